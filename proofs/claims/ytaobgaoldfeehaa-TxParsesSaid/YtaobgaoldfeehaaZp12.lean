import Derived.Test.YtaobgaoldfeehaaZp11
import Derived.Test.YtaobgaoldfeehaaZp2
import Derived.Test.YtaobgaoldfeehaaZp5
/- Layer 9 (tx): lists that are appended to. -/
namespace Go.Proofs.Ytaobgaoldfeehaa
set_option linter.unusedVariables false
set_option linter.unusedSimpArgs false
open Go.RowKit

theorem own_fr {S : Nat → Prop} {w w' : World} {base e size n : Nat} {v : Value} {xs : List Value} (h : w.ownsRow base e size v n xs) (hf : Fr S w w') (hs : ∀ k, v.ownBlock = some k → ¬ S k) : w'.ownsRow base e size v n xs := by
  refine ⟨h.1, ?_⟩
  rcases h.2 with hn | ⟨g, cap, cur, rfl, hb, hg, r⟩
  · exact .inl hn
  · exact .inr ⟨g, cap, cur, rfl, hb, hf.keeps (hs g rfl) hg, r⟩
/-- '[]T{x}', x a whole struct. -/
theorem run_slice1 {P : Program} (w : World) (t e : TypeId) (X : Array Value) (n : Nat) (ie : TypeInfo) (z : Value) (hu : P.underlying t = some (.slice e)) (hie : P.info? e = some ie) (hz : ie.zero = some z) (hs : ie.size = n) (h0 : 0 < n) (h1 : n ≤ 1000) (hX : X.size = n) :
    (Instr.buildSlice t 1 #[(0, .agg X)]).run P w = .ok (.slice (some ⟨w.heap.size, 0, none⟩) 1 1) (w.alloc (.cells X e)) := by
  subst hs
  refine run_buildSlice w t e 1 _ X ie z hu hie hz (by rw [Nat.one_mul]; have : 2 ^ 24 = 16777216 := rfl; omega) (by omega) ?_
  have := Great.fill_whole h0 [.agg X] ((Array.range (1 * ie.size)).map (z.cells[· % z.cells.size]!)) (fun v hv => by rw [List.mem_singleton] at hv; subst hv; exact hX) (by simp)
  simpa [Value.cells] using this
theorem one_of {l : List Value} (h : rowOne l.toArray) : ∀ u ∈ l, u.oneCell' = true := by
  unfold rowOne at h
  rw [Array.all_eq_true_iff_forall_mem] at h
  intro u hu
  exact h u (by simpa using hu)

theorem Try.infoIns : (Try.prog.info? 68).map (fun i => (i.zero, i.size, i.bytes)) = some (some (.agg (rowI zero32 (.int .u32 0) (.slice none 0 0) (.int .u32 0))), 35, 72) := by kernel_rfl
def buildIns (parts : Array (Nat × Value)) : Sem Value := Instr.buildSlice 25 1 parts
@[go_sem ↓ high] theorem build_Ins (p : Array (Nat × Value)) : Instr.buildSlice 25 1 p = buildIns p := rfl
theorem run_buildIns (w : World) (X : Array Value) (h : X.size = 35) : (buildIns #[(0, .agg X)]).run Try.prog w = .ok (.slice (some ⟨w.heap.size, 0, none⟩) 1 1) (w.alloc (.cells X 68)) := by
  obtain ⟨i0, hi, hz, hs, _⟩ := info_parts Try.infoIns
  exact run_slice1 w 25 68 X 35 i0 _ Try.underlying25 hi hz hs (by omega) (by omega) h
def appIns (ty : TypeId) (args : Array Value) : Sem Value := Builtin.append_ #[25, 25] ty args
@[go_sem ↓ high] theorem app_Ins (ty : TypeId) (args : Array Value) : Builtin.append_ #[25, 25] ty args = appIns ty args := rfl
/-- A list that the call itself has made: its blocks are B or later ones. -/
structure OwnIns (B : Nat) (w : World) (v : Value) (l : List TI) : Prop where
  own : w.ownsRow 0 68 35 v l.length (l.flatMap TI.row)
  blk : ∀ k, v.ownBlock = some k → B ≤ k
  ok : ∀ x ∈ l, x.Ok w
  new : ∀ x ∈ l, x.m.ky ≠ [] → ∀ k, ablk x.a = some k → B ≤ k ∧ v.ownBlock ≠ some k
theorem OwnIns.nil (B : Nat) (w : World) : OwnIns B w (.slice none 0 0) [] := ⟨World.ownsRow_nil _ _ _ _, fun k h => (by cases h), fun x h => (by cases h), fun x h => (by cases h)⟩
theorem OwnIns.fr {B : Nat} {S : Nat → Prop} {w w' : World} {v : Value} {l : List TI} (h : OwnIns B w v l) (f : Fr S w w') (hs : ∀ k, S k → k < B) : OwnIns B w' v l :=
  ⟨own_fr h.own f fun k hk e => by have h1 := h.blk k hk; have h2 := hs k e; omega, h.blk, fun x hx => ⟨(h.ok x hx).m, (h.ok x hx).b.frx f fun hn k hk e => by have h1 := (h.new x hx hn k hk).1; have h2 := hs k e; omega⟩, h.new⟩
theorem OwnIns.frS {B : Nat} {S : Nat → Prop} {w w' : World} {v : Value} {l : List TI} (h : OwnIns B w v l) (f : Fr S w w') (h1 : ∀ k, v.ownBlock = some k → ¬ S k) (h2 : ∀ x ∈ l, x.m.ky ≠ [] → ∀ k, ablk x.a = some k → ¬ S k) : OwnIns B w' v l :=
  ⟨own_fr h.own f h1, h.blk, fun x hx => ⟨(h.ok x hx).m, (h.ok x hx).b.frx f (h2 x hx)⟩, h.new⟩
theorem OwnIns.lt {B : Nat} {w : World} {v : Value} {l : List TI} (h : OwnIns B w v l) : ∀ k, v.ownBlock = some k → k < w.heap.size := fun k hk => (World.ownsRow.lt h.own k hk).2
/-- The slice of it, as what is read. -/
theorem OwnIns.is {B : Nat} {w : World} {v : Value} {l : List TI} (h : OwnIns B w v l) : ∃ a c, v = .slice a l.length c ∧ TIs w a c l := by
  obtain ⟨a, c, rfl⟩ := own_slice h.own
  exact ⟨a, c, rfl, (Sl.of_own h.own).2, h.ok⟩
/-- One more. -/
theorem OwnIns.app {B : Nat} {w : World} {v : Value} {l : List TI} (h : OwnIns B w v l) (x : TI) (hx : x.Ok w) (hn : x.m.ky ≠ [] → ∀ k, ablk x.a = some k → B ≤ k ∧ v.ownBlock ≠ some k) (hB : B ≤ w.heap.size) (hl : l.length ≤ 100000) (ty : TypeId) :
    ∃ a c w', (appIns ty #[v, .slice (some ⟨w.heap.size, 0, none⟩) 1 1]).run Try.prog (w.alloc (.cells x.row.toArray 68)) = .ok (.slice a (l.length + 1) c) w' ∧ OwnIns B w' (.slice a (l.length + 1) c) (l ++ [x]) ∧
      Fr (fun k => v.ownBlock = some k) w w' ∧ w.heap.size < w'.heap.size ∧ ∀ k, ablk a = some k → v.ownBlock = some k ∨ w.heap.size ≤ k := by
  obtain ⟨i0, hi, hz, hs, hb⟩ := info_parts Try.infoIns
  have hr : x.row.length = 35 := TI.row_length hx.m
  obtain ⟨W, hW⟩ : ∃ W, W = w.alloc (.cells x.row.toArray 68) := ⟨_, rfl⟩
  have hnew := heap_alloc_new w (.cells x.row.toArray 68)
  have fW : Fr F0 w W := by rw [hW]; exact (Fr.refl F0 w).alloc _
  have sW : W.heap.size = w.heap.size + 1 := by rw [hW]; simp
  rw [← hW] at hnew ⊢
  have hsl : Sl W 35 (some ⟨w.heap.size, 0, none⟩) 1 1 x.row := ⟨by rw [hr, Nat.one_mul], Nat.le_refl _, by unfold maxLen; omega, (fun e => by cases e), fun j u hj => ⟨_, _, rfl, by rw [cell_at, hnew, cellAt_cells, Nat.zero_add]; simpa using hj⟩⟩
  obtain ⟨v', w', hrun, hown, hg, hnw⟩ := run_app (P := Try.prog) (w := W) 25 ty 68 i0 _ 35 72 Try.underlying25 hi hz hs hb rfl (by omega) v l.length _ (own_fr h.own fW fun _ _ f => f) (some ⟨w.heap.size, 0, none⟩) 1 1 x.row hsl
    (by exact one_of (TI.cellsOf hx.m).one) (by unfold maxLen; omega) (by omega)
  obtain ⟨a, c, rfl⟩ := own_slice hown
  have F : Fr (fun k => v.ownBlock = some k) w w' := (fW.of0).grown hg fun k hk hl => hk
  have hnw' : ∀ k, ablk a = some k → v.ownBlock = some k ∨ w.heap.size ≤ k := fun k hk => by
    rcases hnw k (by rw [ablk_own]; exact hk) with e | e
    · exact .inl e
    · exact .inr (by omega)
  refine ⟨a, c, w', hrun, ⟨?_, fun k hk => ?_, fun y hy => ?_, fun y hy hne k hk => ?_⟩, F, by have := hg.size; omega, hnw'⟩
  · rw [List.length_append, List.flatMap_append]
    simpa using hown
  · rw [ablk_own] at hk
    rcases hnw' k hk with e | e
    · exact h.blk k e
    · omega
  · rw [List.mem_append, List.mem_singleton] at hy
    rcases hy with hy | rfl
    · exact ⟨(h.ok y hy).m, (h.ok y hy).b.frx F fun hne k hk e => (h.new y hy hne k hk).2 e⟩
    · exact ⟨hx.m, hx.b.frx F fun hne k hk e => (hn hne k hk).2 e⟩
  · rw [List.mem_append, List.mem_singleton] at hy
    have hlow : k < w.heap.size := by
      rcases hy with hy | rfl
      · exact (h.ok y hy).b.low hne k hk
      · exact hx.b.low hne k hk
    have hold : B ≤ k ∧ v.ownBlock ≠ some k := by
      rcases hy with hy | rfl
      · exact h.new y hy hne k hk
      · exact hn hne k hk
    refine ⟨hold.1, fun e => ?_⟩
    rw [ablk_own] at e
    rcases hnw' k e with e' | e'
    · exact hold.2 e'
    · omega

theorem Try.infoOuts : (Try.prog.info? 55).map (fun i => (i.zero, i.size, i.bytes)) = some (some (.agg #[.int .u64 0, .slice none 0 0]), 2, 32) := by kernel_rfl
def buildOuts (parts : Array (Nat × Value)) : Sem Value := Instr.buildSlice 26 1 parts
@[go_sem ↓ high] theorem build_Outs (p : Array (Nat × Value)) : Instr.buildSlice 26 1 p = buildOuts p := rfl
theorem run_buildOuts (w : World) (X : Array Value) (h : X.size = 2) : (buildOuts #[(0, .agg X)]).run Try.prog w = .ok (.slice (some ⟨w.heap.size, 0, none⟩) 1 1) (w.alloc (.cells X 55)) := by
  obtain ⟨i0, hi, hz, hs, _⟩ := info_parts Try.infoOuts
  exact run_slice1 w 26 55 X 2 i0 _ Try.underlying26 hi hz hs (by omega) (by omega) h
def appOuts (ty : TypeId) (args : Array Value) : Sem Value := Builtin.append_ #[26, 26] ty args
@[go_sem ↓ high] theorem app_Outs (ty : TypeId) (args : Array Value) : Builtin.append_ #[26, 26] ty args = appOuts ty args := rfl
/-- A list that the call itself has made: its blocks are B or later ones. -/
structure OwnOuts (B : Nat) (w : World) (v : Value) (l : List TO) : Prop where
  own : w.ownsRow 0 55 2 v l.length (l.flatMap TO.row)
  blk : ∀ k, v.ownBlock = some k → B ≤ k
  ok : ∀ x ∈ l, x.Ok w
  new : ∀ x ∈ l, x.m.lk ≠ [] → ∀ k, ablk x.a = some k → B ≤ k ∧ v.ownBlock ≠ some k
theorem OwnOuts.nil (B : Nat) (w : World) : OwnOuts B w (.slice none 0 0) [] := ⟨World.ownsRow_nil _ _ _ _, fun k h => (by cases h), fun x h => (by cases h), fun x h => (by cases h)⟩
theorem OwnOuts.fr {B : Nat} {S : Nat → Prop} {w w' : World} {v : Value} {l : List TO} (h : OwnOuts B w v l) (f : Fr S w w') (hs : ∀ k, S k → k < B) : OwnOuts B w' v l :=
  ⟨own_fr h.own f fun k hk e => by have h1 := h.blk k hk; have h2 := hs k e; omega, h.blk, fun x hx => ⟨(h.ok x hx).m, (h.ok x hx).b.frx f fun hn k hk e => by have h1 := (h.new x hx hn k hk).1; have h2 := hs k e; omega⟩, h.new⟩
theorem OwnOuts.frS {B : Nat} {S : Nat → Prop} {w w' : World} {v : Value} {l : List TO} (h : OwnOuts B w v l) (f : Fr S w w') (h1 : ∀ k, v.ownBlock = some k → ¬ S k) (h2 : ∀ x ∈ l, x.m.lk ≠ [] → ∀ k, ablk x.a = some k → ¬ S k) : OwnOuts B w' v l :=
  ⟨own_fr h.own f h1, h.blk, fun x hx => ⟨(h.ok x hx).m, (h.ok x hx).b.frx f (h2 x hx)⟩, h.new⟩
theorem OwnOuts.lt {B : Nat} {w : World} {v : Value} {l : List TO} (h : OwnOuts B w v l) : ∀ k, v.ownBlock = some k → k < w.heap.size := fun k hk => (World.ownsRow.lt h.own k hk).2
/-- The slice of it, as what is read. -/
theorem OwnOuts.is {B : Nat} {w : World} {v : Value} {l : List TO} (h : OwnOuts B w v l) : ∃ a c, v = .slice a l.length c ∧ TOs w a c l := by
  obtain ⟨a, c, rfl⟩ := own_slice h.own
  exact ⟨a, c, rfl, (Sl.of_own h.own).2, h.ok⟩
/-- One more. -/
theorem OwnOuts.app {B : Nat} {w : World} {v : Value} {l : List TO} (h : OwnOuts B w v l) (x : TO) (hx : x.Ok w) (hn : x.m.lk ≠ [] → ∀ k, ablk x.a = some k → B ≤ k ∧ v.ownBlock ≠ some k) (hB : B ≤ w.heap.size) (hl : l.length ≤ 100000) (ty : TypeId) :
    ∃ a c w', (appOuts ty #[v, .slice (some ⟨w.heap.size, 0, none⟩) 1 1]).run Try.prog (w.alloc (.cells x.row.toArray 55)) = .ok (.slice a (l.length + 1) c) w' ∧ OwnOuts B w' (.slice a (l.length + 1) c) (l ++ [x]) ∧
      Fr (fun k => v.ownBlock = some k) w w' ∧ w.heap.size < w'.heap.size ∧ ∀ k, ablk a = some k → v.ownBlock = some k ∨ w.heap.size ≤ k := by
  obtain ⟨i0, hi, hz, hs, hb⟩ := info_parts Try.infoOuts
  have hr : x.row.length = 2 := TO.row_length x
  obtain ⟨W, hW⟩ : ∃ W, W = w.alloc (.cells x.row.toArray 55) := ⟨_, rfl⟩
  have hnew := heap_alloc_new w (.cells x.row.toArray 55)
  have fW : Fr F0 w W := by rw [hW]; exact (Fr.refl F0 w).alloc _
  have sW : W.heap.size = w.heap.size + 1 := by rw [hW]; simp
  rw [← hW] at hnew ⊢
  have hsl : Sl W 2 (some ⟨w.heap.size, 0, none⟩) 1 1 x.row := ⟨by rw [hr, Nat.one_mul], Nat.le_refl _, by unfold maxLen; omega, (fun e => by cases e), fun j u hj => ⟨_, _, rfl, by rw [cell_at, hnew, cellAt_cells, Nat.zero_add]; simpa using hj⟩⟩
  obtain ⟨v', w', hrun, hown, hg, hnw⟩ := run_app (P := Try.prog) (w := W) 26 ty 55 i0 _ 2 32 Try.underlying26 hi hz hs hb rfl (by omega) v l.length _ (own_fr h.own fW fun _ _ f => f) (some ⟨w.heap.size, 0, none⟩) 1 1 x.row hsl
    (by exact one_of (TO.one x)) (by unfold maxLen; omega) (by omega)
  obtain ⟨a, c, rfl⟩ := own_slice hown
  have F : Fr (fun k => v.ownBlock = some k) w w' := (fW.of0).grown hg fun k hk hl => hk
  have hnw' : ∀ k, ablk a = some k → v.ownBlock = some k ∨ w.heap.size ≤ k := fun k hk => by
    rcases hnw k (by rw [ablk_own]; exact hk) with e | e
    · exact .inl e
    · exact .inr (by omega)
  refine ⟨a, c, w', hrun, ⟨?_, fun k hk => ?_, fun y hy => ?_, fun y hy hne k hk => ?_⟩, F, by have := hg.size; omega, hnw'⟩
  · rw [List.length_append, List.flatMap_append]
    simpa using hown
  · rw [ablk_own] at hk
    rcases hnw' k hk with e | e
    · exact h.blk k e
    · omega
  · rw [List.mem_append, List.mem_singleton] at hy
    rcases hy with hy | rfl
    · exact ⟨(h.ok y hy).m, (h.ok y hy).b.frx F fun hne k hk e => (h.new y hy hne k hk).2 e⟩
    · exact ⟨hx.m, hx.b.frx F fun hne k hk e => (hn hne k hk).2 e⟩
  · rw [List.mem_append, List.mem_singleton] at hy
    have hlow : k < w.heap.size := by
      rcases hy with hy | rfl
      · exact (h.ok y hy).b.low hne k hk
      · exact hx.b.low hne k hk
    have hold : B ≤ k ∧ v.ownBlock ≠ some k := by
      rcases hy with hy | rfl
      · exact h.new y hy hne k hk
      · exact hn hne k hk
    refine ⟨hold.1, fun e => ?_⟩
    rw [ablk_own] at e
    rcases hnw' k e with e' | e'
    · exact hold.2 e'
    · omega
end Go.Proofs.Ytaobgaoldfeehaa

/- Layer 9 (tx): read and Parse. -/
namespace Go.Proofs.Ytaobgaoldfeehaa
set_option linter.unusedVariables false
set_option linter.unusedSimpArgs false
open Go.RowKit

theorem Try.szTx : (Try.prog.info? 28).map (·.size) = some 4 := by kernel_rfl
theorem rMany_succ {α : Type} (f : Option (List UInt8) → α × Option (List UInt8)) (n : Nat) (st : Option (List UInt8)) : rMany f (n + 1) st = ((rMany f n st).1 ++ [(f (rMany f n st).2).1], (f (rMany f n st).2).2) := rfl

theorem RI.count64 {B b : Nat} {st : Option (List UInt8)} {w : World} (h : RI B b st w) (hl : lft st ≤ 1000000) :
    Calls Try.prog 51 #[.pointer (some ⟨b, 0, none⟩), .int .u64 64] w fun e w' => e = .returned (.int .u64 (rc 64 st).1) ∧ RI B b (rc 64 st).2 w' ∧ Fr (fun k => k = b) w w' := h.count 64 (by omega) hl
theorem OwnIns.mono {B B' : Nat} {w : World} {v : Value} {l : List TI} (h : OwnIns B w v l) (hb : B' ≤ B) : OwnIns B' w v l := ⟨h.own, fun k hk => Nat.le_trans hb (h.blk k hk), h.ok, fun x hx hn k hk => ⟨Nat.le_trans hb (h.new x hx hn k hk).1, (h.new x hx hn k hk).2⟩⟩
theorem OwnOuts.mono {B B' : Nat} {w : World} {v : Value} {l : List TO} (h : OwnOuts B w v l) (hb : B' ≤ B) : OwnOuts B' w v l := ⟨h.own, fun k hk => Nat.le_trans hb (h.blk k hk), h.ok, fun x hx hn k hk => ⟨Nat.le_trans hb (h.new x hx hn k hk).1, (h.new x hx hn k hk).2⟩⟩

set_option maxRecDepth 100000 in
set_option maxHeartbeats 16000000 in
theorem tRead_any (b : Nat) (st : Option (List UInt8)) (w : World) (h : RI w.heap.size b st w) (hl : lft st ≤ 1000000) :
    Calls Try.prog 24 #[.pointer (some ⟨b, 0, none⟩)] w fun e w' => ∃ (t : TT) (vi vo : Value), e = .returned (.agg t.cells) ∧ t.m = (rTx st).1 ∧ t.vr < 4294967296 ∧ t.lt < 4294967296 ∧ vi = .slice t.ia t.ins.length t.ic ∧ vo = .slice t.oa t.outs.length t.oc ∧
      OwnIns w.heap.size w' vi t.ins ∧ OwnOuts w.heap.size w' vo t.outs ∧ RI w.heap.size b (rTx st).2 w' ∧ Fr (fun k => k = b) w w' := by
  obtain ⟨B, hB⟩ : ∃ B, B = w.heap.size := ⟨_, rfl⟩
  rw [← hB] at h ⊢
  have hbB := h.lt
  obtain ⟨v0, hv0⟩ : ∃ v, v = (rW st).1 := ⟨_, rfl⟩
  obtain ⟨s0, hs0⟩ : ∃ s, s = (rW st).2 := ⟨_, rfl⟩
  obtain ⟨n, hn⟩ : ∃ n, n = (rc 64 s0).1 := ⟨_, rfl⟩
  obtain ⟨s1, hs1⟩ : ∃ s, s = (rc 64 s0).2 := ⟨_, rfl⟩
  obtain ⟨s2, hs2⟩ : ∃ s, s = (rMany rIn n s1).2 := ⟨_, rfl⟩
  obtain ⟨m, hm⟩ : ∃ n, n = (rc 64 s2).1 := ⟨_, rfl⟩
  obtain ⟨s3, hs3⟩ : ∃ s, s = (rc 64 s2).2 := ⟨_, rfl⟩
  obtain ⟨s4, hs4⟩ : ∃ s, s = (rMany rOut m s3).2 := ⟨_, rfl⟩
  have eT : rTx st = (⟨v0, (rMany rIn n s1).1, (rMany rOut m s3).1, (rW s4).1⟩, (rW s4).2) := by rw [rTx, hv0, hs4, hm, hs3, hs2, hn, hs1, hs0]
  have k0 : lft s0 ≤ lft st := by rw [hs0]; exact rW_lft st
  have k1 : lft s1 ≤ lft s0 := by rw [hs1]; exact rc_lft 64 s0
  have k2 : ∀ k, lft (rMany rIn k s1).2 ≤ lft s1 := fun k => rMany_lft rIn rIn_lft k s1
  have k2' : lft s2 ≤ lft s1 := by rw [hs2]; exact k2 n
  have k3 : lft s3 ≤ lft s2 := by rw [hs3]; exact rc_lft 64 s2
  have k4 : ∀ k, lft (rMany rOut k s3).2 ≤ lft s3 := fun k => rMany_lft rOut rOut_lft k s3
  have k4' : lft s4 ≤ lft s3 := by rw [hs4]; exact k4 m
  have n64 : n ≤ 64 := by rw [hn]; exact rc_le 64 s0
  have m64 : m ≤ 64 := by rw [hm]; exact rc_le 64 s2
  have x0 := tk4_lt st
  replace x0 : (rW st).1 < 4294967296 := x0
  have x4 := tk4_lt s4
  replace x4 : (rW s4).1 < 4294967296 := x4
  have H0 := Lib.hid (fun W (r : RI B b st W) => tWord_any B b _ W r hl)
  have H1 := Lib.hid (fun W (r : RI B b s0 W) => r.count64 (by omega))
  have H2 := Lib.hid (fun k W (r : RI B b (rMany rIn k s1).2 W) (hs : B ≤ W.heap.size) => tReadIn_any B b _ W r hs (by have := k2 k; omega))
  have H3 := Lib.hid (fun W (r : RI B b s2 W) => r.count64 (by omega))
  have H4 := Lib.hid (fun k W (r : RI B b (rMany rOut k s3).2 W) (hs : B ≤ W.heap.size) => tReadOut_any B b _ W r hs (by have := k4 k; omega))
  have H5 := Lib.hid (fun W (r : RI B b s4 W) => tWord_any B b _ W r (by omega))
  rw [← hv0] at x0 H0
  rw [← hs0] at H0
  rw [← hn, ← hs1] at H1
  rw [← hm, ← hs3] at H3
  obtain ⟨v5, hv5⟩ : ∃ v, v = (rW s4).1 := ⟨_, rfl⟩
  obtain ⟨s5, hs5⟩ : ∃ s, s = (rW s4).2 := ⟨_, rfl⟩
  rw [← hv5, ← hs5] at H5 eT
  rw [← hv5] at x4
  rw [eT]
  replace hs2 := Lib.hid hs2
  replace hs4 := Lib.hid hs4
  clear eT hv0 hs0 hn hs1 hm hs3 hv5 hs5 k0 k1 k2 k2' k3 k4 k4'
  go_enter Try.func24, Try.ntmps24
  go_upto_region 1 with fail
  refine wp_new fun W1 N1 => ?_
  have r2 := N1.new
  have F := N1.fr
  have R1 := h.fr0 F
  obtain ⟨g2, hg2⟩ : ∃ g, g = w.heap.size := ⟨_, rfl⟩
  rw [← hg2] at r2 ⊢
  have nb2 : g2 ≠ b := by omega
  replace hg2 := Lib.hid (show B ≤ g2 by omega)
  clear N1 h
  go_wp2_with fail
  (with_reducible refine (H0.out _ R1).mono ?_); rintro e w3 ⟨rfl, R3, f3⟩
  replace r2 := f3.keeps (fun e => nb2 e) r2
  have F3 : Fr (fun k => k = b) w w3 := F.of0.trans' f3
  have hbld : ∀ w, (Instr.build 28 #[(0, .int .u32 (v0 : Int))]).run Try.prog w = .ok (.agg #[.int .u32 (v0 : Int), .slice none 0 0, .slice none 0 0, .int .u32 0]) w := fun w => run_build w _ _ _ (by kernel_rfl)
  clear F f3 R1 H0
  clear hbld
  go_upto_region 2 with fail
  refine wp_new fun W4 N4 => ?_
  have r3 := N4.new
  have r2w := r2
  replace r2 := N4.old r2
  obtain ⟨g3, hg3⟩ : ∃ g, g = w3.heap.size := ⟨_, rfl⟩
  rw [← hg3] at r3 ⊢
  have R4 := R3.fr0 N4.fr
  have hs3 : B ≤ g3 := by rw [hg3, hB]; exact F3.size
  have F4 : Fr (fun k => k = b) w W4 := F3.trans N4.fr (fun i hi e => e.elim)
  have nb3 : g3 ≠ b := by omega
  have ne : g2 ≠ g3 := by rw [hg3]; exact N4.ne r2w
  obtain ⟨B4, hB4⟩ : ∃ x, x = W4.heap.size := ⟨_, rfl⟩
  have hlt3 : g3 < B4 := by rw [hB4]; exact (Array.getElem?_eq_some_iff.1 r3).1
  have hlt2 : g2 < B4 := by rw [hB4]; exact (Array.getElem?_eq_some_iff.1 r2).1
  replace hs3 := Lib.hid (show B ≤ g3 ∧ B ≤ g2 ∧ g3 < B4 ∧ g2 < B4 ∧ B4 ≤ W4.heap.size ∧ B ≤ B4 from ⟨hs3, hg2.out, hlt3, hlt2, Nat.le_of_eq hB4, by omega⟩)
  clear N4 hg3 F3 R3 hlt3 hlt2 hB4
  go_wp2_with fail
  (with_reducible refine (H1.out _ R4).mono ?_); rintro e w5 ⟨rfl, R5, f5⟩
  replace r2 := f5.keeps (fun e => nb2 e) r2
  replace r3 := f5.keeps (fun e => nb3 e) r3
  replace F4 := F4.trans' f5
  have hs5 := Lib.hid f5.size
  clear f5 R4 H1
  go_wp2_with fail
  go_loopw [9] (fun iv wr => ∃ (k : Nat) (l : List TI) (vi : Value), k ≤ n ∧ iv = .int .u64 (k : Int) ∧ Hid (l.map TI.m = (rMany rIn k s1).1) ∧ wr.heap[g3]? = some (.cells #[.int .u32 (v0 : Int), vi, .slice none 0 0, .int .u32 0] 28 (0, 0)) ∧
    wr.heap[g2]? = some (.cells #[.int .u32 0, .slice none 0 0, .slice none 0 0, .int .u32 0] 28 (0, 0)) ∧ Hid (OwnIns B4 wr vi l) ∧ RI B b (rMany rIn k s1).2 wr ∧ Fr (fun k => k = b) w wr ∧ Hid (W4.heap.size ≤ wr.heap.size)) (fun iv _ => n - (intOf iv).toNat)
  case atStart => exact ⟨0, [], _, Nat.zero_le _, rfl, rfl, r3, r2, OwnIns.nil _ _, R5, F4, hs5.out⟩
  case round =>
    obtain ⟨k, l, vi, hk, rfl, hl0, q3, q2, HO, hR, hF, hz⟩ := hrel
    clear r3 r2 R5 F4
    by_cases hkn : k < n
    · have l1 : (k : Int) < (n : Int) := by omega
      have hlen : l.length = k := by have := congrArg List.length hl0.out; simpa [rMany_len] using this
      have q3d := keep_drew q3
      have hRd := hR.fr0 (Fr.refl F0 _).drew
      have hOd := Lib.hid (HO.out.frS ((Fr.refl F0 _).drew) (fun _ _ f => f) (fun _ _ _ _ _ f => f))
      have hszd := Lib.hid (show B4 ≤ wr.drew.heap.size ∧ B ≤ wr.drew.heap.size from ⟨Nat.le_trans hs3.out.2.2.2.2.1 hz.out, Nat.le_trans hs3.out.2.2.2.2.2 (Nat.le_trans hs3.out.2.2.2.2.1 hz.out)⟩)
      have HC := Lib.hid (H2.out k _ hRd hszd.out.2)
      have hFd : Fr (fun k => k = b) w wr.drew := hF.drew
      clear hRd HO hF hR
      go_upto_region 4 with fail
      refine wp_region_noPanic ?_
      refine wp_region_held_drew (S := (fun w' => True)) (by kernel_rfl) ?_ (fun hHeld => ?_)
      · ((try dsimp only) <;> (trivial))
      refine rtake 0 ?_
      refine rtake 2 ?_
      refine wpAnyH_ready (rs := [1, 3]) (by kernel_rfl) (by simp) ?_
      refine AllReadyH.cons (o := ⟨_, _, _, _, _, _⟩) rfl (fun K hK => ?_) (AllReadyH.cons (o := ⟨_, _, _, _, _, _⟩) rfl (fun K hK => ?_) AllReadyH.nil)
      go_simp
      refine hK.out _ _ ?_ (fun hHeld => ?_)
      · ((try dsimp only) <;> (trivial))
      clear hK K
      try (simp only [Act.put, List.setIfInBounds_toArray]; dsimp only [List.set_cons_zero, List.set_cons_succ])
      refine wpAnyH_ready (rs := [3]) (by kernel_rfl) (by simp) ?_
      refine AllReadyH.cons (o := ⟨_, _, _, _, _, _⟩) rfl (fun K hK => ?_) AllReadyH.nil
      go_simp
      ((with_reducible refine HC.out.mono ?_); rintro e w6 ⟨x, rfl, hx, hm6, R6, f6, n6⟩; have q36 := f6.keeps (fun e => nb3 e) q3d; have O6 := Lib.hid (hOd.out.fr f6 (fun k e => by have := hs3.out; omega)); have q36a : (w6.alloc (.cells x.row.toArray 68)).heap[g3]? = _ := keep_alloc q36; have hbld := run_buildIns w6 x.row.toArray (TI.row_length hx.m); have hxn : x.m.ky ≠ [] → ∀ k, ablk x.a = some k → B4 ≤ k ∧ vi.ownBlock ≠ some k := (fun _ k hk => by have h1 := n6 k hk; have h2 := hszd.out; exact ⟨by omega, fun e => by have := hOd.out.lt k e; omega⟩); have happ := fun ty => O6.out.app x hx hxn (by have := hszd.out; have := f6.size; omega) (by omega) ty; obtain ⟨a7, c7, w7, happ, O7, f7, s7, n7⟩ := happ 25; have q37 := f7.keeps (fun e => by have h1 := O6.out.blk g3 e; have h2 := hs3.out; omega) q36)
      refine hK.out _ _ ?_ (fun hHeld => ?_)
      · ((try dsimp only) <;> (trivial))
      clear hK K
      try (simp only [Act.put, List.setIfInBounds_toArray]; dsimp only [List.set_cons_zero, List.set_cons_succ])
      refine wpAnyH_ready (rs := [4]) (by kernel_rfl) (by simp) ?_
      refine AllReadyH.cons (o := ⟨_, _, _, _, _, _⟩) rfl (fun K hK => ?_) AllReadyH.nil
      go_simp
      refine hK.out _ _ ?_ (fun hHeld => ?_)
      · ((try dsimp only) <;> (trivial))
      clear hK K
      try (simp only [Act.put, List.setIfInBounds_toArray]; dsimp only [List.set_cons_zero, List.set_cons_succ])
      refine wpAnyH_ready (rs := [5]) (by kernel_rfl) (by simp) ?_
      refine AllReadyH.cons (o := ⟨_, _, _, _, _, _⟩) rfl (fun K hK => ?_) AllReadyH.nil
      go_simp
      refine hK.out _ _ ?_ (fun hHeld => ?_)
      · ((try dsimp only) <;> (trivial))
      clear hK K
      try (simp only [Act.put, List.setIfInBounds_toArray]; dsimp only [List.set_cons_zero, List.set_cons_succ])
      refine rtake 6 ?_
      refine wpAnyH_ready (rs := [7]) (by kernel_rfl) (by simp) ?_
      refine AllReadyH.cons (o := ⟨_, _, _, _, _, _⟩) rfl (fun K hK => ?_) AllReadyH.nil
      go_simp
      refine hK.out _ _ ?_ (fun hHeld => ?_)
      · ((try dsimp only) <;> (trivial))
      clear hK K
      try (simp only [Act.put, List.setIfInBounds_toArray]; dsimp only [List.set_cons_zero, List.set_cons_succ])
      refine wpAnyH_done (by kernel_rfl) ?_ _
      refine NoPanic.normal ?_
      rotate_left
      go_simp
      ((with_reducible refine HC.out.mono ?_); rintro e w6 ⟨x, rfl, hx, hm6, R6, f6, n6⟩; have q36 := f6.keeps (fun e => nb3 e) q3d; have O6 := Lib.hid (hOd.out.fr f6 (fun k e => by have := hs3.out; omega)); have q36a : (w6.alloc (.cells x.row.toArray 68)).heap[g3]? = _ := keep_alloc q36; have hbld := run_buildIns w6 x.row.toArray (TI.row_length hx.m); have hxn : x.m.ky ≠ [] → ∀ k, ablk x.a = some k → B4 ≤ k ∧ vi.ownBlock ≠ some k := (fun _ k hk => by have h1 := n6 k hk; have h2 := hszd.out; exact ⟨by omega, fun e => by have := hOd.out.lt k e; omega⟩); have happ := fun ty => O6.out.app x hx hxn (by have := hszd.out; have := f6.size; omega) (by omega) ty; obtain ⟨a7, c7, w7, happ, O7, f7, s7, n7⟩ := happ 25; have q37 := f7.keeps (fun e => by have h1 := O6.out.blk g3 e; have h2 := hs3.out; omega) q36)
      refine hK.out _ _ ?_ (fun hHeld => ?_)
      · ((try dsimp only) <;> (trivial))
      clear hK K
      try (simp only [Act.put, List.setIfInBounds_toArray]; dsimp only [List.set_cons_zero, List.set_cons_succ])
      refine wpAnyH_ready (rs := [1, 4]) (by kernel_rfl) (by simp) ?_
      refine AllReadyH.cons (o := ⟨_, _, _, _, _, _⟩) rfl (fun K hK => ?_) (AllReadyH.cons (o := ⟨_, _, _, _, _, _⟩) rfl (fun K hK => ?_) AllReadyH.nil)
      go_simp
      refine hK.out _ _ ?_ (fun hHeld => ?_)
      · ((try dsimp only) <;> (trivial))
      clear hK K
      try (simp only [Act.put, List.setIfInBounds_toArray]; dsimp only [List.set_cons_zero, List.set_cons_succ])
      refine wpAnyH_ready (rs := [4]) (by kernel_rfl) (by simp) ?_
      refine AllReadyH.cons (o := ⟨_, _, _, _, _, _⟩) rfl (fun K hK => ?_) AllReadyH.nil
      go_simp
      refine hK.out _ _ ?_ (fun hHeld => ?_)
      · ((try dsimp only) <;> (trivial))
      clear hK K
      try (simp only [Act.put, List.setIfInBounds_toArray]; dsimp only [List.set_cons_zero, List.set_cons_succ])
      refine wpAnyH_ready (rs := [5]) (by kernel_rfl) (by simp) ?_
      refine AllReadyH.cons (o := ⟨_, _, _, _, _, _⟩) rfl (fun K hK => ?_) AllReadyH.nil
      go_simp
      refine hK.out _ _ ?_ (fun hHeld => ?_)
      · ((try dsimp only) <;> (trivial))
      clear hK K
      try (simp only [Act.put, List.setIfInBounds_toArray]; dsimp only [List.set_cons_zero, List.set_cons_succ])
      refine rtake 6 ?_
      refine wpAnyH_ready (rs := [7]) (by kernel_rfl) (by simp) ?_
      refine AllReadyH.cons (o := ⟨_, _, _, _, _, _⟩) rfl (fun K hK => ?_) AllReadyH.nil
      go_simp
      refine hK.out _ _ ?_ (fun hHeld => ?_)
      · ((try dsimp only) <;> (trivial))
      clear hK K
      try (simp only [Act.put, List.setIfInBounds_toArray]; dsimp only [List.set_cons_zero, List.set_cons_succ])
      refine wpAnyH_done (by kernel_rfl) ?_ _
      refine NoPanic.normal ?_
      rotate_left
      go_simp
      refine hK.out _ _ ?_ (fun hHeld => ?_)
      · ((try dsimp only) <;> (trivial))
      clear hK K
      try (simp only [Act.put, List.setIfInBounds_toArray]; dsimp only [List.set_cons_zero, List.set_cons_succ])
      refine wpAnyH_ready (rs := [1]) (by kernel_rfl) (by simp) ?_
      refine AllReadyH.cons (o := ⟨_, _, _, _, _, _⟩) rfl (fun K hK => ?_) AllReadyH.nil
      go_simp
      refine hK.out _ _ ?_ (fun hHeld => ?_)
      · ((try dsimp only) <;> (trivial))
      clear hK K
      try (simp only [Act.put, List.setIfInBounds_toArray]; dsimp only [List.set_cons_zero, List.set_cons_succ])
      refine wpAnyH_ready (rs := [5]) (by kernel_rfl) (by simp) ?_
      refine AllReadyH.cons (o := ⟨_, _, _, _, _, _⟩) rfl (fun K hK => ?_) AllReadyH.nil
      go_simp
      refine hK.out _ _ ?_ (fun hHeld => ?_)
      · ((try dsimp only) <;> (trivial))
      clear hK K
      try (simp only [Act.put, List.setIfInBounds_toArray]; dsimp only [List.set_cons_zero, List.set_cons_succ])
      refine rtake 6 ?_
      refine wpAnyH_ready (rs := [7]) (by kernel_rfl) (by simp) ?_
      refine AllReadyH.cons (o := ⟨_, _, _, _, _, _⟩) rfl (fun K hK => ?_) AllReadyH.nil
      go_simp
      refine hK.out _ _ ?_ (fun hHeld => ?_)
      · ((try dsimp only) <;> (trivial))
      clear hK K
      try (simp only [Act.put, List.setIfInBounds_toArray]; dsimp only [List.set_cons_zero, List.set_cons_succ])
      refine wpAnyH_done (by kernel_rfl) ?_ _
      refine NoPanic.normal ?_
      rotate_left
      all_goals
        have q27 := f7.keeps (fun e => by have h1 := O6.out.blk g2 e; have h2 := hs3.out; omega) (f6.keeps (fun e => nb2 e) (keep_drew q2))
        have R7 := R6.fr f7 (fun i e => by have h1 := O6.out.blk i e; have h2 := hs3.out; omega)
        have F7 : Fr (fun k => k = b) w w7 := (hFd.trans' f6).trans f7 (fun i hi e => by have h1 := O6.out.blk i e; have h2 := hs3.out; omega)
        have hz7 := Lib.hid (show W4.heap.size ≤ w7.heap.size by have h1 := f6.size; have h2 : wr.drew.heap.size = wr.heap.size := rfl; have h3 := hz.out; omega)
        have hE : (l ++ [x]).map TI.m = (rMany rIn (k + 1) s1).1 := by rw [List.map_append, hl0.out, rMany_succ]; exact congrArg _ (congrArg (fun y => [y]) hm6)
        rw [hlen] at O7
        have HE := Lib.hid hE
        clear hE q3 q2 q3d q36 q36a R6 happ hbld hxn hx f6 n6 HC hFd n7 s7 f7 hm6
        go_upto_region 5 with fail
        refine wp_cell q37 fun W8 r8 f8 => ?_
        have h3lt := hs3.out
        have r28 := f8.keeps (fun e => ne e) q27
        have R8 := R7.fr f8 (fun i e => by omega)
        have F8 : Fr (fun k => k = b) w W8 := F7.trans f8 (fun i hi e => by omega)
        have O8 := Lib.hid (O7.fr f8 (fun i e => by omega))
        have hz8 := Lib.hid (Nat.le_trans hz7.out f8.size)
        clear f8 q37 q27 R7 F7 O7 hz7 h3lt
        go_wp2_with fail
        go_roundw
        case rel => exact ⟨k + 1, l ++ [x], _, by omega, by go_num, HE.out, r8, r28, O8.out, by rw [rMany_succ]; exact R8, F8, hz8.out⟩
        case measure => simp [intOf]; omega
    · obtain rfl : k = n := by omega
      rw [← hs2.out] at hR
      have hlen : l.length = k := by have := congrArg List.length hl0.out; simpa [rMany_len] using this
      replace hl0 := Lib.hid hl0.out
      clear H2
      go_wp2_with fail
      (with_reducible refine (H3.out _ hR).mono ?_); rintro e w5 ⟨rfl, R5, f5⟩
      have r2 := f5.keeps (fun e => nb2 e) q2
      have r3 := f5.keeps (fun e => nb3 e) q3
      have F5 := hF.trans' f5
      have O5 := HO.out.fr f5 (fun i e => by have := hs3.out; omega)
      obtain ⟨B5, hB5⟩ : ∃ x, x = w5.heap.size := ⟨_, rfl⟩
      have hlo := Lib.hid (show (∀ i, vi.ownBlock = some i → i < B5) ∧ ∀ x ∈ l, x.m.ky ≠ [] → ∀ i, ablk x.a = some i → i < B5 from ⟨by rw [hB5]; exact O5.lt, by rw [hB5]; exact fun x hx hn => (O5.ok x hx).b.low hn⟩)
      replace hs3 := Lib.hid (show B ≤ g3 ∧ B ≤ g2 ∧ g3 < B4 ∧ g2 < B4 ∧ B4 ≤ B5 ∧ B ≤ B5 ∧ b < B by
        have h1 := hs3.out; have h2 := hz.out; have h3 := f5.size; omega)
      replace O5 := Lib.hid O5
      have hz5 := Lib.hid (Nat.le_of_eq hB5)
      clear f5 hR HO hz H3 q2 q3 hF hB5
      go_wp2_with fail
      go_loopw [21] (fun iv wr => ∃ (j : Nat) (l2 : List TO) (vo : Value), j ≤ m ∧ iv = .int .u64 (j : Int) ∧ Hid (l2.map TO.m = (rMany rOut j s3).1) ∧ wr.heap[g3]? = some (.cells #[.int .u32 (v0 : Int), vi, vo, .int .u32 0] 28 (0, 0)) ∧
        wr.heap[g2]? = some (.cells #[.int .u32 0, .slice none 0 0, .slice none 0 0, .int .u32 0] 28 (0, 0)) ∧ Hid (OwnIns B4 wr vi l) ∧ Hid (OwnOuts B5 wr vo l2) ∧ RI B b (rMany rOut j s3).2 wr ∧ Fr (fun k => k = b) w wr ∧ Hid (B5 ≤ wr.heap.size)) (fun iv _ => m - (intOf iv).toNat)
      case atStart => exact ⟨0, [], _, Nat.zero_le _, rfl, rfl, r3, r2, O5.out, OwnOuts.nil _ _, R5, F5, hz5.out⟩
      case round =>
        obtain ⟨j, l2, vo, hj, rfl, hl2, q3, q2, HO, HP, hR, hF, hz⟩ := hrel
        clear r3 r2 R5 F5 O5
        by_cases hjm : j < m
        · have l1 : (j : Int) < (m : Int) := by omega
          have hlen2 : l2.length = j := by have := congrArg List.length hl2.out; simpa [rMany_len] using this
          have q3d := keep_drew q3
          have hRd := hR.fr0 (Fr.refl F0 _).drew
          have hOd := Lib.hid (HO.out.frS ((Fr.refl F0 _).drew) (fun _ _ f => f) (fun _ _ _ _ _ f => f))
          have hPd := Lib.hid (HP.out.frS ((Fr.refl F0 _).drew) (fun _ _ f => f) (fun _ _ _ _ _ f => f))
          have hszd := Lib.hid (show B5 ≤ wr.drew.heap.size ∧ B ≤ wr.drew.heap.size from ⟨hz.out, Nat.le_trans hs3.out.2.2.2.2.2.1 hz.out⟩)
          have HC := Lib.hid (H4.out j _ hRd hszd.out.2)
          have hFd : Fr (fun k => k = b) w wr.drew := hF.drew
          clear hRd HO HP hF hR
          go_upto_region 8 with fail
          refine wp_region_noPanic ?_
          refine wp_region_held_drew (S := (fun w' => True)) (by kernel_rfl) ?_ (fun hHeld => ?_)
          · ((try dsimp only) <;> (trivial))
          refine rtake 0 ?_
          refine rtake 2 ?_
          refine wpAnyH_ready (rs := [1, 3]) (by kernel_rfl) (by simp) ?_
          refine AllReadyH.cons (o := ⟨_, _, _, _, _, _⟩) rfl (fun K hK => ?_) (AllReadyH.cons (o := ⟨_, _, _, _, _, _⟩) rfl (fun K hK => ?_) AllReadyH.nil)
          go_simp
          refine hK.out _ _ ?_ (fun hHeld => ?_)
          · ((try dsimp only) <;> (trivial))
          clear hK K
          try (simp only [Act.put, List.setIfInBounds_toArray]; dsimp only [List.set_cons_zero, List.set_cons_succ])
          refine wpAnyH_ready (rs := [3]) (by kernel_rfl) (by simp) ?_
          refine AllReadyH.cons (o := ⟨_, _, _, _, _, _⟩) rfl (fun K hK => ?_) AllReadyH.nil
          go_simp
          ((with_reducible refine HC.out.mono ?_); rintro e w6 ⟨x, rfl, hx, hm6, R6, f6, n6⟩; have q36 := f6.keeps (fun e => nb3 e) q3d; have q36a : (w6.alloc (.cells x.row.toArray 55)).heap[g3]? = _ := keep_alloc q36; have O6 := Lib.hid (hOd.out.fr f6 (fun k e => by have := hs3.out; omega)); have P6 := Lib.hid (hPd.out.fr f6 (fun k e => by have := hs3.out; omega)); have hbld := run_buildOuts w6 x.row.toArray (TO.row_length x); have hxn : x.m.lk ≠ [] → ∀ k, ablk x.a = some k → B5 ≤ k ∧ vo.ownBlock ≠ some k := (fun _ k hk => by have h1 := n6 k hk; have h2 := hszd.out; exact ⟨by omega, fun e => by have := hPd.out.lt k e; omega⟩); have happ := fun ty => P6.out.app x hx hxn (by have := hszd.out; have := f6.size; omega) (by omega) ty; obtain ⟨a7, c7, w7, happ, P7, f7, s7, n7⟩ := happ 26; have q37 := f7.keeps (fun e => by have h1 := P6.out.blk g3 e; have h2 := hs3.out; omega) q36)
          refine hK.out _ _ ?_ (fun hHeld => ?_)
          · ((try dsimp only) <;> (trivial))
          clear hK K
          try (simp only [Act.put, List.setIfInBounds_toArray]; dsimp only [List.set_cons_zero, List.set_cons_succ])
          refine wpAnyH_ready (rs := [4]) (by kernel_rfl) (by simp) ?_
          refine AllReadyH.cons (o := ⟨_, _, _, _, _, _⟩) rfl (fun K hK => ?_) AllReadyH.nil
          go_simp
          refine hK.out _ _ ?_ (fun hHeld => ?_)
          · ((try dsimp only) <;> (trivial))
          clear hK K
          try (simp only [Act.put, List.setIfInBounds_toArray]; dsimp only [List.set_cons_zero, List.set_cons_succ])
          refine wpAnyH_ready (rs := [5]) (by kernel_rfl) (by simp) ?_
          refine AllReadyH.cons (o := ⟨_, _, _, _, _, _⟩) rfl (fun K hK => ?_) AllReadyH.nil
          go_simp
          refine hK.out _ _ ?_ (fun hHeld => ?_)
          · ((try dsimp only) <;> (trivial))
          clear hK K
          try (simp only [Act.put, List.setIfInBounds_toArray]; dsimp only [List.set_cons_zero, List.set_cons_succ])
          refine rtake 6 ?_
          refine wpAnyH_ready (rs := [7]) (by kernel_rfl) (by simp) ?_
          refine AllReadyH.cons (o := ⟨_, _, _, _, _, _⟩) rfl (fun K hK => ?_) AllReadyH.nil
          go_simp
          refine hK.out _ _ ?_ (fun hHeld => ?_)
          · ((try dsimp only) <;> (trivial))
          clear hK K
          try (simp only [Act.put, List.setIfInBounds_toArray]; dsimp only [List.set_cons_zero, List.set_cons_succ])
          refine wpAnyH_done (by kernel_rfl) ?_ _
          refine NoPanic.normal ?_
          rotate_left
          go_simp
          ((with_reducible refine HC.out.mono ?_); rintro e w6 ⟨x, rfl, hx, hm6, R6, f6, n6⟩; have q36 := f6.keeps (fun e => nb3 e) q3d; have q36a : (w6.alloc (.cells x.row.toArray 55)).heap[g3]? = _ := keep_alloc q36; have O6 := Lib.hid (hOd.out.fr f6 (fun k e => by have := hs3.out; omega)); have P6 := Lib.hid (hPd.out.fr f6 (fun k e => by have := hs3.out; omega)); have hbld := run_buildOuts w6 x.row.toArray (TO.row_length x); have hxn : x.m.lk ≠ [] → ∀ k, ablk x.a = some k → B5 ≤ k ∧ vo.ownBlock ≠ some k := (fun _ k hk => by have h1 := n6 k hk; have h2 := hszd.out; exact ⟨by omega, fun e => by have := hPd.out.lt k e; omega⟩); have happ := fun ty => P6.out.app x hx hxn (by have := hszd.out; have := f6.size; omega) (by omega) ty; obtain ⟨a7, c7, w7, happ, P7, f7, s7, n7⟩ := happ 26; have q37 := f7.keeps (fun e => by have h1 := P6.out.blk g3 e; have h2 := hs3.out; omega) q36)
          refine hK.out _ _ ?_ (fun hHeld => ?_)
          · ((try dsimp only) <;> (trivial))
          clear hK K
          try (simp only [Act.put, List.setIfInBounds_toArray]; dsimp only [List.set_cons_zero, List.set_cons_succ])
          refine wpAnyH_ready (rs := [1, 4]) (by kernel_rfl) (by simp) ?_
          refine AllReadyH.cons (o := ⟨_, _, _, _, _, _⟩) rfl (fun K hK => ?_) (AllReadyH.cons (o := ⟨_, _, _, _, _, _⟩) rfl (fun K hK => ?_) AllReadyH.nil)
          go_simp
          refine hK.out _ _ ?_ (fun hHeld => ?_)
          · ((try dsimp only) <;> (trivial))
          clear hK K
          try (simp only [Act.put, List.setIfInBounds_toArray]; dsimp only [List.set_cons_zero, List.set_cons_succ])
          refine wpAnyH_ready (rs := [4]) (by kernel_rfl) (by simp) ?_
          refine AllReadyH.cons (o := ⟨_, _, _, _, _, _⟩) rfl (fun K hK => ?_) AllReadyH.nil
          go_simp
          refine hK.out _ _ ?_ (fun hHeld => ?_)
          · ((try dsimp only) <;> (trivial))
          clear hK K
          try (simp only [Act.put, List.setIfInBounds_toArray]; dsimp only [List.set_cons_zero, List.set_cons_succ])
          refine wpAnyH_ready (rs := [5]) (by kernel_rfl) (by simp) ?_
          refine AllReadyH.cons (o := ⟨_, _, _, _, _, _⟩) rfl (fun K hK => ?_) AllReadyH.nil
          go_simp
          refine hK.out _ _ ?_ (fun hHeld => ?_)
          · ((try dsimp only) <;> (trivial))
          clear hK K
          try (simp only [Act.put, List.setIfInBounds_toArray]; dsimp only [List.set_cons_zero, List.set_cons_succ])
          refine rtake 6 ?_
          refine wpAnyH_ready (rs := [7]) (by kernel_rfl) (by simp) ?_
          refine AllReadyH.cons (o := ⟨_, _, _, _, _, _⟩) rfl (fun K hK => ?_) AllReadyH.nil
          go_simp
          refine hK.out _ _ ?_ (fun hHeld => ?_)
          · ((try dsimp only) <;> (trivial))
          clear hK K
          try (simp only [Act.put, List.setIfInBounds_toArray]; dsimp only [List.set_cons_zero, List.set_cons_succ])
          refine wpAnyH_done (by kernel_rfl) ?_ _
          refine NoPanic.normal ?_
          rotate_left
          go_simp
          refine hK.out _ _ ?_ (fun hHeld => ?_)
          · ((try dsimp only) <;> (trivial))
          clear hK K
          try (simp only [Act.put, List.setIfInBounds_toArray]; dsimp only [List.set_cons_zero, List.set_cons_succ])
          refine wpAnyH_ready (rs := [1]) (by kernel_rfl) (by simp) ?_
          refine AllReadyH.cons (o := ⟨_, _, _, _, _, _⟩) rfl (fun K hK => ?_) AllReadyH.nil
          go_simp
          refine hK.out _ _ ?_ (fun hHeld => ?_)
          · ((try dsimp only) <;> (trivial))
          clear hK K
          try (simp only [Act.put, List.setIfInBounds_toArray]; dsimp only [List.set_cons_zero, List.set_cons_succ])
          refine wpAnyH_ready (rs := [5]) (by kernel_rfl) (by simp) ?_
          refine AllReadyH.cons (o := ⟨_, _, _, _, _, _⟩) rfl (fun K hK => ?_) AllReadyH.nil
          go_simp
          refine hK.out _ _ ?_ (fun hHeld => ?_)
          · ((try dsimp only) <;> (trivial))
          clear hK K
          try (simp only [Act.put, List.setIfInBounds_toArray]; dsimp only [List.set_cons_zero, List.set_cons_succ])
          refine rtake 6 ?_
          refine wpAnyH_ready (rs := [7]) (by kernel_rfl) (by simp) ?_
          refine AllReadyH.cons (o := ⟨_, _, _, _, _, _⟩) rfl (fun K hK => ?_) AllReadyH.nil
          go_simp
          refine hK.out _ _ ?_ (fun hHeld => ?_)
          · ((try dsimp only) <;> (trivial))
          clear hK K
          try (simp only [Act.put, List.setIfInBounds_toArray]; dsimp only [List.set_cons_zero, List.set_cons_succ])
          refine wpAnyH_done (by kernel_rfl) ?_ _
          refine NoPanic.normal ?_
          rotate_left
          all_goals
            have q27 := f7.keeps (fun e => by have h1 := P6.out.blk g2 e; have h2 := hs3.out; omega) (f6.keeps (fun e => nb2 e) (keep_drew q2))
            have R7 := R6.fr f7 (fun i e => by have h1 := P6.out.blk i e; have h2 := hs3.out; omega)
            have F7 : Fr (fun k => k = b) w w7 := (hFd.trans' f6).trans f7 (fun i hi e => by have h1 := P6.out.blk i e; have h2 := hs3.out; omega)
            have hz7 := Lib.hid (show B5 ≤ w7.heap.size by have h1 := f6.size; have h3 := hszd.out; omega)
            have O7 := O6.out.frS f7 (fun i h1 h2 => by have := hlo.out.1 i h1; have := P6.out.blk i h2; omega) (fun y hy hn i h1 h2 => by have := hlo.out.2 y hy hn i h1; have := P6.out.blk i h2; omega)
            have hE : (l2 ++ [x]).map TO.m = (rMany rOut (j + 1) s3).1 := by rw [List.map_append, hl2.out, rMany_succ]; exact congrArg _ (congrArg (fun y => [y]) hm6)
            rw [hlen2] at P7
            have HE := Lib.hid hE
            clear hE q3 q2 q3d q36 q36a R6 happ hbld hxn hx f6 n6 HC hFd n7 s7 f7 hm6
            go_upto_region 9 with fail
            refine wp_cell q37 fun W8 r8 f8 => ?_
            have h3lt := hs3.out
            have r28 := f8.keeps (fun e => ne e) q27
            have R8 := R7.fr f8 (fun i e => by omega)
            have F8 : Fr (fun k => k = b) w W8 := F7.trans f8 (fun i hi e => by omega)
            have O8 := Lib.hid (O7.fr f8 (fun i e => by omega))
            have P8 := Lib.hid (P7.fr f8 (fun i e => by omega))
            have hz8 := Lib.hid (Nat.le_trans hz7.out f8.size)
            clear f8 q37 q27 R7 F7 O7 P7 hz7 h3lt
            go_wp2_with fail
            go_roundw
            case rel => exact ⟨j + 1, l2 ++ [x], _, by omega, by go_num, HE.out, r8, r28, O8.out, P8.out, by rw [rMany_succ]; exact R8, F8, hz8.out⟩
            case measure => simp [intOf]; omega
        · obtain rfl : j = m := by omega
          rw [← hs4.out] at hR
          have hlen2 : l2.length = j := by have := congrArg List.length hl2.out; simpa [rMany_len] using this
          clear H4
          go_wp2_with fail
          (with_reducible refine (H5.out _ hR).mono ?_); rintro e w6 ⟨rfl, R6, f6⟩
          have r2 := f6.keeps (fun e => nb2 e) q2
          have r3 := f6.keeps (fun e => nb3 e) q3
          have F6 := hF.trans' f6
          have O6 := Lib.hid (HO.out.fr f6 (fun i e => by have := hs3.out; omega))
          have P6 := Lib.hid (HP.out.fr f6 (fun i e => by have := hs3.out; omega))
          clear q2 q3 HO HP f6 hR hF H5
          go_upto_region 11 with fail
          refine wp_cell r3 fun W7 r7 f7 => ?_
          have h3lt := hs3.out
          replace r2 := f7.keeps (fun e => ne e) r2
          have R7 := R6.fr f7 (fun i e => by omega)
          have F7 : Fr (fun k => k = b) w W7 := F6.trans f7 (fun i hi e => by omega)
          have O7 := Lib.hid (O6.out.fr f7 (fun i e => by omega))
          have P7 := Lib.hid (P6.out.fr f7 (fun i e => by omega))
          replace r7 : W7.heap[g3]? = some (.cells #[.int .u32 (v0 : Int), vi, vo, .int .u32 (v5 : Int)] 28 (0, 0)) := r7
          clear f7 r3 F6 O6 P6 h3lt
          obtain ⟨ai, ci, rfl, hTi⟩ := O7.out.is
          obtain ⟨ao, co, rfl, hTo⟩ := P7.out.is
          go_wp2_with fail
          obtain ⟨WE, hWE⟩ : ∃ WE, WE = ((((W7.setCell ⟨g2, 0, none⟩ (.int .u32 (v0 : Int))).setCell ⟨g2, 1, none⟩ (.slice ai k ci)).setCell ⟨g2, 2, none⟩ (.slice ao j co)).setCell ⟨g2, 3, none⟩ (.int .u32 (v5 : Int))) := ⟨_, rfl⟩
          have rE : WE.heap[g2]? = some (.cells #[.int .u32 (v0 : Int), .slice ai k ci, .slice ao j co, .int .u32 (v5 : Int)] 28 (0, 0)) := by
            rw [hWE, heap_setCell_at, heap_setCell_at, heap_setCell_at, heap_setCell_at, r2]
            rfl
          have fE : Fr (fun k => k = g2) W7 WE := by
            rw [hWE]
            exact ((((Fr.refl (fun k => k = g2) W7).setCell (p := ⟨g2, 0, none⟩) (fun _ => rfl) _).setCell (p := ⟨g2, 1, none⟩) (fun _ => rfl) _).setCell (p := ⟨g2, 2, none⟩) (fun _ => rfl) _).setCell (p := ⟨g2, 3, none⟩) (fun _ => rfl) _
          rw [← hWE]
          have h3lt := hs3.out
          refine bodyPost_ret (results_cell_row rfl _ _ g2 _ _ _ _ rfl rE Try.underlying28 rfl (by rw [Try.szTx]; rfl)) rfl ?_
          refine ⟨⟨v0, ai, ci, l, ao, co, l2, v5⟩, .slice ai l.length ci, .slice ao l2.length co, by rw [TT.cells, hlen, hlen2], ?_, x0, x4, rfl, rfl, (O7.out.fr fE (fun i e => by omega)).mono (by omega), (P7.out.fr fE (fun i e => by omega)).mono (by omega), R7.fr fE (fun i e => by omega), F7.trans fE (fun i hi e => by omega)⟩
          rw [TT.m, hl0.out, hl2.out]
end Go.Proofs.Ytaobgaoldfeehaa

/- Layer 9 (tx): Parse. -/
namespace Go.Proofs.Ytaobgaoldfeehaa
set_option linter.unusedVariables false
set_option linter.unusedSimpArgs false
open Go.RowKit

/-- The transaction of bytes. -/
def prs (b : List UInt8) : Option MT := if szT b.length = true ∧ (rTx (some b)).2 = some [] ∧ (rTx (some b)).1.few = false ∧ (rTx (some b)).1.over = false then some (rTx (some b)).1 else none
/-- A transaction that a call has made: its blocks are B or later ones. -/
structure TNew (B : Nat) (w : World) (t : TT) : Prop where
  ok : t.Ok w
  ia : ∀ k, ablk t.ia = some k → B ≤ k
  oa : ∀ k, ablk t.oa = some k → B ≤ k
  ins : ∀ x ∈ t.ins, x.m.ky ≠ [] → ∀ k, ablk x.a = some k → B ≤ k
  outs : ∀ x ∈ t.outs, x.m.lk ≠ [] → ∀ k, ablk x.a = some k → B ≤ k
theorem TNew.fr {B : Nat} {S : Nat → Prop} {w w' : World} {t : TT} (h : TNew B w t) (f : Fr S w w') (hs : ∀ k, S k → k < B) : TNew B w' t := by
  obtain ⟨⟨h1, h2, ⟨hi, hi2⟩, ⟨ho, ho2⟩⟩, a1, a2, a3, a4⟩ := h
  refine ⟨⟨h1, h2, ⟨hi.fr f fun k hk e => ?_, fun x hx => ⟨(hi2 x hx).m, (hi2 x hx).b.frx f fun hn k hk e => ?_⟩⟩, ⟨ho.fr f fun k hk e => ?_, fun x hx => ⟨(ho2 x hx).m, (ho2 x hx).b.frx f fun hn k hk e => ?_⟩⟩⟩, a1, a2, a3, a4⟩
  · have := a1 k hk; have := hs k e; omega
  · have := a3 x hx hn k hk; have := hs k e; omega
  · have := a2 k hk; have := hs k e; omega
  · have := a4 x hx hn k hk; have := hs k e; omega
theorem TNew.mono {B B' : Nat} {w : World} {t : TT} (h : TNew B w t) (hb : B' ≤ B) : TNew B' w t := ⟨h.ok, fun k hk => Nat.le_trans hb (h.ia k hk), fun k hk => Nat.le_trans hb (h.oa k hk), fun x hx hn k hk => Nat.le_trans hb (h.ins x hx hn k hk), fun x hx hn k hk => Nat.le_trans hb (h.outs x hx hn k hk)⟩
def TT.zero : TT := ⟨0, none, 0, [], none, 0, [], 0⟩
theorem TNew.zero (B : Nat) (w : World) : TNew B w TT.zero := ⟨⟨by decide, by decide, TIs.nothing w, TOs.nothing w⟩, fun k e => (by cases e), fun k e => (by cases e), fun x e => (by cases e), fun x e => (by cases e)⟩
/-- What Parse answers. -/
def ParseQ (bs : List UInt8) (w : World) (e : Ending) (w' : World) : Prop :=
  ∃ (t : TT) (E : Int), e = .returned (.tuple #[.agg t.cells, .int .i64 E]) ∧ ((prs bs = some t.m ∧ E = 0) ∨ (prs bs = none ∧ E = 2 ∧ t = TT.zero)) ∧ TNew w.heap.size w' t ∧ Fr F0 w w'
theorem ParseQ.no {bs : List UInt8} {w w' : World} (h : prs bs = none) (f : Fr F0 w w') : ParseQ bs w (.returned (.tuple #[.agg #[.int .u32 0, .slice none 0 0, .slice none 0 0, .int .u32 0], .int .i64 2])) w' :=
  ⟨TT.zero, 2, rfl, .inr ⟨h, rfl, rfl⟩, TNew.zero _ _, f⟩

theorem set4 {w : World} {g : Nat} {a b c d a' b' c' d' : Value} {t : TypeId} (h : w.heap[g]? = some (.cells #[a, b, c, d] t (0, 0))) :
    ((((w.setCell ⟨g, 0, none⟩ a').setCell ⟨g, 1, none⟩ b').setCell ⟨g, 2, none⟩ c').setCell ⟨g, 3, none⟩ d').heap[g]? = some (.cells #[a', b', c', d'] t (0, 0)) := by
  rw [heap_setCell_at, heap_setCell_at, heap_setCell_at, heap_setCell_at, h]
  rfl
theorem Fr.set4 {w w0 : World} {g : Nat} {a' b' c' d' : Value} (h : Fr F0 w0 w) (hg : w0.heap.size ≤ g) :
    Fr F0 w0 ((((w.setCell ⟨g, 0, none⟩ a').setCell ⟨g, 1, none⟩ b').setCell ⟨g, 2, none⟩ c').setCell ⟨g, 3, none⟩ d') := by
  have k : ∀ {x : World} (i : Nat) (v : Value), Fr F0 w0 x → Fr F0 w0 (x.setCell ⟨g, i, none⟩ v) := fun i v f => f.setCell (p := ⟨g, i, none⟩) (fun e => by simp only at e; omega) v
  exact k _ _ (k _ _ (k _ _ (k _ _ h)))
theorem Fr.set4g {w : World} {g : Nat} {a' b' c' d' : Value} : Fr (fun k => k = g) w ((((w.setCell ⟨g, 0, none⟩ a').setCell ⟨g, 1, none⟩ b').setCell ⟨g, 2, none⟩ c').setCell ⟨g, 3, none⟩ d') :=
  ((((Fr.refl (fun k => k = g) w).setCell (p := ⟨g, 0, none⟩) (fun _ => rfl) _).setCell (p := ⟨g, 1, none⟩) (fun _ => rfl) _).setCell (p := ⟨g, 2, none⟩) (fun _ => rfl) _).setCell (p := ⟨g, 3, none⟩) (fun _ => rfl) _

theorem rTx_lft (st : Option (List UInt8)) : lft (rTx st).2 ≤ lft st := by
  have h0 := rW_lft st
  obtain ⟨s0, hs0⟩ : ∃ s, s = (rW st).2 := ⟨_, rfl⟩
  obtain ⟨n, hn⟩ : ∃ n, n = (rc 64 s0).1 := ⟨_, rfl⟩
  obtain ⟨s1, hs1⟩ : ∃ s, s = (rc 64 s0).2 := ⟨_, rfl⟩
  obtain ⟨s2, hs2⟩ : ∃ s, s = (rMany rIn n s1).2 := ⟨_, rfl⟩
  obtain ⟨m, hm⟩ : ∃ n, n = (rc 64 s2).1 := ⟨_, rfl⟩
  obtain ⟨s3, hs3⟩ : ∃ s, s = (rc 64 s2).2 := ⟨_, rfl⟩
  obtain ⟨s4, hs4⟩ : ∃ s, s = (rMany rOut m s3).2 := ⟨_, rfl⟩
  have eT : (rTx st).2 = (rW s4).2 := by rw [rTx, hs4, hm, hs3, hs2, hn, hs1, hs0]
  rw [← hs0] at h0
  have h1 := rc_lft 64 s0
  rw [← hs1] at h1
  have h2 := rMany_lft rIn rIn_lft n s1
  rw [← hs2] at h2
  have h3 := rc_lft 64 s2
  rw [← hs3] at h3
  have h4 := rMany_lft rOut rOut_lft m s3
  rw [← hs4] at h4
  have h5 := rW_lft s4
  rw [eT]
  omega
set_option maxRecDepth 100000 in
set_option maxHeartbeats 16000000 in
theorem tParse_any (a : Option Addr) (n c : Nat) (bs : List UInt8) (w : World) (h : Bs w a c bs) (hn : n = bs.length) (hl : bs.length ≤ 100000) : Calls Try.prog 7 #[.slice a n c] w (ParseQ bs w) := by
  have HZ := Lib.hid (fun w' => tIsSize_any n w')
  have HR := Lib.hid (fun w' (f : Fr F0 w w') => Read_any a n c bs w' (Bs.fr7 h f) hn (by omega))
  have hlf : lft (some bs) ≤ 1000000 := by show bs.length ≤ _; omega
  have HD := Lib.hid (fun b w' (r : RI w'.heap.size b (some bs) w') => tRead_any b (some bs) w' r hlf)
  have hlf2 : lft (rTx (some bs)).2 ≤ 1000000 := Nat.le_trans (rTx_lft _) hlf
  obtain ⟨M, hM⟩ : ∃ M, M = (rTx (some bs)).1 := ⟨_, rfl⟩
  obtain ⟨st, hst⟩ : ∃ st, st = (rTx (some bs)).2 := ⟨_, rfl⟩
  rw [← hM, ← hst] at HD
  rw [← hst] at hlf2
  have hP : prs bs = if szT n = true ∧ st = some [] ∧ M.few = false ∧ M.over = false then some M else none := by unfold prs; rw [← hM, ← hst, ← hn]
  clear hM hst h hlf
  replace hn := Lib.hid hn
  replace hl := Lib.hid hl
  cases q1 : szT n with
  | false =>
    have hp : prs bs = none := by rw [hP, q1]; exact if_neg (by simp)
    rw [q1] at HZ
    clear HR HD hP
    go_enter Try.func7, Try.ntmps7
    go_upto_region 1 with fail
    refine wp_new fun W1 N1 => ?_
    have r2 := N1.new
    have F := N1.fr
    obtain ⟨g2, hg2⟩ : ∃ g, g = w.heap.size := ⟨_, rfl⟩
    rw [← hg2] at r2 ⊢
    replace hg2 := Lib.hid (Nat.le_of_eq hg2.symm)
    clear N1
    go_wp2_with fail
    (with_reducible refine (HZ.out _).mono ?_); rintro e w2 ⟨rfl, rfl⟩
    go_wp2_with fail
    refine bodyPost_ret (results_cell_row_tmp rfl _ _ g2 _ _ _ _ rfl (set4 r2) Try.underlying28 rfl (by rw [Try.szTx]; rfl)) rfl ?_
    exact ParseQ.no hp (F.set4 hg2.out)
  | true =>
  rw [q1] at HZ hP
  go_enter Try.func7, Try.ntmps7
  go_upto_region 1 with fail
  refine wp_new fun W1 N1 => ?_
  have r2 := N1.new
  have F := N1.fr
  obtain ⟨g2, hg2⟩ : ∃ g, g = w.heap.size := ⟨_, rfl⟩
  rw [← hg2] at r2 ⊢
  replace hg2 := Lib.hid (Nat.le_of_eq hg2.symm)
  clear N1
  go_wp2_with fail
  (with_reducible refine (HZ.out _).mono ?_); rintro e w2 ⟨rfl, rfl⟩
  clear HZ
  go_wp2_with fail
  (with_reducible refine (HR.out _ F).mono ?_); rintro e w3 hr
  obtain ⟨b, rfl, R3, f3, hb3⟩ := RI.of hr
  have n2b : g2 ≠ b := by have := (Array.getElem?_eq_some_iff.1 r2).1; omega
  replace r2 := f3.keeps (fun f => f) r2
  have hbl := Lib.hid (show w.heap.size ≤ b from Nat.le_trans F.size hb3)
  replace F := F.trans' f3
  clear hr f3 HR hb3
  go_wp2_with fail
  have sz3 := Lib.hid F.size
  have g23 := Lib.hid (show g2 < w3.heap.size from (Array.getElem?_eq_some_iff.1 r2).1)
  (with_reducible refine (HD.out _ _ R3).mono ?_); rintro e w4 ⟨t, vi, vo, rfl, hm, hv, ht, rfl, rfl, O4, P4, R4, f4⟩
  replace r2 := f4.keeps (fun e => n2b e) r2
  replace F : Fr F0 w w4 := F.trans f4 (fun i hi e => by have := hbl.out; omega)
  have T4 : TNew w3.heap.size w4 t := ⟨⟨hv, ht, (by obtain ⟨_, _, e, h⟩ := O4.is; cases e; exact h), (by obtain ⟨_, _, e, h⟩ := P4.is; cases e; exact h)⟩, (fun k hk => O4.blk k (by rw [ablk_own]; exact hk)), (fun k hk => P4.blk k (by rw [ablk_own]; exact hk)), (fun x hx hn k hk => (O4.new x hx hn k hk).1), (fun x hx hn k hk => (P4.new x hx hn k hk).1)⟩
  have HE := Lib.hid (fun W (f : Fr F0 w4 W) => (R4.fr0 f).ended (st := st) hlf2)
  clear O4 P4 f4 R4 R3 HD
  have HF := Lib.hid (fun W (f : Fr F0 w4 W) => tFew_any t W (T4.ok.fr f))
  have HO := Lib.hid (fun W (f : Fr F0 w4 W) => tOver_any t W (T4.ok.fr f))
  rw [hm] at HF HO
  have HT := Lib.hid T4
  have HM := Lib.hid hm
  have hlow := Lib.hid (show g2 < w4.heap.size from (Array.getElem?_eq_some_iff.1 r2).1)
  clear hv ht T4 hm
  obtain ⟨v0, a1, n1, c1, a2, n2, c2, v3, hc⟩ : ∃ (v0 : Int) (a1 : Option Addr) (n1 c1 : Nat) (a2 : Option Addr) (n2 c2 : Nat) (v3 : Int), t.cells = #[.int .u32 v0, .slice a1 n1 c1, .slice a2 n2 c2, .int .u32 v3] := ⟨_, _, _, _, _, _, _, _, rfl⟩
  rw [hc] at HF HO ⊢
  replace hc := Lib.hid hc
  clear hlf2
  cases q2 : decide (st = some []) with
  | false =>
    have hp : prs bs = none := by rw [hP]; exact if_neg (fun h => by rw [decide_eq_false_iff_not] at q2; exact q2 h.2.1)
    rw [q2] at HE
    clear HF HO hP q2
    go_upto_region 5 with fail
    refine wp_new fun W5 N5 => ?_
    have r5 := N5.new
    replace r2 := N5.old r2
    replace F := F.trans' N5.fr
    have F5 := N5.fr
    clear N5
    go_wp2_with fail
    (with_reducible refine (HE.out _ F5).mono ?_); rintro e w6 ⟨rfl, rfl⟩
    go_wp2_with fail
    refine bodyPost_ret (results_cell_row_tmp rfl _ _ g2 _ _ _ _ rfl (set4 r2) Try.underlying28 rfl (by rw [Try.szTx]; rfl)) rfl ?_
    exact ParseQ.no hp (F.set4 hg2.out)
  | true =>
  rw [q2] at HE
  rw [decide_eq_true_iff] at q2
  cases q3 : M.few with
  | true =>
    have hp : prs bs = none := by rw [hP]; exact if_neg (fun h => by rw [q3] at h; cases h.2.2.1)
    rw [q3] at HF
    clear HO hP
    go_upto_region 5 with fail
    refine wp_new fun W5 N5 => ?_
    have r5 := N5.new
    replace r2 := N5.old r2
    replace F := F.trans' N5.fr
    have F5 := N5.fr
    clear N5
    go_wp2_with fail
    (with_reducible refine (HE.out _ F5).mono ?_); rintro e w6 ⟨rfl, rfl⟩
    go_wp2_with fail
    (with_reducible refine (HF.out _ F5).mono ?_); rintro e w7 ⟨rfl, f7⟩
    replace r2 := keep_fr f7 r2
    replace F := F.trans' f7
    go_wp2_with fail
    refine bodyPost_ret (results_cell_row_tmp rfl _ _ g2 _ _ _ _ rfl (set4 r2) Try.underlying28 rfl (by rw [Try.szTx]; rfl)) rfl ?_
    exact ParseQ.no hp (F.set4 hg2.out)
  | false =>
  rw [q3] at HF
  cases q4 : M.over with
  | true =>
    have hp : prs bs = none := by rw [hP]; exact if_neg (fun h => by rw [q4] at h; cases h.2.2.2)
    rw [q4] at HO
    clear hP
    go_upto_region 5 with fail
    refine wp_new fun W5 N5 => ?_
    have r5 := N5.new
    replace r2 := N5.old r2
    replace F := F.trans' N5.fr
    have F5 := N5.fr
    clear N5
    go_wp2_with fail
    (with_reducible refine (HE.out _ F5).mono ?_); rintro e w6 ⟨rfl, rfl⟩
    go_wp2_with fail
    (with_reducible refine (HF.out _ F5).mono ?_); rintro e w7 ⟨rfl, f7⟩
    replace r2 := keep_fr f7 r2
    replace r5 := keep_fr f7 r5
    replace F := F.trans' f7
    replace F5 := F5.trans' f7
    go_wp2_with fail
    (with_reducible refine (HO.out _ F5).mono ?_); rintro e w8 ⟨rfl, f8⟩
    replace r2 := keep_fr f8 r2
    replace F := F.trans' f8
    go_wp2_with fail
    refine bodyPost_ret (results_cell_row_tmp rfl _ _ g2 _ _ _ _ rfl (set4 r2) Try.underlying28 rfl (by rw [Try.szTx]; rfl)) rfl ?_
    exact ParseQ.no hp (F.set4 hg2.out)
  | false =>
    have hp : prs bs = some M := by rw [hP]; exact if_pos ⟨trivial, q2, q3, q4⟩
    rw [q4] at HO
    clear hP
    go_upto_region 5 with fail
    refine wp_new fun W5 N5 => ?_
    have r5 := N5.new
    replace r2 := N5.old r2
    replace F := F.trans' N5.fr
    have F5 := N5.fr
    clear N5
    go_wp2_with fail
    (with_reducible refine (HE.out _ F5).mono ?_); rintro e w6 ⟨rfl, rfl⟩
    go_wp2_with fail
    (with_reducible refine (HF.out _ F5).mono ?_); rintro e w7 ⟨rfl, f7⟩
    replace r2 := keep_fr f7 r2
    replace r5 := keep_fr f7 r5
    replace F := F.trans' f7
    replace F5 := F5.trans' f7
    clear f7
    go_wp2_with fail
    (with_reducible refine (HO.out _ F5).mono ?_); rintro e w8 ⟨rfl, f8⟩
    replace r2 := keep_fr f8 r2
    replace r5 := keep_fr f8 r5
    replace F := F.trans' f8
    replace F5 := F5.trans' f8
    clear f8
    go_wp2_with fail
    refine bodyPost_ret (results_cell_row_tmp rfl _ _ g2 _ _ _ _ rfl (set4 r2) Try.underlying28 rfl (by rw [Try.szTx]; rfl)) rfl ?_
    refine ⟨t, 0, by rw [hc.out]; rfl, .inl ⟨by rw [HM.out]; exact hp, rfl⟩, ?_, F.set4 hg2.out⟩
    exact (HT.out.fr (F5.of0.trans' Fr.set4g) (fun k e => by have := g23.out; omega)).mono sz3.out
end Go.Proofs.Ytaobgaoldfeehaa

/- Layer 9 (tx): what is written is read, and what is read is written. -/
namespace Go.Proofs.Ytaobgaoldfeehaa
set_option linter.unusedVariables false
set_option linter.unusedSimpArgs false
open Go.RowKit

theorem le_ofLE : ∀ (l : List UInt8), le l.length (ofLE l) = l
  | [] => rfl
  | c :: r => by
    have h := le_ofLE r
    have hc := c.toNat_lt
    have e : ofLE (c :: r) = ofLE r * 256 + c.toNat := by show c.toNat + 256 * ofLE r = _; omega
    rw [List.length_cons, e]
    show UInt8.ofNat ((ofLE r * 256 + c.toNat) % 256) :: le r.length ((ofLE r * 256 + c.toNat) / 256) = c :: r
    rw [show (ofLE r * 256 + c.toNat) / 256 = ofLE r by omega, h, show (ofLE r * 256 + c.toNat) % 256 = c.toNat by omega, UInt8.ofNat_toNat]
theorem le_of {l : List UInt8} {n : Nat} (h : l.length = n) : le n (ofLE l) = l := by rw [← h]; exact le_ofLE l
theorem tk_inv {n : Nat} {b r : List UInt8} (h : (tk (n : Int) (some b)).2 = some r) : (tk (n : Int) (some b)).1.length = n ∧ b = (tk (n : Int) (some b)).1 ++ r := by
  by_cases hn : n ≤ b.length
  · rw [tk_ok hn] at h ⊢
    cases h
    exact ⟨by simp; omega, (List.take_append_drop n b).symm⟩
  · rw [tk_short n b (by omega)] at h
    cases h
theorem rrc_inv (b : List UInt8) (h : (rrc b).2.2 = true) : b = cnt (rrc b).1 ++ b.drop (rrc b).2.1 := by
  cases b with
  | nil => cases h
  | cons c r =>
    have hc := c.toNat_lt
    by_cases h1 : c.toNat < 253
    · have e : rrc (c :: r) = (c.toNat, 1, csz c.toNat == 1) := by simp [rrc, h1]
      rw [e]
      have : cnt c.toNat = [c] := by
        unfold cnt
        rw [if_pos (by omega)]
        show [UInt8.ofNat (c.toNat % 256)] = [c]
        rw [Nat.mod_eq_of_lt hc, UInt8.ofNat_toNat]
      rw [this]
      rfl
    · obtain ⟨s, m, hm, hs⟩ : ∃ s m : Nat, s = m + 1 ∧ ((c.toNat = 253 ∧ s = 3 ∧ m = 2) ∨ (c.toNat = 254 ∧ s = 5 ∧ m = 4) ∨ (c.toNat = 255 ∧ s = 9 ∧ m = 8)) := by
        rcases (show c.toNat = 253 ∨ c.toNat = 254 ∨ c.toNat = 255 from by omega) with h | h | h
        · exact ⟨3, 2, rfl, .inl ⟨h, rfl, rfl⟩⟩
        · exact ⟨5, 4, rfl, .inr (.inl ⟨h, rfl, rfl⟩)⟩
        · exact ⟨9, 8, rfl, .inr (.inr ⟨h, rfl, rfl⟩)⟩
      have e2 : rrc (c :: r) = if r.length + 1 < s then (0, 0, false) else (ofLE (r.take m), s, csz (ofLE (r.take m)) == s) := by
        rcases hs with ⟨h, rfl, rfl⟩ | ⟨h, rfl, rfl⟩ | ⟨h, rfl, rfl⟩ <;> simp [rrc, h]
      rw [e2] at h ⊢
      by_cases hl : r.length + 1 < s
      · rw [if_pos hl] at h
        cases h
      · rw [if_neg hl] at h ⊢
        dsimp only at h ⊢
        have hq : csz (ofLE (r.take m)) = s := by simpa using h
        have htl : (r.take m).length = m := by simp; omega
        have hle := le_of htl
        have hlt := ofLE_lt (r.take m)
        rw [htl] at hlt
        obtain ⟨x, hx⟩ : ∃ x, x = ofLE (r.take m) := ⟨_, rfl⟩
        rw [← hx] at hq hle hlt ⊢
        have hcn : cnt x = c :: r.take m := by
          have hc8 : ∀ v : Nat, c.toNat = v → c = UInt8.ofNat v := fun v h => by rw [← h, UInt8.ofNat_toNat]
          unfold csz at hq
          unfold cnt
          rcases hs with ⟨hcv, rfl, rfl⟩ | ⟨hcv, rfl, rfl⟩ | ⟨hcv, rfl, rfl⟩
          · have hc' := hc8 _ hcv
            have h2 : ¬ x < 253 := fun e => by rw [if_pos e] at hq; omega
            rw [if_neg h2, if_pos (by omega), hle, hc']
            rfl
          · have hc' := hc8 _ hcv
            have h2 : ¬ x < 253 := fun e => by rw [if_pos e] at hq; omega
            have h3 : ¬ x < 65536 := fun e => by rw [if_neg h2, if_pos e] at hq; omega
            rw [if_neg h2, if_neg h3, if_pos (by omega), hle, hc']
            rfl
          · have hc' := hc8 _ hcv
            have h2 : ¬ x < 253 := fun e => by rw [if_pos e] at hq; omega
            have h3 : ¬ x < 65536 := fun e => by rw [if_neg h2, if_pos e] at hq; omega
            have h4 : ¬ x < 4294967296 := fun e => by rw [if_neg h2, if_neg h3, if_pos e] at hq; omega
            rw [if_neg h2, if_neg h3, if_neg h4, hle, hc']
            rfl
        rw [hcn, hm]
        simp

theorem tk_none (n : Int) : tk n none = ([], none) := rfl
theorem rW_none : (rW none).2 = none := rfl
theorem rc_none (m : Nat) : rc m none = (0, none) := by rw [rc_mcnt]; rfl
theorem rctd_none (m : Int) : (rctd m none).2 = none := by
  unfold rctd
  split
  · rfl
  · rw [rc_none]; rfl
theorem rIn_none : (rIn none).2 = none := by
  show (rW (rctd 520 (rW (tk 32 none).2).2).2).2 = none
  rw [tk_none, rW_none, rctd_none, rW_none]
theorem rOut_none : (rOut none).2 = none := by
  show (rctd 520 (tk 8 none).2).2 = none
  rw [tk_none, rctd_none]
theorem rMany_none {α : Type} (f : Option (List UInt8) → α × Option (List UInt8)) (hf : (f none).2 = none) : ∀ n, (rMany f n none).2 = none
  | 0 => rfl
  | n + 1 => by rw [rMany_succ]; dsimp only; rw [rMany_none f hf n, hf]

theorem rW_inv {b r : List UInt8} (h : (rW (some b)).2 = some r) : b = le 4 (rW (some b)).1 ++ r := by
  have h1 := tk_inv (n := 4) h
  conv => lhs; rw [h1.2]
  congr 1
  exact (le_of h1.1).symm
theorem rc_inv {m : Nat} {b r : List UInt8} (h : (rc m (some b)).2 = some r) : b = cnt (rc m (some b)).1 ++ r ∧ (rc m (some b)).1 ≤ m := by
  rw [rc_mcnt] at h ⊢
  unfold mcnt at h ⊢
  dsimp only at h ⊢
  split at h
  · rename_i hq
    rw [if_pos hq]
    cases h
    exact ⟨rrc_inv b hq.1, hq.2⟩
  · cases h
theorem rctd_eq (st : Option (List UInt8)) : rctd 520 st = tk ((rc 520 st).1 : Int) (rc 520 st).2 := by
  unfold rctd
  rw [if_neg (by omega)]
  rfl
theorem rctd_inv {b r : List UInt8} (h : (rctd 520 (some b)).2 = some r) : b = ctd (rctd 520 (some b)).1 ++ r ∧ (rctd 520 (some b)).1.length ≤ 520 := by
  rw [rctd_eq] at h ⊢
  obtain ⟨n, hn⟩ : ∃ n, n = (rc 520 (some b)).1 := ⟨_, rfl⟩
  obtain ⟨s, hs⟩ : ∃ s, s = (rc 520 (some b)).2 := ⟨_, rfl⟩
  rw [← hn, ← hs] at h ⊢
  cases s with
  | none => cases h
  | some r1 =>
    have h1 := rc_inv hs.symm
    rw [← hn] at h1
    have h2 := tk_inv h
    refine ⟨?_, by omega⟩
    rw [ctd, h2.1, List.append_assoc, ← h2.2]
    exact h1.1
theorem rIn_inv {b r : List UInt8} (h : (rIn (some b)).2 = some r) : b = (rIn (some b)).1.bytes ++ r ∧ (rIn (some b)).1.Ok ∧ (rIn (some b)).1.ky.length ≤ 520 := by
  have e : rIn (some b) = (⟨fr32 (tk 32 (some b)).1, (rW (tk 32 (some b)).2).1, (rctd 520 (rW (tk 32 (some b)).2).2).1, (rW (rctd 520 (rW (tk 32 (some b)).2).2).2).1⟩, (rW (rctd 520 (rW (tk 32 (some b)).2).2).2).2) := rfl
  rw [e] at h ⊢
  dsimp only at h ⊢
  have x4 := tk4_lt (tk 32 (some b)).2
  replace x4 : (rW (tk 32 (some b)).2).1 < 4294967296 := x4
  cases h1 : (tk 32 (some b)).2 with
  | none => rw [h1, rW_none, rctd_none, rW_none] at h; cases h
  | some b1 =>
  have i1 := tk_inv (n := 32) h1
  rw [h1] at h x4
  cases h2 : (rW (some b1)).2 with
  | none => rw [h2, rctd_none, rW_none] at h; cases h
  | some b2 =>
  have i2 := rW_inv h2
  rw [h2] at h
  cases h3 : (rctd 520 (some b2)).2 with
  | none => rw [h3, rW_none] at h; cases h
  | some b3 =>
  have i3 := rctd_inv h3
  have x5 := tk4_lt (some b3)
  replace x5 : (rW (some b3)).1 < 4294967296 := x5
  rw [h3] at h
  have i4 := rW_inv h
  have l32 : (tk 32 (some b)).1.length = 32 := i1.1
  have ef : fr32 (tk 32 (some b)).1 = (tk 32 (some b)).1 := if_pos l32
  rw [ef]
  refine ⟨?_, ⟨l32, x4, x5⟩, i3.2⟩
  dsimp only [MI.bytes]
  rw [List.append_assoc, List.append_assoc, List.append_assoc, ← i4, ← i3.1, ← i2]
  exact i1.2
theorem rOut_inv {b r : List UInt8} (h : (rOut (some b)).2 = some r) : b = (rOut (some b)).1.bytes ++ r ∧ (rOut (some b)).1.Ok ∧ (rOut (some b)).1.lk.length ≤ 520 := by
  have e : rOut (some b) = (⟨ofLE (tk 8 (some b)).1, (rctd 520 (tk 8 (some b)).2).1⟩, (rctd 520 (tk 8 (some b)).2).2) := rfl
  rw [e] at h ⊢
  dsimp only at h ⊢
  cases h1 : (tk 8 (some b)).2 with
  | none => rw [h1, rctd_none] at h; cases h
  | some b1 =>
  have i1 := tk_inv (n := 8) h1
  rw [h1] at h
  have i3 := rctd_inv h
  refine ⟨?_, ⟨tk8_lt _⟩, i3.2⟩
  dsimp only [MO.bytes]
  have l8 : (tk 8 (some b)).1.length = 8 := i1.1
  rw [le_of l8, List.append_assoc, ← i3.1]
  exact i1.2
theorem rMany_inv {α : Type} (f : Option (List UInt8) → α × Option (List UInt8)) (by' : α → List UInt8) (Q : α → Prop) (hf : (f none).2 = none) (hi : ∀ b r, (f (some b)).2 = some r → b = by' (f (some b)).1 ++ r ∧ Q (f (some b)).1) :
    ∀ (n : Nat) (b r : List UInt8), (rMany f n (some b)).2 = some r → b = (rMany f n (some b)).1.flatMap by' ++ r ∧ ∀ x ∈ (rMany f n (some b)).1, Q x
  | 0, b, r, h => by
    cases h
    exact ⟨rfl, fun x hx => by cases hx⟩
  | n + 1, b, r, h => by
    rw [rMany_succ] at h ⊢
    dsimp only at h ⊢
    cases h1 : (rMany f n (some b)).2 with
    | none => rw [h1, hf] at h; cases h
    | some b1 =>
      have i1 := rMany_inv f by' Q hf hi n b b1 h1
      rw [h1] at h
      have i2 := hi b1 r h
      refine ⟨?_, fun x hx => ?_⟩
      · rw [List.flatMap_append, List.append_assoc]
        conv => lhs; rw [i1.1]
        congr 1
        conv => lhs; rw [i2.1]
        simp
      · rw [List.mem_append, List.mem_singleton] at hx
        rcases hx with hx | rfl
        · exact i1.2 x hx
        · exact i2.2

/-- What is read as it is written. -/
structure MT.Fit (t : MT) : Prop where
  ok : t.Ok
  ins : t.ins.length ≤ 64
  outs : t.outs.length ≤ 64
  ky : ∀ x ∈ t.ins, x.ky.length ≤ 520
  lk : ∀ x ∈ t.outs, x.lk.length ≤ 520
theorem rTx_inv {b r : List UInt8} (h : (rTx (some b)).2 = some r) : b = (rTx (some b)).1.bytes ++ r ∧ (rTx (some b)).1.Fit := by
  obtain ⟨v0, hv0⟩ : ∃ v, v = (rW (some b)).1 := ⟨_, rfl⟩
  obtain ⟨s0, hs0⟩ : ∃ s, s = (rW (some b)).2 := ⟨_, rfl⟩
  obtain ⟨n, hn⟩ : ∃ n, n = (rc 64 s0).1 := ⟨_, rfl⟩
  obtain ⟨s1, hs1⟩ : ∃ s, s = (rc 64 s0).2 := ⟨_, rfl⟩
  obtain ⟨s2, hs2⟩ : ∃ s, s = (rMany rIn n s1).2 := ⟨_, rfl⟩
  obtain ⟨m, hm⟩ : ∃ n, n = (rc 64 s2).1 := ⟨_, rfl⟩
  obtain ⟨s3, hs3⟩ : ∃ s, s = (rc 64 s2).2 := ⟨_, rfl⟩
  obtain ⟨s4, hs4⟩ : ∃ s, s = (rMany rOut m s3).2 := ⟨_, rfl⟩
  have eT : rTx (some b) = (⟨v0, (rMany rIn n s1).1, (rMany rOut m s3).1, (rW s4).1⟩, (rW s4).2) := by rw [rTx, hv0, hs4, hm, hs3, hs2, hn, hs1, hs0]
  rw [eT] at h ⊢
  dsimp only at h ⊢
  have x0 := tk4_lt (some b)
  replace x0 : (rW (some b)).1 < 4294967296 := x0
  have x4 := tk4_lt s4
  replace x4 : (rW s4).1 < 4294967296 := x4
  have ln := rMany_len rIn n s1
  have lm := rMany_len rOut m s3
  rw [← hv0] at x0
  cases s0 with
  | none => rw [rc_none] at hs1; subst hs1; rw [rMany_none rIn rIn_none] at hs2; subst hs2; rw [rc_none] at hs3; subst hs3; rw [rMany_none rOut rOut_none] at hs4; subst hs4; cases h
  | some b0 =>
  have i0 := rW_inv hs0.symm
  rw [← hv0] at i0
  cases s1 with
  | none => rw [rMany_none rIn rIn_none] at hs2; subst hs2; rw [rc_none] at hs3; subst hs3; rw [rMany_none rOut rOut_none] at hs4; subst hs4; cases h
  | some b1 =>
  have i1 := rc_inv hs1.symm
  rw [← hn] at i1
  cases s2 with
  | none => rw [rc_none] at hs3; subst hs3; rw [rMany_none rOut rOut_none] at hs4; subst hs4; cases h
  | some b2 =>
  have i2 := rMany_inv rIn MI.bytes (fun x => x.Ok ∧ x.ky.length ≤ 520) rIn_none (fun b r h => rIn_inv h) n b1 b2 hs2.symm
  cases s3 with
  | none => rw [rMany_none rOut rOut_none] at hs4; subst hs4; cases h
  | some b3 =>
  have i3 := rc_inv hs3.symm
  rw [← hm] at i3
  cases s4 with
  | none => cases h
  | some b4 =>
  have i4 := rMany_inv rOut MO.bytes (fun x => x.Ok ∧ x.lk.length ≤ 520) rOut_none (fun b r h => rOut_inv h) m b3 b4 hs4.symm
  have i5 := rW_inv h
  refine ⟨?_, ⟨x0, x4, fun x hx => (i2.2 x hx).1, fun x hx => (i4.2 x hx).1⟩, (by show (rMany rIn n (some b1)).1.length ≤ 64; omega), (by show (rMany rOut m (some b3)).1.length ≤ 64; omega), fun x hx => (i2.2 x hx).2, fun x hx => (i4.2 x hx).2⟩
  dsimp only [MT.bytes]
  rw [ln, lm]
  simp only [List.append_assoc]
  rw [← i5, ← i4.1, ← i3.1, ← i2.1, ← i1.1]
  exact i0

theorem rW_le (x : Nat) (r : List UInt8) (hx : x < 4294967296) : rW (some (le 4 x ++ r)) = (x, some r) := by
  have h := tk_app (le 4 x) r
  rw [le_length] at h
  have h' : tk 4 (some (le 4 x ++ r)) = (le 4 x, some r) := h
  rw [rW, h', ofLE_le, Nat.mod_eq_of_lt (by omega)]
theorem rctd_le (l r : List UInt8) (hl : l.length ≤ 520) : rctd 520 (some (ctd l ++ r)) = (l, some r) := by
  rw [rctd_eq, ctd, List.append_assoc, rc_cnt _ _ _ (by omega) hl]
  exact tk_app l r
theorem rIn_bytes (x : MI) (r : List UInt8) (h : x.Ok ∧ x.ky.length ≤ 520) : rIn (some (x.bytes ++ r)) = (x, some r) := by
  obtain ⟨⟨h1, h2, h3⟩, h4⟩ := h
  obtain ⟨fr, ix, ky, sq⟩ := x
  simp only [MI.bytes, List.append_assoc] at *
  have e0 := tk_app fr (le 4 ix ++ (ctd ky ++ (le 4 sq ++ r)))
  rw [h1] at e0
  have e0' : tk 32 (some (fr ++ (le 4 ix ++ (ctd ky ++ (le 4 sq ++ r))))) = (fr, some (le 4 ix ++ (ctd ky ++ (le 4 sq ++ r)))) := e0
  have ef : fr32 fr = fr := if_pos h1
  rw [rIn, e0']
  try dsimp only
  rw [rW_le ix _ h2]
  try dsimp only
  rw [rctd_le ky _ h4]
  try dsimp only
  rw [rW_le sq _ h3, ef]
theorem rOut_bytes (x : MO) (r : List UInt8) (h : x.Ok ∧ x.lk.length ≤ 520) : rOut (some (x.bytes ++ r)) = (x, some r) := by
  obtain ⟨⟨h1⟩, h4⟩ := h
  obtain ⟨py, lk⟩ := x
  simp only [MO.bytes, List.append_assoc] at *
  have e0 := tk_app (le 8 py) (ctd lk ++ r)
  rw [le_length] at e0
  have e0' : tk 8 (some (le 8 py ++ (ctd lk ++ r))) = (le 8 py, some (ctd lk ++ r)) := e0
  rw [rOut, e0']
  try dsimp only
  rw [rctd_le lk _ h4, ofLE_le, Nat.mod_eq_of_lt (by omega)]
theorem rMany_bytes {α : Type} (f : Option (List UInt8) → α × Option (List UInt8)) (by' : α → List UInt8) (Q : α → Prop) (hf : ∀ x r, Q x → f (some (by' x ++ r)) = (x, some r)) :
    ∀ (n : Nat) (l : List α) (r : List UInt8), l.length = n → (∀ x ∈ l, Q x) → rMany f n (some (l.flatMap by' ++ r)) = (l, some r)
  | 0, l, r, h, _ => by
    obtain rfl : l = [] := List.eq_nil_of_length_eq_zero h
    rfl
  | n + 1, l, r, h, hq => by
    rcases List.eq_nil_or_concat l with rfl | ⟨l', x, rfl⟩
    · cases h
    · rw [List.concat_eq_append] at *
      rw [rMany_succ, List.flatMap_append, List.append_assoc, rMany_bytes f by' Q hf n l' _ (by simpa using h) (fun y hy => hq y (by simp [hy]))]
      try dsimp only
      have : [x].flatMap by' ++ r = by' x ++ r := by simp
      rw [this, hf x r (hq x (by simp))]
theorem rTx_bytes (t : MT) (r : List UInt8) (h : t.Fit) : rTx (some (t.bytes ++ r)) = (t, some r) := by
  obtain ⟨⟨o1, o2, o3, o4⟩, h1, h2, h3, h4⟩ := h
  obtain ⟨vr, ins, outs, lt⟩ := t
  simp only [MT.bytes, List.append_assoc] at *
  rw [rTx]
  try dsimp only
  rw [rW_le vr _ o1]
  try dsimp only
  rw [rc_cnt _ 64 _ (by omega) h1]
  try dsimp only
  rw [rMany_bytes rIn MI.bytes (fun x => x.Ok ∧ x.ky.length ≤ 520) rIn_bytes ins.length ins _ rfl (fun x hx => ⟨o3 x hx, h3 x hx⟩)]
  try dsimp only
  rw [rc_cnt _ 64 _ (by omega) h2]
  try dsimp only
  rw [rMany_bytes rOut MO.bytes (fun x => x.Ok ∧ x.lk.length ≤ 520) rOut_bytes outs.length outs _ rfl (fun x hx => ⟨o4 x hx, h4 x hx⟩)]
  try dsimp only
  rw [rW_le lt _ o2]

/-! ### what Parse answers -/
theorem prs_inv {b : List UInt8} {t : MT} (h : prs b = some t) : b = t.bytes ∧ t.Fit ∧ szT b.length = true ∧ t.few = false ∧ t.over = false ∧ rTx (some b) = (t, some []) := by
  unfold prs at h
  split at h
  · rename_i hq
    cases h
    have h1 := rTx_inv hq.2.1
    rw [List.append_nil] at h1
    exact ⟨h1.1, h1.2, hq.1, hq.2.2.1, hq.2.2.2, by rw [← hq.2.1]⟩
  · cases h
theorem prs_bytes {t : MT} (h : t.Fit) (h1 : szT t.bytes.length = true) (h2 : t.few = false) (h3 : t.over = false) : prs t.bytes = some t := by
  have e := rTx_bytes t [] h
  rw [List.append_nil] at e
  unfold prs
  rw [e]
  exact if_pos ⟨h1, rfl, h2, h3⟩
theorem MT.Fit.long {t : MT} (h : t.Fit) : t.long = false := by
  rw [MT.long, decide_eq_false_iff_not]
  rintro (e | e | ⟨x, hx, e⟩ | ⟨x, hx, e⟩)
  · have := h.ins; omega
  · have := h.outs; omega
  · have := h.ky x hx; omega
  · have := h.lk x hx; omega
theorem MT.fit_of {t : MT} (h : t.Ok) (hl : t.long = false) : t.Fit := by
  rw [MT.long, decide_eq_false_iff_not] at hl
  exact ⟨h, Nat.le_of_not_lt fun e => hl (.inl e), Nat.le_of_not_lt fun e => hl (.inr (.inl e)), fun x hx => Nat.le_of_not_lt fun e => hl (.inr (.inr (.inl ⟨x, hx, e⟩))), fun x hx => Nat.le_of_not_lt fun e => hl (.inr (.inr (.inr ⟨x, hx, e⟩)))⟩
/-- A transaction that was read is written again. -/
theorem prs_err {b : List UInt8} {t : MT} (h : prs b = some t) : t.err = 0 ∧ t.out = b ∧ t.small = true := by
  obtain ⟨h1, h2, h3, h4, h5, _⟩ := prs_inv h
  have h6 := h2.long
  rw [h1] at h3
  have e : t.err = 0 := by simp [MT.err, h3, h4, h5, h6]
  exact ⟨e, by rw [MT.out, if_pos e, h1], MT.small_of h6⟩
/-- What Bytes answers is read again. -/
theorem err_prs {t : MT} (h : t.Ok) (he : t.err = 0) : prs t.bytes = some t ∧ t.small = true := by
  unfold MT.err at he
  split at he
  · cases he
  · rename_i h1
    split at he
    · cases he
    · rename_i h2
      split at he
      · cases he
      · rename_i h3
        split at he
        · cases he
        · rename_i h4
          rw [Bool.not_eq_true] at h1 h2 h4
          rw [Bool.not_eq_false] at h3
          exact ⟨prs_bytes (MT.fit_of h h2) h3 h1 h4, MT.small_of h2⟩
/-- One byte less, or one more, is none. -/
theorem prs_less {a : List UInt8} {t : MT} (h : prs a = some t) (ha : a ≠ []) : prs a.dropLast = none := by
  cases h1 : prs a.dropLast with
  | none => rfl
  | some u =>
    obtain ⟨e1, f1, _⟩ := prs_inv h1
    obtain ⟨_, _, _, _, _, e2⟩ := prs_inv h
    have e3 := rTx_bytes u [a.getLast ha] f1
    rw [← e1, List.dropLast_concat_getLast ha, e2] at e3
    cases e3
theorem prs_more {a : List UInt8} {t : MT} (h : prs a = some t) (x : UInt8) : prs (a ++ [x]) = none := by
  cases h1 : prs (a ++ [x]) with
  | none => rfl
  | some u =>
    obtain ⟨_, _, _, _, _, e1⟩ := prs_inv h1
    obtain ⟨e2, f2, _⟩ := prs_inv h
    have e3 := rTx_bytes t [x] f2
    rw [← e2, e1] at e3
    cases e3
end Go.Proofs.Ytaobgaoldfeehaa

/- Layer 9 (tx): the chapter's example. -/
namespace Go.Proofs.Ytaobgaoldfeehaa
set_option linter.unusedVariables false
set_option linter.unusedSimpArgs false
open Go.RowKit

def exLk : List UInt8 := [118, 169, 20] ++ zero20 ++ [136, 172]
def exT : MT := ⟨0, [⟨zero32, 0, [], 0⟩], [⟨5, exLk⟩], 0⟩
theorem exT_out : exT.err = 0 ∧ exT.out.length = 85 := by decide +kernel
theorem exT_pays (a : Option Addr) (c : Nat) : pays (pTo zero20) [⟨⟨5, exLk⟩, a, c⟩] = [5] := by
  have h : pTo zero20 (lkP exLk) = true := by decide +kernel
  simp [pays, chsn, h]
theorem Sl.of_row {w : World} {g n : Nat} {X : Array Value} {t : TypeId} (h : w.heap[g]? = some (.cells X t (0, 0))) (hX : X.size = n) : Sl w n (some ⟨g, 0, none⟩) 1 1 X.toList :=
  ⟨by simpa using hX, Nat.le_refl _, by unfold maxLen; omega, (fun e => by cases e), fun j u hj => ⟨_, _, rfl, by rw [cell_at, h, cellAt_cells, Nat.zero_add]; simpa using hj⟩⟩

set_option maxRecDepth 100000 in
set_option maxHeartbeats 8000000 in
theorem lives09_any (w : World) : Calls Try.prog 6 #[] w fun e w' => e = .returned (.bool true) ∧ Fr F0 w w' := by
  have hb1 := fun w => run_buildLk w #[(0, .int .i64 1)] (lkC 1 zero20 (.slice none 0 0)) (by kernel_rfl)
  have H1 := Lib.hid (fun w => lBytesC 1 zero20 [] none 0 0 w rfl (Bs.nothing w) rfl (by simp))
  have hb2 := fun w => run_buildTIn w #[] (rowI zero32 (.int .u32 0) (.slice none 0 0) (.int .u32 0)) (by kernel_rfl)
  have hb3 := fun w => run_buildIns w (rowI zero32 (.int .u32 0) (.slice none 0 0) (.int .u32 0)) rfl
  have hb4 := fun w n a c => run_buildOuts w #[.int .u64 5, .slice a n c] rfl
  have hb5 := fun w => run_buildAd w #[] (zero20.map B8).toArray built_ad0
  obtain ⟨Z, hZ⟩ : ∃ Z, Z = rowI zero32 (.int .u32 0) (.slice none 0 0) (.int .u32 0) := ⟨_, rfl⟩
  rw [← hZ] at hb2 hb3
  have sZ : Z.size = 35 := by rw [hZ]; rfl
  replace hZ := Lib.hid hZ
  go_enter Try.func6, Try.ntmps6
  go_wp2_with fail
  (with_reducible refine (H1.out _).mono ?_); rintro e w2 ⟨a2, n2, c2, rfl, hn2, hB2, f2, _⟩
  have eE : lkE 1 [] = 0 := rfl
  rw [eE]
  replace hn2 : n2 = 25 := hn2
  subst hn2
  replace hB2 : Bs w2 a2 c2 exLk := hB2
  clear eE H1
  go_upto_region 3 with fail
  obtain ⟨W, hW⟩ : ∃ W, W = ((w2.alloc (.cells Z 68)).alloc (.cells #[.int .u64 5, .slice a2 25 c2] 55)).alloc (.cells #[.int .u32 0, .slice (some ⟨w2.heap.size, 0, none⟩) 1 1, .slice (some ⟨w2.heap.size + 1, 0, none⟩) 1 1, .int .u32 0] 28) := ⟨_, rfl⟩
  refine wp_of_world W hW ?_
  obtain ⟨rI, rO, rT⟩ := heap3 w2 (.cells Z 68) (.cells #[.int .u64 5, .slice a2 25 c2] 55) (.cells #[.int .u32 0, .slice (some ⟨w2.heap.size, 0, none⟩) 1 1, .slice (some ⟨w2.heap.size + 1, 0, none⟩) 1 1, .int .u32 0] 28)
  have F : Fr F0 w2 W := by rw [hW]; exact (((Fr.refl F0 w2).alloc _).alloc _).alloc _
  rw [← hW] at rI rO rT
  clear hW
  generalize w2.heap.size = gI at *
  generalize gI + 1 = gO at *
  generalize gO + 1 = gT at *
  have hok : TT.Ok W ⟨0, some ⟨gI, 0, none⟩, 1, [⟨⟨zero32, 0, [], 0⟩, none, 0⟩], some ⟨gO, 0, none⟩, 1, [⟨⟨5, exLk⟩, a2, c2⟩], 0⟩ := by
    refine ⟨(by decide : (0 : Nat) < 4294967296), (by decide : (0 : Nat) < 4294967296), ⟨?_, fun t ht => ?_⟩, ⟨?_, fun t ht => ?_⟩⟩
    · have := Sl.of_row rI sZ
      rw [hZ.out] at this
      exact this
    · rw [List.mem_singleton] at ht
      subst ht
      exact ⟨⟨rfl, (by decide : (0 : Nat) < 4294967296), (by decide : (0 : Nat) < 4294967296)⟩, Bs.nothing _⟩
    · exact Sl.of_row rO rfl
    · rw [List.mem_singleton] at ht
      subst ht
      exact ⟨⟨(by decide : (5 : Nat) < 18446744073709551616)⟩, Bs.fr7 hB2 F⟩
  have HB := Lib.hid (tBytes_any _ W hok)
  have HP := Lib.hid (fun W' f => tPaid_any _ zero20 rfl W' (hok.fr f) (fun x hx => by
    rw [List.mem_singleton] at hx
    subst hx
    show exLk.length ≤ 1000
    decide))
  have eM : (TT.mk 0 (some ⟨gI, 0, none⟩) 1 [⟨⟨zero32, 0, [], 0⟩, none, 0⟩] (some ⟨gO, 0, none⟩) 1 [⟨⟨5, exLk⟩, a2, c2⟩] 0).m = exT := rfl
  rw [eM] at HB
  have eP : pays (pTo zero20) (TT.mk 0 (some ⟨gI, 0, none⟩) 1 [⟨⟨zero32, 0, [], 0⟩, none, 0⟩] (some ⟨gO, 0, none⟩) 1 [⟨⟨5, exLk⟩, a2, c2⟩] 0).outs = [5] := exT_pays a2 c2
  rw [eP] at HP
  have eC : (TT.mk 0 (some ⟨gI, 0, none⟩) 1 [⟨⟨zero32, 0, [], 0⟩, none, 0⟩] (some ⟨gO, 0, none⟩) 1 [⟨⟨5, exLk⟩, a2, c2⟩] 0).cells = #[.int .u32 0, .slice (some ⟨gI, 0, none⟩) 1 1, .slice (some ⟨gO, 0, none⟩) 1 1, .int .u32 0] := rfl
  rw [eC] at HB HP
  have eV : toV 0 [5] = 5 := by decide
  have eE : toE 0 [5] = 0 := by decide
  rw [eV, eE] at HP
  replace F := f2.trans' F
  clear hok eM eP eC eV eE rI rO hB2 hb1 hb2 hb3 hb4 f2 sZ
  go_wp2_with fail
  (with_reducible refine HB.out.mono ?_); rintro e w4 ⟨a4, n4, c4, rfl, hn4, _, f4, _⟩
  rw [exT_out.1]
  rw [exT_out.2] at hn4
  subst hn4
  replace rT := keep_fr f4 rT
  clear HB
  go_wp2_with fail
  (with_reducible refine (HP.out _ f4).mono ?_); rintro e w5 ⟨rfl, f5⟩
  clear HP rT
  go_wp2_with fail
  go_ret
  exact ⟨rfl, (F.trans' f4).trans' f5⟩
end Go.Proofs.Ytaobgaoldfeehaa
