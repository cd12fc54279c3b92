import Derived.Test.YthoaalnjmklclaaZ11
import Derived.RangeFuncFrom
/- Layer 9 (tx): lists of bytes, and of strings, that are appended to. -/
namespace Go.Proofs.Ythoaalnjmklclaa
set_option linter.unusedVariables false
set_option linter.unusedSimpArgs false
open Go.RowKit Go.Shelf

/-- Bytes in memory. -/
structure TG where
  bs : List UInt8
  a : Option Addr
  c : Nat
def TG.val (t : TG) : Value := .slice t.a t.bs.length t.c
def TG.Ok (w : World) (t : TG) : Prop := Bs w t.a t.c t.bs
theorem TG.Ok.frx {w w' : World} {t : TG} {S : Nat → Prop} (h : t.Ok w) (f : Fr S w w') (hs : t.bs ≠ [] → ∀ k, ablk t.a = some k → ¬ S k) : t.Ok w' := Bs.frx h f hs

theorem Try.infoBytes : (Try.prog.info? 22).map (fun i => (i.zero, i.size, i.bytes)) = some (some (.slice none 0 0), 1, 24) := by kernel_rfl
def appTs (ty : TypeId) (args : Array Value) : Sem Value := Builtin.append_ #[93, 93] ty args
@[go_sem ↓ high] theorem app_Ts (ty : TypeId) (args : Array Value) : Builtin.append_ #[93, 93] ty args = appTs ty args := rfl
/-- A list of bytes that the call itself has made: its blocks, and theirs, are B or later ones. -/
structure OwnTs (B : Nat) (w : World) (v : Value) (l : List TG) : Prop where
  own : w.ownsRow 0 22 1 v l.length (l.map TG.val)
  blk : ∀ k, v.ownBlock = some k → B ≤ k
  ok : ∀ x ∈ l, x.Ok w
  new : ∀ x ∈ l, x.bs ≠ [] → ∀ k, ablk x.a = some k → B ≤ k ∧ v.ownBlock ≠ some k
theorem OwnTs.nil (B : Nat) (w : World) : OwnTs B w (.slice none 0 0) [] := ⟨World.ownsRow_nil _ _ _ _, fun k h => (by cases h), fun x h => (by cases h), fun x h => (by cases h)⟩
theorem OwnTs.frS {B : Nat} {S : Nat → Prop} {w w' : World} {v : Value} {l : List TG} (h : OwnTs B w v l) (f : Fr S w w') (h1 : ∀ k, v.ownBlock = some k → ¬ S k) (h2 : ∀ x ∈ l, x.bs ≠ [] → ∀ k, ablk x.a = some k → ¬ S k) : OwnTs B w' v l :=
  ⟨own_fr h.own f h1, h.blk, fun x hx => (h.ok x hx).frx f (h2 x hx), h.new⟩
theorem OwnTs.fr0 {B : Nat} {w w' : World} {v : Value} {l : List TG} (h : OwnTs B w v l) (f : Fr F0 w w') : OwnTs B w' v l := h.frS f (fun _ _ e => e) fun _ _ _ _ _ e => e
theorem OwnTs.lt {B : Nat} {w : World} {v : Value} {l : List TG} (h : OwnTs B w v l) : ∀ k, v.ownBlock = some k → k < w.heap.size := fun k hk => (World.ownsRow.lt h.own k hk).2
theorem OwnTs.is {B : Nat} {w : World} {v : Value} {l : List TG} (h : OwnTs B w v l) : ∃ a c, v = .slice a l.length c ∧ Sl w 1 a c l.length (l.map TG.val) := by
  obtain ⟨a, c, rfl⟩ := own_slice h.own
  exact ⟨a, c, rfl, (Sl.of_own h.own).2⟩
/-- One more. -/
theorem OwnTs.app {B : Nat} {w : World} {v : Value} {l : List TG} (h : OwnTs B w v l) (x : TG) (hx : x.Ok w) (hn : x.bs ≠ [] → ∀ k, ablk x.a = some k → B ≤ k ∧ v.ownBlock ≠ some k) (hB : B ≤ w.heap.size) (hl : l.length ≤ 100000) (ty : TypeId) :
    ∃ a c w', (appTs ty #[v, .slice (some ⟨w.heap.size, 0, none⟩) 1 1]).run Try.prog (w.alloc (.cells #[x.val] 22)) = .ok (.slice a (l.length + 1) c) w' ∧ OwnTs B w' (.slice a (l.length + 1) c) (l ++ [x]) ∧
      Fr (fun k => v.ownBlock = some k) w w' ∧ w.heap.size < w'.heap.size ∧ ∀ k, ablk a = some k → v.ownBlock = some k ∨ w.heap.size ≤ k := by
  obtain ⟨i0, hi, hz, hs, hb⟩ := info_parts Try.infoBytes
  obtain ⟨W, hW⟩ : ∃ W, W = w.alloc (.cells #[x.val] 22) := ⟨_, rfl⟩
  have hnew := heap_alloc_new w (.cells #[x.val] 22)
  have fW : Fr F0 w W := by rw [hW]; exact (Fr.refl F0 w).alloc _
  have sW : W.heap.size = w.heap.size + 1 := by rw [hW]; simp
  rw [← hW] at hnew ⊢
  have hsl : Sl W 1 (some ⟨w.heap.size, 0, none⟩) 1 1 [x.val] := ⟨rfl, Nat.le_refl _, by unfold maxLen; omega, (fun e => by cases e), fun j u hj => ⟨_, _, rfl, by rw [cell_at, hnew, cellAt_cells, Nat.zero_add]; simpa using hj⟩⟩
  obtain ⟨v', w', hrun, hown, hg, hnw⟩ := run_app (P := Try.prog) (w := W) 93 ty 22 i0 _ 1 24 Try.underlying93 hi hz hs hb rfl (by omega) v l.length _ (own_fr h.own fW fun _ _ f => f) (some ⟨w.heap.size, 0, none⟩) 1 1 [x.val] hsl
    (by intro u hu; rw [List.mem_singleton] at hu; subst hu; rfl) (by unfold maxLen; omega) (by omega)
  obtain ⟨a, c, rfl⟩ := own_slice hown
  have F : Fr (fun k => v.ownBlock = some k) w w' := (fW.of0).grown hg fun k hk hl => hk
  have hnw' : ∀ k, ablk a = some k → v.ownBlock = some k ∨ w.heap.size ≤ k := fun k hk => by
    rcases hnw k (by rw [ablk_own]; exact hk) with e | e
    · exact .inl e
    · exact .inr (by omega)
  refine ⟨a, c, w', hrun, ⟨?_, fun k hk => ?_, fun y hy => ?_, fun y hy hne k hk => ?_⟩, F, by have := hg.size; omega, hnw'⟩
  · rw [List.length_append, List.map_append]
    simpa using hown
  · rw [ablk_own] at hk
    rcases hnw' k hk with e | e
    · exact h.blk k e
    · omega
  · rw [List.mem_append, List.mem_singleton] at hy
    rcases hy with hy | rfl
    · exact (h.ok y hy).frx F fun hne k hk e => (h.new y hy hne k hk).2 e
    · exact hx.frx F fun hne k hk e => (hn hne k hk).2 e
  · rw [List.mem_append, List.mem_singleton] at hy
    have hlow : k < w.heap.size := by
      rcases hy with hy | rfl
      · exact Bs.low (h.ok y hy) hne k hk
      · exact Bs.low hx hne k hk
    have hold : B ≤ k ∧ v.ownBlock ≠ some k := by
      rcases hy with hy | rfl
      · exact h.new y hy hne k hk
      · exact hn hne k hk
    refine ⟨hold.1, fun e => ?_⟩
    rw [ablk_own] at e
    rcases hnw' k e with e' | e'
    · exact hold.2 e'
    · omega

/-- What grows beside lets cells alone. -/
theorem grown_fr {A D : World} {row : Option Nat} (hg : A.grownBy D row) : Fr (fun k => row = some k) A D := (Fr.refl _ A).grown hg fun k hk _ => hk
theorem cell_not {A : World} {B : Nat} {row : Option Nat} {k : Nat} {cs : Array Value} {t : TypeId} {fr : Nat × Nat} (hr : ∀ r, row = some r → B ≤ r ∧ ∃ o : Obj, A.heap[r]? = some o ∧ o.isCells = false) (h : A.heap[k]? = some (.cells cs t fr)) : ¬ row = some k := fun e => by
  obtain ⟨_, o, ho, hc⟩ := hr k e
  rw [h] at ho
  cases ho
  cases hc
theorem row_not {A : World} {B : Nat} {row : Option Nat} {e0 size n : Nat} {v : Value} {xs : List Value} (hr : ∀ r, row = some r → B ≤ r ∧ ∃ o : Obj, A.heap[r]? = some o ∧ o.isCells = false) (h : A.ownsRow 0 e0 size v n xs) : ∀ k, v.ownBlock = some k → ¬ row = some k := fun k hk => by
  rcases h.2 with ⟨rfl, _⟩ | ⟨g, cap, cur, rfl, _, hg, _⟩
  · cases hk
  · cases hk
    exact cell_not hr hg
theorem bs_not {A : World} {B : Nat} {row : Option Nat} {a : Option Addr} {c : Nat} {bs : List UInt8} (hr : ∀ r, row = some r → B ≤ r ∧ ∃ o : Obj, A.heap[r]? = some o ∧ o.isCells = false) (h : Bs A a c bs) : bs ≠ [] → ∀ k, ablk a = some k → ¬ row = some k := fun hne k hk e => by
  obtain ⟨b, off, rfl, hc⟩ := h.at 0 (List.length_pos_iff.2 hne)
  cases hk
  rw [cell_at] at hc
  obtain ⟨_, o, ho, hn⟩ := hr _ e
  rw [ho] at hc
  cases o <;> first | (exfalso; simp [Obj.cellAt] at hc; done) | (exfalso; simp [Obj.isCells] at hn; done)
theorem own_ts {B B' : Nat} {A D : World} {row : Option Nat} {v : Value} {l : List TG} (hs : OwnTs B' A v l) (hg : A.grownBy D row) (hr : ∀ r, row = some r → B ≤ r ∧ ∃ o : Obj, A.heap[r]? = some o ∧ o.isCells = false) : OwnTs B' D v l :=
  hs.frS (grown_fr hg) (row_not hr hs.own) fun x hx => bs_not hr (hs.ok x hx)
theorem own_bs {B : Nat} {A D : World} {row : Option Nat} {a : Option Addr} {c : Nat} {bs : List UInt8} (hs : Bs A a c bs) (hg : A.grownBy D row) (hr : ∀ r, row = some r → B ≤ r ∧ ∃ o : Obj, A.heap[r]? = some o ∧ o.isCells = false) : Bs D a c bs := hs.frx (grown_fr hg) (bs_not hr hs)
theorem own_cs {B : Nat} {A D : World} {row : Option Nat} {k : Nat} {cs : Array Value} {t : TypeId} {fr : Nat × Nat} (hs : A.heap[k]? = some (.cells cs t fr)) (hg : A.grownBy D row) (hr : ∀ r, row = some r → B ≤ r ∧ ∃ o : Obj, A.heap[r]? = some o ∧ o.isCells = false) : D.heap[k]? = some (.cells cs t fr) := (grown_fr hg).keeps (cell_not hr hs) hs
end Go.Proofs.Ythoaalnjmklclaa

/- Layer 9 (tx): Tags. -/
namespace Go.Proofs.Ythoaalnjmklclaa
set_option linter.unusedVariables false
set_option linter.unusedSimpArgs false
open Go.RowKit Go.Shelf

attribute [local go_sem] Oper.semAt_some

theorem any_put {P : World → Prop} {w : World} {z cs : Array Value} {t : TypeId} (k : ∀ W, NewRow w W w.heap.size cs t → P W) : P ((w.alloc (.cells z t)).setRow w.heap.size cs) := k _ (put_new w z cs t)
/-- A chosen output's tag. -/
def Ch.tg (h : Ch) : TG := ⟨(lkP h.x.m.lk).2.2, h.a, h.c⟩
/-- What Tags answers. -/
def tagsOf (l : List TO) : List (List UInt8) := (chsn pTag l).map fun x => (lkP x.m.lk).2.2
theorem chs_len {p : Int × List UInt8 × List UInt8 → Bool} {l : List TO} {k : Nat} {xs : List Ch} (h : xs.map Ch.x = chsn p (l.take k)) : xs.length ≤ l.length := by
  have h1 := congrArg List.length h
  rw [List.length_map] at h1
  rw [h1, chsn]
  have := List.length_filter_le (fun t : TO => p (lkP t.m.lk)) (l.take k)
  simp only [List.length_take] at this
  omega
theorem OwnTs.mono {B B' : Nat} {w : World} {v : Value} {l : List TG} (h : OwnTs B w v l) (hb : B' ≤ B) : OwnTs B' w v l := ⟨h.own, fun k hk => Nat.le_trans hb (h.blk k hk), h.ok, fun x hx hn k hk => ⟨Nat.le_trans hb (h.new x hx hn k hk).1, (h.new x hx hn k hk).2⟩⟩
/-- What the rounds of Tags hold. -/
def TagI (B g3 : Nat) (pre : List TG) (W : World) : Prop := ∃ v, W.heap[g3]? = some (.cells #[v] 93 (0, 0)) ∧ OwnTs B W v pre
theorem TagI.own {B B' g3 : Nat} {pre : List TG} {A D : World} {row : Option Nat} (h : TagI B g3 pre A) (hg : A.grownBy D row) (hr : ∀ r, row = some r → B' ≤ r ∧ ∃ o : Obj, A.heap[r]? = some o ∧ o.isCells = false) : TagI B g3 pre D := by
  obtain ⟨v, h1, h2⟩ := h
  exact ⟨v, own_cs h1 hg hr, own_ts h2 hg hr⟩

set_option maxRecDepth 100000 in
set_option maxHeartbeats 8000000 in
theorem tTags_any (t : TT) (w : World) (ht : t.Ok w) (hs : ∀ x ∈ t.outs, x.m.lk.length ≤ 1000) (h70 : t.outs.length ≤ 70) :
    Calls Try.prog 18 #[.agg t.cells] w fun e w' => ∃ g3 l, e = .returned (.func (.func 43) #[] #[.pointer (some ⟨g3, 0, none⟩)]) ∧ TagI w.heap.size g3 l w' ∧ l.map TG.bs = tagsOf t.outs ∧ Fr F0 w w' := by
  have hmf : ∀ (fn : Fn) (first cap : Array Value) (w : World), (Instr.makeFunc fn first cap).run Try.prog w = .ok (.func fn first cap) w := fun _ _ _ _ => rfl
  have HT := Lib.hid ht
  have H70 := Lib.hid h70
  have HCh := Lib.hid (fun W => tChosen_any t 42 #[] W)
  have HQ := Lib.hid (fun b2 b3 => chosenF_seq t b2 b3 42 #[] 90 pTag (fun _ => True) hs (enters_of Try.func42 (by kernel_rfl) rfl) (fun b a n c W _ => tTagsF_any b a n c W) (fun _ _ _ _ => trivial))
  clear ht hs h70
  obtain ⟨v0, a1, n1, c1, a2, n2, c2, v3, hc⟩ : ∃ (v0 : Int) (a1 : Option Addr) (n1 c1 : Nat) (a2 : Option Addr) (n2 c2 : Nat) (v3 : Int), t.cells = #[.int .u32 v0, .slice a1 n1 c1, .slice a2 n2 c2, .int .u32 v3] := ⟨_, _, _, _, _, _, _, _, rfl⟩
  rw [hc] at HCh ⊢
  replace hc := Lib.hid hc
  refine callsIn_wide (n := 6) |>.1 ?_
  refine callsIn_of_wp_marks Try.func18 rfl trivial ?_ rfl
  simp only [Try.ntmps18, List.size_toArray, List.length_cons, List.length_nil, Nat.reduceAdd, Nat.reduceSub, Array.replicate_succ, Array.replicate_zero, List.push_toArray, List.append_toArray, List.nil_append, List.cons_append]
  gi_upto_region 2 with fail
  refine wpIn_new fun W1 N1 => ?_
  have r3 := N1.new
  have r1 := N1.old (heap_alloc_new w (.cells #[.int .u32 v0, .slice a1 n1 c1, .slice a2 n2 c2, .int .u32 v3] 28))
  have f1 := ((Fr.refl F0 w).alloc (.cells #[.int .u32 v0, .slice a1 n1 c1, .slice a2 n2 c2, .int .u32 v3] 28)).trans' N1.fr
  rw [World.size_alloc] at r3
  clear N1
  have hg := Lib.hid (show w.heap.size ≤ w.heap.size + 1 by omega)
  obtain ⟨g3, hg3⟩ : ∃ g, g = w.heap.size + 1 := ⟨_, rfl⟩
  obtain ⟨g1, hg1⟩ : ∃ g, g = w.heap.size := ⟨_, rfl⟩
  rw [← hg3] at r3 ⊢
  rw [← hg1] at r1 ⊢
  replace hg3 := Lib.hid hg3
  replace hg1 := Lib.hid hg1
  clear hg
  gi_wp2
  refine ⟨trivial, ?_⟩
  (with_reducible refine (callsIn_wide.2 (HCh.out _)).mono ?_); rintro e w2 ⟨b2, b3, rfl, r5, r6, f2, _, _⟩
  replace r3 := keep_fr f2 r3
  have F := f1.trans' f2
  clear r1 f1 f2 HCh
  gi_wp2
  have hwz := Lib.hid F.size
  have h3l := Lib.hid (Array.getElem?_eq_some_iff.1 r3).1
  have h56 := Lib.hid (And.intro (Array.getElem?_eq_some_iff.1 r5).1 (Array.getElem?_eq_some_iff.1 r6).1)
  rw [← hc.out] at r5
  have hOI : OwnFrom w2.heap.size (fun (pre : List Ch) W' => ((W'.heap[b2]? = some (.cells t.cells 28 (0, 0)) ∧ W'.heap[b3]? = some (.cells #[.func (.func 42) #[] #[]] 90 (0, 0))) ∧ TagI w2.heap.size g3 (pre.map Ch.tg) W') ∧ Below w.heap.size w2 W') :=
    OwnFrom.and (OwnFrom.and (OwnFrom.and (own_heap (β := List Ch) w2.heap.size b2 (fun _ => t.cells) 28 (0, 0)) (own_heap (β := List Ch) w2.heap.size b3 (fun _ => #[.func (.func 42) #[] #[]]) 90 (0, 0))) (fun s A D row h hgr hr => TagI.own h hgr hr)) (own_below (β := List Ch) w2.heap.size w.heap.size w2 (Nat.le_refl _) hwz.out)
  have hFr := Lib.hid (show ∀ W', Below w.heap.size w2 W' → Fr F0 w W' from fun W' b => F.trans (Fr.of_below' b) fun i hi hk => by omega)
  refine range_lawO (gf := 70) (lb := #[.pointer (some ⟨b2, 0, none⟩), .pointer (some ⟨b3, 0, none⟩)]) rfl (enters_of Try.func70 (by kernel_rfl) rfl) (HQ.out b2 b3) (fun _ => rfl) (fun _ _ => trivial) (fun _ _ => trivial)
    (fun (pre : List Ch) W' => ((W'.heap[b2]? = some (.cells t.cells 28 (0, 0)) ∧ W'.heap[b3]? = some (.cells #[.func (.func 42) #[] #[]] 90 (0, 0))) ∧ TagI w2.heap.size g3 (pre.map Ch.tg) W') ∧ Below w.heap.size w2 W')
    (fun _ _ _ => False)
    hOI (fun cc => own_pure _ _)
    (fun pre W' h => ⟨⟨h.1.1.1, h.1.1.2, HT.out.outs.fr (hFr.out _ h.2)⟩, trivial⟩)
    ⟨⟨⟨r5, r6⟩, ⟨_, r3, OwnTs.nil _ _⟩⟩, Below.refl _ _⟩
    (fun pre x a' W' => ∃ g4 v, a' = { tmps := #[.agg #[.int .u32 v0, .slice a1 n1 c1, .slice a2 n2 c2, .int .u32 v3], .pointer (some ⟨g1, 0, none⟩), Value.nilFunc, .pointer (some ⟨g3, 0, none⟩), .pointer (some ⟨g4, 0, none⟩), .agg #[.int .u32 v0, .slice a1 n1 c1, .slice a2 n2 c2, .int .u32 v3], .func (.func 70) #[] #[.pointer (some ⟨b2, 0, none⟩), .pointer (some ⟨b3, 0, none⟩)], .agg x.lk, .int .u64 (x.x.m.py : Int), undef, undef, undef, undef, undef, undef], defers := [] } ∧ W'.heap[g4]? = some (.cells x.lk 58 (0, 0)) ∧ W'.heap[g3]? = some (.cells #[v] 93 (0, 0)) ∧ OwnTs w2.heap.size W' v (pre.map Ch.tg) ∧ x.tg.Ok W' ∧ (x.tg.bs ≠ [] → ∀ k, ablk x.a = some k → w2.heap.size ≤ k ∧ v.ownBlock ≠ some k) ∧ pre.length ≤ 70)
    (fun pre x a' s A D row h hgr hr => by
      obtain ⟨g4, v, e, h4, h3, ho, hb, hn, hl⟩ := h
      exact ⟨g4, v, e, own_cs h4 hgr hr, own_cs h3 hgr hr, own_ts ho hgr hr, own_bs hb hgr hr, hn, hl⟩) ?assign ?body ?done ?stop
  case assign =>
    intro l2 pre x W0 W' K hi0 f0 hn hK
    have sz : x.lk.size = 22 := (LkC.of (lkP_len _) _).size
    have on : rowOne x.lk := lkC_one
    gi_wp2
    refine any_put (P := K _) fun W4 N4 => ?_
    have hi4 := own_frI hOI hi0 (f0.trans' N4.fr)
    refine hK _ _ (N4.fr.keepsFrom _) trivial hi4 ?_
    obtain ⟨v, q3, ho⟩ := hi4.1.2
    obtain ⟨v', q3', ho'⟩ := hi0.1.2
    have ev : v' = v := by
      have := keep_fr (f0.trans' N4.fr) q3'
      rw [q3] at this
      simpa using this.symm
    subst ev
    obtain ⟨k, hk, e, hp, hpre⟩ := hn.k
    exact ⟨_, v', rfl, N4.new, q3, ho, Bs.fr7 hn.bs N4.fr, fun hne k hk => ⟨Nat.le_trans hi0.2.size (hn.new k hk), fun e => by have := ho'.lt k e; have := hn.new k hk; omega⟩, Nat.le_trans (chs_len hpre) H70.out⟩
  case body =>
    rintro l2 pre x a' W' hi ⟨g4, v, rfl, q4, q3, ho, hb, hn, hl⟩
    obtain ⟨s0, c0, c21, x1⟩ := LkC.of (k := (lkP x.x.m.lk).1) (lkP_len x.x.m.lk) (.slice x.a (lkP x.x.m.lk).2.2.length x.c)
    have hB : w2.heap.size ≤ W'.heap.size := hi.2.size
    obtain ⟨a5, c5, w5, happ, ho5, f5, hs5, hb5⟩ := ho.app x.tg hb hn hB (by simpa using Nat.le_trans hl (by omega)) 93
    rw [List.length_map] at happ ho5
    have ev : x.tg.val = .slice x.a (lkP x.x.m.lk).2.2.length x.c := rfl
    rw [ev] at happ
    have el : x.lk = lkC (lkP x.x.m.lk).1 (lkP x.x.m.lk).2.1 (.slice x.a (lkP x.x.m.lk).2.2.length x.c) := rfl
    rw [← el] at s0 c21
    have hgn : v.ownBlock ≠ some g3 := fun e => by have := ho.blk g3 e; have := h3l.out; omega
    have q35 := f5.keeps (fun e => hgn e) q3
    have q45 : True := trivial
    generalize (lkP x.x.m.lk).2.2.length = ln at *
    generalize x.lk = LK at *
    have d21 := cell_is c21 (by omega)
    clear c0 x1 ev el
    gi_wp2
    have f6 : Fr (fun k => k = g3) w5 (w5.setCell ⟨g3, 0, none⟩ (.slice a5 (pre.length + 1) c5)) := (Fr.refl (fun k => k = g3) w5).setCell (p := ⟨g3, 0, none⟩) (fun _ => rfl) _
    have kp : KeepsFrom w2.heap.size W' w5 := ⟨f5.size, fun k o hk ho2 hc2 => f5.keeps (fun e => row_not (row := some k) (B := w2.heap.size) (fun r e => by cases e; exact ⟨hk, o, ho2, hc2⟩) ho.own k e rfl) ho2⟩
    have p5 := f5.keeps (fun e => by have := ho.blk b2 e; have := h56.out.1; omega) hi.1.1.1
    have p6 := f5.keeps (fun e => by have := ho.blk b3 e; have := h56.out.2; omega) hi.1.1.2
    have n5 : b2 ≠ g3 := fun e => by rw [e, q3] at hi; have := hi.1.1.1; simp at this
    have n6 : b3 ≠ g3 := fun e => by rw [e, q3] at hi; have := hi.1.1.2; simp at this
    refine ⟨kp.trans ((KeepsOthers.setCell w5 ⟨g3, 0, none⟩ _).from _), trivial, ⟨⟨f6.keeps n5 p5, f6.keeps n6 p6⟩, .slice a5 (pre.length + 1) c5, ?_, ?_⟩, ?_⟩
    · rw [heap_setCell_at, q35]; rfl
    · rw [List.map_append]
      refine ho5.frS f6 (fun k hk e => ?_) fun y hy hne k hk e => ?_
      · have := ho5.blk k hk; have := h3l.out; omega
      · have := (ho5.new y hy hne k hk).1; have := h3l.out; omega
    · exact (hi.2.trans (f5.below (Nat.le_trans hwz.out hi.2.size) fun k hk e => by have := ho.blk k e; have := hwz.out; omega)).trans (f6.below (by have := hi.2.size; have := f5.size; have := hwz.out; omega) fun k hk e => by have := hg3.out; omega)
  case done =>
    rintro D ys W' hD hy hi hK
    have h9 := hOI.putObj (.deferred none) hi hD hK rfl
    gi_wp2
    refine ⟨by simp, .inl ⟨_, _, rfl, run_takeDeferred hK, ?_⟩⟩
    refine ⟨_, results_tmp rfl _ _ _, g3, ys.map Ch.tg, rfl, ?_, ?_, hFr.out _ h9.2⟩
    · obtain ⟨v, q3, ho⟩ := h9.1.2
      exact ⟨v, q3, ho.mono hwz.out⟩
    · rw [tagsOf, ← hy, List.map_map, List.map_map]
      rfl
  case stop =>
    rintro D cc pre W' hD h hK
    exact h.elim
end Go.Proofs.Ythoaalnjmklclaa

/- Layer 9 (tx): what Tags' answer tells, one by one. -/
namespace Go.Proofs.Ythoaalnjmklclaa
set_option linter.unusedVariables false
set_option linter.unusedSimpArgs false
open Go.RowKit Go.Shelf

attribute [local go_sem] Oper.semAt_some

/-- What the iterator reads. -/
structure TagV (B g3 : Nat) (v : Value) (l : List TG) (W : World) : Prop where
  at_ : W.heap[g3]? = some (.cells #[v] 93 (0, 0))
  own : OwnTs B W v l
theorem TagV.grown {B B' g3 : Nat} {v : Value} {l : List TG} {A D : World} {row : Option Nat} (h : TagV B g3 v l A) (hg : A.grownBy D row) (hr : ∀ r, row = some r → B' ≤ r ∧ ∃ o : Obj, A.heap[r]? = some o ∧ o.isCells = false) : TagV B g3 v l D := ⟨own_cs h.at_ hg hr, own_ts h.own hg hr⟩
theorem TagV.fr0 {B g3 : Nat} {v : Value} {l : List TG} {W W' : World} (h : TagV B g3 v l W) (f : Fr F0 W W') : TagV B g3 v l W' := ⟨keep_fr f h.at_, h.own.fr0 f⟩
/-- What comes next. -/
structure NextT (l : List TG) (pre : List TG) (x : TG) (W0 W : World) : Prop where
  k : ∃ k, ∃ (hk : k < l.length), x.bs = l[k].bs ∧ pre.map TG.bs = (l.take k).map TG.bs
  ok : x.Ok W
  new : ∀ k, ablk x.a = some k → W0.heap.size ≤ k

set_option maxRecDepth 100000 in
set_option maxHeartbeats 8000000 in
theorem tagsG_seq (B g3 : Nat) (v : Value) (l : List TG) (hl : ∀ x ∈ l, x.bs.length ≤ 1000) :
    SeqO Try.prog 43 #[.pointer (some ⟨g3, 0, none⟩)] (fun x : TG => #[x.val]) (fun _ _ _ => True) (fun _ W => TagV B g3 v l W) (NextT l) (fun xs => xs.map TG.bs = l.map TG.bs) := by
  intro lp J Jx W oJ oX hC hY h0
  refine (callsIn_wide (n := 6)).1 ?_
  refine callsIn_of_wp Try.func43 rfl trivial ?_ rfl
  simp only [Try.ntmps43, List.size_toArray, List.length_cons, List.length_nil, Nat.reduceAdd, Nat.reduceSub, Array.replicate_succ, Array.replicate_zero, List.push_toArray, List.append_toArray, List.nil_append, List.cons_append]
  have hv := (hC _ _ h0)
  obtain ⟨a, c, rfl, hsl⟩ := hv.own.is
  have r3 := hv.at_
  have hm : l.length ≤ 9223372036854775807 := by have h1 := hsl.room; have h2 := hsl.most; unfold maxLen at h2; omega
  have hroom := hsl.room
  have HH := Lib.hid (And.intro oJ (And.intro oX (And.intro hC hY)))
  have HLn := Lib.hid hl
  clear oJ oX hC hY hl hv hsl
  obtain ⟨n, hn⟩ : ∃ n, n = l.length := ⟨_, rfl⟩
  rw [← hn] at r3 hm HH hroom
  replace hn := Lib.hid hn
  gi_wp2
  gi_loopw [7] (fun i wr => ∃ (k : Nat) (pre : List TG), k ≤ n ∧ i = .int .i64 (k : Int) ∧ Hid (pre.map TG.bs = (l.take k).map TG.bs) ∧ J pre wr) (fun i _ => n - (intOf i).toNat)
  case atStart => exact ⟨0, [], Nat.zero_le _, rfl, rfl, h0⟩
  case round =>
    clear r3
    obtain ⟨k, pre, hk, rfl, hpre, hJ⟩ := hrel
    by_cases hlt : k < n
    · have hkl : k < l.length := by have := hn.out; omega
      have hS := HH.out.2.2.1 _ _ hJ
      obtain ⟨a', c', ea, hsl⟩ := hS.own.is
      simp only [Value.slice.injEq] at ea
      obtain ⟨rfl, e2, rfl⟩ := ea
      clear e2
      obtain ⟨bb, off, rfl, hcell⟩ := hsl.cell k (l[k]).val (by rw [List.getElem?_map, List.getElem?_eq_getElem hkl]; rfl)
      rw [cell_at] at hcell
      have hok := hS.own.ok _ (List.getElem_mem hkl)
      have HP := Lib.hid (fun W (f : Fr F0 wr W) => Clone_any l[k].a l[k].bs.length l[k].c l[k].bs W (Bs.fr7 hok f) rfl (by have := HLn.out _ (List.getElem_mem hkl); omega))
      have l1 : (k : Int) < (n : Int) := by omega
      clear hok hS hsl
      obtain ⟨x, hx⟩ : ∃ x, x = l[k] := ⟨_, rfl⟩
      rw [← hx] at hcell HP
      unfold TG.val at hcell
      unfold NewBytes at HP
      obtain ⟨ln, hln⟩ : ∃ n, n = x.bs.length := ⟨_, rfl⟩
      rw [← hln] at hcell HP
      replace hln := Lib.hid hln
      replace hx := Lib.hid hx
      gi_wp2
      refine ⟨trivial, ?_⟩
      (with_reducible refine (callsIn_wide.2 (HP.out _ (Fr.refl F0 wr))).mono ?_); rintro e w2 ⟨a2, c2, rfl, hb2, f2, k2⟩
      have hnx : NextT l pre ⟨x.bs, a2, c2⟩ wr w2 := ⟨⟨k, hkl, by rw [hx.out], hpre.out⟩, hb2, fun k hk => (k2 k hk).1⟩
      obtain ⟨fn, tmps, assign, body, hy, hR⟩ := (HH.out.2.2.2 pre ⟨x.bs, a2, c2⟩ wr w2 hJ f2 hnx).plain (m := 5)
      have eA : (TG.mk x.bs a2 c2).val = .slice a2 ln c2 := by rw [TG.val, ← hln.out]
      rw [eA] at hy
      have HT := Lib.hid (show (pre ++ [(⟨x.bs, a2, c2⟩ : TG)]).map TG.bs = (l.take (k + 1)).map TG.bs by
        rw [List.map_append, hpre.out, List.take_succ_eq_append_getElem hkl, List.map_append, ← hx.out]; rfl)
      clear hnx eA hb2 HP hcell
      gi_wp2
      refine hR.mono ?_
      rintro e W5 (⟨rfl, hJ5, _⟩ | ⟨rfl, hJx, _⟩)
      · gi_wp2
        go_roundw
        case rel => exact ⟨k + 1, pre ++ [⟨x.bs, a2, c2⟩], by omega, by go_num, HT, hJ5⟩
        case measure => simp [intOf]; omega
      · gi_wp2
        refine bodyPost_ret (results_none rfl _ _ _) rfl ?_
        exact ⟨⟨_, rfl⟩, .inr ⟨_, hJx⟩⟩
    · obtain rfl : k = n := by omega
      have hpre' := hpre.out
      rw [hn.out, List.take_length] at hpre'
      gi_wp2
      go_end0
      exact ⟨⟨_, rfl⟩, .inl ⟨_, hpre', hJ⟩⟩
end Go.Proofs.Ythoaalnjmklclaa

/- Layer 9 (tx): all that an iterator of bytes tells, as strings. -/
namespace Go.Proofs.Ythoaalnjmklclaa
set_option linter.unusedVariables false
set_option linter.unusedSimpArgs false
open Go.RowKit Go.Shelf

attribute [local go_sem] Oper.semAt_some

theorem Try.infoStr9 : (Try.prog.info? 9).map (fun i => (i.zero, i.size, i.bytes)) = some (some (.string (strOf [])), 1, 16) := by kernel_rfl
def appSs (ty : TypeId) (args : Array Value) : Sem Value := Builtin.append_ #[53, 53] ty args
@[go_sem ↓ high] theorem app_Ss (ty : TypeId) (args : Array Value) : Builtin.append_ #[53, 53] ty args = appSs ty args := rfl
/-- A string's value. -/
def sv (b : List UInt8) : Value := .string (strOf b)
/-- A list of strings that the call itself has made: its block is B or a later one. -/
structure OwnSs (B : Nat) (w : World) (v : Value) (l : List (List UInt8)) : Prop where
  own : w.ownsRow 0 9 1 v l.length (l.map sv)
  blk : ∀ k, v.ownBlock = some k → B ≤ k
theorem OwnSs.nil (B : Nat) (w : World) : OwnSs B w (.slice none 0 0) [] := ⟨World.ownsRow_nil _ _ _ _, fun k h => (by cases h)⟩
theorem OwnSs.frS {B : Nat} {S : Nat → Prop} {w w' : World} {v : Value} {l : List (List UInt8)} (h : OwnSs B w v l) (f : Fr S w w') (h1 : ∀ k, v.ownBlock = some k → ¬ S k) : OwnSs B w' v l := ⟨own_fr h.own f h1, h.blk⟩
theorem OwnSs.fr0 {B : Nat} {w w' : World} {v : Value} {l : List (List UInt8)} (h : OwnSs B w v l) (f : Fr F0 w w') : OwnSs B w' v l := h.frS f fun _ _ e => e
theorem OwnSs.lt {B : Nat} {w : World} {v : Value} {l : List (List UInt8)} (h : OwnSs B w v l) : ∀ k, v.ownBlock = some k → k < w.heap.size := fun k hk => (World.ownsRow.lt h.own k hk).2
theorem OwnSs.mono {B B' : Nat} {w : World} {v : Value} {l : List (List UInt8)} (h : OwnSs B w v l) (hb : B' ≤ B) : OwnSs B' w v l := ⟨h.own, fun k hk => Nat.le_trans hb (h.blk k hk)⟩
theorem OwnSs.is {B : Nat} {w : World} {v : Value} {l : List (List UInt8)} (h : OwnSs B w v l) : ∃ a c, v = .slice a l.length c ∧ Sl w 1 a c l.length (l.map sv) := by
  obtain ⟨a, c, rfl⟩ := own_slice h.own
  exact ⟨a, c, rfl, (Sl.of_own h.own).2⟩
theorem OwnSs.grown {B B' : Nat} {v : Value} {l : List (List UInt8)} {A D : World} {row : Option Nat} (h : OwnSs B A v l) (hg : A.grownBy D row) (hr : ∀ r, row = some r → B' ≤ r ∧ ∃ o : Obj, A.heap[r]? = some o ∧ o.isCells = false) : OwnSs B D v l := h.frS (grown_fr hg) (row_not hr h.own)
/-- One more. -/
theorem OwnSs.app {B : Nat} {w : World} {v : Value} {l : List (List UInt8)} (h : OwnSs B w v l) (x : List UInt8) (hB : B ≤ w.heap.size) (hl : l.length ≤ 100000) (ty : TypeId) :
    ∃ a c w', (appSs ty #[v, .slice (some ⟨w.heap.size, 0, none⟩) 1 1]).run Try.prog (w.alloc (.cells #[sv x] 9)) = .ok (.slice a (l.length + 1) c) w' ∧ OwnSs B w' (.slice a (l.length + 1) c) (l ++ [x]) ∧
      Fr (fun k => v.ownBlock = some k) w w' ∧ w.heap.size < w'.heap.size := by
  obtain ⟨i0, hi, hz, hs, hb⟩ := info_parts Try.infoStr9
  obtain ⟨W, hW⟩ : ∃ W, W = w.alloc (.cells #[sv x] 9) := ⟨_, rfl⟩
  have hnew := heap_alloc_new w (.cells #[sv x] 9)
  have fW : Fr F0 w W := by rw [hW]; exact (Fr.refl F0 w).alloc _
  have sW : W.heap.size = w.heap.size + 1 := by rw [hW]; simp
  rw [← hW] at hnew ⊢
  have hsl : Sl W 1 (some ⟨w.heap.size, 0, none⟩) 1 1 [sv x] := ⟨rfl, Nat.le_refl _, by unfold maxLen; omega, (fun e => by cases e), fun j u hj => ⟨_, _, rfl, by rw [cell_at, hnew, cellAt_cells, Nat.zero_add]; simpa using hj⟩⟩
  obtain ⟨v', w', hrun, hown, hg, hnw⟩ := run_app (P := Try.prog) (w := W) 53 ty 9 i0 _ 1 16 Try.underlying53 hi hz hs hb rfl (by omega) v l.length _ (own_fr h.own fW fun _ _ f => f) (some ⟨w.heap.size, 0, none⟩) 1 1 [sv x] hsl
    (by intro u hu; rw [List.mem_singleton] at hu; subst hu; rfl) (by unfold maxLen; omega) (by omega)
  obtain ⟨a, c, rfl⟩ := own_slice hown
  refine ⟨a, c, w', hrun, ⟨?_, fun k hk => ?_⟩, (fW.of0).grown hg fun k hk hl => hk, by have := hg.size; omega⟩
  · rw [List.length_append, List.map_append]
    simpa using hown
  · rcases hnw k hk with e | e
    · exact h.blk k e
    · omega

set_option maxRecDepth 100000 in
set_option maxHeartbeats 8000000 in
theorem all09_any (B g3 : Nat) (v : Value) (l : List TG) (w : World) (h : TagV B g3 v l w) (hl : ∀ x ∈ l, x.bs.length ≤ 1000) (h70 : l.length ≤ 70) :
    Calls Try.prog 17 #[.func (.func 43) #[] #[.pointer (some ⟨g3, 0, none⟩)]] w fun e w' => ∃ s, e = .returned s ∧ OwnSs w.heap.size w' s (l.map TG.bs) ∧ Fr F0 w w' := by
  have hmf : ∀ (fn : Fn) (first cap : Array Value) (w : World), (Instr.makeFunc fn first cap).run Try.prog w = .ok (.func fn first cap) w := fun _ _ _ _ => rfl
  have HT := Lib.hid h
  have H70 := Lib.hid h70
  have HQ := Lib.hid (tagsG_seq B g3 v l hl)
  clear h hl h70
  refine callsIn_wide (n := 6) |>.1 ?_
  refine callsIn_of_wp_marks Try.func17 rfl trivial ?_ rfl
  simp only [Try.ntmps17, List.size_toArray, List.length_cons, List.length_nil, Nat.reduceAdd, Nat.reduceSub, Array.replicate_succ, Array.replicate_zero, List.push_toArray, List.append_toArray, List.nil_append, List.cons_append]
  gi_upto_region 2 with fail
  refine wpIn_new fun W1 N1 => ?_
  have r3 := N1.new
  have F := N1.fr
  clear N1
  obtain ⟨gs, hgs⟩ : ∃ g, g = w.heap.size := ⟨_, rfl⟩
  rw [← hgs] at r3 ⊢
  replace hgs := Lib.hid hgs
  have hsl := Lib.hid (Array.getElem?_eq_some_iff.1 r3).1
  have hwz := Lib.hid F.size
  gi_wp2
  have hOI : OwnFrom W1.heap.size (fun (pre : List TG) W' => (∃ s, W'.heap[gs]? = some (.cells #[s] 53 (0, 0)) ∧ OwnSs W1.heap.size W' s (pre.map TG.bs)) ∧ Below w.heap.size W1 W') :=
    OwnFrom.and (fun sx A D row h hgr hr => by
      obtain ⟨s, h1, h2⟩ := h
      exact ⟨s, own_cs h1 hgr hr, h2.grown hgr hr⟩) (own_below (β := List TG) W1.heap.size w.heap.size W1 (Nat.le_refl _) hwz.out)
  have hFr := Lib.hid (show ∀ W', Below w.heap.size W1 W' → Fr F0 w W' from fun W' b => F.trans (Fr.of_below' b) fun i hi hk => by omega)
  refine range_lawO (gf := 43) (lb := #[.pointer (some ⟨g3, 0, none⟩)]) rfl (enters_of Try.func43 (by kernel_rfl) rfl) HQ.out (fun _ => rfl) (fun _ _ => trivial) (fun _ _ => trivial)
    (fun (pre : List TG) W' => (∃ s, W'.heap[gs]? = some (.cells #[s] 53 (0, 0)) ∧ OwnSs W1.heap.size W' s (pre.map TG.bs)) ∧ Below w.heap.size W1 W')
    (fun _ _ _ => False)
    hOI (fun cc => own_pure _ _)
    (fun pre W' h => HT.out.fr0 (hFr.out _ h.2))
    ⟨⟨_, r3, OwnSs.nil _ _⟩, Below.refl _ _⟩
    (fun pre x a' W' => ∃ s, a' = { tmps := #[.func (.func 43) #[] #[.pointer (some ⟨g3, 0, none⟩)], undef, .slice none 0 0, .pointer (some ⟨gs, 0, none⟩), x.val, .func (.func 43) #[] #[.pointer (some ⟨g3, 0, none⟩)], x.val, undef, undef, undef, undef, undef, undef], defers := [] } ∧ W'.heap[gs]? = some (.cells #[s] 53 (0, 0)) ∧ OwnSs W1.heap.size W' s (pre.map TG.bs) ∧ x.Ok W' ∧ pre.length ≤ 70)
    (fun pre x a' sx A D row h hgr hr => by
      obtain ⟨s, e, h3, ho, hb, hl⟩ := h
      exact ⟨s, e, own_cs h3 hgr hr, ho.grown hgr hr, own_bs hb hgr hr, hl⟩) ?assign ?body ?done ?stop
  case assign =>
    intro l2 pre x W0 W' K hi0 f0 hn hK
    gi_wp2
    have hi4 := own_frI hOI hi0 f0
    refine hK _ _ (KeepsFrom.refl _ _) trivial hi4 ?_
    obtain ⟨s, q3, ho⟩ := hi4.1
    obtain ⟨k, hk, e, hpre⟩ := hn.k
    have hpl := congrArg List.length hpre
    simp only [List.length_map, List.length_take] at hpl
    exact ⟨s, rfl, q3, ho, hn.ok, by have := H70.out; omega⟩
  case body =>
    rintro l2 pre x a' W' hi ⟨s, rfl, q3, ho, hb, hl⟩
    have hB : W1.heap.size ≤ W'.heap.size := hi.2.size
    obtain ⟨a5, c5, w5, happ, ho5, f5, hs5⟩ := ho.app x.bs hB (by simpa using Nat.le_trans hl (by omega)) 53
    rw [List.length_map] at happ ho5
    have hcv := bs_str7 hb rfl
    have hgn : s.ownBlock ≠ some gs := fun e => by have := ho.blk gs e; have := hsl.out; omega
    have q35 := f5.keeps (fun e => hgn e) q3
    unfold sv at happ
    unfold TG.val
    generalize x.bs.length = ln at *
    gi_wp2
    have f6 : Fr (fun k => k = gs) w5 (w5.setCell ⟨gs, 0, none⟩ (.slice a5 (pre.length + 1) c5)) := (Fr.refl (fun k => k = gs) w5).setCell (p := ⟨gs, 0, none⟩) (fun _ => rfl) _
    have kp : KeepsFrom W1.heap.size W' w5 := ⟨f5.size, fun k o hk ho2 hc2 => f5.keeps (fun e => row_not (row := some k) (B := W1.heap.size) (fun r e => by cases e; exact ⟨hk, o, ho2, hc2⟩) ho.own k e rfl) ho2⟩
    refine ⟨kp.trans ((KeepsOthers.setCell w5 ⟨gs, 0, none⟩ _).from _), trivial, ⟨.slice a5 (pre.length + 1) c5, ?_, ?_⟩, ?_⟩
    · rw [heap_setCell_at, q35]; rfl
    · rw [List.map_append]
      refine ho5.frS f6 (fun k hk e => ?_)
      have := ho5.blk k hk; have := hsl.out; omega
    · exact (hi.2.trans (f5.below (Nat.le_trans hwz.out hi.2.size) fun k hk e => by have := ho.blk k e; have := hwz.out; omega)).trans (f6.below (by have := hi.2.size; have := f5.size; have := hwz.out; omega) fun k hk e => by have := hgs.out; omega)
  case done =>
    rintro D ys W' hD hy hi hK
    have h9 := hOI.putObj (.deferred none) hi hD hK rfl
    obtain ⟨s, q3, ho⟩ := hi.1
    gi_wp2
    refine ⟨by simp, .inl ⟨_, _, rfl, run_takeDeferred hK, ?_⟩⟩
    refine ⟨_, results_tmp rfl _ _ _, s, rfl, ?_, hFr.out _ h9.2⟩
    obtain ⟨s', q3', ho'⟩ := h9.1
    have es : s' = s := by
      have hDg : D ≠ gs := fun e => by have := hsl.out; omega
      rw [World.putObj_heap_other (fun e => hDg e.symm), q3] at q3'
      simpa using q3'.symm
    subst es
    rw [hy] at ho'
    exact ho'.mono hwz.out
  case stop =>
    rintro D cc pre W' hD h hK
    exact h.elim
end Go.Proofs.Ythoaalnjmklclaa
