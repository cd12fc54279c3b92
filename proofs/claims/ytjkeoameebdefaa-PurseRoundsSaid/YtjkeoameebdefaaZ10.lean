import Derived.Test.YtjkeoameebdefaaZ8
import Derived.Test.YtjkeoameebdefaaZ5
import Derived.RangeFuncFrom
import Derived.Test.YtjkeoameebdefaaZ9
import Derived.Test.YtjkeoameebdefaaZ1
import Derived.Great.FillDense
import Derived.Great.BuildSlice
/- Lists that a call makes for itself, of elements of any size; slices.AppendSeq and Collect of a map's parties. -/
namespace Go.Proofs.Ytjkeoameebdefaa
set_option maxRecDepth 100000
set_option linter.unusedVariables false
set_option linter.unusedSimpArgs false
open Go.RowKit Go.Shelf

attribute [local go_sem] Oper.semAt_some

theorem own_frE {S : Nat → Prop} {w w' : World} {base e size n : Nat} {v : Value} {xs : List Value} (h : w.ownsRow base e size v n xs) (hf : Fr S w w') (hs : ∀ k, v.ownBlock = some k → ¬ S k) : w'.ownsRow base e size v n xs := by
  refine ⟨h.1, ?_⟩
  rcases h.2 with hn | ⟨g, cap, cur, rfl, hb, hg, r⟩
  · exact .inl hn
  · exact .inr ⟨g, cap, cur, rfl, hb, hf.keeps (hs g rfl) hg, r⟩
theorem grown_frE {A D : World} {row : Option Nat} (hg : A.grownBy D row) : Fr (fun k => row = some k) A D := (Fr.refl _ A).grown hg fun k hk _ => hk
theorem cell_notE {A : World} {B : Nat} {row : Option Nat} {k : Nat} {cs : Array Value} {t : TypeId} {fr : Nat × Nat} (hr : ∀ r, row = some r → B ≤ r ∧ ∃ o : Obj, A.heap[r]? = some o ∧ o.isCells = false) (h : A.heap[k]? = some (.cells cs t fr)) : ¬ row = some k := fun e => by
  obtain ⟨_, o, ho, hc⟩ := hr k e
  rw [h] at ho
  cases ho
  cases hc
theorem row_notE {A : World} {B : Nat} {row : Option Nat} {e0 size n : Nat} {v : Value} {xs : List Value} (hr : ∀ r, row = some r → B ≤ r ∧ ∃ o : Obj, A.heap[r]? = some o ∧ o.isCells = false) (h : A.ownsRow 0 e0 size v n xs) : ∀ k, v.ownBlock = some k → ¬ row = some k := fun k hk => by
  rcases h.2 with ⟨rfl, _⟩ | ⟨g, cap, cur, rfl, _, hg, _⟩
  · cases hk
  · cases hk
    exact cell_notE hr hg
theorem own_csE {A D : World} {B : Nat} {row : Option Nat} {k : Nat} {cs : Array Value} {t : TypeId} {fr : Nat × Nat} (hs : A.heap[k]? = some (.cells cs t fr)) (hg : A.grownBy D row) (hr : ∀ r, row = some r → B ≤ r ∧ ∃ o : Obj, A.heap[r]? = some o ∧ o.isCells = false) : D.heap[k]? = some (.cells cs t fr) := (grown_frE hg).keeps (cell_notE hr hs) hs

/-- A list that the call itself has made: its block is B or a later one. -/
structure OwnE {α : Type} (e size : Nat) (enc : α → List Value) (B : Nat) (w : World) (v : Value) (l : List α) : Prop where
  own : w.ownsRow 0 e size v l.length (l.flatMap enc)
  blk : ∀ k, v.ownBlock = some k → B ≤ k
section
variable {α : Type} {e size : Nat} {enc : α → List Value}
theorem OwnE.nil (B : Nat) (w : World) : OwnE e size enc B w (.slice none 0 0) [] := ⟨World.ownsRow_nil _ _ _ _, fun k h => (by cases h)⟩
theorem OwnE.frS {B : Nat} {S : Nat → Prop} {w w' : World} {v : Value} {l : List α} (h : OwnE e size enc B w v l) (f : Fr S w w') (h1 : ∀ k, v.ownBlock = some k → ¬ S k) : OwnE e size enc B w' v l := ⟨own_frE h.own f h1, h.blk⟩
theorem OwnE.fr0 {B : Nat} {w w' : World} {v : Value} {l : List α} (h : OwnE e size enc B w v l) (f : Fr F0 w w') : OwnE e size enc B w' v l := h.frS f fun _ _ e => e
theorem OwnE.lt {B : Nat} {w : World} {v : Value} {l : List α} (h : OwnE e size enc B w v l) : ∀ k, v.ownBlock = some k → k < w.heap.size := fun k hk => (World.ownsRow.lt h.own k hk).2
theorem OwnE.mono {B B' : Nat} {w : World} {v : Value} {l : List α} (h : OwnE e size enc B w v l) (hb : B' ≤ B) : OwnE e size enc B' w v l := ⟨h.own, fun k hk => Nat.le_trans hb (h.blk k hk)⟩
theorem OwnE.is {B : Nat} {w : World} {v : Value} {l : List α} (h : OwnE e size enc B w v l) : ∃ a c, v = .slice a l.length c ∧ Sl w size a c l.length (l.flatMap enc) := by
  obtain ⟨a, c, rfl⟩ := own_slice h.own
  exact ⟨a, c, rfl, (Sl.of_own h.own).2⟩
theorem OwnE.grown {B B' : Nat} {v : Value} {l : List α} {A D : World} {row : Option Nat} (h : OwnE e size enc B A v l) (hg : A.grownBy D row) (hr : ∀ r, row = some r → B' ≤ r ∧ ∃ o : Obj, A.heap[r]? = some o ∧ o.isCells = false) : OwnE e size enc B D v l := h.frS (grown_frE hg) (row_notE hr h.own)
/-- One more. -/
theorem OwnE.app {P : Program} {st ty bytes : Nat} {i : TypeInfo} {z : Value} (hu : P.underlying st = some (.slice e)) (hi : P.info? e = some i) (hz : i.zero = some z) (hs : i.size = size) (hb : i.bytes = bytes) (hzs : z.cells.size = size) (h0 : 0 < size) (hby : bytes ≤ 1000) (hsz : size ≤ 1000)
    {B : Nat} {w : World} {v : Value} {l : List α} (h : OwnE e size enc B w v l) (x : α) (hx : (enc x).length = size) (h1 : ∀ u ∈ enc x, u.oneCell' = true) (hB : B ≤ w.heap.size) (hl : l.length ≤ 100000) :
    ∃ a c w', (Builtin.append_ #[st, st] ty #[v, .slice (some ⟨w.heap.size, 0, none⟩) 1 1]).run P (w.alloc (.cells (enc x).toArray e)) = .ok (.slice a (l.length + 1) c) w' ∧ OwnE e size enc B w' (.slice a (l.length + 1) c) (l ++ [x]) ∧
      Fr (fun k => v.ownBlock = some k) w w' ∧ w.heap.size < w'.heap.size := by
  obtain ⟨W, hW⟩ : ∃ W, W = w.alloc (.cells (enc x).toArray e) := ⟨_, rfl⟩
  have hnew := heap_alloc_new w (.cells (enc x).toArray e)
  have fW : Fr F0 w W := by rw [hW]; exact (Fr.refl F0 w).alloc _
  have sW : W.heap.size = w.heap.size + 1 := by rw [hW]; simp
  rw [← hW] at hnew ⊢
  have hsl : Sl W size (some ⟨w.heap.size, 0, none⟩) 1 1 (enc x) := ⟨by omega, Nat.le_refl _, by unfold maxLen; omega, (fun e => by cases e), fun j u hj => ⟨_, _, rfl, by rw [cell_at, hnew, cellAt_cells, Nat.zero_add]; simpa using hj⟩⟩
  have hbb : (l.length + 1) * bytes ≤ 140737488355328 := Nat.le_trans (Nat.mul_le_mul (show l.length + 1 ≤ 100001 by omega) hby) (by decide)
  obtain ⟨v', w', hrun, hown, hg, hnw⟩ := run_app (P := P) (w := W) st ty e i _ size bytes hu hi hz hs hb hzs h0 v l.length _ (own_frE h.own fW fun _ _ f => f) (some ⟨w.heap.size, 0, none⟩) 1 1 (enc x) hsl
    h1 (by unfold maxLen; omega) hbb
  obtain ⟨a, c, rfl⟩ := own_slice hown
  refine ⟨a, c, w', hrun, ⟨?_, fun k hk => ?_⟩, (fW.of0).grown hg fun k hk hl => hk, by have := hg.size; omega⟩
  · rw [List.length_append, List.flatMap_append]
    simpa using hown
  · rcases hnw k hk with e | e
    · exact h.blk k e
    · omega
end

theorem Try.infoWho : (Try.prog.info? 23).map (fun i => (i.zero, i.size, i.bytes)) = some (some (.int .u8 0), 1, 1) := by kernel_rfl
def appWs (ty : TypeId) (args : Array Value) : Sem Value := Builtin.append_ #[70, 70] ty args
@[go_sem ↓ high] theorem app_Ws (ty : TypeId) (args : Array Value) : Builtin.append_ #[70, 70] ty args = appWs ty args := rfl
def encW (x : Nat) : List Value := [.int .u8 (x : Int)]
abbrev OwnW (B : Nat) (w : World) (v : Value) (l : List Nat) : Prop := OwnE 23 1 encW B w v l
theorem OwnW.app {B : Nat} {w : World} {v : Value} {l : List Nat} (h : OwnW B w v l) (x : Nat) (hB : B ≤ w.heap.size) (hl : l.length ≤ 100000) (ty : TypeId) :
    ∃ a c w', (appWs ty #[v, .slice (some ⟨w.heap.size, 0, none⟩) 1 1]).run Try.prog (w.alloc (.cells #[.int .u8 (x : Int)] 23)) = .ok (.slice a (l.length + 1) c) w' ∧ OwnW B w' (.slice a (l.length + 1) c) (l ++ [x]) ∧
      Fr (fun k => v.ownBlock = some k) w w' ∧ w.heap.size < w'.heap.size := by
  obtain ⟨i0, hi, hz, hs, hb⟩ := info_parts Try.infoWho
  exact OwnE.app Try.underlying70 hi hz hs hb rfl (by decide) (by decide) (by decide) h x rfl (by intro u hu; simp only [encW, List.mem_singleton] at hu; subst hu; rfl) hB hl

theorem wpIn_newE {F : Fence} {n : Nat} {P : Program} {c : Code} {Q : Exit → Act → World → Prop} {a : Act} {w : World} {z : Array Value} {t : TypeId} (k : ∀ W, NewRow w W w.heap.size z t → Code.wpIn F n P c Q a W) : Code.wpIn F n P c Q a (w.alloc (.cells z t)) := k _ ⟨heap_alloc_new _ _, fun h => keep_alloc h, (Fr.refl F0 w).alloc _, fun h => by have := (Array.getElem?_eq_some_iff.1 h).1; omega⟩

set_option maxRecDepth 100000 in
set_option maxHeartbeats 8000000 in
theorem AppSeq8_map (gf : Nat) (lb : Array Value) (C : List Nat → World → Prop) (Nx : List Nat → Nat → World → World → Prop) (S : List Nat → Prop) (w : World) (eg : ∀ args w, (callFunc gf args).run Try.prog w = .ok (.enter gf args) w)
    (hseq : SeqM Try.prog gf lb encK Kbm C Nx S) (hC : ∀ pre W, Fr F0 w W → C pre W) (hlen : ∀ pre x W0 W1, Nx pre x W0 W1 → pre.length ≤ 100000) :
    Calls Try.prog 54 #[.slice none 0 0, .func (.func gf) #[] lb] w fun e w' => ∃ s xs, e = .returned s ∧ OwnW w.heap.size w' s xs ∧ S xs ∧ Fr F0 w w' := by
  have hmf : ∀ (fn : Fn) (first cap : Array Value) (w : World), (Instr.makeFunc fn first cap).run Try.prog w = .ok (.func fn first cap) w := fun _ _ _ _ => rfl
  have HC := Lib.hid (And.intro hC hlen)
  clear hC hlen
  refine callsIn_wide (n := 6) |>.1 ?_
  refine callsIn_of_wp_marks Try.func54 rfl trivial ?_ rfl
  simp only [Try.ntmps54, List.size_toArray, List.length_cons, List.length_nil, Nat.reduceAdd, Nat.reduceSub, Array.replicate_succ, Array.replicate_zero, List.push_toArray, List.append_toArray, List.nil_append, List.cons_append]
  gi_upto_region 1 with fail
  refine wpIn_newE fun W1 N1 => ?_
  have r3 := N1.new
  have F := N1.fr
  clear N1
  obtain ⟨gs, hgs⟩ : ∃ g, g = w.heap.size := ⟨_, rfl⟩
  rw [← hgs] at r3 ⊢
  replace hgs := Lib.hid hgs
  have hsl := Lib.hid (Array.getElem?_eq_some_iff.1 r3).1
  have hwz := Lib.hid F.size
  gi_wp2
  have hOI : OwnFrom W1.heap.size (fun (pre : List Nat) W' => (∃ s, W'.heap[gs]? = some (.cells #[s] 70 (0, 0)) ∧ OwnW (W1.heap.size + 3) W' s pre) ∧ Below w.heap.size W1 W') :=
    OwnFrom.and (fun sx A D row h hgr hr => by
      obtain ⟨s, h1, h2⟩ := h
      exact ⟨s, own_csE h1 hgr hr, h2.grown hgr hr⟩) (own_below (β := List Nat) W1.heap.size w.heap.size W1 (Nat.le_refl _) hwz.out)
  have hFr := Lib.hid (show ∀ W', Below w.heap.size W1 W' → Fr F0 w W' from fun W' b => F.trans (Fr.of_below' b) fun i hi hk => by omega)
  refine range_lawM (gf := gf) (lb := lb) rfl eg hseq (fun _ => rfl) Kbm.trans (fun W o => Kbm.put (by omega))
    (fun (pre : List Nat) W' => (∃ s, W'.heap[gs]? = some (.cells #[s] 70 (0, 0)) ∧ OwnW (W1.heap.size + 3) W' s pre) ∧ Below w.heap.size W1 W')
    (fun _ _ _ => False)
    hOI (fun cc => own_pure _ _)
    (fun pre W' h => HC.out.1 _ _ (hFr.out _ h.2))
    ?map
    ⟨⟨_, r3, OwnE.nil _ _⟩, Below.refl _ _⟩
    (fun pre x a' W' => ∃ s, a' = { tmps := #[.slice none 0 0, .func (.func gf) #[] lb, .pointer (some ⟨gs, 0, none⟩), undef, .slice none 0 0, .int .u8 (x : Int), .func (.func gf) #[] lb, .int .u8 (x : Int), undef, undef, undef, undef, undef], defers := [] } ∧ W'.heap[gs]? = some (.cells #[s] 70 (0, 0)) ∧ OwnW (W1.heap.size + 3) W' s pre ∧ pre.length ≤ 100000 ∧ W1.heap.size + 2 < W'.heap.size)
    (fun pre x a' sx A D row h hgr hr => by
      obtain ⟨s, e, h3, ho, hl, hz⟩ := h
      exact ⟨s, e, own_csE h3 hgr hr, ho.grown hgr hr, hl, Nat.lt_of_lt_of_le hz hgr.size⟩) ?assign ?body ?done ?stop
  case map =>
    rintro pre A A' ⟨⟨s, h1, h2⟩, hB⟩ hf hA
    exact ⟨⟨s, hf.keeps (fun e => by have := hsl.out; omega) h1, h2.frS hf fun k hk e => by have := h2.blk k hk; omega⟩, hB.trans (hf.below (Nat.le_trans hwz.out hB.size) (fun k hk e => by have := hwz.out; omega))⟩
  case assign =>
    intro l2 pre x W0 W' K hi0 f0 hsz hn hK
    gi_wp2
    have hi4 := own_frI hOI hi0 f0
    refine hK _ _ (KeepsFrom.refl _ _) (fun o ho => ho) hi4 ?_
    obtain ⟨s, q3, ho⟩ := hi4.1
    exact ⟨s, rfl, q3, ho, HC.out.2 _ _ _ _ hn, hsz⟩
  case body =>
    rintro l2 pre x a' W' hi ⟨s, rfl, q3, ho, hl, hz⟩
    obtain ⟨a5, c5, w5, happ, ho5, f5, hs5⟩ := ho.app x hz hl 70
    have hgn : s.ownBlock ≠ some gs := fun e => by have := ho.blk gs e; have := hsl.out; omega
    have q35 := f5.keeps (fun e => hgn e) q3
    gi_wp2
    have f6 : Fr (fun k => k = gs) w5 (w5.setCell ⟨gs, 0, none⟩ (.slice a5 (pre.length + 1) c5)) := (Fr.refl (fun k => k = gs) w5).setCell (p := ⟨gs, 0, none⟩) (fun _ => rfl) _
    have kp : KeepsFrom W1.heap.size W' w5 := ⟨f5.size, fun k o hk ho2 hc2 => f5.keeps (fun e => row_notE (row := some k) (B := W1.heap.size) (fun r e => by cases e; exact ⟨hk, o, ho2, hc2⟩) ho.own k e rfl) ho2⟩
    have kb : Kbm (W1.heap.size + 2) W' (w5.setCell ⟨gs, 0, none⟩ (.slice a5 (pre.length + 1) c5)) := fun o ho2 => f6.keeps (fun e => by have := hsl.out; omega) (f5.keeps (fun e => by have := ho.blk _ e; omega) ho2)
    refine ⟨kp.trans ((KeepsOthers.setCell w5 ⟨gs, 0, none⟩ _).from _), kb, ⟨.slice a5 (pre.length + 1) c5, ?_, ?_⟩, ?_⟩
    · rw [heap_setCell_at, q35]; rfl
    · refine ho5.frS f6 (fun k hk e => ?_)
      have := ho5.blk k hk; have := hsl.out; omega
    · exact (hi.2.trans (f5.below (Nat.le_trans hwz.out hi.2.size) fun k hk e => by have := ho.blk k e; have := hwz.out; omega)).trans (f6.below (by have := hi.2.size; have := f5.size; have := hwz.out; omega) fun k hk e => by have := hgs.out; omega)
  case done =>
    rintro D ys W' hD hy hi hK
    have h9 := hOI.putObj (.deferred none) hi hD hK rfl
    obtain ⟨s, q3, ho⟩ := hi.1
    gi_wp2
    refine ⟨by simp, .inl ⟨_, _, rfl, run_takeDeferred hK, ?_⟩⟩
    refine ⟨_, results_tmp rfl _ _ _, s, ys, rfl, ?_, hy, hFr.out _ h9.2⟩
    obtain ⟨s', q3', ho'⟩ := h9.1
    have es : s' = s := by
      have hDg : D ≠ gs := fun e => by have := hsl.out; omega
      rw [World.putObj_heap_other (fun e => hDg e.symm), q3] at q3'
      simpa using q3'.symm
    subst es
    exact ho'.mono (by have := hwz.out; omega)
  case stop =>
    rintro D cc pre W' hD h hK
    exact h.elim
end Go.Proofs.Ytjkeoameebdefaa

/- slices.Sorted of a map's parties: those that have some, rising. -/
namespace Go.Proofs.Ytjkeoameebdefaa
set_option maxRecDepth 100000
set_option linter.unusedVariables false
set_option linter.unusedSimpArgs false
open Go.RowKit Go.Shelf

theorem flatW (l : List Nat) : l.flatMap encW = l.map fun (x : Nat) => Value.int .u8 (x : Int) := by
  induction l with
  | nil => rfl
  | cons a l ih => simp [encW, ih]
/-- A list of one's own: nothing, or a row. -/
theorem OwnW.row {B : Nat} {w : World} {v : Value} {l : List Nat} (h : OwnW B w v l) : (v = .slice none 0 0 ∧ l = []) ∨ ∃ g c m, v = .slice (some ⟨g, 0, none⟩) l.length c ∧ B ≤ g ∧ R8 w g 23 l.length m l.toArray ∧ m = c ∧ c ≤ maxLen := by
  rcases h.own.2 with ⟨h1, h2⟩ | ⟨g, cap, cur, hv, h3, h4, h5, h6, h7, h8⟩
  · refine .inl ⟨h1, ?_⟩
    exact List.eq_nil_of_length_eq_zero h2
  · rw [Nat.mul_one] at h7 h8
    refine .inr ⟨g, cap, cap, hv, h.blk g (by rw [hv]; rfl), ⟨by simp, cur, h4, h7, h5, fun i hi => ?_⟩, rfl, h6⟩
    have e := congrArg (fun z : List Value => z[i]?) h8
    simp only [List.getElem?_take, if_pos hi, flatW, List.getElem?_map] at e
    rw [← Array.getElem?_toList, e, get!_toArray]
    simp [List.getD, hi]
theorem OwnW.of_row {w : World} {B g c m n : Nat} {l : List Nat} (h : R8 w g 23 n m l.toArray) (hB : B ≤ g) (hm : m = c) (hc : c ≤ maxLen) : OwnW B w (.slice (some ⟨g, 0, none⟩) l.length c) l := by
  have hl : l.length = n := by simpa using h.sz
  obtain ⟨cs, h1, h2, h3, h4⟩ := h.row
  refine ⟨⟨by rw [flatW]; simp, .inr ⟨g, c, cs, rfl, Nat.zero_le _, h1, by omega, hc, by omega, ?_⟩⟩, fun k hk => by cases hk; exact hB⟩
  rw [Nat.mul_one, flatW]
  refine List.ext_getElem? fun i => ?_
  rw [List.getElem?_take]
  by_cases hi : i < l.length
  · rw [if_pos hi, Array.getElem?_toList, h4 i (by omega), get!_toArray]
    simp [List.getD, hi]
  · rw [if_neg hi]
    exact (List.getElem?_eq_none (by rw [List.length_map]; exact Nat.le_of_not_lt hi)).symm
theorem KeysOf.perm {f : Nat → Nat} {xs ys : List Nat} (h : KeysOf f xs) (p : ys.Perm xs) : KeysOf f ys := ⟨p.nodup_iff.2 h.1, fun k => (p.mem_iff).trans (h.2 k)⟩

set_option maxHeartbeats 4000000 in
theorem Collect8_map (gf : Nat) (lb : Array Value) (C : List Nat → World → Prop) (Nx : List Nat → Nat → World → World → Prop) (S : List Nat → Prop) (w : World) (eg : ∀ args w, (callFunc gf args).run Try.prog w = .ok (.enter gf args) w)
    (hseq : SeqM Try.prog gf lb encK Kbm C Nx S) (hC : ∀ pre W, Fr F0 w W → C pre W) (hlen : ∀ pre x W0 W1, Nx pre x W0 W1 → pre.length ≤ 100000) :
    Calls Try.prog 49 #[.func (.func gf) #[] lb] w fun e w' => ∃ s xs, e = .returned s ∧ OwnW w.heap.size w' s xs ∧ S xs ∧ Fr F0 w w' := by
  have H := Lib.hid (AppSeq8_map gf lb C Nx S w eg hseq hC hlen)
  clear hseq hC hlen eg
  go_enter Try.func49, Try.ntmps49
  go_wp2_with fail
  (with_reducible refine H.out.mono ?_); rintro e w1 ⟨s, xs, rfl, h1, h2, h3⟩
  have H1 := Lib.hid (And.intro h1 (And.intro h2 h3))
  clear h1 h2 h3 H
  go_wp2_with fail
  go_ret
  exact ⟨s, xs, rfl, H1.out⟩

set_option maxRecDepth 100000 in
set_option maxHeartbeats 8000000 in
theorem Sorted8_map (gf : Nat) (lb : Array Value) (C : List Nat → World → Prop) (Nx : List Nat → Nat → World → World → Prop) (f : Nat → Nat) (n : Nat) (hn : n ≤ 100000) (w : World) (eg : ∀ args w, (callFunc gf args).run Try.prog w = .ok (.enter gf args) w)
    (hseq : SeqM Try.prog gf lb encK Kbm C Nx (fun xs => KeysOf f xs ∧ xs.length ≤ n)) (hC : ∀ pre W, Fr F0 w W → C pre W) (hlen : ∀ pre x W0 W1, Nx pre x W0 W1 → pre.length ≤ 100000) :
    Calls Try.prog 43 #[.func (.func gf) #[] lb] w fun e w' => ∃ s xs, e = .returned s ∧ OwnW w.heap.size w' s xs ∧ KeysOf f xs ∧ asc xs ∧ xs.length ≤ n ∧ Fr F0 w w' := by
  have H := Lib.hid (Collect8_map gf lb C Nx _ w eg hseq hC hlen)
  have HN := Lib.hid hn
  clear hseq hC hlen eg hn
  go_enter Try.func43, Try.ntmps43
  go_wp2_with fail
  (with_reducible refine H.out.mono ?_); rintro e w1 ⟨s, xs, rfl, h1, h2, h3⟩
  have HF := Lib.hid h3
  clear H h3
  rcases h1.row with ⟨rfl, rfl⟩ | ⟨g, c, m, rfl, hB, hr, hm, hc⟩
  · have H1 := Lib.hid (And.intro h1 h2)
    have HS := Lib.hid (Sort8_nil w1)
    clear h1 h2
    go_wp2_with fail
    (with_reducible refine HS.out.mono ?_); rintro e w2 ⟨rfl, hw⟩; replace hw := hw.symm; subst hw
    go_wp2_with fail
    go_ret
    exact ⟨_, [], rfl, H1.out.1, H1.out.2.1, fun i j _ hj => by simp at hj, Nat.zero_le _, HF.out⟩
  · have HS := Lib.hid (Sort8_any g 23 xs.length m c xs w1 hr (Nat.le_trans h2.2 (Nat.le_trans HN.out (by decide))))
    have H1 := Lib.hid (And.intro h2 (And.intro hB (And.intro hm hc)))
    clear h1 h2 hB hr hm hc
    obtain ⟨k, hk⟩ : ∃ k, xs.length = k := ⟨_, rfl⟩
    rw [hk] at HS ⊢
    replace hk := Lib.hid hk
    go_wp2_with fail
    (with_reducible refine HS.out.mono ?_); rintro e w2 ⟨rfl, ⟨l', h1, h2, h3⟩, h4⟩
    have H2 := Lib.hid (And.intro h1 (And.intro h2 (And.intro h3 h4)))
    clear h1 h2 h3 h4 HS
    go_wp2_with fail
    go_ret
    have hll : l'.length = k := by rw [← hk.out]; exact H2.out.2.1.length_eq
    refine ⟨_, l', by rw [← hll]; rfl, OwnW.of_row H2.out.1 H1.out.2.1 H1.out.2.2.1 H1.out.2.2.2, H1.out.1.1.perm H2.out.2.1, H2.out.2.2.1, by rw [H2.out.2.1.length_eq]; exact H1.out.1.2, HF.out.trans H2.out.2.2.2 fun i hi e => ?_⟩
    have := H1.out.2.1
    unfold Fgs at e
    omega
end Go.Proofs.Ytjkeoameebdefaa

/- Layer 15 (token): All. -/
namespace Go.Proofs.Ytjkeoameebdefaa
set_option maxRecDepth 100000
set_option linter.unusedVariables false
set_option linter.unusedSimpArgs false
open Go.RowKit Go.Shelf

attribute [local go_sem] Oper.semAt_some

theorem sorted_keys {w : World} {gb n : Nat} {ob : Option Nat} {f : Nat → Nat} (hb : mapBox gb ob w) (hm : MO w ob n f) (hn : n ≤ 100000) :
    Calls Try.prog 43 #[.func (.func 51) #[] #[.pointer (some ⟨gb, 0, none⟩)]] w fun e w' => ∃ s xs, e = .returned s ∧ OwnW w.heap.size w' s xs ∧ KeysOf f xs ∧ asc xs ∧ xs.length ≤ n ∧ Fr F0 w w' := by
  cases ob with
  | none =>
    refine Sorted8_map _ _ _ (fun _ _ _ _ => False) f n hn w (enters_of Try.func51 (by kernel_rfl) rfl) ((keys_seq_nil gb).mono (fun _ _ _ _ h => h.elim) (fun xs h => ?_)) (fun pre W f => f.keeps (fun x => x) hb) (fun _ _ _ _ h => h.elim)
    subst h
    exact ⟨⟨List.nodup_nil, fun k => ⟨fun h => by simp at h, fun h => absurd (hm k h.1) h.2⟩⟩, Nat.zero_le _⟩
  | some B =>
    obtain ⟨O, hO⟩ : ∃ O, w.heap[B]? = some O := ⟨_, Array.getElem?_eq_getElem (MZ.mu hm).lt⟩
    exact Sorted8_map _ _ _ _ f n hn w (enters_of Try.func51 (by kernel_rfl) rfl) (keys_seq gb B n f O) (fun pre W f => ⟨f.keeps (fun x => x) hb, MZ.fr hm f (fun x => x), f.keeps (fun x => x) hO⟩) (fun _ _ _ _ h => Nat.le_trans h.2 hn)

/-- Rows of parties that lie at B or beyond are kept. -/
def Kw (B : Nat) (W W' : World) : Prop := ∀ k cs fr, B ≤ k → W.heap[k]? = some (.cells cs 23 fr) → W'.heap[k]? = some (.cells cs 23 fr)
theorem Kw.refl (B : Nat) (W : World) : Kw B W W := fun _ _ _ _ h => h
theorem Kw.trans {B : Nat} {X Y Z : World} (h : Kw B X Y) (k : Kw B Y Z) : Kw B X Z := fun i cs fr hi ho => k i cs fr hi (h i cs fr hi ho)
theorem Kw.put {B : Nat} {W : World} {g : Nat} (o : Obj) (hg : g < B) : Kw B W (W.putObj g o) := fun k cs fr hk ho => (World.putObj_heap_other (by omega)).trans ho
theorem R8.kw {B : Nat} {w w' : World} {g n m : Nat} {d : Array Nat} (h : R8 w g 23 n m d) (k : Kw B w w') (hg : B ≤ g) : R8 w' g 23 n m d := by
  obtain ⟨cs, h1, h2⟩ := h.row
  exact ⟨h.sz, cs, k g cs (0, 0) hg h1, h2⟩
abbrev encH (x : Nat × Nat) : Array Value := #[.int .u8 (x.1 : Int), .int .u64 (x.2 : Int)]
/-- What All tells. -/
def AllOf (n : Nat) (f : Nat → Nat) (xs : List (Nat × Nat)) : Prop := ∃ ks : List Nat, KeysOf f ks ∧ asc ks ∧ ks.length ≤ n ∧ xs = ks.map fun k => (k, f k)

/-- What is told next: it stands behind what was told in what All tells. -/
def NxA (n : Nat) (f : Nat → Nat) (pre : List (Nat × Nat)) (x : Nat × Nat) : Prop := pre.length ≤ n ∧ ∃ xs, AllOf n f xs ∧ (pre ++ [x]) <+: xs

set_option maxRecDepth 100000 in
set_option maxHeartbeats 8000000 in
theorem all_seq (gb n : Nat) (ob : Option Nat) (f : Nat → Nat) (hn : n ≤ 100000) :
    SeqO Try.prog 42 #[.pointer (some ⟨gb, 0, none⟩)] encH Kw (fun _ W => mapBox gb ob W ∧ MO W ob n f) (fun pre x _ _ => NxA n f pre x) (AllOf n f) := by
  intro lp J Jx W oJ oX hC hY h0
  refine (callsIn_wide (n := 6)).1 ?_
  refine callsIn_of_wp Try.func42 rfl trivial ?_ rfl
  simp only [Try.ntmps42, List.size_toArray, List.length_cons, List.length_nil, Nat.reduceAdd, Nat.reduceSub, Array.replicate_succ, Array.replicate_zero, List.push_toArray, List.append_toArray, List.nil_append, List.cons_append]
  obtain ⟨r1, hm⟩ := hC _ _ h0
  have f1 : Fr F0 W (W.alloc (.cells #[.map ob] 63)) := (Fr.refl F0 W).alloc _
  have HK := Lib.hid (mpKeys_any ob W)
  have HS := Lib.hid (sorted_keys (gb := W.heap.size) (show mapBox W.heap.size ob (W.alloc (.cells #[.map ob] 63)) from heap_alloc_new _ _) (hm.fr f1 fun _ _ x => x) hn)
  have HH := Lib.hid (And.intro hY (And.intro hC (And.intro oJ (And.intro h0 f1))))
  unfold mapBox at r1
  clear oX hY hC hm f1 oJ h0
  gi_wp2
  refine ⟨trivial, ?_⟩
  (with_reducible refine (callsIn_wide.2 HK.out).mono ?_); rintro e w1 ⟨rfl, rfl⟩
  gi_wp2
  refine ⟨trivial, ?_⟩
  (with_reducible refine (callsIn_wide.2 HS.out).mono ?_); rintro e w2 ⟨s, ks, rfl, ho, hk, ha, hl, f2⟩
  have hJ2 := own_frI HH.out.2.2.1 (own_frI HH.out.2.2.1 HH.out.2.2.2.1 HH.out.2.2.2.2) f2
  have HL := Lib.hid (And.intro hk (And.intro ha hl))
  clear HK HS hk ha hl f2 r1
  rcases ho.row with ⟨rfl, rfl⟩ | ⟨g, c, m, rfl, hB, hr, _, _⟩
  · replace hJ2 := Lib.hid hJ2
    clear ho
    gi_wp2
    gi_loopw [9] (fun iv wr => iv = .int .i64 0 ∧ wr = w2) (fun _ _ => 0)
    case atStart => exact ⟨rfl, rfl⟩
    case round =>
      obtain ⟨rfl, hw⟩ := hrel
      replace hw := hw.symm
      subst hw
      gi_wp2
      go_end0
      exact ⟨⟨_, rfl⟩, .inl ⟨[], ⟨[], HL.out.1, HL.out.2.1, HL.out.2.2, rfl⟩, hJ2.out⟩⟩
  · have hB2 : W.heap.size ≤ g := by simp at hB; omega
    have HR := Lib.hid (And.intro hB2 hr)
    clear ho hB hr hB2
    obtain ⟨N, hN⟩ : ∃ N, ks.length = N := ⟨_, rfl⟩
    rw [hN] at HR ⊢
    have hNn : N ≤ n := by rw [← hN]; exact HL.out.2.2
    replace hN := Lib.hid hN
    gi_wp2
    gi_loopw [9] (fun iv wr => ∃ k : Nat, iv = .int .i64 (k : Int) ∧ k ≤ N ∧ R8 wr g 23 N m ks.toArray ∧ J ((ks.take k).map fun x => (x, f x)) wr) (fun iv _ => N - (intOf iv).toNat)
    case atStart => exact ⟨0, rfl, Nat.zero_le _, HR.out.2, hJ2⟩
    case round =>
      clear hJ2
      obtain ⟨k, rfl, hk, hr, hJ⟩ := hrel
      by_cases hlt : k < N
      · have l1 : (k : Int) < (N : Int) := Int.ofNat_lt.2 hlt
        have hC := HH.out.2.1 _ _ hJ
        have c1 := hr.cell hlt
        have hkl : k < ks.length := by rw [hN.out]; exact hlt
        rw [get!_toArray] at c1
        have hx : ks.getD k 0 < 256 := ((HL.out.1.2 (ks.getD k 0)).1 (by simp [List.getD, hkl])).1
        have hlk := hC.2.look hx
        have r1 := hC.1
        unfold mapBox at r1
        have ht : (ks.take k).map (fun x => (x, f x)) ++ [(ks.getD k 0, f (ks.getD k 0))] = (ks.take (k + 1)).map fun x => (x, f x) := by
          rw [List.take_add_one, List.map_append]; congr 1; simp [List.getD, hkl]
        obtain ⟨fn, tmps, assign, body, hy, hY⟩ := (HH.out.1 ((ks.take k).map fun x => (x, f x)) (ks.getD k 0, f (ks.getD k 0)) wr wr hJ (Fr.refl F0 wr) ⟨by simp; omega, _, ⟨ks, HL.out.1, HL.out.2.1, HL.out.2.2, rfl⟩, by rw [ht]; exact List.IsPrefix.map _ (List.take_prefix _ _)⟩).plain (m := 5)
        rw [ht] at hY
        obtain ⟨k1, hk1⟩ : ∃ x, k + 1 = x := ⟨_, rfl⟩
        have m1 : IntKind.i64.wrap ((k : Int) + 1) = (k1 : Int) := by rw [IntWalk.i64_in _ (by omega)]; omega
        rw [hk1] at hY
        have HY := Lib.hid hY
        have HQ := Lib.hid (And.intro hr (And.intro hlt hk1))
        dsimp only [encH] at hy
        clear hC ht hY hJ hr hk hkl hx hk1 hlt
        rw [cell_at] at c1
        generalize f (ks.getD k 0) = fx at *
        generalize ks.getD k 0 = x at *
        gi_wp2
        refine HY.out.mono ?_
        rintro e W5 (⟨rfl, hJ5, hK5⟩ | ⟨rfl, hJx, _⟩)
        · have HZ := Lib.hid (And.intro hJ5 (HQ.out.1.kw hK5 HR.out.1))
          clear hJ5 hK5
          gi_wp2
          go_roundw
          case rel => exact ⟨k1, rfl, by have := HQ.out.2; omega, HZ.out.2, HZ.out.1⟩
          case measure => have := HQ.out.2; clear m1; simp [intOf]; omega
        · gi_wp2
          refine bodyPost_ret (results_none rfl _ _ _) rfl ?_
          exact ⟨⟨_, rfl⟩, .inr ⟨_, hJx⟩⟩
      · obtain rfl : k = N := by omega
        rw [List.take_of_length_le (Nat.le_of_eq hN.out)] at hJ
        replace hJ := Lib.hid hJ
        gi_wp2
        go_end0
        exact ⟨⟨_, rfl⟩, .inl ⟨_, ⟨ks, HL.out.1, HL.out.2.1, HL.out.2.2, rfl⟩, hJ.out⟩⟩

set_option maxHeartbeats 8000000 in
theorem tkAll_core {w : World} {pv : Value} {n : Nat} {ob : Option Nat} {f : Nat → Nat} (hh : Calls Try.prog 41 #[pv] w fun e w' => e = .returned (.map ob) ∧ w' = w) (hm : MO w ob n f) :
    Calls Try.prog 31 #[pv] w fun e w' => ∃ gb ob', e = .returned (.func (.func 42) #[] #[.pointer (some ⟨gb, 0, none⟩)]) ∧ mapBox gb ob' w' ∧ MO w' ob' n f ∧ Fr F0 w w' := by
  have hmf : ∀ (fn : Fn) (first cap : Array Value) (w : World), (Instr.makeFunc fn first cap).run Try.prog w = .ok (.func fn first cap) w := fun _ _ _ _ => rfl
  have HH := Lib.hid hh
  have HC := Lib.hid (mpClone_any hm)
  clear hh hm
  go_enter Try.func31, Try.ntmps31
  go_wp2_with fail
  (with_reducible refine HH.out.mono ?_); rintro e w1 ⟨rfl, hw⟩; replace hw := hw.symm; subst hw
  go_wp2_with fail
  (with_reducible refine HC.out.mono ?_); rintro e w2 ⟨ob', rfl, h1, f1, hB⟩
  have H1 := Lib.hid (And.intro h1 (And.intro f1 hB))
  clear h1 f1 hB HC HH
  go_upto_region 2 with fail
  refine wp_new fun W1 N1 => ?_
  have HN := Lib.hid (show mapBox w2.heap.size ob' W1 ∧ MO W1 ob' n f ∧ Fr F0 w W1 from ⟨N1.new, H1.out.1.fr N1.fr (fun _ _ x => x), H1.out.2.1.trans' N1.fr⟩)
  clear N1
  go_wp2_with fail
  go_ret
  exact ⟨_, ob', rfl, HN.out⟩
theorem tkAll_any {w : World} {p n : Nat} {ob : Option Nat} {f : Nat → Nat} (L : LG w p ob n f) :
    Calls Try.prog 31 #[.pointer (some ⟨p, 0, none⟩)] w fun e w' => ∃ gb ob', e = .returned (.func (.func 42) #[] #[.pointer (some ⟨gb, 0, none⟩)]) ∧ mapBox gb ob' w' ∧ MO w' ob' n f ∧ Fr F0 w w' := tkAll_core (tkhold_any L) L.map
theorem tkAll_nil (w : World) :
    Calls Try.prog 31 #[.pointer none] w fun e w' => ∃ gb ob', e = .returned (.func (.func 42) #[] #[.pointer (some ⟨gb, 0, none⟩)]) ∧ mapBox gb ob' w' ∧ MO w' ob' 0 (fun _ => 0) ∧ Fr F0 w w' := tkAll_core (tkhold_nil w) (show ∀ k, k < 256 → (fun _ => 0) k = 0 from fun _ _ => rfl)
end Go.Proofs.Ytjkeoameebdefaa

/- Layer 16 (purse): a purse in memory; its ledger, what was paid, what is held and free. -/
namespace Go.Proofs.Ytjkeoameebdefaa
set_option maxRecDepth 100000
set_option linter.unusedVariables false
set_option linter.unusedSimpArgs false
open Go.RowKit

/-- A purse behind q, its ledger behind p: t is free, h is held, i and o were paid in and out. -/
structure PG (w : World) (q p : Nat) (ob : Option Nat) (n : Nat) (f : Nat → Nat) (t h i o : Nat) : Prop where
  at_ : w.heap[q]? = some (.cells #[.pointer (some ⟨p, 0, none⟩), .int .u64 (i : Nat), .int .u64 (o : Nat)] 54 (0, 0))
  led : LG w p ob n f
  inv : Lg f t
  sum : t + h + o = i
  le : i ≤ 4611686018427387904
  qp : q ≠ p
  oq : ob ≠ some q
/-- A purse's own blocks. -/
def PS (q p : Nat) (ob : Option Nat) : Nat → Prop := fun k => k = q ∨ LS p ob k
section
variable {w w' : World} {q p n t h i o : Nat} {ob : Option Nat} {f : Nat → Nat}
theorem PG.fr {S : Nat → Prop} (d : PG w q p ob n f t h i o) (r : Fr S w w') (hq : ¬ S q) (hp : ¬ S p) (hb : ∀ B, ob = some B → ¬ S B) : PG w' q p ob n f t h i o :=
  ⟨r.keeps hq d.at_, d.led.fr r hp hb, d.inv, d.sum, d.le, d.qp, d.oq⟩
theorem PG.fr0 (d : PG w q p ob n f t h i o) (r : Fr F0 w w') : PG w' q p ob n f t h i o := d.fr r (fun x => x) (fun x => x) fun _ _ x => x
theorem PG.mono (d : PG w q p ob n f t h i o) {m : Nat} (hn : n ≤ m) : PG w q p ob m f t h i o := ⟨d.at_, d.led.mono hn, d.inv, d.sum, d.le, d.qp, d.oq⟩
theorem PG.lt (d : PG w q p ob n f t h i o) : q < w.heap.size := (Array.getElem?_eq_some_iff.1 d.at_).1
theorem LS.ps {k : Nat} (h : LS p ob k) : PS q p ob k := .inr h
/-- A call on the ledger leaves the purse's own block. -/
theorem PG.keep (d : PG w q p ob n f t h i o) (r : Fr (LS p ob) w w') : w'.heap[q]? = some (.cells #[.pointer (some ⟨p, 0, none⟩), .int .u64 (i : Nat), .int .u64 (o : Nat)] 54 (0, 0)) := r.keeps (LS.not d.qp d.oq) d.at_
theorem PG.oq2 (d : PG w q p ob n f t h i o) {ob' : Option Nat} (b : OB w ob ob') : ob' ≠ some q := fun e => by
  rcases b with b | ⟨_, B, b, hb⟩
  · exact d.oq (by rw [← b]; exact e)
  · rw [e] at b
    have := Option.some.inj b
    have := d.lt
    omega
end
theorem built_purse (p : Option Addr) (i o : Int) (w : World) : (Instr.build 54 #[(0, .pointer p), (1, .int .u64 i), (2, .int .u64 o)]).run Try.prog w = .ok (.agg #[.pointer p, .int .u64 i, .int .u64 o]) w := run_build w _ _ _ (by kernel_rfl)
theorem built_purse1 (p : Option Addr) (w : World) : (Instr.build 54 #[(0, .pointer p)]).run Try.prog w = .ok (.agg #[.pointer p, .int .u64 0, .int .u64 0]) w := run_build w _ _ _ (by kernel_rfl)

set_option maxHeartbeats 4000000 in
theorem puNew_any (w : World) : Calls Try.prog 7 #[] w fun e w' => ∃ q p, e = .returned (.pointer (some ⟨q, 0, none⟩)) ∧ PG w' q p none 0 (fun _ => 0) 0 0 0 0 ∧ Fr F0 w w' ∧ w.heap.size ≤ q ∧ w.heap.size ≤ p := by
  have H := Lib.hid (tkNew_any w)
  have hb := built_purse1
  go_enter Try.func7, Try.ntmps7
  go_wp2_with fail
  refine H.out.mono ?_; rintro e w1 ⟨p, rfl, L, f1, hp⟩
  have H1 := Lib.hid (And.intro L (And.intro f1 hp))
  clear L f1 hp
  go_wp2_with fail
  go_ret
  have f2 : Fr F0 w1 (w1.alloc (.cells #[.pointer (some ⟨p, 0, none⟩), .int .u64 0, .int .u64 0] 54)) := (Fr.refl F0 w1).alloc _
  have hl := H1.out.1.lt
  exact ⟨w1.heap.size, p, rfl, ⟨heap_alloc_new _ _, H1.out.1.fr0 f2, Lg.nobody, rfl, by omega, by omega, fun e => by cases e⟩, H1.out.2.1.trans' f2, H1.out.2.1.size, H1.out.2.2⟩
set_option maxHeartbeats 4000000 in
theorem puledger_any {w : World} {q p n t h i o : Nat} {ob : Option Nat} {f : Nat → Nat} (d : PG w q p ob n f t h i o) : Calls Try.prog 30 #[.pointer (some ⟨q, 0, none⟩)] w fun e w' => e = .returned (.pointer (some ⟨p, 0, none⟩)) ∧ w' = w := by
  have e0 := d.at_
  clear d
  go_enter Try.func30, Try.ntmps30
  go_wp2
  go_ret
  exact ⟨rfl, rfl⟩
set_option maxHeartbeats 4000000 in
theorem puledger_nil (w : World) : Calls Try.prog 30 #[.pointer none] w fun e w' => e = .returned (.pointer none) ∧ w' = w := by
  go_enter Try.func30, Try.ntmps30
  go_wp2
  go_ret
  exact ⟨rfl, rfl⟩
set_option maxHeartbeats 4000000 in
theorem puPaid_any {w : World} {q p n t h i o : Nat} {ob : Option Nat} {f : Nat → Nat} (d : PG w q p ob n f t h i o) : Calls Try.prog 13 #[.pointer (some ⟨q, 0, none⟩)] w fun e w' => e = .returned (.tuple #[.int .u64 (i : Nat), .int .u64 (o : Nat)]) ∧ Fr F0 w w' := by
  have e0 := d.at_
  clear d
  have F := (Fr.refl F0 w).drew
  go_enter Try.func13, Try.ntmps13
  go_upto_region 3 with fail
  go_region
  go_wp2_with fail
  go_ret2
  exact ⟨rfl, F⟩
set_option maxHeartbeats 4000000 in
theorem puPaid_nil (w : World) : Calls Try.prog 13 #[.pointer none] w fun e w' => e = .returned (.tuple #[.int .u64 0, .int .u64 0]) ∧ w' = w := by
  go_enter Try.func13, Try.ntmps13
  go_wp2
  go_ret2
  exact ⟨rfl, rfl⟩
set_option maxHeartbeats 4000000 in
theorem puHeld_any {w : World} {q p n t h i o : Nat} {ob : Option Nat} {f : Nat → Nat} (d : PG w q p ob n f t h i o) : Calls Try.prog 19 #[.pointer (some ⟨q, 0, none⟩)] w fun e w' => e = .returned (.int .u64 (h : Nat)) ∧ Fr F0 w w' := by
  have H1 := Lib.hid (puPaid_any d)
  have H2 := Lib.hid (fun (W : World) (F : Fr F0 w W) => puledger_any (d.fr0 F))
  have H3 := Lib.hid (fun (W : World) (F : Fr F0 w W) => tkTotal_any (d.led.fr0 F) d.inv)
  have hs := d.sum
  have hle := d.le
  have m1 : IntKind.u64.wrap ((i : Int) - (o : Int)) = ((i - o : Nat) : Int) := by rw [IntWalk.u64_in _ (by omega)]; omega
  have m2 : IntKind.u64.wrap (((i - o : Nat) : Int) - (t : Int)) = (h : Int) := by rw [IntWalk.u64_in _ (by omega)]; omega
  obtain ⟨y, hy⟩ : ∃ y, i - o = y := ⟨_, rfl⟩
  rw [hy] at m1 m2
  clear d hs hle hy
  go_enter Try.func19, Try.ntmps19
  go_wp2_with fail
  (with_reducible refine H1.out.mono ?_); rintro e w1 ⟨rfl, f1⟩
  have F1 := Lib.hid f1
  clear f1
  go_wp2_with fail
  (with_reducible refine (H2.out w1 F1.out).mono ?_); rintro e w2 ⟨rfl, hw⟩; replace hw := hw.symm; subst hw
  go_wp2_with fail
  (with_reducible refine (H3.out w1 F1.out).mono ?_); rintro e w3 ⟨rfl, f3⟩
  have F3 := Lib.hid (F1.out.trans' f3)
  clear f3
  go_wp2_with fail
  go_ret
  exact ⟨rfl, F3.out⟩
set_option maxHeartbeats 4000000 in
theorem puHeld_nil (w : World) : Calls Try.prog 19 #[.pointer none] w fun e w' => e = .returned (.int .u64 0) ∧ Fr F0 w w' := by
  have H1 := Lib.hid (puPaid_nil w)
  have H2 := Lib.hid (puledger_nil w)
  have H3 := Lib.hid (tkTotal_nil w)
  go_enter Try.func19, Try.ntmps19
  go_wp2_with fail
  (with_reducible refine H1.out.mono ?_); rintro e w1 ⟨rfl, hw⟩; subst hw
  go_wp2_with fail
  (with_reducible refine H2.out.mono ?_); rintro e w2 ⟨rfl, hw⟩; subst hw
  go_wp2_with fail
  (with_reducible refine H3.out.mono ?_); rintro e w3 ⟨rfl, f3⟩
  have F3 := Lib.hid f3
  clear f3
  go_wp2_with fail
  go_ret
  exact ⟨rfl, F3.out⟩
set_option maxHeartbeats 4000000 in
theorem puOf_any {w : World} {q p n t h i o : Nat} {ob : Option Nat} {f : Nat → Nat} (d : PG w q p ob n f t h i o) {a : Nat} (ha : a < 256) : Calls Try.prog 18 #[.pointer (some ⟨q, 0, none⟩), .int .u8 (a : Int)] w fun e w' => e = .returned (.int .u64 (f a : Nat)) ∧ w' = w := by
  have H1 := Lib.hid (puledger_any d)
  have H2 := Lib.hid (tkOf_any d.led ha)
  clear d ha
  generalize f a = fa at *
  go_enter Try.func18, Try.ntmps18
  go_wp2_with fail
  (with_reducible refine H1.out.mono ?_); rintro e w1 ⟨rfl, hw⟩; subst hw
  go_wp2_with fail
  (with_reducible refine H2.out.mono ?_); rintro e w2 ⟨rfl, hw⟩; subst hw
  go_wp2_with fail
  go_ret
  exact ⟨rfl, rfl⟩
set_option maxHeartbeats 4000000 in
theorem puOf_nil (a : Nat) (w : World) : Calls Try.prog 18 #[.pointer none, .int .u8 (a : Int)] w fun e w' => e = .returned (.int .u64 0) ∧ w' = w := by
  have H1 := Lib.hid (puledger_nil w)
  have H2 := Lib.hid (tkOf_nil a w)
  go_enter Try.func18, Try.ntmps18
  go_wp2_with fail
  (with_reducible refine H1.out.mono ?_); rintro e w1 ⟨rfl, hw⟩; subst hw
  go_wp2_with fail
  (with_reducible refine H2.out.mono ?_); rintro e w2 ⟨rfl, hw⟩; subst hw
  go_wp2_with fail
  go_ret
  exact ⟨rfl, rfl⟩
set_option maxHeartbeats 4000000 in
theorem puAll_any {w : World} {q p n t h i o : Nat} {ob : Option Nat} {f : Nat → Nat} (d : PG w q p ob n f t h i o) : Calls Try.prog 15 #[.pointer (some ⟨q, 0, none⟩)] w fun e w' => ∃ gb ob', e = .returned (.func (.func 42) #[] #[.pointer (some ⟨gb, 0, none⟩)]) ∧ mapBox gb ob' w' ∧ MO w' ob' n f ∧ Fr F0 w w' := by
  have H1 := Lib.hid (puledger_any d)
  have H2 := Lib.hid (tkAll_any d.led)
  clear d
  go_enter Try.func15, Try.ntmps15
  go_wp2_with fail
  (with_reducible refine H1.out.mono ?_); rintro e w1 ⟨rfl, hw⟩; subst hw
  go_wp2_with fail
  refine H2.out.mono ?_; rintro e w2 ⟨gb, ob', rfl, h1, h2, h3⟩
  have H3 := Lib.hid (And.intro h1 (And.intro h2 h3))
  clear h1 h2 h3
  go_wp2_with fail
  go_ret
  exact ⟨gb, ob', rfl, H3.out⟩
set_option maxHeartbeats 4000000 in
theorem puAll_nil (w : World) : Calls Try.prog 15 #[.pointer none] w fun e w' => ∃ gb ob', e = .returned (.func (.func 42) #[] #[.pointer (some ⟨gb, 0, none⟩)]) ∧ mapBox gb ob' w' ∧ MO w' ob' 0 (fun _ => 0) ∧ Fr F0 w w' := by
  have H1 := Lib.hid (puledger_nil w)
  have H2 := Lib.hid (tkAll_nil w)
  go_enter Try.func15, Try.ntmps15
  go_wp2_with fail
  (with_reducible refine H1.out.mono ?_); rintro e w1 ⟨rfl, hw⟩; subst hw
  go_wp2_with fail
  refine H2.out.mono ?_; rintro e w2 ⟨gb, ob', rfl, h1, h2, h3⟩
  have H3 := Lib.hid (And.intro h1 (And.intro h2 h3))
  clear h1 h2 h3
  go_wp2_with fail
  go_ret
  exact ⟨gb, ob', rfl, H3.out⟩
set_option maxHeartbeats 4000000 in
theorem puCopy_nil (w : World) : Calls Try.prog 12 #[.pointer none] w fun e w' => e = .returned (.pointer none) ∧ w' = w := by
  go_enter Try.func12, Try.ntmps12
  go_wp2
  go_ret
  exact ⟨rfl, rfl⟩
end Go.Proofs.Ytjkeoameebdefaa

/- Layer 16 (purse): In, Out, Hold, Free. -/
namespace Go.Proofs.Ytjkeoameebdefaa
set_option maxRecDepth 100000
set_option linter.unusedVariables false
set_option linter.unusedSimpArgs false
open Go.RowKit

def giveQ (f : Nat → Nat) (t a x : Nat) : Int × (Nat → Nat) × Nat := if x = 0 then (0, f, t) else mintQ f t a x
def takeQ (f : Nat → Nat) (t a x : Nat) : Int × (Nat → Nat) × Nat := if x = 0 then (0, f, t) else burnQ f t a x
theorem upd_id (f : Nat → Nat) (a : Nat) : upd f a (f a) = f := by
  funext k
  by_cases e : k = a
  · subst e; exact upd_same _ _ _
  · exact upd_other e
theorem give_ok {f : Nat → Nat} {t a x : Nat} (h : t + x ≤ 4611686018427387904) : giveQ f t a x = (0, upd f a (f a + x), t + x) := by
  unfold giveQ
  by_cases e : x = 0
  · subst e; rw [if_pos rfl, Nat.add_zero, upd_id]; rfl
  · rw [if_neg e]
    unfold mintQ
    rw [if_neg (by simp [badA]; omega), if_neg (by omega)]
theorem take_ok {f : Nat → Nat} {t a x : Nat} (h : x ≤ f a) (h2 : f a ≤ 4611686018427387904) : takeQ f t a x = (0, upd f a (f a - x), t - x) := by
  unfold takeQ
  by_cases e : x = 0
  · subst e; rw [if_pos rfl, Nat.sub_zero, upd_id]; rfl
  · rw [if_neg e]
    unfold burnQ
    rw [if_neg (by simp [badA]; omega), if_neg (by omega)]
/-- What an amount that is more than there is answers. -/
def fewE (x : Nat) : Int := if 4611686018427387904 < x then 1 else 16
theorem take_no {f : Nat → Nat} {t a x : Nat} (h : f a < x) : takeQ f t a x = (fewE x, f, t) := by
  unfold takeQ fewE
  rw [if_neg (by omega)]
  unfold burnQ
  by_cases e : 4611686018427387904 < x
  · rw [if_pos (by simp [badA, e]), if_pos e]
  · rw [if_neg (by simp [badA]; omega), if_pos h, if_neg e]
theorem fewE_ne (x : Nat) : (fewE x != 0) = true := by unfold fewE; split <;> rfl
theorem sbE_few {a x : Nat} (h : a < x) (ha : a ≤ 4611686018427387904) : sbE a x = fewE x := by
  unfold sbE fewE
  by_cases e : 4611686018427387904 < x
  · rw [if_neg (by omega), if_pos e]
  · rw [if_pos (by omega), if_neg (by omega), if_neg e]
def overE (x : Nat) : Int := if 4611686018427387904 < x then 1 else 4
theorem overE_ne (x : Nat) : (overE x != 0) = true := by unfold overE; split <;> rfl
theorem adE_over {a x : Nat} (h : 4611686018427387904 < a + x) (ha : a ≤ 4611686018427387904) : adE a x = overE x := by
  unfold adE overE
  by_cases e : 4611686018427387904 < x
  · rw [if_neg (by omega), if_pos e]
  · rw [if_pos (by omega), if_neg (by omega), if_neg e]
theorem adE_fit {a x : Nat} (h : a + x ≤ 4611686018427387904) : adE a x = 0 ∧ adV a x = a + x := by
  unfold adE adV
  rw [if_pos (by omega), if_pos h, if_pos (by omega)]
  exact ⟨rfl, rfl⟩
theorem sbE_fit {a x : Nat} (h : x ≤ a) (ha : a ≤ 4611686018427387904) : sbE a x = 0 ∧ sbV a x = a - x := by
  unfold sbE sbV
  rw [if_pos (by omega), if_pos h, if_pos (by omega)]
  exact ⟨rfl, rfl⟩

/-- A purse behind a call: it may have made its ledger's map. -/
def PuQ (w : World) (q p : Nat) (ob : Option Nat) (n : Nat) (f : Nat → Nat) (t h i o : Nat) (E : Int) (e : Ending) (w' : World) : Prop :=
  e = .returned (.int .i64 E) ∧ ∃ ob', PG w' q p ob' n f t h i o ∧ OB w ob ob' ∧ Fr (PS q p ob) w w'

set_option maxHeartbeats 8000000 in
theorem pugive_any {w : World} {q p n t h i o : Nat} {ob : Option Nat} {f : Nat → Nat} (d : PG w q p ob n f t h i o) (hn : n < maxLen) {a x : Nat} (ha : a < 256) (hx : x < 18446744073709551616) :
    Calls Try.prog 24 #[.pointer (some ⟨q, 0, none⟩), .int .u8 (a : Int), .int .u64 (x : Int)] w (LedQ w p ob (n + 1) (giveQ f t a x)) := by
  have HL := Lib.hid d.led
  unfold giveQ
  by_cases h0 : x = 0
  · subst h0
    rw [if_pos rfl]
    clear d
    go_enter Try.func24, Try.ntmps24
    go_wp2_with fail
    go_ret
    exact ⟨rfl, ob, HL.out.mono (Nat.le_succ n), .inl rfl, Fr.refl _ _⟩
  rw [if_neg h0]
  have q0 : ((x : Int) == 0) = false := by simp; omega
  have e0 := d.at_
  have H := Lib.hid (tkMint_any d.led d.inv hn ha hx)
  generalize mintQ f t a x = Q at *
  clear d h0 hn ha hx
  go_enter Try.func24, Try.ntmps24
  go_wp2_with fail
  refine H.out.mono ?_; rintro e w1 ⟨rfl, ob1, L1, o1, f1⟩
  have H1 := Lib.hid (And.intro L1 (And.intro o1 f1))
  clear L1 o1 f1
  go_wp2_with fail
  go_ret
  exact ⟨rfl, ob1, H1.out⟩
set_option maxHeartbeats 8000000 in
theorem putake_any {w : World} {q p n t h i o : Nat} {ob : Option Nat} {f : Nat → Nat} (d : PG w q p ob n f t h i o) (hn : n < maxLen) {a x : Nat} (ha : a < 256) (hx : x < 18446744073709551616) :
    Calls Try.prog 22 #[.pointer (some ⟨q, 0, none⟩), .int .u8 (a : Int), .int .u64 (x : Int)] w (LedQ w p ob (n + 1) (takeQ f t a x)) := by
  have HL := Lib.hid d.led
  unfold takeQ
  by_cases h0 : x = 0
  · subst h0
    rw [if_pos rfl]
    clear d
    go_enter Try.func22, Try.ntmps22
    go_wp2_with fail
    go_ret
    exact ⟨rfl, ob, HL.out.mono (Nat.le_succ n), .inl rfl, Fr.refl _ _⟩
  rw [if_neg h0]
  have q0 : ((x : Int) == 0) = false := by simp; omega
  have e0 := d.at_
  have H := Lib.hid (tkBurn_any d.led d.inv hn ha hx)
  generalize burnQ f t a x = Q at *
  clear d h0 hn ha hx
  go_enter Try.func22, Try.ntmps22
  go_wp2_with fail
  refine H.out.mono ?_; rintro e w1 ⟨rfl, ob1, L1, o1, f1⟩
  have H1 := Lib.hid (And.intro L1 (And.intro o1 f1))
  clear L1 o1 f1
  go_wp2_with fail
  go_ret
  exact ⟨rfl, ob1, H1.out⟩
set_option maxHeartbeats 4000000 in
theorem putake_nil (a x : Nat) (w : World) : Calls Try.prog 22 #[.pointer none, .int .u8 (a : Int), .int .u64 (x : Int)] w fun e w' => e = .returned (.int .i64 1) ∧ w' = w := by
  go_enter Try.func22, Try.ntmps22
  go_wp2
  go_ret
  exact ⟨rfl, rfl⟩
set_option maxHeartbeats 4000000 in
theorem puIn_nil (a x : Nat) (w : World) : Calls Try.prog 16 #[.pointer none, .int .u8 (a : Int), .int .u64 (x : Int)] w fun e w' => e = .returned (.int .i64 1) ∧ w' = w := by
  go_enter Try.func16, Try.ntmps16
  go_wp2
  go_ret
  exact ⟨rfl, rfl⟩
set_option maxHeartbeats 4000000 in
theorem puFree_nil (a x : Nat) (w : World) : Calls Try.prog 10 #[.pointer none, .int .u8 (a : Int), .int .u64 (x : Int)] w fun e w' => e = .returned (.int .i64 1) ∧ w' = w := by
  go_enter Try.func10, Try.ntmps10
  go_wp2
  go_ret
  exact ⟨rfl, rfl⟩
set_option maxHeartbeats 4000000 in
theorem puHold_nil (a x : Nat) (w : World) : Calls Try.prog 9 #[.pointer none, .int .u8 (a : Int), .int .u64 (x : Int)] w fun e w' => e = .returned (.int .i64 1) ∧ w' = w := by
  have H := Lib.hid (putake_nil a x w)
  go_enter Try.func9, Try.ntmps9
  go_wp2_with fail
  (with_reducible refine H.out.mono ?_); rintro e w1 ⟨rfl, hw⟩; subst hw
  go_wp2_with fail
  go_ret
  exact ⟨rfl, rfl⟩
set_option maxHeartbeats 4000000 in
theorem puOut_nil (a x : Nat) (w : World) : Calls Try.prog 17 #[.pointer none, .int .u8 (a : Int), .int .u64 (x : Int)] w fun e w' => e = .returned (.int .i64 1) ∧ w' = w := by
  have H := Lib.hid (putake_nil a x w)
  go_enter Try.func17, Try.ntmps17
  go_wp2_with fail
  (with_reducible refine H.out.mono ?_); rintro e w1 ⟨rfl, hw⟩; subst hw
  go_wp2_with fail
  go_ret
  exact ⟨rfl, rfl⟩

theorem putake_ok {w : World} {q p n t h i o : Nat} {ob : Option Nat} {f : Nat → Nat} (d : PG w q p ob n f t h i o) (hn : n < maxLen) {a x : Nat} (ha : a < 256) (hx : x ≤ f a) :
    Calls Try.prog 22 #[.pointer (some ⟨q, 0, none⟩), .int .u8 (a : Int), .int .u64 (x : Int)] w (PuQ w q p ob (n + 1) (upd f a (f a - x)) (t - x) (h + x) i o 0) := by
  have ho := d.inv.one ha
  have hs := d.sum
  have hle := d.le
  have H := putake_any d hn ha (show x < 18446744073709551616 by omega)
  rw [take_ok hx (by omega)] at H
  refine H.mono ?_
  rintro e w1 ⟨he, ob1, L1, o1, f1⟩
  refine ⟨he, ob1, ⟨d.keep f1, L1, ?_, by omega, hle, d.qp, d.oq2 o1⟩, o1, f1.mono fun k _ e => .inr e⟩
  have e := sumN_upd f (f a - x) 256 a ha
  have := d.inv.sum
  exact ⟨by omega, by omega⟩
theorem putake_no {w : World} {q p n t h i o : Nat} {ob : Option Nat} {f : Nat → Nat} (d : PG w q p ob n f t h i o) (hn : n < maxLen) {a x : Nat} (ha : a < 256) (hx : f a < x) (hx2 : x < 18446744073709551616) :
    Calls Try.prog 22 #[.pointer (some ⟨q, 0, none⟩), .int .u8 (a : Int), .int .u64 (x : Int)] w (PuQ w q p ob (n + 1) f t h i o (fewE x)) := by
  have H := putake_any d hn ha hx2
  rw [take_no hx] at H
  refine H.mono ?_
  rintro e w1 ⟨he, ob1, L1, o1, f1⟩
  exact ⟨he, ob1, ⟨d.keep f1, L1, d.inv, d.sum, d.le, d.qp, d.oq2 o1⟩, o1, f1.mono fun k _ e => .inr e⟩
theorem pugive_ok {w : World} {q p n t h i o : Nat} {ob : Option Nat} {f : Nat → Nat} (d : PG w q p ob n f t h i o) (hn : n < maxLen) {a x : Nat} (ha : a < 256) (hx : x ≤ h) :
    Calls Try.prog 24 #[.pointer (some ⟨q, 0, none⟩), .int .u8 (a : Int), .int .u64 (x : Int)] w (PuQ w q p ob (n + 1) (upd f a (f a + x)) (t + x) (h - x) i o 0) := by
  have hs := d.sum
  have hle := d.le
  have H := pugive_any d hn ha (show x < 18446744073709551616 by omega)
  rw [give_ok (show t + x ≤ 4611686018427387904 by omega)] at H
  refine H.mono ?_
  rintro e w1 ⟨he, ob1, L1, o1, f1⟩
  refine ⟨he, ob1, ⟨d.keep f1, L1, ?_, by omega, hle, d.qp, d.oq2 o1⟩, o1, f1.mono fun k _ e => .inr e⟩
  have e := sumN_upd f (f a + x) 256 a ha
  have := d.inv.sum
  exact ⟨by omega, by omega⟩
set_option maxHeartbeats 4000000 in
theorem puHold_take {E : Int} {q a x : Nat} {w : World} {Q : World → Prop} (H : Calls Try.prog 22 #[.pointer (some ⟨q, 0, none⟩), .int .u8 (a : Int), .int .u64 (x : Int)] w fun e w' => e = .returned (.int .i64 E) ∧ Q w') :
    Calls Try.prog 9 #[.pointer (some ⟨q, 0, none⟩), .int .u8 (a : Int), .int .u64 (x : Int)] w fun e w' => e = .returned (.int .i64 E) ∧ Q w' := by
  replace H := Lib.hid H
  go_enter Try.func9, Try.ntmps9
  go_wp2_with fail
  refine H.out.mono ?_; rintro e w1 ⟨rfl, hr⟩
  replace hr := Lib.hid hr
  go_wp2_with fail
  go_ret
  exact ⟨rfl, hr.out⟩
theorem puHold_ok {w : World} {q p n t h i o : Nat} {ob : Option Nat} {f : Nat → Nat} (d : PG w q p ob n f t h i o) (hn : n < maxLen) {a x : Nat} (ha : a < 256) (hx : x ≤ f a) :
    Calls Try.prog 9 #[.pointer (some ⟨q, 0, none⟩), .int .u8 (a : Int), .int .u64 (x : Int)] w (PuQ w q p ob (n + 1) (upd f a (f a - x)) (t - x) (h + x) i o 0) := puHold_take (putake_ok d hn ha hx)
theorem puHold_no {w : World} {q p n t h i o : Nat} {ob : Option Nat} {f : Nat → Nat} (d : PG w q p ob n f t h i o) (hn : n < maxLen) {a x : Nat} (ha : a < 256) (hx : f a < x) (hx2 : x < 18446744073709551616) :
    Calls Try.prog 9 #[.pointer (some ⟨q, 0, none⟩), .int .u8 (a : Int), .int .u64 (x : Int)] w (PuQ w q p ob (n + 1) f t h i o (fewE x)) := puHold_take (putake_no d hn ha hx hx2)

/-- What is taken out is gone. -/
theorem PG.paid {w : World} {q p n t h i o x : Nat} {ob : Option Nat} {f : Nat → Nat} (D : PG w q p ob n f t (h + x) i o) :
    PG (w.setCell ⟨q, 2, none⟩ (.int .u64 ((o + x : Nat) : Int))) q p ob n f t h i (o + x) ∧ Fr (fun k => k = q) w (w.setCell ⟨q, 2, none⟩ (.int .u64 ((o + x : Nat) : Int))) := by
  have f2 : Fr (fun k => k = q) w (w.setCell ⟨q, 2, none⟩ (.int .u64 ((o + x : Nat) : Int))) := (Fr.refl (fun k => k = q) w).setCell (p := ⟨q, 2, none⟩) (fun _ => rfl) _
  refine ⟨⟨heap_setCell_lg w q 2 _ _ _ _ D.at_, D.led.fr f2 (fun e => D.qp e.symm) (fun B e hb => D.oq (by rw [e, hb])), D.inv, ?_, D.le, D.qp, D.oq⟩, f2⟩
  have := D.sum
  omega
set_option maxHeartbeats 8000000 in
theorem puOut_ok {w : World} {q p n t h i o : Nat} {ob : Option Nat} {f : Nat → Nat} (d : PG w q p ob n f t h i o) (hn : n < maxLen) {a x : Nat} (ha : a < 256) (hx : x ≤ f a) :
    Calls Try.prog 17 #[.pointer (some ⟨q, 0, none⟩), .int .u8 (a : Int), .int .u64 (x : Int)] w (PuQ w q p ob (n + 1) (upd f a (f a - x)) (t - x) h i (o + x) 0) := by
  have H := Lib.hid (putake_ok d hn ha hx)
  have ho := d.inv.one ha
  have hs := d.sum
  have hle := d.le
  have m1 : IntKind.u64.wrap ((o : Int) + (x : Int)) = ((o + x : Nat) : Int) := by rw [IntWalk.u64_in _ (by omega)]; omega
  obtain ⟨g, hg⟩ : ∃ g, upd f a (f a - x) = g := ⟨_, rfl⟩
  rw [hg] at H ⊢
  obtain ⟨s, hs2⟩ : ∃ s, t - x = s := ⟨_, rfl⟩
  rw [hs2] at H ⊢
  have HP : Hid (∀ (W : World) (ob : Option Nat), PG W q p ob (n + 1) g s (h + x) i o → _) := Lib.hid fun W ob D => D.paid
  obtain ⟨y, hy⟩ : ∃ y, o + x = y := ⟨_, rfl⟩
  rw [hy] at m1 HP ⊢
  clear d ho hs hle hy hx hn ha hg hs2
  go_enter Try.func17, Try.ntmps17
  go_wp2_with fail
  refine H.out.mono ?_; rintro e w1 ⟨rfl, ob1, D1, o1, f1⟩
  have e0 := D1.at_
  have H1 := Lib.hid (And.intro D1 (And.intro o1 f1))
  clear D1 o1 f1
  go_wp2_with fail
  go_ret
  obtain ⟨D, o1, f1⟩ := H1.out
  obtain ⟨D2, f2⟩ := HP.out w1 ob1 D
  exact ⟨rfl, ob1, D2, o1, f1.trans f2 fun k _ e => .inl e⟩
set_option maxHeartbeats 8000000 in
theorem puOut_no {w : World} {q p n t h i o : Nat} {ob : Option Nat} {f : Nat → Nat} (d : PG w q p ob n f t h i o) (hn : n < maxLen) {a x : Nat} (ha : a < 256) (hx : f a < x) (hx2 : x < 18446744073709551616) :
    Calls Try.prog 17 #[.pointer (some ⟨q, 0, none⟩), .int .u8 (a : Int), .int .u64 (x : Int)] w (PuQ w q p ob (n + 1) f t h i o (fewE x)) := by
  have H := Lib.hid (putake_no d hn ha hx hx2)
  have q0 := fewE_ne x
  generalize fewE x = E at *
  clear d hx hx2 hn ha
  go_enter Try.func17, Try.ntmps17
  go_wp2_with fail
  refine H.out.mono ?_; rintro e w1 ⟨rfl, ob1, D1, o1, f1⟩
  have H1 := Lib.hid (And.intro D1 (And.intro o1 f1))
  clear D1 o1 f1
  go_wp2_with fail
  go_ret
  exact ⟨rfl, ob1, H1.out⟩
set_option maxHeartbeats 8000000 in
theorem puFree_ok {w : World} {q p n t h i o : Nat} {ob : Option Nat} {f : Nat → Nat} (d : PG w q p ob n f t h i o) (hn : n < maxLen) {a x : Nat} (ha : a < 256) (hx : x ≤ h) :
    Calls Try.prog 10 #[.pointer (some ⟨q, 0, none⟩), .int .u8 (a : Int), .int .u64 (x : Int)] w (PuQ w q p ob (n + 1) (upd f a (f a + x)) (t + x) (h - x) i o 0) := by
  have hs := d.sum
  have hle := d.le
  have HH := Lib.hid (puHeld_any d)
  have HA := Lib.hid fun w => aSub_any h x (by omega) (by omega) w
  rw [(sbE_fit hx (by omega)).1, (sbE_fit hx (by omega)).2] at HA
  have HG := Lib.hid (fun (W : World) (F : Fr F0 w W) => pugive_ok (d.fr0 F) hn ha hx)
  obtain ⟨g, hg⟩ : ∃ g, upd f a (f a + x) = g := ⟨_, rfl⟩
  rw [hg] at HG ⊢
  obtain ⟨s, hs2⟩ : ∃ s, t + x = s := ⟨_, rfl⟩
  rw [hs2] at HG ⊢
  obtain ⟨y, hy⟩ : ∃ y, h - x = y := ⟨_, rfl⟩
  rw [hy] at HG HA ⊢
  clear d hs hle hy hx hn ha hg hs2
  go_enter Try.func10, Try.ntmps10
  go_wp2_with fail
  (with_reducible refine HH.out.mono ?_); rintro e w1 ⟨rfl, f1⟩
  have F1 := Lib.hid f1
  clear f1
  go_wp2_with fail
  (with_reducible refine (HA.out w1).mono ?_); rintro e w2 ⟨rfl, f2⟩
  have F2 := Lib.hid (F1.out.trans' f2)
  clear f2
  go_wp2_with fail
  refine (HG.out w2 F2.out).mono ?_; rintro e w3 ⟨rfl, ob1, D1, o1, f3⟩
  have H1 := Lib.hid (And.intro D1 (And.intro (o1.of F2.out) ((F2.out.of0 (T := PS q p ob)).trans' f3)))
  clear D1 o1 f3
  go_wp2_with fail
  go_ret
  exact ⟨rfl, ob1, H1.out⟩
set_option maxHeartbeats 8000000 in
theorem puFree_no {w : World} {q p n t h i o : Nat} {ob : Option Nat} {f : Nat → Nat} (d : PG w q p ob n f t h i o) {a x : Nat} (hx : h < x) (hx2 : x < 18446744073709551616) :
    Calls Try.prog 10 #[.pointer (some ⟨q, 0, none⟩), .int .u8 (a : Int), .int .u64 (x : Int)] w (PuQ w q p ob n f t h i o (fewE x)) := by
  have hs := d.sum
  have hle := d.le
  have HD := Lib.hid d
  have HH := Lib.hid (puHeld_any d)
  have HA := Lib.hid fun w => aSub_any h x (by omega) (by omega) w
  have he := sbE_few hx (by omega)
  have hn : ¬ sbE h x = 0 := by rw [he]; unfold fewE; split <;> decide
  rw [he, sbV_no hn] at HA
  have q0 := fewE_ne x
  generalize fewE x = E at *
  clear d hs hle hx hn hx2 he
  go_enter Try.func10, Try.ntmps10
  go_wp2_with fail
  (with_reducible refine HH.out.mono ?_); rintro e w1 ⟨rfl, f1⟩
  have F1 := Lib.hid f1
  clear f1
  go_wp2_with fail
  (with_reducible refine (HA.out w1).mono ?_); rintro e w2 ⟨rfl, f2⟩
  have F2 := Lib.hid (F1.out.trans' f2)
  clear f2
  go_wp2_with fail
  go_ret
  exact ⟨rfl, ob, HD.out.fr0 F2.out, .inl rfl, F2.out.of0⟩
/-- What is given, and paid in. -/
theorem PG.came {w w1 : World} {q p n m t h i o x a : Nat} {ob ob1 : Option Nat} {f : Nat → Nat} (d : PG w q p ob n f t h i o) (ha : a < 256) (hx : i + x ≤ 4611686018427387904) (L : LG w1 p ob1 m (upd f a (f a + x))) (o1 : OB w ob ob1) (f1 : Fr (LS p ob) w w1) :
    PG (w1.setCell ⟨q, 1, none⟩ (.int .u64 ((i + x : Nat) : Int))) q p ob1 m (upd f a (f a + x)) (t + x) h (i + x) o ∧ Fr (PS q p ob) w (w1.setCell ⟨q, 1, none⟩ (.int .u64 ((i + x : Nat) : Int))) := by
  have f2 : Fr (fun k => k = q) w1 (w1.setCell ⟨q, 1, none⟩ (.int .u64 ((i + x : Nat) : Int))) := (Fr.refl (fun k => k = q) w1).setCell (p := ⟨q, 1, none⟩) (fun _ => rfl) _
  refine ⟨⟨heap_setCell_lg w1 q 1 _ _ _ _ (d.keep f1), L.fr f2 (fun e => d.qp e.symm) (fun B e hb => d.oq2 o1 (by rw [e, hb])), ?_, ?_, hx, d.qp, d.oq2 o1⟩, (f1.mono fun k _ e => LS.ps e).trans f2 fun k _ e => .inl e⟩
  · have e := sumN_upd f (f a + x) 256 a ha
    have := d.inv.sum
    have := d.sum
    exact ⟨by omega, by omega⟩
  · have := d.sum
    omega
set_option maxHeartbeats 8000000 in
theorem puIn_ok {w : World} {q p n t h i o : Nat} {ob : Option Nat} {f : Nat → Nat} (d : PG w q p ob n f t h i o) (hn : n < maxLen) {a x : Nat} (ha : a < 256) (hx : i + x ≤ 4611686018427387904) :
    Calls Try.prog 16 #[.pointer (some ⟨q, 0, none⟩), .int .u8 (a : Int), .int .u64 (x : Int)] w (PuQ w q p ob (n + 1) (upd f a (f a + x)) (t + x) h (i + x) o 0) := by
  have hs := d.sum
  have e0 := d.at_
  have HA := Lib.hid fun w => aAdd_any i x (by omega) (by omega) w
  rw [(adE_fit hx).1, (adE_fit hx).2] at HA
  have HG := Lib.hid (fun (W : World) (F : Fr F0 w W) => pugive_any (d.fr0 F) hn ha (show x < 18446744073709551616 by omega))
  rw [give_ok (show t + x ≤ 4611686018427387904 by omega)] at HG
  have HC := Lib.hid (fun (W W1 : World) (ob1 : Option Nat) (F : Fr F0 w W) L o1 f1 => (d.fr0 F).came (m := n + 1) (w1 := W1) (ob1 := ob1) ha hx L o1 f1)
  have HE := Lib.hid (fun (W : World) (F : Fr F0 w W) => (d.fr0 F))
  obtain ⟨g, hg⟩ : ∃ g, upd f a (f a + x) = g := ⟨_, rfl⟩
  rw [hg] at HG HC ⊢
  obtain ⟨s, hs2⟩ : ∃ s, t + x = s := ⟨_, rfl⟩
  rw [hs2] at HG HC ⊢
  obtain ⟨y, hy⟩ : ∃ y, i + x = y := ⟨_, rfl⟩
  rw [hy] at HA HC ⊢
  clear d hs hy hx hn ha hg hs2
  go_enter Try.func16, Try.ntmps16
  go_wp2_with fail
  (with_reducible refine (HA.out _).mono ?_); rintro e w1 ⟨rfl, f1⟩
  have F1 := Lib.hid f1
  clear f1
  go_wp2_with fail
  refine (HG.out w1 F1.out).mono ?_; rintro e w2 ⟨rfl, ob1, L1, o1, f2⟩
  have e1 := (HE.out w1 F1.out).keep f2
  have H1 := Lib.hid (And.intro L1 (And.intro o1 f2))
  clear L1 o1 f2 e0
  go_wp2_with fail
  go_ret
  obtain ⟨D2, f3⟩ := HC.out w1 w2 ob1 F1.out H1.out.1 H1.out.2.1 H1.out.2.2
  exact ⟨rfl, ob1, D2, H1.out.2.1.of F1.out, (F1.out.of0 (T := PS q p ob)).trans' f3⟩
set_option maxHeartbeats 8000000 in
theorem puIn_no {w : World} {q p n t h i o : Nat} {ob : Option Nat} {f : Nat → Nat} (d : PG w q p ob n f t h i o) {a x : Nat} (hx : 4611686018427387904 < i + x) (hx2 : x < 18446744073709551616) :
    Calls Try.prog 16 #[.pointer (some ⟨q, 0, none⟩), .int .u8 (a : Int), .int .u64 (x : Int)] w (PuQ w q p ob n f t h i o (overE x)) := by
  have hle := d.le
  have e0 := d.at_
  have HD := Lib.hid d
  have HA := Lib.hid fun w => aAdd_any i x (by omega) (by omega) w
  have he := adE_over hx hle
  have hn : ¬ adE i x = 0 := by rw [he]; unfold overE; split <;> decide
  rw [he, adV_no hn] at HA
  have q0 := overE_ne x
  generalize overE x = E at *
  clear d hle hx hn hx2 he
  go_enter Try.func16, Try.ntmps16
  go_wp2_with fail
  (with_reducible refine (HA.out _).mono ?_); rintro e w1 ⟨rfl, f1⟩
  have F1 := Lib.hid f1
  clear f1
  go_wp2_with fail
  go_ret
  exact ⟨rfl, ob, HD.out.fr0 F1.out, .inl rfl, F1.out.of0⟩

end Go.Proofs.Ytjkeoameebdefaa

/- Layer 16 (purse): Copy. -/
namespace Go.Proofs.Ytjkeoameebdefaa
set_option maxRecDepth 100000
set_option linter.unusedVariables false
set_option linter.unusedSimpArgs false
open Go.RowKit

set_option maxHeartbeats 8000000 in
theorem puCopy_any {w : World} {q p n t h i o : Nat} {ob : Option Nat} {f : Nat → Nat} (d : PG w q p ob n f t h i o) :
    Calls Try.prog 12 #[.pointer (some ⟨q, 0, none⟩)] w fun e w' => ∃ q' p' ob', e = .returned (.pointer (some ⟨q', 0, none⟩)) ∧ PG w' q' p' ob' n f t h i o ∧ Fr F0 w w' ∧ w.heap.size ≤ q' ∧ w.heap.size ≤ p' ∧ ∀ B, ob' = some B → w.heap.size ≤ B := by
  have e0 := d.at_
  have HD := Lib.hid d
  have HC := Lib.hid (fun (W : World) (F : Fr F0 w W) => tkCopy_any ((d.fr0 F).led))
  have hb := built_purse
  have F9 := Fr.refl F0 w
  clear d
  go_enter Try.func12, Try.ntmps12
  go_upto_region 3 with fail
  refine rbegin (S := (fun w' => w'.heap[q]? = some (.cells #[.pointer (some ⟨p, 0, none⟩), .int .u64 (i : Nat), .int .u64 (o : Nat)] 54 (0, 0)) ∧ Fr F0 w w')) ?_ fun hHeld => ?_
  · ((try dsimp only) <;> (exact ⟨e0, F9.drew⟩))
  refine rtake 0 ?_
  refine rtake 1 ?_
  refine rtake 2 ?_
  refine rtake 3 ?_
  refine rtake 5 ?_
  refine rtake 6 ?_
  refine rtake 7 ?_
  refine rtake 8 ?_
  refine rtake 9 ?_
  refine rtake 10 ?_
  refine rtake 11 ?_
  refine rtake 12 ?_
  refine rone 4 fun K hK => ?_
  go_simp
  (refine (HC.out _ hHeld.2).mono ?_; rintro e w5 ⟨p', ob', rfl, L5, f5, hp5, hB5⟩; have HL := Lib.hid (And.intro L5 (And.intro hp5 hB5)); clear L5 hp5 hB5)
  refine hK.out _ _ ?_ (fun hHeld => ?_)
  · ((try dsimp only) <;> (first | exact hHeld | exact ⟨keep_fr f5 hHeld.1, hHeld.2.trans' f5⟩))
  clear hK K
  try (simp only [Act.put, aST]; dsimp only [aS0, aS1])
  refine rtake 13 ?_
  refine rone 14 fun K hK => ?_
  go_simp
  refine hK.out _ _ ?_ (fun hHeld => ?_)
  · ((try dsimp only) <;> (first | exact hHeld | exact ⟨keep_alloc hHeld.1, hHeld.2.alloc _⟩))
  clear hK K
  try (simp only [Act.put, aST]; dsimp only [aS0, aS1])
  refine rtake 15 ?_
  refine rdone ?_
  all_goals
    go_wp2_with fail
    go_ret
    have f6 : Fr F0 w5 (w5.alloc (.cells #[.pointer (some ⟨p', 0, none⟩), .int .u64 (i : Nat), .int .u64 (o : Nat)] 54)) := (Fr.refl F0 w5).alloc _
    obtain ⟨L, hp, hB⟩ := HL.out
    have hl := L.lt
    exact ⟨w5.heap.size, p', ob', rfl, ⟨heap_alloc_new _ _, L.fr0 f6, HD.out.inv, HD.out.sum, HD.out.le, by omega, fun e => by have := L.map.lt e; omega⟩, hHeld.2, f5.size, hp, hB⟩
end Go.Proofs.Ytjkeoameebdefaa

/- Layer 15 (token): the law's all: what All tells, as a list. -/
namespace Go.Proofs.Ytjkeoameebdefaa
set_option maxRecDepth 100000
set_option linter.unusedVariables false
set_option linter.unusedSimpArgs false
open Go.RowKit Go.Shelf

attribute [local go_sem] Oper.semAt_some

theorem run_slice1E {P : Program} (w : World) (t e : TypeId) (X : Array Value) (n : Nat) (ie : TypeInfo) (z : Value) (hu : P.underlying t = some (.slice e)) (hie : P.info? e = some ie) (hz : ie.zero = some z) (hs : ie.size = n) (h0 : 0 < n) (h1 : n ≤ 1000) (hX : X.size = n) :
    (Instr.buildSlice t 1 #[(0, .agg X)]).run P w = .ok (.slice (some ⟨w.heap.size, 0, none⟩) 1 1) (w.alloc (.cells X e)) := by
  subst hs
  refine run_buildSlice w t e 1 _ X ie z hu hie hz (by rw [Nat.one_mul]; have : 2 ^ 24 = 16777216 := rfl; omega) (by omega) ?_
  have := Great.fill_whole h0 [.agg X] ((Array.range (1 * ie.size)).map (z.cells[· % z.cells.size]!)) (fun v hv => by rw [List.mem_singleton] at hv; subst hv; exact hX) (by simp)
  simpa [Value.cells] using this






def encHs (x : Nat × Nat) : List Value := [.int .u8 (x.1 : Int), .int .u64 (x.2 : Int)]



end Go.Proofs.Ytjkeoameebdefaa

/- Layer 15 (token): a ledger that isn't there. -/
namespace Go.Proofs.Ytjkeoameebdefaa
set_option maxRecDepth 100000
set_option linter.unusedVariables false
set_option linter.unusedSimpArgs false
open Go.RowKit

set_option maxHeartbeats 4000000 in
theorem tkMint_nil (a x : Nat) (w : World) : Calls Try.prog 37 #[.pointer none, .int .u8 (a : Int), .int .u64 (x : Int)] w fun e w' => e = .returned (.int .i64 1) ∧ w' = w := by
  go_enter Try.func37, Try.ntmps37
  go_wp2
  go_ret
  exact ⟨rfl, rfl⟩
set_option maxHeartbeats 4000000 in
theorem tkBurn_nil (a x : Nat) (w : World) : Calls Try.prog 35 #[.pointer none, .int .u8 (a : Int), .int .u64 (x : Int)] w fun e w' => e = .returned (.int .i64 1) ∧ w' = w := by
  go_enter Try.func35, Try.ntmps35
  go_wp2
  go_ret
  exact ⟨rfl, rfl⟩


end Go.Proofs.Ytjkeoameebdefaa

/- Layer 15 (token): a list of parties, rising, gone along with all numbers. -/
namespace Go.Proofs.Ytjkeoameebdefaa
set_option maxRecDepth 100000
set_option linter.unusedVariables false
set_option linter.unusedSimpArgs false
open Go.RowKit

/-- The first c are below w, the others aren't. -/
structure Spl (ks : List Nat) (c w : Nat) : Prop where
  le : c ≤ ks.length
  lo : ∀ i, i < c → ks.getD i 0 < w
  hi : ∀ i, c ≤ i → i < ks.length → w ≤ ks.getD i 0
theorem Spl.start (ks : List Nat) : Spl ks 0 0 := ⟨Nat.zero_le _, fun i h => absurd h (Nat.not_lt_zero _), fun i _ _ => Nat.zero_le _⟩
theorem getD_mem {ks : List Nat} {i : Nat} (h : i < ks.length) : ks.getD i 0 ∈ ks := by simp [List.getD, h]
theorem mem_getD {ks : List Nat} {x : Nat} (h : x ∈ ks) : ∃ i, i < ks.length ∧ ks.getD i 0 = x := by
  obtain ⟨i, hi, e⟩ := List.getElem_of_mem h
  exact ⟨i, hi, by simp [List.getD, hi, e]⟩
theorem nodup_getD {ks : List Nat} (h : ks.Nodup) {i j : Nat} (hi : i < ks.length) (hj : j < ks.length) (hij : i ≠ j) : ks.getD i 0 ≠ ks.getD j 0 := by
  simp only [List.getD, List.getElem?_eq_getElem hi, List.getElem?_eq_getElem hj, Option.getD_some]
  intro e
  have hp := List.pairwise_iff_getElem.1 h
  rcases Nat.lt_or_gt_of_ne hij with hl | hl
  · exact hp i j hi hj hl e
  · exact hp j i hj hi hl e.symm
theorem Spl.skip {f : Nat → Nat} {ks : List Nat} {c w : Nat} (h : Spl ks c w) (k : KeysOf f ks) (h0 : f w = 0) : Spl ks c (w + 1) := by
  refine ⟨h.le, fun i hi => Nat.lt_succ_of_lt (h.lo i hi), fun i h1 h2 => ?_⟩
  have h3 := h.hi i h1 h2
  have h4 := ((k.2 (ks.getD i 0)).1 (getD_mem h2)).2
  refine Nat.lt_of_le_of_ne h3 fun e => h4 (by rw [← e]; exact h0)
theorem Spl.take {f : Nat → Nat} {ks : List Nat} {c w : Nat} (h : Spl ks c w) (k : KeysOf f ks) (a : asc ks) (hw : w < 256) (h0 : f w ≠ 0) : c < ks.length ∧ ks.getD c 0 = w ∧ Spl ks (c + 1) (w + 1) := by
  obtain ⟨j, hj, e⟩ := mem_getD ((k.2 w).2 ⟨hw, h0⟩)
  have hcj : c ≤ j := by
    refine Nat.le_of_not_lt fun hn => ?_
    have := h.lo j hn
    omega
  have hc : c < ks.length := by omega
  have h1 := h.hi c (Nat.le_refl _) hc
  have h2 : ks.getD c 0 ≤ w := by
    rcases Nat.lt_or_eq_of_le hcj with hl | rfl
    · have := a c j hl hj; omega
    · omega
  have h3 : ks.getD c 0 = w := by omega
  refine ⟨hc, h3, hc, fun i hi => ?_, fun i hi hl => ?_⟩
  · rcases Nat.lt_or_eq_of_le (Nat.le_of_lt_succ hi) with hl | rfl
    · exact Nat.lt_succ_of_lt (h.lo i hl)
    · omega
  · have h4 := h.hi i (by omega) hl
    have h5 := nodup_getD k.1 hc hl (show c ≠ i by omega)
    omega
theorem Spl.done {f : Nat → Nat} {ks : List Nat} {c : Nat} (h : Spl ks c 256) (k : KeysOf f ks) : c = ks.length := by
  refine Nat.le_antisymm h.le (Nat.le_of_not_lt fun hn => ?_)
  have h1 := h.hi c (Nat.le_refl _) hn
  have h2 := ((k.2 (ks.getD c 0)).1 (getD_mem hn)).1
  omega


end Go.Proofs.Ytjkeoameebdefaa

/- Layer 16 (purse): what All tells, counted and summed. -/
namespace Go.Proofs.Ytjkeoameebdefaa
set_option maxRecDepth 100000
set_option linter.unusedVariables false
set_option linter.unusedSimpArgs false
open Go.RowKit

/-- How many have some. -/
def cntN (f : Nat → Nat) : Nat → Nat
  | 0 => 0
  | n + 1 => cntN f n + (if f n = 0 then 0 else 1)
theorem cntN_le (f : Nat → Nat) : ∀ n, cntN f n ≤ n
  | 0 => Nat.le_refl _
  | n + 1 => by
    have := cntN_le f n
    show cntN f n + (if f n = 0 then 0 else 1) ≤ n + 1
    split <;> omega
theorem spl_sum {f : Nat → Nat} {ks : List Nat} (k : KeysOf f ks) (a : asc ks) : ∀ i, i ≤ 256 → ∃ c, Spl ks c i ∧ c = cntN f i ∧ ((ks.take c).map f).sum = sumN f i
  | 0, _ => ⟨0, Spl.start ks, rfl, rfl⟩
  | i + 1, h => by
    obtain ⟨c, h1, h2, h3⟩ := spl_sum k a i (Nat.le_of_succ_le h)
    by_cases h0 : f i = 0
    · refine ⟨c, h1.skip k h0, ?_, ?_⟩
      · show c = cntN f i + (if f i = 0 then 0 else 1)
        rw [if_pos h0]
        exact h2
      · show _ = sumN f i + f i
        rw [h0, h3]
        rfl
    · obtain ⟨q1, q2, q3⟩ := h1.take k a (Nat.lt_of_succ_le h) h0
      refine ⟨c + 1, q3, ?_, ?_⟩
      · show c + 1 = cntN f i + (if f i = 0 then 0 else 1)
        rw [if_neg h0, h2]
      · show _ = sumN f i + f i
        have e : ks[c] = i := by rw [← q2]; simp [List.getD, q1]
        rw [List.take_add_one, List.getElem?_eq_getElem q1, e, List.map_append, List.sum_append, h3]
        simp
def sndSum (l : List (Nat × Nat)) : Nat := (l.map fun x => x.2).sum
theorem sndSum_snoc (l : List (Nat × Nat)) (x : Nat × Nat) : sndSum (l ++ [x]) = sndSum l + x.2 := by simp [sndSum]
theorem AllOf.tot {n : Nat} {f : Nat → Nat} {xs : List (Nat × Nat)} (h : AllOf n f xs) : xs.length = cntN f 256 ∧ sndSum xs = sumN f 256 := by
  obtain ⟨ks, hk, ha, _, rfl⟩ := h
  obtain ⟨c, h1, h2, h3⟩ := spl_sum hk ha 256 (Nat.le_refl _)
  have e := h1.done hk
  subst e
  rw [List.take_length] at h3
  refine ⟨by rw [List.length_map]; exact h2, ?_⟩
  rw [← h3]
  simp [sndSum, Function.comp_def]
/-- The last one's number, or -1. -/
def lastI (l : List (Nat × Nat)) : Int := match l.getLast? with
  | none => -1
  | some y => (y.1 : Int)
theorem lastI_snoc (l : List (Nat × Nat)) (x : Nat × Nat) : lastI (l ++ [x]) = (x.1 : Int) := by simp [lastI]
theorem NxA.is {n : Nat} {f : Nat → Nat} {pre : List (Nat × Nat)} {x : Nat × Nat} (h : NxA n f pre x) : pre.length ≤ n ∧ lastI pre < (x.1 : Int) ∧ x.2 ≠ 0 ∧ x.1 < 256 ∧ sndSum pre + x.2 ≤ sumN f 256 := by
  obtain ⟨h1, xs, hx, hp⟩ := h
  have htot := hx.tot.2
  obtain ⟨ks, hk, ha, _, rfl⟩ := hx
  have hpw : ks.Pairwise (fun a b => a < b) := List.pairwise_iff_getElem.2 fun i j hi hj hij => by
    have q1 := ha i j hij hj
    have q2 := nodup_getD hk.1 hi hj (Nat.ne_of_lt hij)
    simp only [List.getD, List.getElem?_eq_getElem hi, List.getElem?_eq_getElem hj, Option.getD_some] at q1 q2
    omega
  have hpx : (ks.map fun k => (k, f k)).Pairwise (fun a b => a.1 < b.1) := List.pairwise_map.2 hpw
  have hpp := (List.pairwise_append.1 (hpx.sublist hp.sublist)).2.2
  have hm : x ∈ ks.map fun k => (k, f k) := hp.subset (by simp)
  obtain ⟨j, hj, rfl⟩ := List.mem_map.1 hm
  have hj2 := (hk.2 j).1 hj
  refine ⟨h1, ?_, hj2.2, hj2.1, ?_⟩
  · unfold lastI
    cases hl : pre.getLast? with
    | none => show (-1 : Int) < (j : Int); omega
    | some y =>
      have := hpp y (List.mem_of_getLast? hl) _ (List.mem_singleton.2 rfl)
      show (y.1 : Int) < (j : Int)
      have h2 : y.1 < j := this
      omega
  · obtain ⟨t, ht⟩ := hp
    rw [← htot, ← ht]
    simp [sndSum]
end Go.Proofs.Ytjkeoameebdefaa

/- Layer 16 (purse): the law's count of what All tells. -/
namespace Go.Proofs.Ytjkeoameebdefaa
set_option maxRecDepth 100000
set_option linter.unusedVariables false
set_option linter.unusedSimpArgs false
open Go.RowKit Go.Shelf

attribute [local go_sem] Oper.semAt_some

/-- Three results, each one cell: two integers and a bool. -/
theorem res_cell3 {P : Program} {fn : Func} {p q r : Tmp} {ty ty2 ty3 : TypeId} {k k2 : IntKind} (h : fn.results = #[.cell p ty, .cell q ty2, .cell r ty3]) (tmps : Array Value) (w : World) (g g' g3 : Nat) (v v' v3 : Value)
    (hp : tmps.getD p undef = .pointer (some ⟨g, 0, none⟩)) (hq : tmps.getD q undef = .pointer (some ⟨g', 0, none⟩)) (hr : tmps.getD r undef = .pointer (some ⟨g3, 0, none⟩)) (hc : w.cell? ⟨g, 0, none⟩ = some v) (hc' : w.cell? ⟨g', 0, none⟩ = some v') (hc3 : w.cell? ⟨g3, 0, none⟩ = some v3)
    (hu : P.underlying ty = some (.int k)) (hu' : P.underlying ty2 = some (.int k2)) (hu3 : P.underlying ty3 = some .bool) : (results fn tmps).run P w = .ok (.tuple #[v, v', v3]) w := by
  have hp' : tmps[p]?.getD undef = .pointer (some ⟨g, 0, none⟩) := by simpa using hp
  have hq' : tmps[q]?.getD undef = .pointer (some ⟨g', 0, none⟩) := by simpa using hq
  have hr' : tmps[r]?.getD undef = .pointer (some ⟨g3, 0, none⟩) := by simpa using hr
  have hagg : (isAgg ty).run P w = .ok false w := by
    unfold isAgg
    rw [Sem.run_bind, run_underlying hu w]
    rfl
  have hagg2 : (isAgg ty2).run P w = .ok false w := by
    unfold isAgg
    rw [Sem.run_bind, run_underlying hu' w]
    rfl
  have hagg3 : (isAgg ty3).run P w = .ok false w := by
    unfold isAgg
    rw [Sem.run_bind, run_underlying hu3 w]
    rfl
  simp [results, h, hp', hq', hr', asAddr, loadVar, Sem.run_bind, hagg, hagg2, hagg3, hc, hc', hc3]
/-- The six blocks of count, as they are behind some. -/
def CB (g2 g3 g4 g5 g6 g7 : Nat) (pre : List (Nat × Nat)) (W : World) : Prop :=
  (W.heap[g2]? = some (.cells #[.int .i64 0] 3 (0, 0)) ∧ W.heap[g3]? = some (.cells #[.int .u64 0] 25 (0, 0)) ∧ W.heap[g4]? = some (.cells #[.bool false] 4 (0, 0))) ∧
  (W.heap[g5]? = some (.cells #[.int .i64 (pre.length : Nat)] 3 (0, 0)) ∧ W.heap[g6]? = some (.cells #[.int .i64 (lastI pre)] 3 (0, 0)) ∧ W.heap[g7]? = some (.cells #[.int .u64 (sndSum pre : Nat)] 25 (0, 0)))
theorem CB.own (B g2 g3 g4 g5 g6 g7 : Nat) : OwnFrom B (CB g2 g3 g4 g5 g6 g7) :=
  OwnFrom.and (OwnFrom.and (own_heap B g2 (fun _ => #[.int .i64 0]) 3 (0, 0)) (OwnFrom.and (own_heap B g3 (fun _ => #[.int .u64 0]) 25 (0, 0)) (own_heap B g4 (fun _ => #[.bool false]) 4 (0, 0))))
    (OwnFrom.and (own_heap B g5 (fun pre : List (Nat × Nat) => #[.int .i64 (pre.length : Nat)]) 3 (0, 0)) (OwnFrom.and (own_heap B g6 (fun pre => #[.int .i64 (lastI pre)]) 3 (0, 0)) (own_heap B g7 (fun pre => #[.int .u64 (sndSum pre : Nat)]) 25 (0, 0))))
theorem CB.start {w W1 : World} {g2 g3 g4 : Nat} (r2 : W1.heap[g2]? = some (.cells #[.int .i64 0] 3 (0, 0))) (r3 : W1.heap[g3]? = some (.cells #[.int .u64 0] 25 (0, 0))) (r4 : W1.heap[g4]? = some (.cells #[.bool false] 4 (0, 0))) :
    CB g2 g3 g4 W1.heap.size (W1.heap.size + 1) (W1.heap.size + 1 + 1) [] (((W1.alloc (.cells #[.int .i64 0] 3)).alloc (.cells #[.int .i64 (-1)] 3)).alloc (.cells #[.int .u64 0] 25)) := by
  have f : Fr F0 W1 (((W1.alloc (.cells #[.int .i64 0] 3)).alloc (.cells #[.int .i64 (-1)] 3)).alloc (.cells #[.int .u64 0] 25)) := (((Fr.refl F0 W1).alloc _).alloc _).alloc _
  obtain ⟨r5, r6, r7⟩ := heap3 W1 (.cells #[.int .i64 0] 3) (.cells #[.int .i64 (-1)] 3) (.cells #[.int .u64 0] 25)
  exact ⟨⟨f.keeps (fun x => x) r2, f.keeps (fun x => x) r3, f.keeps (fun x => x) r4⟩, r5, r6, r7⟩

set_option maxRecDepth 100000 in
set_option maxHeartbeats 8000000 in
theorem count16_any {w : World} {gb n T : Nat} {ob : Option Nat} {f : Nat → Nat} (hb : mapBox gb ob w) (hm : MO w ob n f) (hn : n ≤ 100000) (hT : sumN f 256 = T) (hT2 : T ≤ 4611686018427387904) :
    Calls Try.prog 14 #[.func (.func 42) #[] #[.pointer (some ⟨gb, 0, none⟩)]] w fun e w' => e = .returned (.tuple #[.int .i64 (cntN f 256 : Nat), .int .u64 (T : Nat), .bool true]) ∧ Fr F0 w w' := by
  have hmf : ∀ (fn : Fn) (first cap : Array Value) (w : World), (Instr.makeFunc fn first cap).run Try.prog w = .ok (.func fn first cap) w := fun _ _ _ _ => rfl
  have HC := Lib.hid (show (∀ (pre : List (Nat × Nat)) W, Fr F0 w W → mapBox gb ob W ∧ MO W ob n f) ∧ n ≤ 100000 from ⟨fun pre W f => ⟨f.keeps (fun x => x) hb, hm.fr f fun _ _ x => x⟩, hn⟩)
  have HQ := Lib.hid (all_seq gb n ob f hn)
  clear hb hm hn
  refine callsIn_wide (n := 6) |>.1 ?_
  refine callsIn_of_wp_marks Try.func14 rfl trivial ?_ rfl
  simp only [Try.ntmps14, List.size_toArray, List.length_cons, List.length_nil, Nat.reduceAdd, Nat.reduceSub, Array.replicate_succ, Array.replicate_zero, List.push_toArray, List.append_toArray, List.nil_append, List.cons_append]
  gi_upto_region 1 with fail
  obtain ⟨W1, hW1⟩ : ∃ W1, W1 = ((w.alloc (.cells #[.int .i64 0] 3)).alloc (.cells #[.int .u64 0] 25)).alloc (.cells #[.bool false] 4) := ⟨_, rfl⟩
  refine wpIn_of_world W1 hW1 ?_
  have f1 : Fr F0 w W1 := by rw [hW1]; exact (((Fr.refl F0 w).alloc _).alloc _).alloc _
  obtain ⟨r2, r3, r4⟩ := heap3 w (.cells #[.int .i64 0] 3) (.cells #[.int .u64 0] 25) (.cells #[.bool false] 4)
  rw [← hW1] at r2 r3 r4
  have hs1 : W1.heap.size = w.heap.size + 1 + 1 + 1 := by rw [hW1]; simp
  clear hW1
  generalize hg2 : w.heap.size = g2 at *
  generalize hg3 : g2 + 1 = g3 at *
  generalize hg4 : g3 + 1 = g4 at *
  have HG := Lib.hid (show w.heap.size = g2 ∧ g3 = g2 + 1 ∧ g4 = g3 + 1 ∧ W1.heap.size = g4 + 1 by omega)
  clear hg2 hg3 hg4 hs1
  gi_upto_region 3 with fail
  have S0 := CB.start (w := w) r2 r3 r4
  have f2 : Fr F0 W1 (((W1.alloc (.cells #[.int .i64 0] 3)).alloc (.cells #[.int .i64 (-1)] 3)).alloc (.cells #[.int .u64 0] 25)) := (((Fr.refl F0 W1).alloc _).alloc _).alloc _
  have hs2 : (((W1.alloc (.cells #[.int .i64 0] 3)).alloc (.cells #[.int .i64 (-1)] 3)).alloc (.cells #[.int .u64 0] 25)).heap.size = W1.heap.size + 1 + 1 + 1 := by simp
  have F := f1.trans' f2
  clear f1 f2 r2 r3 r4
  generalize (((W1.alloc (.cells #[.int .i64 0] 3)).alloc (.cells #[.int .i64 (-1)] 3)).alloc (.cells #[.int .u64 0] 25)) = W2 at *
  obtain ⟨g5, hg5⟩ : ∃ x, W1.heap.size = x := ⟨_, rfl⟩
  rw [hg5] at S0 hs2 HG ⊢
  obtain ⟨g6, hg6⟩ : ∃ x, g5 + 1 = x := ⟨_, rfl⟩
  rw [hg6] at S0 hs2 ⊢
  obtain ⟨g7, hg7⟩ : ∃ x, g6 + 1 = x := ⟨_, rfl⟩
  rw [hg7] at S0 hs2 ⊢
  have HN := Lib.hid (show w.heap.size = g2 ∧ g3 = g2 + 1 ∧ g4 = g2 + 2 ∧ g5 = g2 + 3 ∧ g6 = g2 + 4 ∧ g7 = g2 + 5 ∧ W2.heap.size = g2 + 6 by have := HG.out; omega)
  have HF := Lib.hid F
  have HT := Lib.hid (And.intro hT hT2)
  have HSQ := Lib.hid (show w.heap.size ≤ W2.heap.size by have := HN.out; omega)
  clear hg5 hg6 hg7 hs2 HG F hT hT2
  gi_wp2
  have hOI : OwnFrom W2.heap.size (fun (pre : List (Nat × Nat)) W' => CB g2 g3 g4 g5 g6 g7 pre W' ∧ Below w.heap.size W2 W') := OwnFrom.and (CB.own W2.heap.size g2 g3 g4 g5 g6 g7) (own_below (β := List (Nat × Nat)) W2.heap.size w.heap.size W2 (Nat.le_refl _) HSQ.out)
  have hFr := Lib.hid (show ∀ W', Below w.heap.size W2 W' → Fr F0 w W' from fun W' b => HF.out.trans (Fr.of_below' b) fun i hi hk => by omega)
  refine range_lawO (gf := 42) (lb := #[.pointer (some ⟨gb, 0, none⟩)]) rfl (enters_of Try.func42 (by kernel_rfl) rfl) HQ.out (fun _ => rfl) Kw.trans (fun W o => Kw.put o (by omega))
    (fun (pre : List (Nat × Nat)) W' => CB g2 g3 g4 g5 g6 g7 pre W' ∧ Below w.heap.size W2 W')
    (fun _ _ _ => False)
    hOI (fun cc => own_pure _ _)
    (fun pre W' h => HC.out.1 pre _ (hFr.out _ h.2))
    ⟨S0, Below.refl _ _⟩
    (fun pre x a' W' => a' = { tmps := #[.func (.func 42) #[] #[.pointer (some ⟨gb, 0, none⟩)], undef, .pointer (some ⟨g2, 0, none⟩), .pointer (some ⟨g3, 0, none⟩), .pointer (some ⟨g4, 0, none⟩), .pointer (some ⟨g5, 0, none⟩), .pointer (some ⟨g6, 0, none⟩), .pointer (some ⟨g7, 0, none⟩), .int .u8 (x.1 : Int), .int .u64 (x.2 : Int), .func (.func 42) #[] #[.pointer (some ⟨gb, 0, none⟩)], .int .u8 (x.1 : Int), .int .u64 (x.2 : Int), undef, undef, undef, undef, undef, undef, undef, undef, undef, undef, undef, undef, undef, undef, undef, undef, undef], defers := [] } ∧ NxA n f pre x)
    (fun pre x a' => own_pure _ _) ?assign ?body ?done ?stop
  case assign =>
    intro l2 pre x W0 W' K hi0 f0 hn hK
    gi_wp2
    exact hK _ _ (KeepsFrom.refl _ _) (Kw.refl _ _) (own_frI hOI hi0 f0) ⟨rfl, hn⟩
  case body =>
    rintro l2 pre ⟨x, y⟩ a' W' hi ⟨rfl, hx⟩
    obtain ⟨h1, h2, h3, h4, h5⟩ := hx.is
    dsimp only at h2 h3 h4 h5
    obtain ⟨⟨⟨q2, q3, q4⟩, q5, q6, q7⟩, hB⟩ := hi
    have hT := HT.out
    have hn := HC.out.2
    have m0 : IntKind.i64.wrap (x : Int) = (x : Int) := IntWalk.i64_in _ (by omega)
    have m1 : IntKind.i64.wrap ((pre.length : Int) + 1) = ((pre.length + 1 : Nat) : Int) := w64n (by omega) (by omega)
    have m2 : IntKind.u64.wrap ((sndSum pre : Int) + (y : Int)) = ((sndSum pre + y : Nat) : Int) := by rw [IntWalk.u64_in _ (by omega)]; omega
    have HE := Lib.hid (show (pre ++ [(x, y)]).length = pre.length + 1 ∧ lastI (pre ++ [(x, y)]) = (x : Int) ∧ sndSum (pre ++ [(x, y)]) = sndSum pre + y from ⟨by simp, lastI_snoc _ _, sndSum_snoc _ _⟩)
    have b0 : ¬ (x : Int) ≤ lastI pre := by omega
    have b1 : ((y : Int) == 0) = false := by simp; omega
    generalize lastI pre = lst at *
    obtain ⟨c0, hc0⟩ : ∃ z, pre.length = z := ⟨_, rfl⟩
    obtain ⟨c1, hc1⟩ : ∃ z, pre.length + 1 = z := ⟨_, rfl⟩
    obtain ⟨s0, hs0⟩ : ∃ z, sndSum pre = z := ⟨_, rfl⟩
    obtain ⟨s1, hs1⟩ : ∃ z, sndSum pre + y = z := ⟨_, rfl⟩
    rw [hc1, hs1] at HE
    rw [hc1] at m1
    rw [hs1] at m2
    rw [hc0] at m1 q5
    rw [hs0] at m2 q7
    have HB := Lib.hid hB
    have HQQ := Lib.hid (And.intro q2 (And.intro q3 q4))
    clear h1 h2 h3 h4 h5 hT hn hc0 hc1 hs0 hs1 hx hB q2 q3 q4
    have hN := HN.out
    have n56 : g5 ≠ g6 := by omega
    have n65 : g6 ≠ g5 := by omega
    have n57 : g5 ≠ g7 := by omega
    have n75 : g7 ≠ g5 := by omega
    have n67 : g6 ≠ g7 := by omega
    have n76 : g7 ≠ g6 := by omega
    clear hN
    gi_wp2
    have ff : Fr (fun k => k = g5 ∨ k = g6 ∨ k = g7) W' (((W'.setCell ⟨g6, 0, none⟩ (.int .i64 (x : Int))).setCell ⟨g5, 0, none⟩ (.int .i64 (c1 : Int))).setCell ⟨g7, 0, none⟩ (.int .u64 (s1 : Int))) :=
      (((Fr.refl _ W').setCell (p := ⟨g6, 0, none⟩) (fun _ => .inr (.inl rfl)) _).setCell (p := ⟨g5, 0, none⟩) (fun _ => .inl rfl) _).setCell (p := ⟨g7, 0, none⟩) (fun _ => .inr (.inr rfl)) _
    have kp : KeepsFrom W2.heap.size W' (((W'.setCell ⟨g6, 0, none⟩ (.int .i64 (x : Int))).setCell ⟨g5, 0, none⟩ (.int .i64 (c1 : Int))).setCell ⟨g7, 0, none⟩ (.int .u64 (s1 : Int))) :=
      (((KeepsOthers.setCell _ ⟨g6, 0, none⟩ _).from _).trans ((KeepsOthers.setCell _ ⟨g5, 0, none⟩ _).from _)).trans ((KeepsOthers.setCell _ ⟨g7, 0, none⟩ _).from _)
    obtain ⟨e1, e2, e3⟩ := HE.out
    refine ⟨kp, fun k cs fr hk ho => ff.keeps (by have := HN.out; omega) ho, ⟨⟨ff.keeps (by have := HN.out; omega) HQQ.out.1, ff.keeps (by have := HN.out; omega) HQQ.out.2.1, ff.keeps (by have := HN.out; omega) HQQ.out.2.2⟩, ?_, ?_, ?_⟩, HB.out.trans (ff.below (Nat.le_trans HSQ.out HB.out.size) fun k hk e => by have := HN.out; omega)⟩
    · rw [e1, heap_setCell_ne' _ _ _ _ _ n57, heap_setCell_at, heap_setCell_ne' _ _ _ _ _ n56, q5]; rfl
    · rw [e2, heap_setCell_ne' _ _ _ _ _ n67, heap_setCell_ne' _ _ _ _ _ n65, heap_setCell_at, q6]; rfl
    · rw [e3, heap_setCell_at, heap_setCell_ne' _ _ _ _ _ n75, heap_setCell_ne' _ _ _ _ _ n76, q7]; rfl
  case done =>
    rintro D ys W' hD hy ⟨⟨⟨q2, q3, q4⟩, q5, q6, q7⟩, hB⟩ hK
    obtain ⟨t1, t2⟩ := hy.tot
    rw [t1] at q5
    rw [t2, HT.out.1] at q7
    have hN := HN.out
    have n23 : g2 ≠ g3 := by omega
    have n32 : g3 ≠ g2 := by omega
    have n24 : g2 ≠ g4 := by omega
    have n42 : g4 ≠ g2 := by omega
    have n34 : g3 ≠ g4 := by omega
    have n43 : g4 ≠ g3 := by omega
    have n72 : g7 ≠ g2 := by omega
    have hD2 : D ≠ g2 := fun e => by subst e; rw [q2] at hK; cases hK
    have hD3 : D ≠ g3 := fun e => by subst e; rw [q3] at hK; cases hK
    have hD4 : D ≠ g4 := fun e => by subst e; rw [q4] at hK; cases hK
    have HB := Lib.hid hB
    obtain ⟨c0, hc0⟩ : ∃ z, cntN f 256 = z := ⟨_, rfl⟩
    rw [hc0] at q5
    replace hc0 := Lib.hid hc0
    clear hN hB q6 t1 t2 hy
    gi_wp2
    refine wpIn_wide.2 ?_
    go_region
    have e2 : (((W'.setCell ⟨g2, 0, none⟩ (.int .i64 (c0 : Int))).setCell ⟨g3, 0, none⟩ (.int .u64 (T : Int))).setCell ⟨g4, 0, none⟩ (.bool true)).drew.heap[g2]? = some (.cells #[.int .i64 (c0 : Int)] 3 (0, 0)) := by
      rw [heap_drew', heap_setCell_ne' _ _ _ _ _ n24, heap_setCell_ne' _ _ _ _ _ n23, heap_setCell_at, q2]; rfl
    have e3 : (((W'.setCell ⟨g2, 0, none⟩ (.int .i64 (c0 : Int))).setCell ⟨g3, 0, none⟩ (.int .u64 (T : Int))).setCell ⟨g4, 0, none⟩ (.bool true)).drew.heap[g3]? = some (.cells #[.int .u64 (T : Int)] 25 (0, 0)) := by
      rw [heap_drew', heap_setCell_ne' _ _ _ _ _ n34, heap_setCell_at, heap_setCell_ne' _ _ _ _ _ n32, q3]; rfl
    have e4 : (((W'.setCell ⟨g2, 0, none⟩ (.int .i64 (c0 : Int))).setCell ⟨g3, 0, none⟩ (.int .u64 (T : Int))).setCell ⟨g4, 0, none⟩ (.bool true)).drew.heap[g4]? = some (.cells #[.bool true] 4 (0, 0)) := by
      rw [heap_drew', heap_setCell_at, heap_setCell_ne' _ _ _ _ _ n43, heap_setCell_ne' _ _ _ _ _ n42, q4]; rfl
    have ff : Fr (fun k => k = g2 ∨ k = g3 ∨ k = g4) W' (((W'.setCell ⟨g2, 0, none⟩ (.int .i64 (c0 : Int))).setCell ⟨g3, 0, none⟩ (.int .u64 (T : Int))).setCell ⟨g4, 0, none⟩ (.bool true)).drew :=
      ((((Fr.refl _ W').setCell (p := ⟨g2, 0, none⟩) (fun _ => .inl rfl) _).setCell (p := ⟨g3, 0, none⟩) (fun _ => .inr (.inl rfl)) _).setCell (p := ⟨g4, 0, none⟩) (fun _ => .inr (.inr rfl)) _).drew
    have hK' := ff.keeps (show ¬ (D = g2 ∨ D = g3 ∨ D = g4) from fun h => h.elim hD2 fun h => h.elim hD3 hD4) hK
    have b9 := HB.out.trans (ff.below (Nat.le_trans HSQ.out HB.out.size) fun k hk e => by have := HN.out; omega)
    generalize (((W'.setCell ⟨g2, 0, none⟩ (.int .i64 (c0 : Int))).setCell ⟨g3, 0, none⟩ (.int .u64 (T : Int))).setCell ⟨g4, 0, none⟩ (.bool true)).drew = W9 at *
    have b10 := b9.trans (belowK_b (w := W2) HSQ.out W9 D _ (.deferred none) hD hK' rfl rfl)
    replace e2 : (W9.putObj D (.deferred none)).heap[g2]? = some (.cells #[.int .i64 (c0 : Int)] 3 (0, 0)) := (World.putObj_heap_other (fun e => hD2 e.symm)).trans e2
    replace e3 : (W9.putObj D (.deferred none)).heap[g3]? = some (.cells #[.int .u64 (T : Int)] 25 (0, 0)) := (World.putObj_heap_other (fun e => hD3 e.symm)).trans e3
    replace e4 : (W9.putObj D (.deferred none)).heap[g4]? = some (.cells #[.bool true] 4 (0, 0)) := (World.putObj_heap_other (fun e => hD4 e.symm)).trans e4
    clear ff b9 q2 q3 q4 q5 q7 hK
    gi_wp2
    refine ⟨by simp, .inl ⟨_, _, rfl, run_takeDeferred hK', ?_⟩⟩
    rw [hc0.out]
    exact ⟨_, res_cell3 rfl _ _ g2 g3 g4 _ _ _ rfl rfl rfl (by rw [cell_at, e2]; rfl) (by rw [cell_at, e3]; rfl) (by rw [cell_at, e4]; rfl) Try.underlying3 Try.underlying25 Try.underlying4, rfl, hFr.out _ b10⟩
  case stop =>
    rintro D cc pre W' hD h hK
    exact h.elim
end Go.Proofs.Ytjkeoameebdefaa

/- Layer 16 (purse): the law's model in memory: 256 amounts, what is held, paid in, paid out. -/
namespace Go.Proofs.Ytjkeoameebdefaa
set_option maxRecDepth 100000
set_option linter.unusedVariables false
set_option linter.unusedSimpArgs false
open Go.RowKit

/-- Block m is a model: f is what each has free. -/
def MD (w : World) (m : Nat) (f : Nat → Nat) (h i o : Nat) : Prop :=
  ∃ cs, w.heap[m]? = some (.cells cs 32 (0, 0)) ∧ cs.size = 259 ∧ (∀ k, k < 256 → cs[k]? = some (.int .u64 (f k : Nat))) ∧ cs[256]? = some (.int .u64 (h : Nat)) ∧ cs[257]? = some (.int .u64 (i : Nat)) ∧ cs[258]? = some (.int .u64 (o : Nat))
section
variable {w : World} {m h i o : Nat} {f : Nat → Nat}
theorem MD.lt (d : MD w m f h i o) : m < w.heap.size := by
  obtain ⟨cs, h1, _⟩ := d
  exact (Array.getElem?_eq_some_iff.1 h1).1
theorem MD.fr {S : Nat → Prop} {w' : World} (d : MD w m f h i o) (r : Fr S w w') (hs : ¬ S m) : MD w' m f h i o := by
  obtain ⟨cs, h1, h2⟩ := d
  exact ⟨cs, r.keeps hs h1, h2⟩
theorem MD.cell (d : MD w m f h i o) {k : Nat} (hk : k < 256) : w.cell? ⟨m, k, none⟩ = some (.int .u64 (f k : Nat)) := by
  obtain ⟨cs, h1, _, h2, _⟩ := d
  simp [World.cell?, h1, h2 k hk]
theorem MD.held (d : MD w m f h i o) : w.cell? ⟨m, 256, none⟩ = some (.int .u64 (h : Nat)) := by
  obtain ⟨cs, h1, _, _, h2, _⟩ := d
  simp [World.cell?, h1, h2]
theorem MD.inn (d : MD w m f h i o) : w.cell? ⟨m, 257, none⟩ = some (.int .u64 (i : Nat)) := by
  obtain ⟨cs, h1, _, _, _, h2, _⟩ := d
  simp [World.cell?, h1, h2]
theorem MD.out (d : MD w m f h i o) : w.cell? ⟨m, 258, none⟩ = some (.int .u64 (o : Nat)) := by
  obtain ⟨cs, h1, _, _, _, _, h2⟩ := d
  simp [World.cell?, h1, h2]
theorem MD.frozen (d : MD w m f h i o) (j : Nat) : w.frozen? ⟨m, j, none⟩ = false := by
  obtain ⟨cs, h1, _⟩ := d
  simp [World.frozen?, h1]
theorem MD.setF (d : MD w m f h i o) {x : Nat} (hx : x < 256) (v : Nat) : MD (w.setCell ⟨m, x, none⟩ (.int .u64 (v : Nat))) m (upd f x v) h i o := by
  obtain ⟨cs, h1, h2, h3, h4, h5, h6⟩ := d
  refine ⟨cs.setIfInBounds x (.int .u64 (v : Nat)), heap_setCell_lg w m x cs _ _ _ h1, by simp [h2], fun k hk => ?_, ?_, ?_, ?_⟩
  · by_cases e : k = x
    · subst e
      rw [upd_same, Array.getElem?_setIfInBounds_self_of_lt (by omega)]
    · rw [upd_other e, Array.getElem?_setIfInBounds_ne (Ne.symm e)]
      exact h3 k hk
  · rw [Array.getElem?_setIfInBounds_ne (by omega)]; exact h4
  · rw [Array.getElem?_setIfInBounds_ne (by omega)]; exact h5
  · rw [Array.getElem?_setIfInBounds_ne (by omega)]; exact h6
theorem MD.setH (d : MD w m f h i o) (v : Nat) : MD (w.setCell ⟨m, 256, none⟩ (.int .u64 (v : Nat))) m f v i o := by
  obtain ⟨cs, h1, h2, h3, h4, h5, h6⟩ := d
  refine ⟨cs.setIfInBounds 256 (.int .u64 (v : Nat)), heap_setCell_lg w m 256 cs _ _ _ h1, by simp [h2], fun k hk => ?_, ?_, ?_, ?_⟩
  · rw [Array.getElem?_setIfInBounds_ne (by omega)]; exact h3 k hk
  · rw [Array.getElem?_setIfInBounds_self_of_lt (by omega)]
  · rw [Array.getElem?_setIfInBounds_ne (by omega)]; exact h5
  · rw [Array.getElem?_setIfInBounds_ne (by omega)]; exact h6
theorem MD.setI (d : MD w m f h i o) (v : Nat) : MD (w.setCell ⟨m, 257, none⟩ (.int .u64 (v : Nat))) m f h v o := by
  obtain ⟨cs, h1, h2, h3, h4, h5, h6⟩ := d
  refine ⟨cs.setIfInBounds 257 (.int .u64 (v : Nat)), heap_setCell_lg w m 257 cs _ _ _ h1, by simp [h2], fun k hk => ?_, ?_, ?_, ?_⟩
  · rw [Array.getElem?_setIfInBounds_ne (by omega)]; exact h3 k hk
  · rw [Array.getElem?_setIfInBounds_ne (by omega)]; exact h4
  · rw [Array.getElem?_setIfInBounds_self_of_lt (by omega)]
  · rw [Array.getElem?_setIfInBounds_ne (by omega)]; exact h6
theorem MD.setO (d : MD w m f h i o) (v : Nat) : MD (w.setCell ⟨m, 258, none⟩ (.int .u64 (v : Nat))) m f h i v := by
  obtain ⟨cs, h1, h2, h3, h4, h5, h6⟩ := d
  refine ⟨cs.setIfInBounds 258 (.int .u64 (v : Nat)), heap_setCell_lg w m 258 cs _ _ _ h1, by simp [h2], fun k hk => ?_, ?_, ?_, ?_⟩
  · rw [Array.getElem?_setIfInBounds_ne (by omega)]; exact h3 k hk
  · rw [Array.getElem?_setIfInBounds_ne (by omega)]; exact h4
  · rw [Array.getElem?_setIfInBounds_ne (by omega)]; exact h5
  · rw [Array.getElem?_setIfInBounds_self_of_lt (by omega)]
theorem MD.drew (d : MD w m f h i o) : MD w.drew m f h i o := d
end
end Go.Proofs.Ytjkeoameebdefaa

/- Layer 16 (purse): a purse all of which lies at base or beyond; the law's example. -/
namespace Go.Proofs.Ytjkeoameebdefaa
set_option maxRecDepth 100000
set_option linter.unusedVariables false
set_option linter.unusedSimpArgs false
open Go.RowKit

/-- A purse all of which lies at base or beyond. -/
def PB (base : Nat) (w : World) (q p n : Nat) (f : Nat → Nat) (t h i o : Nat) : Prop := ∃ ob, PG w q p ob n f t h i o ∧ base ≤ q ∧ base ≤ p ∧ ∀ B, ob = some B → base ≤ B
/-- What lies at base or beyond. -/
def PX (base : Nat) : Nat → Prop := fun i => base ≤ i
theorem PX.fr0 {w W W' : World} (f : Fr F0 w W) (g : Fr (PX w.heap.size) W W') : Fr F0 w W' := f.trans g fun i hi h => absurd h (Nat.not_le.2 hi)
theorem PB.call {base : Nat} {w : World} {q p n t h i o n' t' h' i' o' : Nat} {f f' : Nat → Nat} {fn : FuncId} {args : Array Value} {E : Int} (P : PB base w q p n f t h i o)
    (H : ∀ ob, PG w q p ob n f t h i o → Calls Try.prog fn args w (PuQ w q p ob n' f' t' h' i' o' E)) : Calls Try.prog fn args w fun e w' => e = .returned (.int .i64 E) ∧ PB base w' q p n' f' t' h' i' o' ∧ Fr (PX base) w w' := by
  obtain ⟨ob, P, hq, hp, ho⟩ := P
  refine (H ob P).mono ?_
  rintro e w' ⟨he, ob', P', b, f2⟩
  refine ⟨he, ⟨ob', P', hq, hp, fun B e => ?_⟩, f2.mono fun k _ h => ?_⟩
  · rcases b with b | ⟨_, C, b, hc⟩
    · exact ho B (by rw [← b]; exact e)
    · rw [e] at b
      have := Option.some.inj b
      have := P.lt
      omega
  · rcases h with e | e | e
    · rw [e]; exact hq
    · rw [e]; exact hp
    · exact ho k e
theorem PB.of {base : Nat} {w : World} {q p n t h i o : Nat} {f : Nat → Nat} (P : PB base w q p n f t h i o) {a : Nat} (ha : a < 256) : Calls Try.prog 18 #[.pointer (some ⟨q, 0, none⟩), .int .u8 (a : Int)] w fun e w' => e = .returned (.int .u64 (f a : Nat)) ∧ w' = w := by
  obtain ⟨ob, P, _⟩ := P
  exact puOf_any P ha
theorem PB.held {base : Nat} {w : World} {q p n t h i o : Nat} {f : Nat → Nat} (P : PB base w q p n f t h i o) : Calls Try.prog 19 #[.pointer (some ⟨q, 0, none⟩)] w fun e w' => e = .returned (.int .u64 (h : Nat)) ∧ Fr F0 w w' := by
  obtain ⟨ob, P, _⟩ := P
  exact puHeld_any P

set_option maxRecDepth 100000 in
set_option maxHeartbeats 16000000 in
theorem lives16_any (w : World) : Calls Try.prog 6 #[] w fun e w' => e = .returned (.bool true) ∧ Fr F0 w w' := by
  have HN := Lib.hid (puNew_any w)
  have mx : (4 : Nat) < maxLen := by unfold maxLen; decide
  obtain ⟨f1, hf1⟩ : ∃ f1, f1 = upd (fun _ => 0) 1 9 := ⟨_, rfl⟩
  obtain ⟨f2, hf2⟩ : ∃ f2, f2 = upd f1 1 5 := ⟨_, rfl⟩
  obtain ⟨f3, hf3⟩ : ∃ f3, f3 = upd f2 2 1 := ⟨_, rfl⟩
  have v1 : f1 1 = 9 := by rw [hf1]; rfl
  have v2 : f2 2 = 0 := by rw [hf2, hf1]; rfl
  have v3 : f3 1 = 5 := by rw [hf3, hf2]; rfl
  have v4 : f3 2 = 1 := by rw [hf3]; rfl
  have HM : Hid (∀ (W : World) (q p : Nat), PB w.heap.size W q p 0 (fun _ => 0) 0 0 0 0 → Calls Try.prog 16 #[.pointer (some ⟨q, 0, none⟩), .int .u8 1, .int .u64 9] W fun e w' => e = .returned (.int .i64 0) ∧ PB w.heap.size w' q p 1 f1 9 0 9 0 ∧ Fr (PX w.heap.size) W w') :=
    Lib.hid fun W q p P => P.call fun ob P => by rw [hf1]; exact puIn_ok P (show 0 < maxLen by omega) (show 1 < 256 by decide) (show 0 + 9 ≤ 4611686018427387904 by decide)
  have HH : Hid (∀ (W : World) (q p : Nat), PB w.heap.size W q p 1 f1 9 0 9 0 → Calls Try.prog 9 #[.pointer (some ⟨q, 0, none⟩), .int .u8 1, .int .u64 4] W fun e w' => e = .returned (.int .i64 0) ∧ PB w.heap.size w' q p 2 f2 5 4 9 0 ∧ Fr (PX w.heap.size) W w') :=
    Lib.hid fun W q p P => P.call fun ob P => by
      have := puHold_ok P (show 1 < maxLen by omega) (show 1 < 256 by decide) (show 4 ≤ f1 1 by omega)
      rw [v1] at this
      rw [hf2]
      exact this
  have HF : Hid (∀ (W : World) (q p : Nat), PB w.heap.size W q p 2 f2 5 4 9 0 → Calls Try.prog 10 #[.pointer (some ⟨q, 0, none⟩), .int .u8 2, .int .u64 1] W fun e w' => e = .returned (.int .i64 0) ∧ PB w.heap.size w' q p 3 f3 6 3 9 0 ∧ Fr (PX w.heap.size) W w') :=
    Lib.hid fun W q p P => P.call fun ob P => by
      have := puFree_ok P (show 2 < maxLen by omega) (show 2 < 256 by decide) (show 1 ≤ 4 by omega)
      rw [v2] at this
      rw [hf3]
      exact this
  have HO1 : Hid (∀ (W : World) (q p : Nat), PB w.heap.size W q p 3 f3 6 3 9 0 → Calls Try.prog 18 #[.pointer (some ⟨q, 0, none⟩), .int .u8 1] W fun e w' => e = .returned (.int .u64 5) ∧ w' = W) :=
    Lib.hid fun W q p P => by have := P.of (show 1 < 256 by decide); rw [v3] at this; exact this
  have HO2 : Hid (∀ (W : World) (q p : Nat), PB w.heap.size W q p 3 f3 6 3 9 0 → Calls Try.prog 18 #[.pointer (some ⟨q, 0, none⟩), .int .u8 2] W fun e w' => e = .returned (.int .u64 1) ∧ w' = W) :=
    Lib.hid fun W q p P => by have := P.of (show 2 < 256 by decide); rw [v4] at this; exact this
  have HT : Hid (∀ (W : World) (q p : Nat), PB w.heap.size W q p 3 f3 6 3 9 0 → Calls Try.prog 19 #[.pointer (some ⟨q, 0, none⟩)] W fun e w' => e = .returned (.int .u64 3) ∧ Fr F0 W w') :=
    Lib.hid fun W q p P => P.held
  clear mx v1 v2 v3 v4 hf1 hf2 hf3
  go_enter Try.func6, Try.ntmps6
  go_wp2_with fail
  refine HN.out.mono ?_; rintro e w1 ⟨q, p, rfl, P1, g1, hq, hp⟩
  have H1 := Lib.hid (And.intro (show PB w.heap.size w1 q p 0 (fun _ => 0) 0 0 0 0 from ⟨none, P1, hq, hp, fun B e => by cases e⟩) g1)
  clear P1 g1 hq hp
  go_wp2_with fail
  (with_reducible refine (HM.out w1 q p H1.out.1).mono ?_); rintro e w2 ⟨rfl, P2, g2⟩
  have H2 := Lib.hid (And.intro P2 (PX.fr0 H1.out.2 g2))
  clear P2 g2
  go_wp2_with fail
  (with_reducible refine (HH.out w2 q p H2.out.1).mono ?_); rintro e w3 ⟨rfl, P2, g2⟩
  have H3 := Lib.hid (And.intro P2 (PX.fr0 H2.out.2 g2))
  clear P2 g2
  go_wp2_with fail
  (with_reducible refine (HF.out w3 q p H3.out.1).mono ?_); rintro e w4 ⟨rfl, P2, g2⟩
  have H4 := Lib.hid (And.intro P2 (PX.fr0 H3.out.2 g2))
  clear P2 g2
  go_wp2_with fail
  (with_reducible refine (HO1.out w4 q p H4.out.1).mono ?_); rintro e w5 ⟨rfl, hw⟩; replace hw := hw.symm; subst hw
  go_wp2_with fail
  (with_reducible refine (HO2.out w4 q p H4.out.1).mono ?_); rintro e w5 ⟨rfl, hw⟩; replace hw := hw.symm; subst hw
  go_wp2_with fail
  (with_reducible refine (HT.out w4 q p H4.out.1).mono ?_); rintro e w6 ⟨rfl, g2⟩
  have H6 := Lib.hid (H4.out.2.trans' g2)
  clear g2
  go_wp2_with fail
  go_ret
  exact ⟨rfl, H6.out⟩
end Go.Proofs.Ytjkeoameebdefaa

/- Layer 16 (purse): a purse that isn't there. -/
namespace Go.Proofs.Ytjkeoameebdefaa
set_option maxRecDepth 100000
set_option linter.unusedVariables false
set_option linter.unusedSimpArgs false
open Go.RowKit

theorem cntN_zero : ∀ n, cntN (fun _ => 0) n = 0
  | 0 => rfl
  | n + 1 => by show cntN _ n + 0 = 0; rw [cntN_zero n]
set_option maxRecDepth 100000 in
set_option maxHeartbeats 16000000 in
theorem purseNone_any (a x : Nat) (ha : a < 256) (hx : x < 18446744073709551616) (w : World) : Calls Try.prog 5 #[.int .u8 (a : Int), .int .u64 (x : Int)] w fun e w' => e = .returned (.bool true) ∧ Fr F0 w w' := by
  have HL := Lib.hid (fun w => lives16_any w)
  have H0 := Lib.hid (fun w => puPaid_nil w)
  have H1 := Lib.hid (fun w => puAll_nil w)
  have H2 := Lib.hid (fun (w : World) (gb : Nat) (ob : Option Nat) hb hm => count16_any (w := w) (gb := gb) (n := 0) (T := 0) (ob := ob) (f := fun _ => 0) hb hm (by decide) (sumN_zero 256) (by decide))
  rw [cntN_zero] at H2
  have H3 := Lib.hid (fun w => puIn_nil a x w)
  have H4 := Lib.hid (fun w => puOut_nil a x w)
  have H5 := Lib.hid (fun w => puHold_nil a x w)
  have H6 := Lib.hid (fun w => puFree_nil a x w)
  have H7 := Lib.hid (fun w => puOf_nil a w)
  have H8 := Lib.hid (fun w => puHeld_nil w)
  have H9 := Lib.hid (fun w => puCopy_nil w)
  clear ha hx
  go_enter Try.func5, Try.ntmps5
  go_wp2_with fail
  (with_reducible refine (HL.out _).mono ?_); rintro e w1 ⟨rfl, f1⟩
  replace f1 := Lib.hid f1
  go_wp2_with fail
  (with_reducible refine (H0.out _).mono ?_); rintro e w2 ⟨rfl, hw⟩; replace hw := hw.symm; subst hw
  go_wp2_with fail
  (with_reducible refine (H1.out _).mono ?_); rintro e w3 ⟨gb, ob, rfl, h1, h2, f3⟩
  have F3 := Lib.hid (And.intro (f1.out.trans' f3) (And.intro h1 h2))
  clear f3 h1 h2
  go_wp2_with fail
  (with_reducible refine (H2.out w3 gb ob F3.out.2.1 F3.out.2.2).mono ?_); rintro e w4 ⟨rfl, f4⟩
  have F4 := Lib.hid (F3.out.1.trans' f4)
  clear f4
  go_wp2_with fail
  (with_reducible refine (H3.out _).mono ?_); rintro e w2 ⟨rfl, hw⟩; replace hw := hw.symm; subst hw
  go_wp2_with fail
  (with_reducible refine (H4.out _).mono ?_); rintro e w2 ⟨rfl, hw⟩; replace hw := hw.symm; subst hw
  go_wp2_with fail
  (with_reducible refine (H5.out _).mono ?_); rintro e w2 ⟨rfl, hw⟩; replace hw := hw.symm; subst hw
  go_wp2_with fail
  (with_reducible refine (H6.out _).mono ?_); rintro e w2 ⟨rfl, hw⟩; replace hw := hw.symm; subst hw
  go_wp2_with fail
  (with_reducible refine (H7.out _).mono ?_); rintro e w2 ⟨rfl, hw⟩; replace hw := hw.symm; subst hw
  go_wp2_with fail
  (with_reducible refine (H8.out _).mono ?_); rintro e w5 ⟨rfl, f5⟩
  have F5 := Lib.hid (F4.out.trans' f5)
  clear f5
  go_wp2_with fail
  (with_reducible refine (H9.out _).mono ?_); rintro e w2 ⟨rfl, hw⟩; replace hw := hw.symm; subst hw
  go_wp2_with fail
  go_ret
  exact ⟨rfl, F5.out⟩
end Go.Proofs.Ytjkeoameebdefaa
