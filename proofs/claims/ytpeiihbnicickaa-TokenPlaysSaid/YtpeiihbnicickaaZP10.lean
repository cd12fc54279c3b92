import Derived.Test.YtpeiihbnicickaaZP8
import Derived.Test.YtpeiihbnicickaaZP5
import Derived.RangeFuncFrom
import Derived.Test.YtpeiihbnicickaaZP9
import Derived.Great.FillDense
import Derived.Great.BuildSlice
import Derived.Test.YtpeiihbnicickaaZP4
import Derived.ProofKit
import Derived.Deep.Slices
import Derived.Deep.Fields
import Derived.OpenShut
import Derived.Below
/- Lists that a call makes for itself, of elements of any size; slices.AppendSeq and Collect of a map's parties. -/
namespace Go.Proofs.Ytpeiihbnicickaa
set_option maxRecDepth 100000
set_option linter.unusedVariables false
set_option linter.unusedSimpArgs false
open Go.RowKit Go.Shelf

attribute [local go_sem] Oper.semAt_some

theorem own_frE {S : Nat → Prop} {w w' : World} {base e size n : Nat} {v : Value} {xs : List Value} (h : w.ownsRow base e size v n xs) (hf : Fr S w w') (hs : ∀ k, v.ownBlock = some k → ¬ S k) : w'.ownsRow base e size v n xs := by
  refine ⟨h.1, ?_⟩
  rcases h.2 with hn | ⟨g, cap, cur, rfl, hb, hg, r⟩
  · exact .inl hn
  · exact .inr ⟨g, cap, cur, rfl, hb, hf.keeps (hs g rfl) hg, r⟩
theorem grown_frE {A D : World} {row : Option Nat} (hg : A.grownBy D row) : Fr (fun k => row = some k) A D := (Fr.refl _ A).grown hg fun k hk _ => hk
theorem cell_notE {A : World} {B : Nat} {row : Option Nat} {k : Nat} {cs : Array Value} {t : TypeId} {fr : Nat × Nat} (hr : ∀ r, row = some r → B ≤ r ∧ ∃ o : Obj, A.heap[r]? = some o ∧ o.isCells = false) (h : A.heap[k]? = some (.cells cs t fr)) : ¬ row = some k := fun e => by
  obtain ⟨_, o, ho, hc⟩ := hr k e
  rw [h] at ho
  cases ho
  cases hc
theorem row_notE {A : World} {B : Nat} {row : Option Nat} {e0 size n : Nat} {v : Value} {xs : List Value} (hr : ∀ r, row = some r → B ≤ r ∧ ∃ o : Obj, A.heap[r]? = some o ∧ o.isCells = false) (h : A.ownsRow 0 e0 size v n xs) : ∀ k, v.ownBlock = some k → ¬ row = some k := fun k hk => by
  rcases h.2 with ⟨rfl, _⟩ | ⟨g, cap, cur, rfl, _, hg, _⟩
  · cases hk
  · cases hk
    exact cell_notE hr hg
theorem own_csE {A D : World} {B : Nat} {row : Option Nat} {k : Nat} {cs : Array Value} {t : TypeId} {fr : Nat × Nat} (hs : A.heap[k]? = some (.cells cs t fr)) (hg : A.grownBy D row) (hr : ∀ r, row = some r → B ≤ r ∧ ∃ o : Obj, A.heap[r]? = some o ∧ o.isCells = false) : D.heap[k]? = some (.cells cs t fr) := (grown_frE hg).keeps (cell_notE hr hs) hs

/-- A list that the call itself has made: its block is B or a later one. -/
structure OwnE {α : Type} (e size : Nat) (enc : α → List Value) (B : Nat) (w : World) (v : Value) (l : List α) : Prop where
  own : w.ownsRow 0 e size v l.length (l.flatMap enc)
  blk : ∀ k, v.ownBlock = some k → B ≤ k
section
variable {α : Type} {e size : Nat} {enc : α → List Value}
theorem OwnE.nil (B : Nat) (w : World) : OwnE e size enc B w (.slice none 0 0) [] := ⟨World.ownsRow_nil _ _ _ _, fun k h => (by cases h)⟩
theorem OwnE.frS {B : Nat} {S : Nat → Prop} {w w' : World} {v : Value} {l : List α} (h : OwnE e size enc B w v l) (f : Fr S w w') (h1 : ∀ k, v.ownBlock = some k → ¬ S k) : OwnE e size enc B w' v l := ⟨own_frE h.own f h1, h.blk⟩
theorem OwnE.fr0 {B : Nat} {w w' : World} {v : Value} {l : List α} (h : OwnE e size enc B w v l) (f : Fr F0 w w') : OwnE e size enc B w' v l := h.frS f fun _ _ e => e
theorem OwnE.lt {B : Nat} {w : World} {v : Value} {l : List α} (h : OwnE e size enc B w v l) : ∀ k, v.ownBlock = some k → k < w.heap.size := fun k hk => (World.ownsRow.lt h.own k hk).2
theorem OwnE.mono {B B' : Nat} {w : World} {v : Value} {l : List α} (h : OwnE e size enc B w v l) (hb : B' ≤ B) : OwnE e size enc B' w v l := ⟨h.own, fun k hk => Nat.le_trans hb (h.blk k hk)⟩
theorem OwnE.is {B : Nat} {w : World} {v : Value} {l : List α} (h : OwnE e size enc B w v l) : ∃ a c, v = .slice a l.length c ∧ Sl w size a c l.length (l.flatMap enc) := by
  obtain ⟨a, c, rfl⟩ := own_slice h.own
  exact ⟨a, c, rfl, (Sl.of_own h.own).2⟩
theorem OwnE.grown {B B' : Nat} {v : Value} {l : List α} {A D : World} {row : Option Nat} (h : OwnE e size enc B A v l) (hg : A.grownBy D row) (hr : ∀ r, row = some r → B' ≤ r ∧ ∃ o : Obj, A.heap[r]? = some o ∧ o.isCells = false) : OwnE e size enc B D v l := h.frS (grown_frE hg) (row_notE hr h.own)
/-- One more. -/
theorem OwnE.app {P : Program} {st ty bytes : Nat} {i : TypeInfo} {z : Value} (hu : P.underlying st = some (.slice e)) (hi : P.info? e = some i) (hz : i.zero = some z) (hs : i.size = size) (hb : i.bytes = bytes) (hzs : z.cells.size = size) (h0 : 0 < size) (hby : bytes ≤ 1000) (hsz : size ≤ 1000)
    {B : Nat} {w : World} {v : Value} {l : List α} (h : OwnE e size enc B w v l) (x : α) (hx : (enc x).length = size) (h1 : ∀ u ∈ enc x, u.oneCell' = true) (hB : B ≤ w.heap.size) (hl : l.length ≤ 100000) :
    ∃ a c w', (Builtin.append_ #[st, st] ty #[v, .slice (some ⟨w.heap.size, 0, none⟩) 1 1]).run P (w.alloc (.cells (enc x).toArray e)) = .ok (.slice a (l.length + 1) c) w' ∧ OwnE e size enc B w' (.slice a (l.length + 1) c) (l ++ [x]) ∧
      Fr (fun k => v.ownBlock = some k) w w' ∧ w.heap.size < w'.heap.size := by
  obtain ⟨W, hW⟩ : ∃ W, W = w.alloc (.cells (enc x).toArray e) := ⟨_, rfl⟩
  have hnew := heap_alloc_new w (.cells (enc x).toArray e)
  have fW : Fr F0 w W := by rw [hW]; exact (Fr.refl F0 w).alloc _
  have sW : W.heap.size = w.heap.size + 1 := by rw [hW]; simp
  rw [← hW] at hnew ⊢
  have hsl : Sl W size (some ⟨w.heap.size, 0, none⟩) 1 1 (enc x) := ⟨by omega, Nat.le_refl _, by unfold maxLen; omega, (fun e => by cases e), fun j u hj => ⟨_, _, rfl, by rw [cell_at, hnew, cellAt_cells, Nat.zero_add]; simpa using hj⟩⟩
  have hbb : (l.length + 1) * bytes ≤ 140737488355328 := Nat.le_trans (Nat.mul_le_mul (show l.length + 1 ≤ 100001 by omega) hby) (by decide)
  obtain ⟨v', w', hrun, hown, hg, hnw⟩ := run_app (P := P) (w := W) st ty e i _ size bytes hu hi hz hs hb hzs h0 v l.length _ (own_frE h.own fW fun _ _ f => f) (some ⟨w.heap.size, 0, none⟩) 1 1 (enc x) hsl
    h1 (by unfold maxLen; omega) hbb
  obtain ⟨a, c, rfl⟩ := own_slice hown
  refine ⟨a, c, w', hrun, ⟨?_, fun k hk => ?_⟩, (fW.of0).grown hg fun k hk hl => hk, by have := hg.size; omega⟩
  · rw [List.length_append, List.flatMap_append]
    simpa using hown
  · rcases hnw k hk with e | e
    · exact h.blk k e
    · omega
end

theorem Try.infoWho : (Try.prog.info? 29).map (fun i => (i.zero, i.size, i.bytes)) = some (some (.int .u8 0), 1, 1) := by kernel_rfl
def appWs (ty : TypeId) (args : Array Value) : Sem Value := Builtin.append_ #[61, 61] ty args
@[go_sem ↓ high] theorem app_Ws (ty : TypeId) (args : Array Value) : Builtin.append_ #[61, 61] ty args = appWs ty args := rfl
def encW (x : Nat) : List Value := [.int .u8 (x : Int)]
abbrev OwnW (B : Nat) (w : World) (v : Value) (l : List Nat) : Prop := OwnE 29 1 encW B w v l
theorem OwnW.app {B : Nat} {w : World} {v : Value} {l : List Nat} (h : OwnW B w v l) (x : Nat) (hB : B ≤ w.heap.size) (hl : l.length ≤ 100000) (ty : TypeId) :
    ∃ a c w', (appWs ty #[v, .slice (some ⟨w.heap.size, 0, none⟩) 1 1]).run Try.prog (w.alloc (.cells #[.int .u8 (x : Int)] 29)) = .ok (.slice a (l.length + 1) c) w' ∧ OwnW B w' (.slice a (l.length + 1) c) (l ++ [x]) ∧
      Fr (fun k => v.ownBlock = some k) w w' ∧ w.heap.size < w'.heap.size := by
  obtain ⟨i0, hi, hz, hs, hb⟩ := info_parts Try.infoWho
  exact OwnE.app Try.underlying61 hi hz hs hb rfl (by decide) (by decide) (by decide) h x rfl (by intro u hu; simp only [encW, List.mem_singleton] at hu; subst hu; rfl) hB hl

theorem wpIn_newE {F : Fence} {n : Nat} {P : Program} {c : Code} {Q : Exit → Act → World → Prop} {a : Act} {w : World} {z : Array Value} {t : TypeId} (k : ∀ W, NewRow w W w.heap.size z t → Code.wpIn F n P c Q a W) : Code.wpIn F n P c Q a (w.alloc (.cells z t)) := k _ ⟨heap_alloc_new _ _, fun h => keep_alloc h, (Fr.refl F0 w).alloc _, fun h => by have := (Array.getElem?_eq_some_iff.1 h).1; omega⟩

set_option maxRecDepth 100000 in
set_option maxHeartbeats 8000000 in
theorem AppSeq8_map (gf : Nat) (lb : Array Value) (C : List Nat → World → Prop) (Nx : List Nat → Nat → World → World → Prop) (S : List Nat → Prop) (w : World) (eg : ∀ args w, (callFunc gf args).run Try.prog w = .ok (.enter gf args) w)
    (hseq : SeqM Try.prog gf lb encK Kbm C Nx S) (hC : ∀ pre W, Fr F0 w W → C pre W) (hlen : ∀ pre x W0 W1, Nx pre x W0 W1 → pre.length ≤ 100000) :
    Calls Try.prog 34 #[.slice none 0 0, .func (.func gf) #[] lb] w fun e w' => ∃ s xs, e = .returned s ∧ OwnW w.heap.size w' s xs ∧ S xs ∧ Fr F0 w w' := by
  have hmf : ∀ (fn : Fn) (first cap : Array Value) (w : World), (Instr.makeFunc fn first cap).run Try.prog w = .ok (.func fn first cap) w := fun _ _ _ _ => rfl
  have HC := Lib.hid (And.intro hC hlen)
  clear hC hlen
  refine callsIn_wide (n := 6) |>.1 ?_
  refine callsIn_of_wp_marks Try.func34 rfl trivial ?_ rfl
  simp only [Try.ntmps34, List.size_toArray, List.length_cons, List.length_nil, Nat.reduceAdd, Nat.reduceSub, Array.replicate_succ, Array.replicate_zero, List.push_toArray, List.append_toArray, List.nil_append, List.cons_append]
  gi_upto_region 1 with fail
  refine wpIn_newE fun W1 N1 => ?_
  have r3 := N1.new
  have F := N1.fr
  clear N1
  obtain ⟨gs, hgs⟩ : ∃ g, g = w.heap.size := ⟨_, rfl⟩
  rw [← hgs] at r3 ⊢
  replace hgs := Lib.hid hgs
  have hsl := Lib.hid (Array.getElem?_eq_some_iff.1 r3).1
  have hwz := Lib.hid F.size
  gi_wp2
  have hOI : OwnFrom W1.heap.size (fun (pre : List Nat) W' => (∃ s, W'.heap[gs]? = some (.cells #[s] 61 (0, 0)) ∧ OwnW (W1.heap.size + 3) W' s pre) ∧ Below w.heap.size W1 W') :=
    OwnFrom.and (fun sx A D row h hgr hr => by
      obtain ⟨s, h1, h2⟩ := h
      exact ⟨s, own_csE h1 hgr hr, h2.grown hgr hr⟩) (own_below (β := List Nat) W1.heap.size w.heap.size W1 (Nat.le_refl _) hwz.out)
  have hFr := Lib.hid (show ∀ W', Below w.heap.size W1 W' → Fr F0 w W' from fun W' b => F.trans (Fr.of_below' b) fun i hi hk => by omega)
  refine range_lawM (gf := gf) (lb := lb) rfl eg hseq (fun _ => rfl) Kbm.trans (fun W o => Kbm.put (by omega))
    (fun (pre : List Nat) W' => (∃ s, W'.heap[gs]? = some (.cells #[s] 61 (0, 0)) ∧ OwnW (W1.heap.size + 3) W' s pre) ∧ Below w.heap.size W1 W')
    (fun _ _ _ => False)
    hOI (fun cc => own_pure _ _)
    (fun pre W' h => HC.out.1 _ _ (hFr.out _ h.2))
    ?map
    ⟨⟨_, r3, OwnE.nil _ _⟩, Below.refl _ _⟩
    (fun pre x a' W' => ∃ s, a' = { tmps := #[.slice none 0 0, .func (.func gf) #[] lb, .pointer (some ⟨gs, 0, none⟩), undef, .slice none 0 0, .int .u8 (x : Int), .func (.func gf) #[] lb, .int .u8 (x : Int), undef, undef, undef, undef, undef], defers := [] } ∧ W'.heap[gs]? = some (.cells #[s] 61 (0, 0)) ∧ OwnW (W1.heap.size + 3) W' s pre ∧ pre.length ≤ 100000 ∧ W1.heap.size + 2 < W'.heap.size)
    (fun pre x a' sx A D row h hgr hr => by
      obtain ⟨s, e, h3, ho, hl, hz⟩ := h
      exact ⟨s, e, own_csE h3 hgr hr, ho.grown hgr hr, hl, Nat.lt_of_lt_of_le hz hgr.size⟩) ?assign ?body ?done ?stop
  case map =>
    rintro pre A A' ⟨⟨s, h1, h2⟩, hB⟩ hf hA
    exact ⟨⟨s, hf.keeps (fun e => by have := hsl.out; omega) h1, h2.frS hf fun k hk e => by have := h2.blk k hk; omega⟩, hB.trans (hf.below (Nat.le_trans hwz.out hB.size) (fun k hk e => by have := hwz.out; omega))⟩
  case assign =>
    intro l2 pre x W0 W' K hi0 f0 hsz hn hK
    gi_wp2
    have hi4 := own_frI hOI hi0 f0
    refine hK _ _ (KeepsFrom.refl _ _) (fun o ho => ho) hi4 ?_
    obtain ⟨s, q3, ho⟩ := hi4.1
    exact ⟨s, rfl, q3, ho, HC.out.2 _ _ _ _ hn, hsz⟩
  case body =>
    rintro l2 pre x a' W' hi ⟨s, rfl, q3, ho, hl, hz⟩
    obtain ⟨a5, c5, w5, happ, ho5, f5, hs5⟩ := ho.app x hz hl 61
    have hgn : s.ownBlock ≠ some gs := fun e => by have := ho.blk gs e; have := hsl.out; omega
    have q35 := f5.keeps (fun e => hgn e) q3
    gi_wp2
    have f6 : Fr (fun k => k = gs) w5 (w5.setCell ⟨gs, 0, none⟩ (.slice a5 (pre.length + 1) c5)) := (Fr.refl (fun k => k = gs) w5).setCell (p := ⟨gs, 0, none⟩) (fun _ => rfl) _
    have kp : KeepsFrom W1.heap.size W' w5 := ⟨f5.size, fun k o hk ho2 hc2 => f5.keeps (fun e => row_notE (row := some k) (B := W1.heap.size) (fun r e => by cases e; exact ⟨hk, o, ho2, hc2⟩) ho.own k e rfl) ho2⟩
    have kb : Kbm (W1.heap.size + 2) W' (w5.setCell ⟨gs, 0, none⟩ (.slice a5 (pre.length + 1) c5)) := fun o ho2 => f6.keeps (fun e => by have := hsl.out; omega) (f5.keeps (fun e => by have := ho.blk _ e; omega) ho2)
    refine ⟨kp.trans ((KeepsOthers.setCell w5 ⟨gs, 0, none⟩ _).from _), kb, ⟨.slice a5 (pre.length + 1) c5, ?_, ?_⟩, ?_⟩
    · rw [heap_setCell_at, q35]; rfl
    · refine ho5.frS f6 (fun k hk e => ?_)
      have := ho5.blk k hk; have := hsl.out; omega
    · exact (hi.2.trans (f5.below (Nat.le_trans hwz.out hi.2.size) fun k hk e => by have := ho.blk k e; have := hwz.out; omega)).trans (f6.below (by have := hi.2.size; have := f5.size; have := hwz.out; omega) fun k hk e => by have := hgs.out; omega)
  case done =>
    rintro D ys W' hD hy hi hK
    have h9 := hOI.putObj (.deferred none) hi hD hK rfl
    obtain ⟨s, q3, ho⟩ := hi.1
    gi_wp2
    refine ⟨by simp, .inl ⟨_, _, rfl, run_takeDeferred hK, ?_⟩⟩
    refine ⟨_, results_tmp rfl _ _ _, s, ys, rfl, ?_, hy, hFr.out _ h9.2⟩
    obtain ⟨s', q3', ho'⟩ := h9.1
    have es : s' = s := by
      have hDg : D ≠ gs := fun e => by have := hsl.out; omega
      rw [World.putObj_heap_other (fun e => hDg e.symm), q3] at q3'
      simpa using q3'.symm
    subst es
    exact ho'.mono (by have := hwz.out; omega)
  case stop =>
    rintro D cc pre W' hD h hK
    exact h.elim
end Go.Proofs.Ytpeiihbnicickaa

/- slices.Sorted of a map's parties: those that have some, rising. -/
namespace Go.Proofs.Ytpeiihbnicickaa
set_option maxRecDepth 100000
set_option linter.unusedVariables false
set_option linter.unusedSimpArgs false
open Go.RowKit Go.Shelf

theorem flatW (l : List Nat) : l.flatMap encW = l.map fun (x : Nat) => Value.int .u8 (x : Int) := by
  induction l with
  | nil => rfl
  | cons a l ih => simp [encW, ih]
/-- A list of one's own: nothing, or a row. -/
theorem OwnW.row {B : Nat} {w : World} {v : Value} {l : List Nat} (h : OwnW B w v l) : (v = .slice none 0 0 ∧ l = []) ∨ ∃ g c m, v = .slice (some ⟨g, 0, none⟩) l.length c ∧ B ≤ g ∧ R8 w g 29 l.length m l.toArray ∧ m = c ∧ c ≤ maxLen := by
  rcases h.own.2 with ⟨h1, h2⟩ | ⟨g, cap, cur, hv, h3, h4, h5, h6, h7, h8⟩
  · refine .inl ⟨h1, ?_⟩
    exact List.eq_nil_of_length_eq_zero h2
  · rw [Nat.mul_one] at h7 h8
    refine .inr ⟨g, cap, cap, hv, h.blk g (by rw [hv]; rfl), ⟨by simp, cur, h4, h7, h5, fun i hi => ?_⟩, rfl, h6⟩
    have e := congrArg (fun z : List Value => z[i]?) h8
    simp only [List.getElem?_take, if_pos hi, flatW, List.getElem?_map] at e
    rw [← Array.getElem?_toList, e, get!_toArray]
    simp [List.getD, hi]
theorem OwnW.of_row {w : World} {B g c m n : Nat} {l : List Nat} (h : R8 w g 29 n m l.toArray) (hB : B ≤ g) (hm : m = c) (hc : c ≤ maxLen) : OwnW B w (.slice (some ⟨g, 0, none⟩) l.length c) l := by
  have hl : l.length = n := by simpa using h.sz
  obtain ⟨cs, h1, h2, h3, h4⟩ := h.row
  refine ⟨⟨by rw [flatW]; simp, .inr ⟨g, c, cs, rfl, Nat.zero_le _, h1, by omega, hc, by omega, ?_⟩⟩, fun k hk => by cases hk; exact hB⟩
  rw [Nat.mul_one, flatW]
  refine List.ext_getElem? fun i => ?_
  rw [List.getElem?_take]
  by_cases hi : i < l.length
  · rw [if_pos hi, Array.getElem?_toList, h4 i (by omega), get!_toArray]
    simp [List.getD, hi]
  · rw [if_neg hi]
    exact (List.getElem?_eq_none (by rw [List.length_map]; exact Nat.le_of_not_lt hi)).symm
theorem KeysOf.perm {f : Nat → Nat} {xs ys : List Nat} (h : KeysOf f xs) (p : ys.Perm xs) : KeysOf f ys := ⟨p.nodup_iff.2 h.1, fun k => (p.mem_iff).trans (h.2 k)⟩

set_option maxHeartbeats 4000000 in
theorem Collect8_map (gf : Nat) (lb : Array Value) (C : List Nat → World → Prop) (Nx : List Nat → Nat → World → World → Prop) (S : List Nat → Prop) (w : World) (eg : ∀ args w, (callFunc gf args).run Try.prog w = .ok (.enter gf args) w)
    (hseq : SeqM Try.prog gf lb encK Kbm C Nx S) (hC : ∀ pre W, Fr F0 w W → C pre W) (hlen : ∀ pre x W0 W1, Nx pre x W0 W1 → pre.length ≤ 100000) :
    Calls Try.prog 31 #[.func (.func gf) #[] lb] w fun e w' => ∃ s xs, e = .returned s ∧ OwnW w.heap.size w' s xs ∧ S xs ∧ Fr F0 w w' := by
  have H := Lib.hid (AppSeq8_map gf lb C Nx S w eg hseq hC hlen)
  clear hseq hC hlen eg
  go_enter Try.func31, Try.ntmps31
  go_wp2_with fail
  (with_reducible refine H.out.mono ?_); rintro e w1 ⟨s, xs, rfl, h1, h2, h3⟩
  have H1 := Lib.hid (And.intro h1 (And.intro h2 h3))
  clear h1 h2 h3 H
  go_wp2_with fail
  go_ret
  exact ⟨s, xs, rfl, H1.out⟩

set_option maxRecDepth 100000 in
set_option maxHeartbeats 8000000 in
theorem Sorted8_map (gf : Nat) (lb : Array Value) (C : List Nat → World → Prop) (Nx : List Nat → Nat → World → World → Prop) (f : Nat → Nat) (n : Nat) (hn : n ≤ 100000) (w : World) (eg : ∀ args w, (callFunc gf args).run Try.prog w = .ok (.enter gf args) w)
    (hseq : SeqM Try.prog gf lb encK Kbm C Nx (fun xs => KeysOf f xs ∧ xs.length ≤ n)) (hC : ∀ pre W, Fr F0 w W → C pre W) (hlen : ∀ pre x W0 W1, Nx pre x W0 W1 → pre.length ≤ 100000) :
    Calls Try.prog 25 #[.func (.func gf) #[] lb] w fun e w' => ∃ s xs, e = .returned s ∧ OwnW w.heap.size w' s xs ∧ KeysOf f xs ∧ asc xs ∧ xs.length ≤ n ∧ Fr F0 w w' := by
  have H := Lib.hid (Collect8_map gf lb C Nx _ w eg hseq hC hlen)
  have HN := Lib.hid hn
  clear hseq hC hlen eg hn
  go_enter Try.func25, Try.ntmps25
  go_wp2_with fail
  (with_reducible refine H.out.mono ?_); rintro e w1 ⟨s, xs, rfl, h1, h2, h3⟩
  have HF := Lib.hid h3
  clear H h3
  rcases h1.row with ⟨rfl, rfl⟩ | ⟨g, c, m, rfl, hB, hr, hm, hc⟩
  · have H1 := Lib.hid (And.intro h1 h2)
    have HS := Lib.hid (Sort8_nil w1)
    clear h1 h2
    go_wp2_with fail
    (with_reducible refine HS.out.mono ?_); rintro e w2 ⟨rfl, hw⟩; replace hw := hw.symm; subst hw
    go_wp2_with fail
    go_ret
    exact ⟨_, [], rfl, H1.out.1, H1.out.2.1, fun i j _ hj => by simp at hj, Nat.zero_le _, HF.out⟩
  · have HS := Lib.hid (Sort8_any g 29 xs.length m c xs w1 hr (Nat.le_trans h2.2 (Nat.le_trans HN.out (by decide))))
    have H1 := Lib.hid (And.intro h2 (And.intro hB (And.intro hm hc)))
    clear h1 h2 hB hr hm hc
    obtain ⟨k, hk⟩ : ∃ k, xs.length = k := ⟨_, rfl⟩
    rw [hk] at HS ⊢
    replace hk := Lib.hid hk
    go_wp2_with fail
    (with_reducible refine HS.out.mono ?_); rintro e w2 ⟨rfl, ⟨l', h1, h2, h3⟩, h4⟩
    have H2 := Lib.hid (And.intro h1 (And.intro h2 (And.intro h3 h4)))
    clear h1 h2 h3 h4 HS
    go_wp2_with fail
    go_ret
    have hll : l'.length = k := by rw [← hk.out]; exact H2.out.2.1.length_eq
    refine ⟨_, l', by rw [← hll]; rfl, OwnW.of_row H2.out.1 H1.out.2.1 H1.out.2.2.1 H1.out.2.2.2, H1.out.1.1.perm H2.out.2.1, H2.out.2.2.1, by rw [H2.out.2.1.length_eq]; exact H1.out.1.2, HF.out.trans H2.out.2.2.2 fun i hi e => ?_⟩
    have := H1.out.2.1
    unfold Fgs at e
    omega
end Go.Proofs.Ytpeiihbnicickaa

/- Layer 15 (token): All. -/
namespace Go.Proofs.Ytpeiihbnicickaa
set_option maxRecDepth 100000
set_option linter.unusedVariables false
set_option linter.unusedSimpArgs false
open Go.RowKit Go.Shelf

attribute [local go_sem] Oper.semAt_some

theorem sorted_keys {w : World} {gb n : Nat} {ob : Option Nat} {f : Nat → Nat} (hb : mapBox gb ob w) (hm : MO w ob n f) (hn : n ≤ 100000) :
    Calls Try.prog 25 #[.func (.func 33) #[] #[.pointer (some ⟨gb, 0, none⟩)]] w fun e w' => ∃ s xs, e = .returned s ∧ OwnW w.heap.size w' s xs ∧ KeysOf f xs ∧ asc xs ∧ xs.length ≤ n ∧ Fr F0 w w' := by
  cases ob with
  | none =>
    refine Sorted8_map _ _ _ (fun _ _ _ _ => False) f n hn w (enters_of Try.func33 (by kernel_rfl) rfl) ((keys_seq_nil gb).mono (fun _ _ _ _ h => h.elim) (fun xs h => ?_)) (fun pre W f => f.keeps (fun x => x) hb) (fun _ _ _ _ h => h.elim)
    subst h
    exact ⟨⟨List.nodup_nil, fun k => ⟨fun h => by simp at h, fun h => absurd (hm k h.1) h.2⟩⟩, Nat.zero_le _⟩
  | some B =>
    obtain ⟨O, hO⟩ : ∃ O, w.heap[B]? = some O := ⟨_, Array.getElem?_eq_getElem (MZ.mu hm).lt⟩
    exact Sorted8_map _ _ _ _ f n hn w (enters_of Try.func33 (by kernel_rfl) rfl) (keys_seq gb B n f O) (fun pre W f => ⟨f.keeps (fun x => x) hb, MZ.fr hm f (fun x => x), f.keeps (fun x => x) hO⟩) (fun _ _ _ _ h => Nat.le_trans h.2 hn)

/-- Rows of parties that lie at B or beyond are kept. -/
def Kw (B : Nat) (W W' : World) : Prop := ∀ k cs fr, B ≤ k → W.heap[k]? = some (.cells cs 29 fr) → W'.heap[k]? = some (.cells cs 29 fr)
theorem Kw.refl (B : Nat) (W : World) : Kw B W W := fun _ _ _ _ h => h
theorem Kw.trans {B : Nat} {X Y Z : World} (h : Kw B X Y) (k : Kw B Y Z) : Kw B X Z := fun i cs fr hi ho => k i cs fr hi (h i cs fr hi ho)
theorem Kw.put {B : Nat} {W : World} {g : Nat} (o : Obj) (hg : g < B) : Kw B W (W.putObj g o) := fun k cs fr hk ho => (World.putObj_heap_other (by omega)).trans ho
theorem R8.kw {B : Nat} {w w' : World} {g n m : Nat} {d : Array Nat} (h : R8 w g 29 n m d) (k : Kw B w w') (hg : B ≤ g) : R8 w' g 29 n m d := by
  obtain ⟨cs, h1, h2⟩ := h.row
  exact ⟨h.sz, cs, k g cs (0, 0) hg h1, h2⟩
abbrev encH (x : Nat × Nat) : Array Value := #[.int .u8 (x.1 : Int), .int .u64 (x.2 : Int)]
/-- What All tells. -/
def AllOf (n : Nat) (f : Nat → Nat) (xs : List (Nat × Nat)) : Prop := ∃ ks : List Nat, KeysOf f ks ∧ asc ks ∧ ks.length ≤ n ∧ xs = ks.map fun k => (k, f k)

set_option maxRecDepth 100000 in
set_option maxHeartbeats 8000000 in
theorem all_seq (gb n : Nat) (ob : Option Nat) (f : Nat → Nat) (hn : n ≤ 100000) :
    SeqO Try.prog 24 #[.pointer (some ⟨gb, 0, none⟩)] encH Kw (fun _ W => mapBox gb ob W ∧ MO W ob n f) (fun pre x _ _ => pre.length ≤ n) (AllOf n f) := by
  intro lp J Jx W oJ oX hC hY h0
  refine (callsIn_wide (n := 6)).1 ?_
  refine callsIn_of_wp Try.func24 rfl trivial ?_ rfl
  simp only [Try.ntmps24, List.size_toArray, List.length_cons, List.length_nil, Nat.reduceAdd, Nat.reduceSub, Array.replicate_succ, Array.replicate_zero, List.push_toArray, List.append_toArray, List.nil_append, List.cons_append]
  obtain ⟨r1, hm⟩ := hC _ _ h0
  have f1 : Fr F0 W (W.alloc (.cells #[.map ob] 26)) := (Fr.refl F0 W).alloc _
  have HK := Lib.hid (mpKeys_any ob W)
  have HS := Lib.hid (sorted_keys (gb := W.heap.size) (show mapBox W.heap.size ob (W.alloc (.cells #[.map ob] 26)) from heap_alloc_new _ _) (hm.fr f1 fun _ _ x => x) hn)
  have HH := Lib.hid (And.intro hY (And.intro hC (And.intro oJ (And.intro h0 f1))))
  unfold mapBox at r1
  clear oX hY hC hm f1 oJ h0
  gi_wp2
  refine ⟨trivial, ?_⟩
  (with_reducible refine (callsIn_wide.2 HK.out).mono ?_); rintro e w1 ⟨rfl, rfl⟩
  gi_wp2
  refine ⟨trivial, ?_⟩
  (with_reducible refine (callsIn_wide.2 HS.out).mono ?_); rintro e w2 ⟨s, ks, rfl, ho, hk, ha, hl, f2⟩
  have hJ2 := own_frI HH.out.2.2.1 (own_frI HH.out.2.2.1 HH.out.2.2.2.1 HH.out.2.2.2.2) f2
  have HL := Lib.hid (And.intro hk (And.intro ha hl))
  clear HK HS hk ha hl f2 r1
  rcases ho.row with ⟨rfl, rfl⟩ | ⟨g, c, m, rfl, hB, hr, _, _⟩
  · replace hJ2 := Lib.hid hJ2
    clear ho
    gi_wp2
    gi_loopw [9] (fun iv wr => iv = .int .i64 0 ∧ wr = w2) (fun _ _ => 0)
    case atStart => exact ⟨rfl, rfl⟩
    case round =>
      obtain ⟨rfl, hw⟩ := hrel
      replace hw := hw.symm
      subst hw
      gi_wp2
      go_end0
      exact ⟨⟨_, rfl⟩, .inl ⟨[], ⟨[], HL.out.1, HL.out.2.1, HL.out.2.2, rfl⟩, hJ2.out⟩⟩
  · have hB2 : W.heap.size ≤ g := by simp at hB; omega
    have HR := Lib.hid (And.intro hB2 hr)
    clear ho hB hr hB2
    obtain ⟨N, hN⟩ : ∃ N, ks.length = N := ⟨_, rfl⟩
    rw [hN] at HR ⊢
    have hNn : N ≤ n := by rw [← hN]; exact HL.out.2.2
    replace hN := Lib.hid hN
    gi_wp2
    gi_loopw [9] (fun iv wr => ∃ k : Nat, iv = .int .i64 (k : Int) ∧ k ≤ N ∧ R8 wr g 29 N m ks.toArray ∧ J ((ks.take k).map fun x => (x, f x)) wr) (fun iv _ => N - (intOf iv).toNat)
    case atStart => exact ⟨0, rfl, Nat.zero_le _, HR.out.2, hJ2⟩
    case round =>
      clear hJ2
      obtain ⟨k, rfl, hk, hr, hJ⟩ := hrel
      by_cases hlt : k < N
      · have l1 : (k : Int) < (N : Int) := Int.ofNat_lt.2 hlt
        have hC := HH.out.2.1 _ _ hJ
        have c1 := hr.cell hlt
        have hkl : k < ks.length := by rw [hN.out]; exact hlt
        rw [get!_toArray] at c1
        have hx : ks.getD k 0 < 256 := ((HL.out.1.2 (ks.getD k 0)).1 (by simp [List.getD, hkl])).1
        have hlk := hC.2.look hx
        have r1 := hC.1
        unfold mapBox at r1
        obtain ⟨fn, tmps, assign, body, hy, hY⟩ := (HH.out.1 ((ks.take k).map fun x => (x, f x)) (ks.getD k 0, f (ks.getD k 0)) wr wr hJ (Fr.refl F0 wr) (by simp; omega)).plain (m := 5)
        have ht : (ks.take k).map (fun x => (x, f x)) ++ [(ks.getD k 0, f (ks.getD k 0))] = (ks.take (k + 1)).map fun x => (x, f x) := by
          rw [List.take_add_one, List.map_append]; congr 1; simp [List.getD, hkl]
        rw [ht] at hY
        obtain ⟨k1, hk1⟩ : ∃ x, k + 1 = x := ⟨_, rfl⟩
        have m1 : IntKind.i64.wrap ((k : Int) + 1) = (k1 : Int) := by rw [IntWalk.i64_in _ (by omega)]; omega
        rw [hk1] at hY
        have HY := Lib.hid hY
        have HQ := Lib.hid (And.intro hr (And.intro hlt hk1))
        dsimp only [encH] at hy
        clear hC ht hY hJ hr hk hkl hx hk1 hlt
        rw [cell_at] at c1
        generalize f (ks.getD k 0) = fx at *
        generalize ks.getD k 0 = x at *
        gi_wp2
        refine HY.out.mono ?_
        rintro e W5 (⟨rfl, hJ5, hK5⟩ | ⟨rfl, hJx, _⟩)
        · have HZ := Lib.hid (And.intro hJ5 (HQ.out.1.kw hK5 HR.out.1))
          clear hJ5 hK5
          gi_wp2
          go_roundw
          case rel => exact ⟨k1, rfl, by have := HQ.out.2; omega, HZ.out.2, HZ.out.1⟩
          case measure => have := HQ.out.2; clear m1; simp [intOf]; omega
        · gi_wp2
          refine bodyPost_ret (results_none rfl _ _ _) rfl ?_
          exact ⟨⟨_, rfl⟩, .inr ⟨_, hJx⟩⟩
      · obtain rfl : k = N := by omega
        rw [List.take_of_length_le (Nat.le_of_eq hN.out)] at hJ
        replace hJ := Lib.hid hJ
        gi_wp2
        go_end0
        exact ⟨⟨_, rfl⟩, .inl ⟨_, ⟨ks, HL.out.1, HL.out.2.1, HL.out.2.2, rfl⟩, hJ.out⟩⟩

set_option maxHeartbeats 8000000 in
theorem tkAll_core {w : World} {pv : Value} {n : Nat} {ob : Option Nat} {f : Nat → Nat} (hh : Calls Try.prog 21 #[pv] w fun e w' => e = .returned (.map ob) ∧ w' = w) (hm : MO w ob n f) :
    Calls Try.prog 16 #[pv] w fun e w' => ∃ gb ob', e = .returned (.func (.func 24) #[] #[.pointer (some ⟨gb, 0, none⟩)]) ∧ mapBox gb ob' w' ∧ MO w' ob' n f ∧ Fr F0 w w' := by
  have hmf : ∀ (fn : Fn) (first cap : Array Value) (w : World), (Instr.makeFunc fn first cap).run Try.prog w = .ok (.func fn first cap) w := fun _ _ _ _ => rfl
  have HH := Lib.hid hh
  have HC := Lib.hid (mpClone_any hm)
  clear hh hm
  go_enter Try.func16, Try.ntmps16
  go_wp2_with fail
  (with_reducible refine HH.out.mono ?_); rintro e w1 ⟨rfl, hw⟩; replace hw := hw.symm; subst hw
  go_wp2_with fail
  (with_reducible refine HC.out.mono ?_); rintro e w2 ⟨ob', rfl, h1, f1, hB⟩
  have H1 := Lib.hid (And.intro h1 (And.intro f1 hB))
  clear h1 f1 hB HC HH
  go_upto_region 2 with fail
  refine wp_new fun W1 N1 => ?_
  have HN := Lib.hid (show mapBox w2.heap.size ob' W1 ∧ MO W1 ob' n f ∧ Fr F0 w W1 from ⟨N1.new, H1.out.1.fr N1.fr (fun _ _ x => x), H1.out.2.1.trans' N1.fr⟩)
  clear N1
  go_wp2_with fail
  go_ret
  exact ⟨_, ob', rfl, HN.out⟩
theorem tkAll_any {w : World} {p n : Nat} {ob : Option Nat} {f : Nat → Nat} (L : LG w p ob n f) :
    Calls Try.prog 16 #[.pointer (some ⟨p, 0, none⟩)] w fun e w' => ∃ gb ob', e = .returned (.func (.func 24) #[] #[.pointer (some ⟨gb, 0, none⟩)]) ∧ mapBox gb ob' w' ∧ MO w' ob' n f ∧ Fr F0 w w' := tkAll_core (tkhold_any L) L.map
theorem tkAll_nil (w : World) :
    Calls Try.prog 16 #[.pointer none] w fun e w' => ∃ gb ob', e = .returned (.func (.func 24) #[] #[.pointer (some ⟨gb, 0, none⟩)]) ∧ mapBox gb ob' w' ∧ MO w' ob' 0 (fun _ => 0) ∧ Fr F0 w w' := tkAll_core (tkhold_nil w) (show ∀ k, k < 256 → (fun _ => 0) k = 0 from fun _ _ => rfl)
end Go.Proofs.Ytpeiihbnicickaa

/- Layer 15 (token): the law's all: what All tells, as a list. -/
namespace Go.Proofs.Ytpeiihbnicickaa
set_option maxRecDepth 100000
set_option linter.unusedVariables false
set_option linter.unusedSimpArgs false
open Go.RowKit Go.Shelf

attribute [local go_sem] Oper.semAt_some

theorem run_slice1E {P : Program} (w : World) (t e : TypeId) (X : Array Value) (n : Nat) (ie : TypeInfo) (z : Value) (hu : P.underlying t = some (.slice e)) (hie : P.info? e = some ie) (hz : ie.zero = some z) (hs : ie.size = n) (h0 : 0 < n) (h1 : n ≤ 1000) (hX : X.size = n) :
    (Instr.buildSlice t 1 #[(0, .agg X)]).run P w = .ok (.slice (some ⟨w.heap.size, 0, none⟩) 1 1) (w.alloc (.cells X e)) := by
  subst hs
  refine run_buildSlice w t e 1 _ X ie z hu hie hz (by rw [Nat.one_mul]; have : 2 ^ 24 = 16777216 := rfl; omega) (by omega) ?_
  have := Great.fill_whole h0 [.agg X] ((Array.range (1 * ie.size)).map (z.cells[· % z.cells.size]!)) (fun v hv => by rw [List.mem_singleton] at hv; subst hv; exact hX) (by simp)
  simpa [Value.cells] using this
theorem Try.infoHas : (Try.prog.info? 51).map (fun i => (i.zero, i.size, i.bytes)) = some (some (.agg #[.int .u8 0, .int .u64 0]), 2, 16) := by kernel_rfl
def appHs (ty : TypeId) (args : Array Value) : Sem Value := Builtin.append_ #[41, 41] ty args
@[go_sem ↓ high] theorem app_Hs (ty : TypeId) (args : Array Value) : Builtin.append_ #[41, 41] ty args = appHs ty args := rfl
def buildHs (parts : Array (Nat × Value)) : Sem Value := Instr.buildSlice 41 1 parts
@[go_sem ↓ high] theorem build_Hs (p : Array (Nat × Value)) : Instr.buildSlice 41 1 p = buildHs p := rfl
theorem run_buildHs (w : World) (X : Array Value) (h : X.size = 2) : (buildHs #[(0, .agg X)]).run Try.prog w = .ok (.slice (some ⟨w.heap.size, 0, none⟩) 1 1) (w.alloc (.cells X 51)) := by
  obtain ⟨i0, hi, hz, hs, _⟩ := info_parts Try.infoHas
  exact run_slice1E w 41 51 X 2 i0 _ Try.underlying41 hi hz hs (by decide) (by decide) h
def encHs (x : Nat × Nat) : List Value := [.int .u8 (x.1 : Int), .int .u64 (x.2 : Int)]
abbrev OwnHas (B : Nat) (w : World) (v : Value) (l : List (Nat × Nat)) : Prop := OwnE 51 2 encHs B w v l
theorem OwnHas.app {B : Nat} {w : World} {v : Value} {l : List (Nat × Nat)} (h : OwnHas B w v l) (x : Nat × Nat) (hB : B ≤ w.heap.size) (hl : l.length ≤ 100000) (ty : TypeId) :
    ∃ a c w', (appHs ty #[v, .slice (some ⟨w.heap.size, 0, none⟩) 1 1]).run Try.prog (w.alloc (.cells #[.int .u8 (x.1 : Int), .int .u64 (x.2 : Int)] 51)) = .ok (.slice a (l.length + 1) c) w' ∧ OwnHas B w' (.slice a (l.length + 1) c) (l ++ [x]) ∧
      Fr (fun k => v.ownBlock = some k) w w' ∧ w.heap.size < w'.heap.size := by
  obtain ⟨i0, hi, hz, hs, hb⟩ := info_parts Try.infoHas
  exact OwnE.app Try.underlying41 hi hz hs hb rfl (by decide) (by decide) (by decide) h x rfl (by intro u hu; simp only [encHs, List.mem_cons, List.not_mem_nil, or_false] at hu; rcases hu with rfl | rfl <;> rfl) hB hl

set_option maxRecDepth 100000 in
set_option maxHeartbeats 8000000 in
theorem all15_any {w : World} {gb n : Nat} {ob : Option Nat} {f : Nat → Nat} (hb : mapBox gb ob w) (hm : MO w ob n f) (hn : n ≤ 100000) :
    Calls Try.prog 15 #[.func (.func 24) #[] #[.pointer (some ⟨gb, 0, none⟩)]] w fun e w' => ∃ s xs, e = .returned s ∧ OwnHas w.heap.size w' s xs ∧ AllOf n f xs ∧ Fr F0 w w' := by
  have hmf : ∀ (fn : Fn) (first cap : Array Value) (w : World), (Instr.makeFunc fn first cap).run Try.prog w = .ok (.func fn first cap) w := fun _ _ _ _ => rfl
  have HC := Lib.hid (show (∀ (pre : List (Nat × Nat)) W, Fr F0 w W → mapBox gb ob W ∧ MO W ob n f) ∧ n ≤ 100000 from ⟨fun pre W f => ⟨f.keeps (fun x => x) hb, hm.fr f fun _ _ x => x⟩, hn⟩)
  have HQ := Lib.hid (all_seq gb n ob f hn)
  clear hb hm hn
  refine callsIn_wide (n := 6) |>.1 ?_
  refine callsIn_of_wp_marks Try.func15 rfl trivial ?_ rfl
  simp only [Try.ntmps15, List.size_toArray, List.length_cons, List.length_nil, Nat.reduceAdd, Nat.reduceSub, Array.replicate_succ, Array.replicate_zero, List.push_toArray, List.append_toArray, List.nil_append, List.cons_append]
  gi_upto_region 2 with fail
  refine wpIn_newE fun W1 N1 => ?_
  have r3 := N1.new
  have F := N1.fr
  clear N1
  obtain ⟨gs, hgs⟩ : ∃ g, g = w.heap.size := ⟨_, rfl⟩
  rw [← hgs] at r3 ⊢
  replace hgs := Lib.hid hgs
  have hsl := Lib.hid (Array.getElem?_eq_some_iff.1 r3).1
  have hwz := Lib.hid F.size
  gi_wp2
  have hOI : OwnFrom W1.heap.size (fun (pre : List (Nat × Nat)) W' => (∃ s, W'.heap[gs]? = some (.cells #[s] 41 (0, 0)) ∧ OwnHas W1.heap.size W' s pre) ∧ Below w.heap.size W1 W') :=
    OwnFrom.and (fun sx A D row h hgr hr => by
      obtain ⟨s, h1, h2⟩ := h
      exact ⟨s, own_csE h1 hgr hr, h2.grown hgr hr⟩) (own_below (β := List (Nat × Nat)) W1.heap.size w.heap.size W1 (Nat.le_refl _) hwz.out)
  have hFr := Lib.hid (show ∀ W', Below w.heap.size W1 W' → Fr F0 w W' from fun W' b => F.trans (Fr.of_below' b) fun i hi hk => by omega)
  refine range_lawO (gf := 24) (lb := #[.pointer (some ⟨gb, 0, none⟩)]) rfl (enters_of Try.func24 (by kernel_rfl) rfl) HQ.out (fun _ => rfl) Kw.trans (fun W o => Kw.put o (by omega))
    (fun (pre : List (Nat × Nat)) W' => (∃ s, W'.heap[gs]? = some (.cells #[s] 41 (0, 0)) ∧ OwnHas W1.heap.size W' s pre) ∧ Below w.heap.size W1 W')
    (fun _ _ _ => False)
    hOI (fun cc => own_pure _ _)
    (fun pre W' h => HC.out.1 pre _ (hFr.out _ h.2))
    ⟨⟨_, r3, OwnE.nil _ _⟩, Below.refl _ _⟩
    (fun pre x a' W' => ∃ s, a' = { tmps := #[.func (.func 24) #[] #[.pointer (some ⟨gb, 0, none⟩)], undef, .slice none 0 0, .pointer (some ⟨gs, 0, none⟩), .int .u8 (x.1 : Int), .int .u64 (x.2 : Int), .func (.func 24) #[] #[.pointer (some ⟨gb, 0, none⟩)], .int .u8 (x.1 : Int), .int .u64 (x.2 : Int), undef, undef, undef, undef, undef, undef, undef], defers := [] } ∧ W'.heap[gs]? = some (.cells #[s] 41 (0, 0)) ∧ OwnHas W1.heap.size W' s pre ∧ pre.length ≤ 100000)
    (fun pre x a' sx A D row h hgr hr => by
      obtain ⟨s, e, h3, ho, hl⟩ := h
      exact ⟨s, e, own_csE h3 hgr hr, ho.grown hgr hr, hl⟩) ?assign ?body ?done ?stop
  case assign =>
    intro l2 pre x W0 W' K hi0 f0 hn hK
    gi_wp2
    have hi4 := own_frI hOI hi0 f0
    refine hK _ _ (KeepsFrom.refl _ _) (Kw.refl _ _) hi4 ?_
    obtain ⟨s, q3, ho⟩ := hi4.1
    exact ⟨s, rfl, q3, ho, Nat.le_trans hn HC.out.2⟩
  case body =>
    rintro l2 pre ⟨x, y⟩ a' W' hi ⟨s, rfl, q3, ho, hl⟩
    have hB : W1.heap.size ≤ W'.heap.size := hi.2.size
    obtain ⟨a5, c5, w5, happ, ho5, f5, hs5⟩ := ho.app (x, y) hB hl 41
    have hbl : ∀ w, (Instr.build 51 #[(0, .int .u8 (x : Int)), (1, .int .u64 (y : Int))]).run Try.prog w = .ok (.agg #[.int .u8 (x : Int), .int .u64 (y : Int)]) w := fun w => run_build w _ _ _ (by kernel_rfl)
    have hbs := fun w => run_buildHs w #[.int .u8 (x : Int), .int .u64 (y : Int)] rfl
    have hgn : s.ownBlock ≠ some gs := fun e => by have := ho.blk gs e; have := hsl.out; omega
    have q35 := f5.keeps (fun e => hgn e) q3
    dsimp only at happ
    gi_wp2
    have f6 : Fr (fun k => k = gs) w5 (w5.setCell ⟨gs, 0, none⟩ (.slice a5 (pre.length + 1) c5)) := (Fr.refl (fun k => k = gs) w5).setCell (p := ⟨gs, 0, none⟩) (fun _ => rfl) _
    have kp : KeepsFrom W1.heap.size W' w5 := ⟨f5.size, fun k o hk ho2 hc2 => f5.keeps (fun e => row_notE (row := some k) (B := W1.heap.size) (fun r e => by cases e; exact ⟨hk, o, ho2, hc2⟩) ho.own k e rfl) ho2⟩
    have kw : Kw (W1.heap.size + 2) W' (w5.setCell ⟨gs, 0, none⟩ (.slice a5 (pre.length + 1) c5)) := fun k cs fr hk ho2 => f6.keeps (fun e => by have := hsl.out; omega) (f5.keeps (fun e => by
      rcases ho.own.2 with ⟨h1, _⟩ | ⟨g, cap, cur, hv, _, hg, _⟩
      · rw [h1] at e; cases e
      · rw [hv] at e
        have e2 : g = k := Option.some.inj e
        rw [e2, ho2] at hg
        simp at hg) ho2)
    refine ⟨kp.trans ((KeepsOthers.setCell w5 ⟨gs, 0, none⟩ _).from _), kw, ⟨.slice a5 (pre.length + 1) c5, ?_, ?_⟩, ?_⟩
    · rw [heap_setCell_at, q35]; rfl
    · refine ho5.frS f6 (fun k hk e => ?_)
      have := ho5.blk k hk; have := hsl.out; omega
    · exact (hi.2.trans (f5.below (Nat.le_trans hwz.out hi.2.size) fun k hk e => by have := ho.blk k e; have := hwz.out; omega)).trans (f6.below (by have := hi.2.size; have := f5.size; have := hwz.out; omega) fun k hk e => by have := hgs.out; omega)
  case done =>
    rintro D ys W' hD hy hi hK
    have h9 := hOI.putObj (.deferred none) hi hD hK rfl
    obtain ⟨s, q3, ho⟩ := hi.1
    gi_wp2
    refine ⟨by simp, .inl ⟨_, _, rfl, run_takeDeferred hK, ?_⟩⟩
    refine ⟨_, results_tmp rfl _ _ _, s, ys, rfl, ?_, hy, hFr.out _ h9.2⟩
    obtain ⟨s', q3', ho'⟩ := h9.1
    have es : s' = s := by
      have hDg : D ≠ gs := fun e => by have := hsl.out; omega
      rw [World.putObj_heap_other (fun e => hDg e.symm), q3] at q3'
      simpa using q3'.symm
    subst es
    exact ho'.mono hwz.out
  case stop =>
    rintro D cc pre W' hD h hK
    exact h.elim
end Go.Proofs.Ytpeiihbnicickaa

/- Layer 15 (token): a ledger that isn't there. -/
namespace Go.Proofs.Ytpeiihbnicickaa
set_option maxRecDepth 100000
set_option linter.unusedVariables false
set_option linter.unusedSimpArgs false
open Go.RowKit

set_option maxHeartbeats 4000000 in
theorem tkMint_nil (a x : Nat) (w : World) : Calls Try.prog 10 #[.pointer none, .int .u8 (a : Int), .int .u64 (x : Int)] w fun e w' => e = .returned (.int .i64 1) ∧ w' = w := by
  go_enter Try.func10, Try.ntmps10
  go_wp2
  go_ret
  exact ⟨rfl, rfl⟩
set_option maxHeartbeats 4000000 in
theorem tkBurn_nil (a x : Nat) (w : World) : Calls Try.prog 11 #[.pointer none, .int .u8 (a : Int), .int .u64 (x : Int)] w fun e w' => e = .returned (.int .i64 1) ∧ w' = w := by
  go_enter Try.func11, Try.ntmps11
  go_wp2
  go_ret
  exact ⟨rfl, rfl⟩
set_option maxHeartbeats 4000000 in
theorem tkMove_nil (a b x : Nat) (w : World) : Calls Try.prog 12 #[.pointer none, .int .u8 (a : Int), .int .u8 (b : Int), .int .u64 (x : Int)] w fun e w' => e = .returned (.int .i64 1) ∧ w' = w := by
  have H := Lib.hid (tkBurn_nil a x w)
  go_enter Try.func12, Try.ntmps12
  go_wp2_with fail
  (with_reducible refine H.out.mono ?_); rintro e w1 ⟨rfl, hw⟩; subst hw
  go_wp2_with fail
  go_ret
  exact ⟨rfl, rfl⟩

set_option maxRecDepth 100000 in
set_option maxHeartbeats 16000000 in
theorem tokenNone_any (a b x : Nat) (ha : a < 256) (hb : b < 256) (hx : x < 18446744073709551616) (w : World) : Calls Try.prog 4 #[.int .u8 (a : Int), .int .u8 (b : Int), .int .u64 (x : Int)] w fun e w' => e = .returned (.bool true) ∧ Fr F0 w w' := by
  have HL := Lib.hid (fun w => lives15_any w)
  have H1 := Lib.hid (fun w => tkMint_nil a x w)
  have H2 := Lib.hid (fun w => tkBurn_nil a x w)
  have H3 := Lib.hid (fun w => tkMove_nil a b x w)
  have H4 := Lib.hid (fun w => tkOf_nil a w)
  have H5 := Lib.hid (fun w => tkTotal_nil w)
  have H6 := Lib.hid (fun w => tkAll_nil w)
  have H7 := Lib.hid (fun (w : World) (gb : Nat) (ob : Option Nat) hb hm => all15_any (w := w) (gb := gb) (n := 0) (ob := ob) (f := fun _ => 0) hb hm (by decide))
  have H8 := Lib.hid (fun w => tkCopy_nil w)
  go_enter Try.func4, Try.ntmps4
  go_wp2_with fail
  (with_reducible refine (HL.out _).mono ?_); rintro e w1 ⟨rfl, f1⟩
  replace f1 := Lib.hid f1
  go_wp2_with fail
  (with_reducible refine (H1.out _).mono ?_); rintro e w2 ⟨rfl, hw⟩; replace hw := hw.symm; subst hw
  go_wp2_with fail
  (with_reducible refine (H2.out _).mono ?_); rintro e w2 ⟨rfl, hw⟩; replace hw := hw.symm; subst hw
  go_wp2_with fail
  (with_reducible refine (H3.out _).mono ?_); rintro e w2 ⟨rfl, hw⟩; replace hw := hw.symm; subst hw
  go_wp2_with fail
  (with_reducible refine (H4.out _).mono ?_); rintro e w2 ⟨rfl, hw⟩; replace hw := hw.symm; subst hw
  go_wp2_with fail
  (with_reducible refine (H5.out _).mono ?_); rintro e w2 ⟨rfl, f2⟩
  have F2 := Lib.hid (f1.out.trans' f2)
  clear f2
  go_wp2_with fail
  (with_reducible refine (H6.out _).mono ?_); rintro e w3 ⟨gb, ob, rfl, h1, h2, f3⟩
  have F3 := Lib.hid (And.intro (F2.out.trans' f3) (And.intro h1 h2))
  clear f3 h1 h2
  go_wp2_with fail
  (with_reducible refine (H7.out w3 gb ob F3.out.2.1 F3.out.2.2).mono ?_); rintro e w4 ⟨s, xs, rfl, ho, ⟨ks, hk, ha, hl, hx⟩, f4⟩
  have hxs : xs = [] := by rw [hx, List.eq_nil_of_length_eq_zero (Nat.le_zero.1 hl)]; rfl
  subst hxs
  obtain ⟨sa, sc, rfl, _⟩ := ho.is
  have F4 := Lib.hid (F3.out.1.trans' f4)
  clear f4 ho hk ha hl hx
  go_wp2_with fail
  (with_reducible refine (H8.out _).mono ?_); rintro e w5 ⟨rfl, hw⟩; replace hw := hw.symm; subst hw
  go_wp2_with fail
  go_ret
  exact ⟨rfl, F4.out⟩
end Go.Proofs.Ytpeiihbnicickaa

/- Layer 15 (token): a list of parties, rising, gone along with all numbers. -/
namespace Go.Proofs.Ytpeiihbnicickaa
set_option maxRecDepth 100000
set_option linter.unusedVariables false
set_option linter.unusedSimpArgs false
open Go.RowKit

/-- The first c are below w, the others aren't. -/
structure Spl (ks : List Nat) (c w : Nat) : Prop where
  le : c ≤ ks.length
  lo : ∀ i, i < c → ks.getD i 0 < w
  hi : ∀ i, c ≤ i → i < ks.length → w ≤ ks.getD i 0
theorem Spl.start (ks : List Nat) : Spl ks 0 0 := ⟨Nat.zero_le _, fun i h => absurd h (Nat.not_lt_zero _), fun i _ _ => Nat.zero_le _⟩
theorem getD_mem {ks : List Nat} {i : Nat} (h : i < ks.length) : ks.getD i 0 ∈ ks := by simp [List.getD, h]
theorem mem_getD {ks : List Nat} {x : Nat} (h : x ∈ ks) : ∃ i, i < ks.length ∧ ks.getD i 0 = x := by
  obtain ⟨i, hi, e⟩ := List.getElem_of_mem h
  exact ⟨i, hi, by simp [List.getD, hi, e]⟩
theorem nodup_getD {ks : List Nat} (h : ks.Nodup) {i j : Nat} (hi : i < ks.length) (hj : j < ks.length) (hij : i ≠ j) : ks.getD i 0 ≠ ks.getD j 0 := by
  simp only [List.getD, List.getElem?_eq_getElem hi, List.getElem?_eq_getElem hj, Option.getD_some]
  intro e
  have hp := List.pairwise_iff_getElem.1 h
  rcases Nat.lt_or_gt_of_ne hij with hl | hl
  · exact hp i j hi hj hl e
  · exact hp j i hj hi hl e.symm
theorem Spl.skip {f : Nat → Nat} {ks : List Nat} {c w : Nat} (h : Spl ks c w) (k : KeysOf f ks) (h0 : f w = 0) : Spl ks c (w + 1) := by
  refine ⟨h.le, fun i hi => Nat.lt_succ_of_lt (h.lo i hi), fun i h1 h2 => ?_⟩
  have h3 := h.hi i h1 h2
  have h4 := ((k.2 (ks.getD i 0)).1 (getD_mem h2)).2
  refine Nat.lt_of_le_of_ne h3 fun e => h4 (by rw [← e]; exact h0)
theorem Spl.take {f : Nat → Nat} {ks : List Nat} {c w : Nat} (h : Spl ks c w) (k : KeysOf f ks) (a : asc ks) (hw : w < 256) (h0 : f w ≠ 0) : c < ks.length ∧ ks.getD c 0 = w ∧ Spl ks (c + 1) (w + 1) := by
  obtain ⟨j, hj, e⟩ := mem_getD ((k.2 w).2 ⟨hw, h0⟩)
  have hcj : c ≤ j := by
    refine Nat.le_of_not_lt fun hn => ?_
    have := h.lo j hn
    omega
  have hc : c < ks.length := by omega
  have h1 := h.hi c (Nat.le_refl _) hc
  have h2 : ks.getD c 0 ≤ w := by
    rcases Nat.lt_or_eq_of_le hcj with hl | rfl
    · have := a c j hl hj; omega
    · omega
  have h3 : ks.getD c 0 = w := by omega
  refine ⟨hc, h3, hc, fun i hi => ?_, fun i hi hl => ?_⟩
  · rcases Nat.lt_or_eq_of_le (Nat.le_of_lt_succ hi) with hl | rfl
    · exact Nat.lt_succ_of_lt (h.lo i hl)
    · omega
  · have h4 := h.hi i (by omega) hl
    have h5 := nodup_getD k.1 hc hl (show c ≠ i by omega)
    omega
theorem Spl.done {f : Nat → Nat} {ks : List Nat} {c : Nat} (h : Spl ks c 256) (k : KeysOf f ks) : c = ks.length := by
  refine Nat.le_antisymm h.le (Nat.le_of_not_lt fun hn => ?_)
  have h1 := h.hi c (Nat.le_refl _) hn
  have h2 := ((k.2 (ks.getD c 0)).1 (getD_mem hn)).1
  omega

set_option maxRecDepth 100000 in
theorem run_neqHas (w : World) (x y : Nat) : (binOp .neq 51 (.agg #[.int .u8 (x : Int), .int .u64 (y : Int)]) (.agg #[.int .u8 (x : Int), .int .u64 (y : Int)])).run Try.prog w = .ok (.bool false) w := by
  have hf : Try.prog.fieldsOf 51 = (match Try.prog.underlying 51 with | some (.struct fs) => fs | _ => #[]) := rfl
  rw [Try.underlying51] at hf
  have hu : Try.prog.underlying 51 = some (.struct (Try.prog.fieldsOf 51)) := by rw [hf, Try.underlying51]
  have he : (Op.equalIn 10000 51 (.agg #[.int .u8 (x : Int), .int .u64 (y : Int)]) (.agg #[.int .u8 (x : Int), .int .u64 (y : Int)])).run Try.prog w = .ok true w := by
    rw [run_equalIn_struct w 9999 51 _ _ hu (by kernel_rfl), hf]
    have pk : Try.prog.plainKey 29 = true := by kernel_rfl
    have pk2 : Try.prog.plainKey 28 = true := by kernel_rfl
    have A1 : (part 29 #[Value.int .u8 (x : Int), .int .u64 (y : Int)] 0).run Try.prog w = .ok (.int .u8 (x : Int)) w := run_part_plain w pk rfl
    have A2 : (part 28 #[Value.int .u8 (x : Int), .int .u64 (y : Int)] 1).run Try.prog w = .ok (.int .u64 (y : Int)) w := run_part_plain w pk2 rfl
    simp only [Op.eqFields, Sem.run_bind, A1, A2, run_equalIn_int w 9998 29 .u8 .u8 _ _ Try.underlying29, run_equalIn_int w 9998 28 .u64 .u64 _ _ Try.underlying28, Result.andThen_ok, Sem.run_ite, Sem.run_pure]
    simp
  simp only [binOp]
  simp [show Op.equal 51 (.agg #[.int .u8 (x : Int), .int .u64 (y : Int)]) (.agg #[.int .u8 (x : Int), .int .u64 (y : Int)]) = Op.equalIn 10000 51 (.agg #[.int .u8 (x : Int), .int .u64 (y : Int)]) (.agg #[.int .u8 (x : Int), .int .u64 (y : Int)]) from rfl, he]
end Go.Proofs.Ytpeiihbnicickaa

/- Layer 15 (token): the law's is: a ledger, and a map and a total that say the same. -/
namespace Go.Proofs.Ytpeiihbnicickaa
set_option maxRecDepth 100000
set_option linter.unusedVariables false
set_option linter.unusedSimpArgs false
open Go.RowKit

theorem Try.szHas15 : (Try.prog.info? 51).map (·.size) = some 2 := by kernel_rfl
@[go_sem ↓ high] theorem load_has15 (p : Value) : Instr.loadAt 51 p = loadRowAt 51 p := rfl
theorem flatHs (f : Nat → Nat) : ∀ (ks : List Nat) (k : Nat), k < ks.length → ((ks.map fun k => (k, f k)).flatMap encHs)[k * 2]? = some (.int .u8 (ks.getD k 0 : Int)) ∧ ((ks.map fun k => (k, f k)).flatMap encHs)[k * 2 + 1]? = some (.int .u64 (f (ks.getD k 0) : Int))
  | [], k, h => absurd h (Nat.not_lt_zero _)
  | x :: ks, 0, _ => ⟨rfl, rfl⟩
  | x :: ks, k + 1, h => by
    have := flatHs f ks k (by simpa using h)
    rw [show (k + 1) * 2 = k * 2 + 2 by omega]
    exact this
theorem sumN_leS (f : Nat → Nat) {a : Nat} : ∀ {n : Nat}, a ≤ n → sumN f a ≤ sumN f n
  | 0, h => by rw [Nat.le_zero.1 h]; exact Nat.le_refl _
  | n + 1, h => by
    rcases Nat.lt_or_eq_of_le h with h2 | rfl
    · exact Nat.le_trans (sumN_leS f (Nat.le_of_lt_succ h2)) (Nat.le_add_right _ _)
    · exact Nat.le_refl _
/-- What All tells, in memory. -/
structure Hsl (w : World) (v : Value) (ks : List Nat) (f : Nat → Nat) : Prop where
  is_ : ∃ a c, v = .slice a ks.length c ∧ ∀ k, k < ks.length → ∃ b off, a = some ⟨b, off, none⟩ ∧ ∀ W, Fr F0 w W → (loadRowAt 51 (.pointer (some ⟨b, off + k * 2, none⟩))).run Try.prog W = .ok (.agg #[.int .u8 (ks.getD k 0 : Int), .int .u64 (f (ks.getD k 0) : Int)]) W
theorem Hsl.of {B : Nat} {w : World} {v : Value} {ks : List Nat} {f : Nat → Nat} (h : OwnHas B w v (ks.map fun k => (k, f k))) : Hsl w v ks f := by
  obtain ⟨a, c, rfl, s⟩ := OwnE.is h
  refine ⟨a, c, by rw [List.length_map], fun k hk => ?_⟩
  obtain ⟨q1, q2⟩ := flatHs f ks k hk
  obtain ⟨b, off, rfl, c1⟩ := s.cell _ _ q1
  obtain ⟨b', off', e, c2⟩ := s.cell _ _ q2
  simp only [Option.some.injEq, Addr.mk.injEq, and_true] at e
  obtain ⟨rfl, rfl⟩ := e
  refine ⟨b, off, rfl, fun W F => ?_⟩
  exact run_loadAt_mid (P := Try.prog) W b (off + k * 2) 51 [.int .u8 (ks.getD k 0 : Int), .int .u64 (f (ks.getD k 0) : Int)] _ (fun j u hj => by
    match j, hj with
    | 0, hj => simp at hj; subst hj; exact F.cell (fun e => e) c1
    | 1, hj => simp at hj; subst hj; exact F.cell (fun e => e) c2) Try.underlying51 rfl (by rw [Try.szHas15]; rfl)

set_option maxRecDepth 100000 in
set_option maxHeartbeats 16000000 in
theorem is15_any {w : World} {p m n k t : Nat} {ob : Option Nat} {f : Nat → Nat} (L : LG w p ob n f) (M : MU w m k f) (I : Lg f t) (hn : n ≤ 100000) :
    Calls Try.prog 9 #[.pointer (some ⟨p, 0, none⟩), .map (some m), .int .u64 (t : Int)] w fun e w' => e = .returned (.bool true) ∧ Fr F0 w w' := by
  have HA := Lib.hid (tkAll_any L)
  have HO := Lib.hid (fun (W : World) (F : Fr F0 w W) (a : Nat) (ha : a < 256) => tkOf_any (L.fr0 F) ha)
  have HT := Lib.hid (fun (W : World) (F : Fr F0 w W) => tkTotal_any (L.fr0 F) I)
  have HM := Lib.hid (fun (W : World) (F : Fr F0 w W) => M.fr F fun x => x)
  have HI := Lib.hid I
  have hbl : ∀ (x y : Nat) (w : World), (Instr.build 51 #[(0, .int .u8 (x : Int)), (1, .int .u64 (y : Int))]).run Try.prog w = .ok (.agg #[.int .u8 (x : Int), .int .u64 (y : Int)]) w := fun x y w => run_build w _ _ _ (by kernel_rfl)
  have HB := Lib.hid hbl
  clear L M I hbl
  go_enter Try.func9, Try.ntmps9
  go_wp2_with fail
  (with_reducible refine HA.out.mono ?_); rintro e w1 ⟨gb, ob', rfl, hb, hm, f1⟩
  have HL := Lib.hid (all15_any hb hm hn)
  have F1 := Lib.hid f1
  clear HA hb hm f1
  go_wp2_with fail
  (with_reducible refine HL.out.mono ?_); rintro e w2 ⟨s, xs, rfl, ho, ⟨ks, hk, ha, hl, rfl⟩, f2⟩
  obtain ⟨a, c, rfl, hat⟩ := (Hsl.of ho).is_
  have HAT := Lib.hid hat
  have HK := Lib.hid (And.intro hk (And.intro ha (F1.out.trans' f2)))
  obtain ⟨N, hN⟩ : ∃ N, ks.length = N := ⟨_, rfl⟩
  rw [hN] at HAT hl ⊢
  have hNn : N ≤ 100000 := by omega
  replace hN := Lib.hid hN
  clear HL ho hk ha hl f2 hat
  go_wp2_with fail
  go_loopw [8, 9, 15] (fun kv sv iv wr => ∃ (k i : Nat), kv = .int .i64 (k : Int) ∧ sv = .int .u64 (sumN f i : Int) ∧ iv = .int .i64 (i : Int) ∧ i ≤ 256 ∧ Spl ks k i ∧ Fr F0 w2 wr) (fun _ _ iv _ => 256 - (intOf iv).toNat)
  case atStart => exact ⟨0, 0, rfl, rfl, rfl, by omega, Spl.start ks, Fr.refl _ _⟩
  case round =>
    obtain ⟨k, i, rfl, rfl, rfl, hi, hs, hf⟩ := hrel
    have hF := Lib.hid (HK.out.2.2.trans' hf)
    have hsum := HI.out.sum
    have htle := HI.out.le
    by_cases hi2 : i < 256
    · have l1 : (i : Int) < 256 := by omega
      have m0 : IntKind.u8.wrap (i : Int) = (i : Int) := IntWalk.u8_in _ (by omega)
      have h1 := HI.out.one hi2
      have hss := sumN_leS f (show i + 1 ≤ 256 from hi2)
      rw [hsum] at hss
      have e2 : sumN f (i + 1) = sumN f i + f i := rfl
      have m1 : IntKind.u64.wrap ((sumN f i : Int) + (f i : Int)) = (sumN f (i + 1) : Int) := by rw [e2, IntWalk.u64_in _ (by omega)]; omega
      have m2 : IntKind.i64.wrap ((i : Int) + 1) = ((i + 1 : Nat) : Int) := w64n (by omega) (by omega)
      have lk := (HM.out wr hF.out).look hi2
      have HOi := Lib.hid (HO.out wr hF.out i hi2)
      have HE := Lib.hid (And.intro hs hf)
      have HI2 := Lib.hid hi2
      obtain ⟨s0, hs0⟩ : ∃ x, sumN f i = x := ⟨_, rfl⟩
      obtain ⟨s1, hs1⟩ : ∃ x, sumN f (i + 1) = x := ⟨_, rfl⟩
      obtain ⟨i1, hi1⟩ : ∃ x, i + 1 = x := ⟨_, rfl⟩
      rw [hi1] at m2
      rw [hs0, hs1] at m1
      rw [hs0]
      have HS := Lib.hid (And.intro hs1 hi1)
      by_cases h0 : f i = 0
      · have HZ := Lib.hid h0
        rw [h0] at lk HOi m1
        rw [show (((0 : Nat) : Int)) = 0 from rfl, Int.add_zero] at m1
        have HP := Lib.hid (show N ≤ 100000 from hNn)
        clear hs hf hsum htle h1 hss e2 hs0 hs1 hi1 hi hi2 h0 hNn
        go_wp2_with fail
        (with_reducible refine HOi.out.mono ?_); rintro e w3 ⟨rfl, hw⟩; replace hw := hw.symm; subst hw
        go_wp2_with fail
        go_roundw
        case rel =>
          obtain ⟨q1, q2⟩ := HS.out
          subst q1 q2
          exact ⟨k, i + 1, rfl, rfl, rfl, HI2.out, HE.out.1.skip HK.out.1 HZ.out, HE.out.2⟩
        case measure => have := HI2.out; have := HS.out.2; simp [intOf]; omega
      · obtain ⟨hk, he, hs2⟩ := hs.take HK.out.1 HK.out.2.1 hi2 h0
        rw [hN.out] at hk
        obtain ⟨b, off, rfl, hld⟩ := HAT.out k hk
        have hl3 := hld wr hf
        rw [he] at hl3
        have hbl := HB.out i (f i) wr
        have hne := run_neqHas wr i (f i)
        obtain ⟨fi, hfi⟩ : ∃ x, f i = x := ⟨_, rfl⟩
        rw [hfi] at lk HOi m1 hl3 hbl hne h0
        have m3 : IntKind.i64.wrap ((k : Int) + 1) = ((k + 1 : Nat) : Int) := w64n (by omega) (by omega)
        have l2 : ¬ N ≤ k := by omega
        have l3 : (k : Int) < (N : Int) := by omega
        have z0 : ((fi : Int) == 0) = false := by simp; omega
        have HZ := Lib.hid hs2
        clear hs hf hsum htle h1 hss e2 hs0 hs1 hi1 hi hi2 h0 hs2 hfi hld he hk hNn
        go_wp2_with fail
        (with_reducible refine HOi.out.mono ?_); rintro e w3 ⟨rfl, hw⟩; replace hw := hw.symm; subst hw
        go_wp2_with fail
        go_roundw
        case rel =>
          obtain ⟨q1, q2⟩ := HS.out
          subst q1 q2
          exact ⟨k + 1, i + 1, rfl, rfl, rfl, HI2.out, HZ.out, HE.out.2⟩
        case measure => have := HI2.out; have := HS.out.2; simp [intOf]; omega
    · have hi3 : i = 256 := by omega
      subst hi3
      have e1 := hs.done HK.out.1
      rw [hN.out] at e1
      subst e1
      rw [hsum]
      have HTi := Lib.hid (HT.out wr hF.out)
      have l1 : ¬ (256 : Int) < 256 := by decide
      clear hs hf hsum htle hi hi2 hN hNn
      go_wp2_with fail
      (with_reducible refine HTi.out.mono ?_); rintro e w3 ⟨rfl, f3⟩
      have HF3 := Lib.hid (hF.out.trans' f3)
      clear f3
      go_wp2_with fail
      go_ret
      exact ⟨rfl, HF3.out⟩
end Go.Proofs.Ytpeiihbnicickaa

/- Layer 15 (token): TokenPlays: lists of acts, on the ledger and on the law's own model. -/
namespace Go.Proofs.Ytpeiihbnicickaa
set_option maxRecDepth 100000
set_option linter.unusedVariables false
set_option linter.unusedSimpArgs false
open Go.RowKit

theorem Try.szAct15 : (Try.prog.info? 31).map (·.size) = some 4 := by kernel_rfl
@[go_sem ↓ high] theorem load_act15 (p : Value) : Instr.loadAt 31 p = loadRowAt 31 p := rfl
@[go_sem ↓ high] theorem store_act15 (p v : Value) : Instr.storeAt 31 p v = storeRowAt 31 p v := rfl
@[go_sem] theorem run_load_act15 (w : World) (g : Nat) : (loadRowAt 31 (.pointer (some ⟨g, 0, none⟩))).run Try.prog w = rowOut Try.prog 31 (.pointer (some ⟨g, 0, none⟩)) w 4 w.heap[g]? :=
  run_loadRowAt w _ g 4 _ Try.underlying31 rfl Try.szAct15
@[go_sem] theorem run_store_act15 (w : World) (g : Nat) (cells : Array Value) : (storeRowAt 31 (.pointer (some ⟨g, 0, none⟩)) (.agg cells)).run Try.prog w = rowIn Try.prog 31 (.pointer (some ⟨g, 0, none⟩)) cells g w 4 w.heap[g]? :=
  run_storeRowAt w _ g 4 cells Try.szAct15

/-- Acts in memory. -/
structure Acts (w : World) (a : Option Addr) (n : Nat) : Prop where
  at_ : ∀ k, k < n → ∃ b off kd x y z, a = some ⟨b, off, none⟩ ∧ x < 256 ∧ y < 256 ∧ z < 18446744073709551616 ∧ ∀ W, Fr F0 w W → (loadRowAt 31 (.pointer (some ⟨b, off + k * 4, none⟩))).run Try.prog W = .ok (.agg #[.int .i64 kd, .int .u8 (x : Nat), .int .u8 (y : Nat), .int .u64 (z : Nat)]) W
theorem DX.fr0 {w W W' : World} (f : Fr F0 w W) (g : Fr (DX w.heap.size) W W') : Fr F0 w W' := f.trans g fun i hi h => absurd h (Nat.not_le.2 hi)

theorem made15 {base : Nat} {w : World} {p : Nat} (L : LG w p none 0 fun _ => 0) (hp : base ≤ p) (hs : base ≤ w.heap.size) :
    DS base ((w.alloc (.map #[] 0)).alloc (.cells #[.int .u64 0] 28)) p none (w.heap.size + 1) w.heap.size 0 0 (fun _ => 0) 0 ∧ Fr F0 w ((w.alloc (.map #[] 0)).alloc (.cells #[.int .u64 0] 28)) := by
  have f1 : Fr F0 w (w.alloc (.map #[] 0)) := (Fr.refl F0 w).alloc _
  have f2 : Fr F0 (w.alloc (.map #[] 0)) ((w.alloc (.map #[] 0)).alloc (.cells #[.int .u64 0] 28)) := (Fr.refl F0 _).alloc _
  have hl := L.lt
  refine ⟨⟨L.fr0 (f1.trans' f2), (MU.made w).fr f2 fun x => x, ?_, Lg.nobody, by omega, by omega, (fun e => by cases e), (fun e => by cases e), by omega, hp, by omega, hs, (fun B e => by cases e)⟩, f1.trans' f2⟩
  rw [show w.heap.size + 1 = (w.alloc (.map #[] 0)).heap.size by simp]
  exact heap_alloc_new _ _
theorem DS.fr0 {base : Nat} {w w' : World} {p q m n k t : Nat} {ob : Option Nat} {f : Nat → Nat} (h : DS base w p ob q m n k f t) (g : Fr F0 w w') : DS base w' p ob q m n k f t :=
  ⟨h.led.fr0 g, h.map.fr g fun x => x, g.keeps (fun x => x) h.tot, h.inv, h.pq, h.pm, h.oq, h.om, h.qm, h.bp, h.bq, h.bm, h.bo⟩

theorem copied15 {base : Nat} {w7 wr : World} {p2 m2 n k t : Nat} {ob2 : Option Nat} {f : Nat → Nat} (I : Lg f t) (L : LG w7 p2 ob2 n f) (M : MU wr m2 k f) (hm : w7.heap.size = m2) (hp : base ≤ p2) (ho : ∀ B, ob2 = some B → base ≤ B) (h1 : w7.heap.size ≤ wr.heap.size) (h2 : base ≤ w7.heap.size) (F : Fr F0 w7 wr) :
    DS base (wr.alloc (.cells #[.int .u64 (t : Int)] 28)) p2 ob2 wr.heap.size m2 n k f t := by
  have fa : Fr F0 wr (wr.alloc (.cells #[.int .u64 (t : Int)] 28)) := (Fr.refl F0 wr).alloc _
  have hl := L.lt
  have hM := M.lt
  have hB : ∀ B, ob2 = some B → B < w7.heap.size := fun B e => L.map.lt e
  exact ⟨L.fr0 (F.trans' fa), M.fr fa fun x => x, heap_alloc_new _ _, I, by omega, by omega, (fun e => by have := hB _ e; omega), (fun e => by have := hB _ e; omega), by omega, hp, by omega, by omega, ho⟩

set_option maxRecDepth 100000 in
set_option maxHeartbeats 16000000 in
theorem tokenPlays_any {w : World} {a a2 : Option Addr} {n c n2 c2 : Nat} (h1 : Acts w a n) (h2 : Acts w a2 n2) :
    Calls Try.prog 3 #[.slice a n c, .slice a2 n2 c2] w fun e w' => e = .returned (.bool true) ∧ Fr F0 w w' := by
  have HA := Lib.hid h1
  have HA2 := Lib.hid h2
  have HL := Lib.hid (fun W => lives15_any W)
  have HN := Lib.hid (fun W => tkNew_any W)
  have hmm := @run_makeMap Try.prog
  clear h1 h2
  go_enter Try.func3, Try.ntmps3
  by_cases hb1 : 60 < n
  · have g1 : 60 < n := hb1
    clear HN HA HA2 hmm hb1
    go_wp2_with fail
    (with_reducible refine (HL.out w).mono ?_); rintro e w1 ⟨rfl, f1⟩
    have F1 := Lib.hid f1
    clear f1
    go_wp2_with fail
    (with_reducible refine (HL.out w1).mono ?_); rintro e w2 ⟨rfl, f2⟩
    have F2 := Lib.hid (F1.out.trans' f2)
    clear f2
    go_wp2_with fail
    go_ret
    exact ⟨rfl, F2.out⟩
  by_cases hb2 : 60 < n2
  · have g1 : ¬ 60 < n := hb1
    have g2 : 60 < n2 := hb2
    clear HN HA HA2 hmm hb1 hb2
    go_wp2_with fail
    (with_reducible refine (HL.out w).mono ?_); rintro e w1 ⟨rfl, f1⟩
    have F1 := Lib.hid f1
    clear f1
    go_wp2_with fail
    (with_reducible refine (HL.out w1).mono ?_); rintro e w2 ⟨rfl, f2⟩
    have F2 := Lib.hid (F1.out.trans' f2)
    clear f2
    go_wp2_with fail
    go_ret
    exact ⟨rfl, F2.out⟩
  have b1 : n ≤ 60 := by omega
  have b2 : n2 ≤ 60 := by omega
  have l1 : ¬ 60 < n := by omega
  have l2 : ¬ 60 < n2 := by omega
  clear hb1 hb2
  go_wp2_with fail
  (with_reducible refine (HL.out w).mono ?_); rintro e w1 ⟨rfl, f1⟩
  have F1 := Lib.hid f1
  clear f1
  go_wp2_with fail
  (with_reducible refine (HN.out w1).mono ?_); rintro e w2 ⟨p, rfl, L2, f2, hp⟩
  have F2 := Lib.hid (And.intro L2 (And.intro (F1.out.trans' f2) (Nat.le_trans F1.out.size hp)))
  clear L2 f2 hp HL HN
  go_upto_region 6 with fail
  obtain ⟨D0, f5⟩ := made15 F2.out.1 F2.out.2.2 F2.out.2.1.size
  have F5 := Lib.hid (F2.out.2.1.trans' f5)
  replace D0 := Lib.hid D0
  clear f5 F1 F2
  generalize (w2.alloc (.map #[] 0)).alloc (.cells #[.int .u64 0] 28) = W5 at *
  generalize w2.heap.size + 1 = q at *
  generalize w2.heap.size = m at *
  clear w2
  go_wp2_with fail
  go_loopw [34] (fun iv wr => ∃ (k t : Nat) (f : Nat → Nat) (ob : Option Nat), iv = .int .i64 (k : Int) ∧ k ≤ n ∧ DS w.heap.size wr p ob q m (2 * k) (2 * k) f t ∧ Fr F0 w wr) (fun iv _ => n - (intOf iv).toNat)
  case atStart => exact ⟨0, 0, _, none, rfl, by omega, D0.out, F5.out⟩
  case round =>
    clear D0 F5
    obtain ⟨k, t, f, ob, rfl, hk, D, F⟩ := hrel
    by_cases h1 : k < n
    · have l1 : (k : Int) < (n : Int) := by omega
      obtain ⟨b, off, kd, x, y, z, rfl, hx, hy, hz, hld⟩ := HA.out.at_ k h1
      have lds := hld wr F
      have oS : rowOne #[Value.int .i64 kd, .int .u8 (x : Int), .int .u8 (y : Int), .int .u64 (z : Int)] := by unfold rowOne; kernel_rfl
      have k1 : IntKind.i64.wrap ((k : Int) + 1) = ((k + 1 : Nat) : Int) := w64n (by omega) (by omega)
      have HDo := Lib.hid (fun (W : World) (g : Fr F0 wr W) => do15_any (D.fr0 g) (show 2 * k + 1 < maxLen by unfold maxLen; omega) (show 2 * k + 1 < maxLen by unfold maxLen; omega) kd hx hy hz)
      unfold actC at HDo
      have HF := Lib.hid (And.intro F h1)
      clear hld hx hy hz D F h1
      go_upto_region 9 with fail
      refine wp_put fun W3 N => ?_
      have r9 := N.new
      have F3 := N.fr
      clear N lds
      obtain ⟨g9, hg9⟩ : ∃ g, wr.heap.size = g := ⟨_, rfl⟩
      rw [hg9] at r9 ⊢
      clear hg9
      have HD3 := Lib.hid (And.intro (HDo.out W3 F3) F3)
      clear F3 HDo
      go_wp2_with fail
      (with_reducible refine HD3.out.1.mono ?_); rintro e w4 ⟨rfl, ⟨ob', D4⟩, f4⟩
      have HD4 := Lib.hid (And.intro D4 (DX.fr0 (HF.out.1.trans' HD3.out.2) f4))
      clear D4 f4 HD3
      go_wp2_with fail
      go_roundw
      case rel => exact ⟨k + 1, _, _, _, rfl, HF.out.2, by rw [show 2 * (k + 1) = 2 * k + 2 by omega]; exact HD4.out.1, HD4.out.2⟩
      case measure => have := HF.out.2; simp [intOf]; omega
    · have l1 : ¬ (k : Int) < (n : Int) := by omega
      have hk2 : k = n := by omega
      subst hk2
      have HD := Lib.hid D
      have HC := Lib.hid (tkCopy_any D.led)
      have HF := Lib.hid F
      clear D F h1 hk
      generalize wr = wq at *
      go_wp2_with fail
      (with_reducible refine HC.out.mono ?_); rintro e w7 ⟨p2, ob2, rfl, L7, f7, hp2, ho2⟩
      have nF : ∀ i, ¬ F0 i := fun i h => h
      have f8 : Fr F0 w7 (w7.alloc (.map #[] 0)) := (Fr.refl F0 w7).alloc _
      have M8 := MU.made w7
      have hsz : (w7.alloc (.map #[] 0)).heap.size = w7.heap.size + 1 := by simp
      obtain ⟨w9, left, cnt, hr, R, hz, hc, f9, s9⟩ := ((HD.out.map.fr f7 (nF m)).fr f8 (nF m)).range
      have M9 := M8.fr f9 (nF _)
      have lt7 := (HD.out.map.fr f7 (nF m)).lt
      have l7 := L7.lt
      have H7 := Lib.hid (And.intro L7 (And.intro f7 (And.intro hp2 (And.intro ho2 l7))))
      have f79 := f8.trans' f9
      obtain ⟨r, hr0⟩ : ∃ x, w7.heap.size + 1 = x := ⟨_, rfl⟩
      obtain ⟨m2, hm2⟩ : ∃ x, w7.heap.size = x := ⟨_, rfl⟩
      rw [hsz, hr0] at hr R
      rw [hm2] at M9 lt7
      have HN := Lib.hid (show w7.heap.size = m2 ∧ r = m2 + 1 ∧ m < m2 from ⟨hm2, by omega, lt7⟩)
      have e9 : ∀ i, i < 256 → 0 = if left i = true then 0 else f i := by
        intro i hi
        cases hl : left i with
        | true => simp
        | false => simp [hz i hi hl]
      have H9 := Lib.hid (And.intro R (And.intro hc (And.intro M9 (And.intro e9 f79))))
      clear L7 f7 hp2 ho2 l7 f8 M8 hsz R hz hc f9 s9 M9 lt7 f79 hr0 e9 HC
      go_upto_region 14 with fail
      try rw [hm2]
      clear hm2
      go_wp2_with fail
      go_loopw [12] (fun _ wr2 => ∃ (left : Nat → Bool) (cnt : Nat) (g : Nat → Nat), MR wr2 m r (2 * k) f left cnt ∧ cnt ≤ 2 * k ∧ MU wr2 m2 (2 * k - cnt) g ∧ (∀ i, i < 256 → g i = if left i = true then 0 else f i) ∧ Fr F0 w7 wr2) (fun _ wr2 => wr2.rangeLeft m r)
      case atStart => exact ⟨left, cnt, _, H9.out.1, H9.out.2.1, H9.out.2.2.1.mono (Nat.zero_le _), H9.out.2.2.2.1, H9.out.2.2.2.2⟩
      case round =>
        clear H9 hr
        obtain ⟨left', cnt', g, R, hc', Mg, hg, F⟩ := hrel
        rcases R.next 0 with ⟨hl, hr⟩ | ⟨x, w3, cnt3, hx, hlx, hfx, hr, R3, hlt, f3, s3, hen⟩
        · have Mf := (Mg.ext fun i hi => by rw [hg i hi, hl i hi]; first | done | rfl).mono (show 2 * k - cnt' ≤ 2 * k by omega)
          have Fq := H7.out.2.1.trans' F
          have tq := Fq.keeps (nF _) HD.out.tot
          have HS := Lib.hid (And.intro Mf (And.intro F Fq))
          clear Mf F Fq R Mg hg hl hc'
          go_upto_region 18 with fail
          clear hr
          go_upto_region 19 with fail
          have D2 := copied15 HD.out.inv H7.out.1 HS.out.1 HN.out.1 H7.out.2.2.1 H7.out.2.2.2.1 HS.out.2.1.size H7.out.2.1.size
          have fa : Fr F0 wr (wr.alloc (.cells #[.int .u64 (t : Int)] 28)) := (Fr.refl F0 wr).alloc _
          have H5 := Lib.hid (And.intro (D2 HS.out.2.1) (HS.out.2.2.trans' fa))
          clear D2 fa HS tq H7 HN
          generalize wr.alloc (.cells #[.int .u64 (t : Int)] 28) = W9 at *
          generalize wr.heap.size = q2 at *
          go_wp2_with fail
          go_loopw [60] (fun iv wr => ∃ (j t' : Nat) (f' : Nat → Nat) (ob' : Option Nat), iv = .int .i64 (j : Int) ∧ j ≤ n2 ∧ DS wq.heap.size wr p2 ob' q2 m2 (2 * k + 2 * j) (2 * k + 2 * j) f' t' ∧ Fr F0 wq wr) (fun iv _ => n2 - (intOf iv).toNat)
          case atStart => exact ⟨0, t, f, ob2, rfl, by omega, H5.out.1, H5.out.2⟩
          case round =>
            clear H5
            obtain ⟨j, t', f', ob', rfl, hj, D, F⟩ := hrel
            by_cases h1 : j < n2
            · have l1 : (j : Int) < (n2 : Int) := by omega
              obtain ⟨b, off, kd, x, y, z, rfl, hx, hy, hz, hld⟩ := HA2.out.at_ j h1
              have lds := hld wr (HF.out.trans' F)
              have oS : rowOne #[Value.int .i64 kd, .int .u8 (x : Int), .int .u8 (y : Int), .int .u64 (z : Int)] := by unfold rowOne; kernel_rfl
              have k1 : IntKind.i64.wrap ((j : Int) + 1) = ((j + 1 : Nat) : Int) := w64n (by omega) (by omega)
              have HDo := Lib.hid (fun (W : World) (g : Fr F0 wr W) => do15_any (D.fr0 g) (show 2 * k + 2 * j + 1 < maxLen by unfold maxLen; omega) (show 2 * k + 2 * j + 1 < maxLen by unfold maxLen; omega) kd hx hy hz)
              unfold actC at HDo
              have HG := Lib.hid (And.intro F h1)
              clear hld hx hy hz D F h1
              go_upto_region 22 with fail
              refine wp_put fun W3 N => ?_
              have r9 := N.new
              have F3 := N.fr
              clear N lds
              obtain ⟨g9, hg9⟩ : ∃ g, wr.heap.size = g := ⟨_, rfl⟩
              rw [hg9] at r9 ⊢
              clear hg9
              have HD3 := Lib.hid (And.intro (HDo.out W3 F3) F3)
              clear F3 HDo
              go_wp2_with fail
              (with_reducible refine HD3.out.1.mono ?_); rintro e w4 ⟨rfl, ⟨ob4, D4⟩, f4⟩
              have HD4 := Lib.hid (And.intro D4 (DX.fr0 (HG.out.1.trans' HD3.out.2) f4))
              clear D4 f4 HD3
              go_wp2_with fail
              go_roundw
              case rel => exact ⟨j + 1, _, _, _, rfl, HG.out.2, by rw [show 2 * k + 2 * (j + 1) = 2 * k + 2 * j + 2 by omega]; exact HD4.out.1, HD4.out.2⟩
              case measure => have := HG.out.2; simp [intOf]; omega
            · have l1 : ¬ (j : Int) < (n2 : Int) := by omega
              have hb1 : 2 * k ≤ 100000 := by omega
              have hb2 : 2 * k + 2 * j ≤ 100000 := by omega
              have tq := F.keeps (nF _) HD.out.tot
              have HI1 := Lib.hid (is15_any (HD.out.led.fr0 F) (HD.out.map.fr F (nF m)) HD.out.inv hb1)
              have HI2 := Lib.hid (fun (W : World) (g : Fr F0 wr W) => And.intro (is15_any (D.led.fr0 g) (D.map.fr g (nF m2)) D.inv hb2) (g.keeps (nF _) D.tot))
              have HG := Lib.hid F
              clear D F h1 hj hb1 hb2
              go_wp2_with fail
              (with_reducible refine HI1.out.mono ?_); rintro e w4 ⟨rfl, f4⟩
              have HI3 := Lib.hid (HI2.out w4 f4).1
              have tq2 := (HI2.out w4 f4).2
              have HG4 := Lib.hid (HG.out.trans' f4)
              clear f4 HI2 tq
              go_wp2_with fail
              (with_reducible refine HI3.out.mono ?_); rintro e w5 ⟨rfl, f5⟩
              have HG5 := Lib.hid (HF.out.trans' (HG4.out.trans' f5))
              clear f5 tq2
              go_wp2_with fail
              go_ret
              exact ⟨rfl, HG5.out⟩
        · have n1 : ¬ m2 = r := by have := HN.out; omega
          have n2 : ¬ m = m2 := by have := HN.out; omega
          have M3 := Mg.fr f3 n1
          have hen3 := hen w3 rfl rfl
          obtain ⟨w4, hu, M4, f4, s4⟩ := M3.put (show 2 * k - cnt' < maxLen by unfold maxLen; omega) hx hfx
          have R4 := R3.fr f4 n2 (fun e => n1 e.symm)
          have F4 := (F.trans f3 (fun i hi e => absurd hi (by have := HN.out; omega))).trans f4 (fun i hi e => absurd hi (by have := HN.out; omega))
          have HX : Hid (∀ k, k < 256 → upd g x (f x) k = if (left' k && !decide (k = x)) = true then 0 else f k) := by
            refine Lib.hid fun k hk => ?_
            by_cases e : k = x
            · subst e
              rw [upd_same]
              simp
            · rw [upd_other e, hg k hk]
              simp [e]
          have HW := Lib.hid (And.intro R4 (And.intro (M4.mono (show 2 * k - cnt' + 1 ≤ 2 * k - cnt3 by omega)) (And.intro F4 (And.intro R.left_eqV R4.left_eqV))))
          have HG := Lib.hid (And.intro hc' hlt)
          obtain ⟨fx, hfe⟩ : ∃ fx, f x = fx := ⟨_, rfl⟩
          rw [hfe] at HX HW hr hen3 hu
          clear R R3 R4 Mg M3 M4 f3 f4 F F4 hen hg s3 s4 hfe hfx n1 n2 hlx hc' hlt
          go_wp2_with fail
          go_roundw
          case rel => exact ⟨_, cnt3, _, HW.out.1, by have := HG.out; omega, HW.out.2.1, HX.out, HW.out.2.2.1⟩
          case measure => rw [HW.out.2.2.2.1, HW.out.2.2.2.2]; exact HG.out.2
end Go.Proofs.Ytpeiihbnicickaa

/- Arguments that are acts, opened. -/
namespace Go.Proofs.Ytpeiihbnicickaa
set_option maxRecDepth 100000
set_option linter.unusedVariables false
set_option linter.unusedSimpArgs false
open Go.RowKit Go.ChangeShapes Go.WideShapes Go.Deep

theorem split4a (cs : List Value) (h : cs.length = 4) : cs = (cs.drop 0).take 1 ++ ((cs.drop 1).take 1 ++ ((cs.drop 2).take 1 ++ (cs.drop 3).take 1)) := by
  match cs, h with
  | [a, b, c, d], _ => rfl
section
variable {H : Type} {enc : TypeId × Value → H} {w : World} {base : Nat} {spare : Nat → Bool} {held : Bool}

set_option maxRecDepth 100000 in
theorem cells_act {fuel : Nat} {cs : List Value} {y : DataW H × List MemPlace} (hf : DataW.trod enc Try.prog w base spare held fuel 31 cs = some y) : ∃ (kd : Int) (x y z : Nat), x < 256 ∧ y < 256 ∧ z < 18446744073709551616 ∧ cs = [.int .i64 kd, .int .u8 (x : Int), .int .u8 (y : Int), .int .u64 (z : Int)] := by
  obtain ⟨xs, n, _, _, hl, hlen, hc⟩ := DataW.trod_struct Try.underlying31 hf
  have h4 : Try.prog.cellsOf 31 = 4 := by kernel_rfl
  have h1 : Try.prog.cellsOf 3 = 1 := by kernel_rfl
  have h2 : Try.prog.cellsOf 29 = 1 := by kernel_rfl
  have h3 : Try.prog.cellsOf 28 = 1 := by kernel_rfl
  match xs, hlen with
  | [y0, y1, y2, y3], _ =>
    have k0 : DataW.trod enc Try.prog w base spare held n 3 ((cs.drop 0).take (Try.prog.cellsOf 3)) = some y0 := hc 0 _ rfl
    have k1 : DataW.trod enc Try.prog w base spare held n 29 ((cs.drop 1).take (Try.prog.cellsOf 29)) = some y1 := hc 1 _ rfl
    have k2 : DataW.trod enc Try.prog w base spare held n 29 ((cs.drop 2).take (Try.prog.cellsOf 29)) = some y2 := hc 2 _ rfl
    have k3 : DataW.trod enc Try.prog w base spare held n 28 ((cs.drop 3).take (Try.prog.cellsOf 28)) = some y3 := hc 3 _ rfl
    rw [h1] at k0
    rw [h2] at k1 k2
    rw [h3] at k3
    have hl' : cs.length = 4 := by rw [← h4, ← hl]
    obtain ⟨x0, e0, _, _⟩ := DataW.trod_int Try.underlying3 k0
    obtain ⟨x1, e1, _, w1⟩ := DataW.trod_int Try.underlying29 k1
    obtain ⟨x2, e2, _, w2⟩ := DataW.trod_int Try.underlying29 k2
    obtain ⟨x3, e3, _, w3⟩ := DataW.trod_int Try.underlying28 k3
    have b1 : 0 ≤ x1 ∧ x1 ≤ 255 := bounds_u8 w1
    have b2 : 0 ≤ x2 ∧ x2 ≤ 255 := bounds_u8 w2
    have b3 : 0 ≤ x3 ∧ x3 ≤ 18446744073709551615 := bounds_u64 w3
    obtain ⟨n1, rfl⟩ := Int.eq_ofNat_of_zero_le b1.1
    obtain ⟨n2, rfl⟩ := Int.eq_ofNat_of_zero_le b2.1
    obtain ⟨n3, rfl⟩ := Int.eq_ofNat_of_zero_le b3.1
    refine ⟨x0, n1, n2, n3, by omega, by omega, by omega, ?_⟩
    have := split4a cs hl'
    rw [e0, e1, e2, e3] at this
    rw [this]
    rfl
set_option maxRecDepth 100000 in
theorem open_acts {fuel : Nat} {a : Option Addr} {n c : Nat} {x : DataW H × List MemPlace} (h : DataW.trod enc Try.prog w base spare held fuel 22 [.slice a n c] = some x) : Acts w a n := by
  rcases open_slice Try.underlying22 h with ⟨hcs, _⟩ | ⟨ad, len, cap, m, k, D, Pl, hcs, _, hl, hm, hmm, _, hi⟩
  · simp only [List.cons.injEq, Value.slice.injEq, and_true] at hcs
    obtain ⟨rfl, rfl, rfl⟩ := hcs
    exact ⟨fun k hk => absurd hk (by omega)⟩
  · simp only [List.cons.injEq, Value.slice.injEq, and_true] at hcs
    obtain ⟨rfl, rfl, rfl⟩ := hcs
    have hnm : n ≤ m := by rw [hmm]; split <;> omega
    have hC : Try.prog.cellsOf 31 = 4 := by kernel_rfl
    refine ⟨fun k hk => ?_⟩
    obtain ⟨cs, h1, h2⟩ := hi k (by omega)
    rw [hC] at h1
    obtain ⟨_, hlen, hat⟩ := World.cells?_some h1
    obtain ⟨kd, x, y, z, hx, hy, hz, rfl⟩ := cells_act h2
    obtain ⟨cs0, g1, g2⟩ := hi 0 (by omega)
    rw [hC] at g1
    obtain ⟨_, glen, gat⟩ := World.cells?_some g1
    have hs0 := World.cell?_spot ((gat 0 (by omega)).trans (List.getElem?_eq_getElem (show 0 < cs0.length by omega)))
    obtain ⟨b, off, spot⟩ := ad
    simp [Addr.add] at hs0
    subst hs0
    refine ⟨b, off, kd, x, y, z, rfl, hx, hy, hz, fun W f => ?_⟩
    exact run_loadAt_mid (P := Try.prog) W b (off + k * 4) 31 [.int .i64 kd, .int .u8 (x : Int), .int .u8 (y : Int), .int .u64 (z : Int)] _ (fun j u hj => by
      have hj' : j < 4 := by have := (List.getElem?_eq_some_iff.1 hj).1; simpa using this
      have := (hat j hj').trans hj
      rw [Addr.add_lit, Addr.add_lit] at this
      exact f.cell (fun e => e) this) Try.underlying31 rfl (by rw [Try.szAct15]; rfl)
end
theorem tokenPlays_at (a : Option Addr) (n c : Nat) (a2 : Option Addr) (n2 c2 : Nat) (w : World) (h1 : Acts w a n) (h2 : Acts w a2 n2) :
    Calls Try.prog 3 #[.slice a n c, .slice a2 n2 c2] w fun e w' => e = .returned (.bool true) ∧ Fr F0 w w' := tokenPlays_any h1 h2
end Go.Proofs.Ytpeiihbnicickaa
