/- OctetReads: the law's own reader ('model'), and the words of its loop. -/
import Derived.Test.YtkeepojcdofibaaLaw01w
namespace Go.Proofs.Ytkeepojcdofibaa
set_option linter.unusedVariables false
set_option linter.unusedSimpArgs false
open Go.RowKit

/-- A model at block b: what is left, or none: it is wrong. -/
structure IsM (w : World) (b : Nat) (a : Option Addr) (st : Option (List UInt8)) : Prop where
  at_ : ∃ c, w.heap[b]? = some (.cells #[.slice a (st.getD []).length c, .bool st.isNone] 49 (0, 0)) ∧ Bs w a c (st.getD [])
  blk : ∀ k, ablk a = some k → k < w.heap.size

theorem IsM.fr {S : Nat → Prop} {w w' : World} {b : Nat} {a : Option Addr} {st : Option (List UInt8)} (h : IsM w b a st) (hf : Fr S w w') (hb : ¬ S b) (ha : ∀ k, ablk a = some k → ¬ S k) : IsM w' b a st := by
  obtain ⟨c, h1, h2⟩ := h.at_
  exact ⟨⟨c, hf.keeps hb h1, Sl.fr h2 hf ha⟩, fun k hk => hf.lt (h.blk k hk)⟩

/-- Behind a call of a model's. -/
def MPost (w : World) (b : Nat) (a : Option Addr) (st : Option (List UInt8)) (w' : World) : Prop :=
  ∃ a', IsM w' b a' st ∧ Fr (fun k => k = b) w w' ∧ ∀ k, ablk a' = some k → ablk a = some k

/-- A reader and a model leave each other alone. -/
theorem IsM.other {w w' : World} {b rb : Nat} {a ra : Option Addr} {st rst : Option (List UInt8)} (h : IsM w b a st) (hr : IsR w rb ra rst) (hf : Fr (fun k => k = rb) w w') : IsM w' b a st := by
  obtain ⟨c, h1, h2⟩ := h.at_
  obtain ⟨rc, g1, g2⟩ := hr.at_
  refine ⟨⟨c, hf.keeps ?_ h1, Bs.pair (fun n e => by cases e) (fun n e => by cases e) g1 hf h2⟩, fun k hk => hf.lt (h.blk k hk)⟩
  rintro rfl
  rw [h1] at g1
  simp at g1

theorem IsR.other {w w' : World} {b rb : Nat} {a ra : Option Addr} {st rst : Option (List UInt8)} (hr : IsR w rb ra rst) (h : IsM w b a st) (hf : Fr (fun k => k = b) w w') : IsR w' rb ra rst := by
  obtain ⟨c, h1, h2⟩ := h.at_
  obtain ⟨rc, g1, g2⟩ := hr.at_
  refine ⟨⟨rc, hf.keeps ?_ g1, Bs.pair (fun n e => by cases e) (fun n e => by cases e) h1 hf g2⟩, fun k hk => hf.lt (hr.blk k hk)⟩
  rintro rfl
  rw [h1] at g1
  simp at g1

theorem free_pair {w : World} {b : Nat} {u v : Value} {t : TypeId} (h : w.heap[b]? = some (.cells #[u, v] t (0, 0))) : w.frozen? ⟨b, 0, none⟩ = false := by simp [World.frozen?, h]

set_option maxHeartbeats 400000 in
theorem mfail_any (b : Nat) (a : Option Addr) (st : Option (List UInt8)) (w : World) (h : IsM w b a st) :
    Calls Try.prog 25 #[.pointer (some ⟨b, 0, none⟩)] w fun e w' => e = .returned (.tuple #[]) ∧ MPost w b a none w' := by
  obtain ⟨c, h1, h2⟩ := h.at_
  obtain ⟨c0, c1, z⟩ := pair_cell h1
  have z0 := z 0
  have z1 := z 1
  have p0 := pair_set0 (x := .slice none 0 0) h1
  have P := Lib.hid (pair_set1 (x := .bool true) p0)
  clear h1 z p0 h2 h
  go_enter Try.func25, Try.ntmps25
  go_wp2
  go_end0
  exact ⟨rfl, none, ⟨⟨0, P.out, Bs.nothing _⟩, fun k e => by cases e⟩, (Fr.setCell (S := fun k => k = b) (Fr.refl _ _) (p := ⟨b, 0, none⟩) (fun _ => rfl) _).setCell (p := ⟨b, 1, none⟩) (fun _ => rfl) _, fun k e => by cases e⟩

set_option maxHeartbeats 1000000 in
theorem mraw_any (b : Nat) (a : Option Addr) (st : Option (List UInt8)) (n : Int) (w : World) (h : IsM w b a st) (hl : lft st ≤ 140737488355328) :
    Calls Try.prog 26 #[.pointer (some ⟨b, 0, none⟩), .int .i64 n] w fun e w' => e = .returned (.string (strOf (tk n st).1)) ∧ MPost w b a (tk n st).2 w' := by
  have FA := Lib.hid (mfail_any b a st w h)
  obtain ⟨c, h1, h2⟩ := h.at_
  obtain ⟨c0, c1, z⟩ := pair_cell h1
  cases st with
  | none =>
    simp only [Option.isNone_none, Option.getD_none, List.length_nil] at c0 c1
    clear h1 h2 z h
    go_enter Try.func26, Try.ntmps26
    go_wp2_with (go_at_call 25; refine FA.out.mono ?_; rintro e w1 ⟨rfl, p1⟩)
    go_ret
    exact ⟨rfl, p1⟩
  | some bs =>
    simp only [Option.isNone_some, Option.getD_some] at c0 c1 h2
    have hr := h2.room
    simp only [lft, Option.getD_some] at hl
    by_cases hn : 0 ≤ n ∧ n ≤ bs.length
    · obtain ⟨n, rfl⟩ := Int.eq_ofNat_of_zero_le hn.1
      have hnl : n ≤ bs.length := by omega
      rw [tk_some n bs hnl]
      dsimp only
      have z0 := z 0
      have H1 := Lib.hid h1
      have HB := Lib.hid h.blk
      have hs := run_str (P := Try.prog) 26 9 5 Try.underlying26 Try.underlying5 Try.underlying9 (h2.take n) n (by simp; omega)
      clear h1 z h hn FA
      go_enter Try.func26, Try.ntmps26
      go_wp2
      go_ret
      have P := pair_set0 (x := .slice (cutA a c n 1) (bs.length - n) (c - n)) H1.out
      have F := Fr.setCell (S := fun k => k = b) (Fr.refl _ w) (p := ⟨b, 0, none⟩) (fun _ => rfl) (.slice (cutA a c n 1) (bs.length - n) (c - n))
      have D := Bs.pair (fun n e => by cases e) (fun n e => by cases e) H1.out F (h2.drop n hnl)
      refine ⟨rfl, cutA a c n 1, ⟨⟨c - n, ?_, D⟩, fun k hk => F.lt (HB.out k (by rwa [cutA_blk] at hk))⟩, F, fun k hk => by rwa [cutA_blk] at hk⟩
      simp only [Option.getD_some, List.length_drop]
      exact P
    · have e : tk n (some bs) = ([], none) := by simp only [tk, if_neg hn]
      rw [e]
      clear h1 z h e
      by_cases hneg : n < 0
      · go_enter Try.func26, Try.ntmps26
        go_wp2_with (go_at_call 25; refine FA.out.mono ?_; rintro e w1 ⟨rfl, p1⟩)
        go_ret
        exact ⟨rfl, p1⟩
      · have hbig : (bs.length : Int) < n := by omega
        clear hn
        go_enter Try.func26, Try.ntmps26
        go_wp2_with (go_at_call 25; refine FA.out.mono ?_; rintro e w1 ⟨rfl, p1⟩)
        go_ret
        exact ⟨rfl, p1⟩

theorem rrc_size (bs : List UInt8) (h : (rrc bs).2.2 = true) : (rrc bs).2.1 ≤ bs.length := by
  cases bs with
  | nil => simp [rrc] at h
  | cons c r =>
    simp only [rrc] at h ⊢
    split
    · simp
    · split
      · rename_i h1 h2
        rw [if_neg h1, if_pos h2] at h
        simp at h
      · simp only [List.length_cons] at *
        omega

theorem rrc_lt (bs : List UInt8) : (rrc bs).1 < 18446744073709551616 := by
  cases bs with
  | nil => simp [rrc]
  | cons c r =>
    have := c.toNat_lt
    simp only [rrc]
    split
    · dsimp only; omega
    · split
      · simp
      · dsimp only
        have h1 := ofLE_lt (r.take (1 + 2 * 2 ^ (c.toNat - 253) - 1))
        have h2 : (r.take (1 + 2 * 2 ^ (c.toNat - 253) - 1)).length ≤ 8 := by
          have : c.toNat - 253 ≤ 2 := by omega
          have h3 : 2 ^ (c.toNat - 253) ≤ 2 ^ 2 := Nat.pow_le_pow_right (by omega) this
          simp only [List.length_take]
          omega
        have h3 : 256 ^ (r.take (1 + 2 * 2 ^ (c.toNat - 253) - 1)).length ≤ 256 ^ 8 := Nat.pow_le_pow_right (by omega) h2
        omega

set_option maxHeartbeats 1000000 in
theorem mcount_any (b : Nat) (a : Option Addr) (st : Option (List UInt8)) (most : Nat) (w : World) (h : IsM w b a st) (hl : lft st ≤ 140737488355328) (hm : most < 18446744073709551616) :
    Calls Try.prog 27 #[.pointer (some ⟨b, 0, none⟩), .int .u64 most] w fun e w' => e = .returned (.int .u64 (mcnt most st).1) ∧ MPost w b a (mcnt most st).2 w' := by
  -- a failing, behind new memory
  have fail : ∀ w1, Fr F0 w w1 → Calls Try.prog 25 #[.pointer (some ⟨b, 0, none⟩)] w1 fun e w' => e = .returned (.tuple #[]) ∧ MPost w b a none w' := by
    intro w1 hf
    refine (mfail_any b a st w1 (h.fr hf (fun f => f) fun _ _ f => f)).mono ?_
    rintro e w2 ⟨rfl, a', h1, h2, h3⟩
    exact ⟨rfl, a', h1, hf.of0.trans' h2, h3⟩
  have FA := Lib.hid fail
  clear fail
  obtain ⟨c, h1, h2⟩ := h.at_
  obtain ⟨c0, c1, z⟩ := pair_cell h1
  cases st with
  | none =>
    simp only [Option.isNone_none, Option.getD_none, List.length_nil] at c0 c1 h2
    have RC := Lib.hid (refReadCount_any a 0 c [] w h2 rfl)
    have keep : ∀ w1, Fr F0 w w1 → w1.cell? ⟨b, 1, none⟩ = some (.bool true) := fun w1 hf => hf.cell (fun f => f) c1
    have KE := Lib.hid keep
    simp only [mcnt]
    clear h1 h2 z h keep
    go_enter Try.func27, Try.ntmps27
    go_wp2_with (first | (go_at_call 33; refine RC.out.mono ?_; rintro e w1 ⟨rfl, hf⟩; have hk := KE.out _ hf; have HF := Lib.hid hf; clear hf) | (go_at_call 25; refine (FA.out _ HF.out).mono ?_; rintro e w1 ⟨rfl, p1⟩))
    go_ret
    exact ⟨rfl, p1⟩
  | some bs =>
    simp only [Option.isNone_some, Option.getD_some] at c0 c1 h2
    have hr := h2.room
    have RC := Lib.hid (refReadCount_any a bs.length c bs w h2 rfl)
    have hsz := rrc_size bs
    have hxl := rrc_lt bs
    have keep : ∀ w1, Fr F0 w w1 → w1.cell? ⟨b, 1, none⟩ = some (.bool false) ∧ w1.cell? ⟨b, 0, none⟩ = some (.slice a bs.length c) ∧ w1.frozen? ⟨b, 0, none⟩ = false := fun w1 hf =>
      ⟨hf.cell (fun f => f) c1, hf.cell (fun f => f) c0, free_pair (hf.keeps (fun f => f) h1)⟩
    have KE := Lib.hid keep
    have H1 := Lib.hid h1
    have HB := Lib.hid h.blk
    simp only [mcnt]
    clear h1 z h keep c1
    generalize rrc bs = g at *
    obtain ⟨x, s, ok⟩ := g
    dsimp only at *
    cases ok with
    | false =>
      simp only [Bool.false_eq_true, false_and, if_false]
      go_enter Try.func27, Try.ntmps27
      go_wp2_with (first | (go_at_call 33; refine RC.out.mono ?_; rintro e w1 ⟨rfl, hf⟩; have hk := (KE.out _ hf).1; have hk0 := (KE.out _ hf).2.1; have HF := Lib.hid hf; clear hf) | (go_at_call 25; refine (FA.out _ HF.out).mono ?_; rintro e w1 ⟨rfl, p1⟩))
      go_ret
      exact ⟨rfl, p1⟩
    | true =>
      have hs := hsz rfl
      clear hsz
      by_cases hxm : x ≤ most
      · simp only [hxm, and_self, if_true]
        go_enter Try.func27, Try.ntmps27
        go_wp2_with (first | (go_at_call 33; refine RC.out.mono ?_; rintro e w1 ⟨rfl, hf⟩; have hk := (KE.out _ hf).1; have hk0 := (KE.out _ hf).2.1; have hkz := (KE.out _ hf).2.2; have HF := Lib.hid hf; clear hf))
        go_ret
        have hf := HF.out
        have H1' := hf.keeps (fun f => f) H1.out
        have P := pair_set0 (x := .slice (cutA a c s 1) (bs.length - s) (c - s)) H1'
        have F := Fr.setCell (S := fun k => k = b) (hf.of0) (p := ⟨b, 0, none⟩) (fun _ => rfl) (.slice (cutA a c s 1) (bs.length - s) (c - s))
        have F1 := Fr.setCell (S := fun k => k = b) (Fr.refl _ w1) (p := ⟨b, 0, none⟩) (fun _ => rfl) (.slice (cutA a c s 1) (bs.length - s) (c - s))
        have D := Bs.pair (fun n e => by cases e) (fun n e => by cases e) H1' F1 (Bs.drop (Sl.fr h2 hf fun _ _ f => f) s hs)
        refine ⟨rfl, cutA a c s 1, ⟨⟨c - s, ?_, D⟩, fun k hk => F.lt (HB.out k (by rwa [cutA_blk] at hk))⟩, F, fun k hk => by rwa [cutA_blk] at hk⟩
        simp only [Option.getD_some, List.length_drop]
        exact P
      · have hbig : most < x := by omega
        simp only [hxm, and_false, if_false]
        clear hxm
        go_enter Try.func27, Try.ntmps27
        go_wp2_with (first | (go_at_call 33; refine RC.out.mono ?_; rintro e w1 ⟨rfl, hf⟩; have hk := (KE.out _ hf).1; have hk0 := (KE.out _ hf).2.1; have HF := Lib.hid hf; clear hf) | (go_at_call 25; refine (FA.out _ HF.out).mono ?_; rintro e w1 ⟨rfl, p1⟩))
        go_ret
        exact ⟨rfl, p1⟩

/-- Between two calls of a round: a reader and a model that have the same; an item t boxed at block x; nothing that lay in w0 has changed. -/
structure RM (w0 w : World) (rb mb : Nat) (sr sm : Option (List UInt8)) (x : Nat) (t : It) : Prop where
  rd : ∃ a, IsR w rb a sr ∧ ∀ k, ablk a = some k → w0.heap.size ≤ k
  md : ∃ a, IsM w mb a sm ∧ ∀ k, ablk a = some k → w0.heap.size ≤ k
  nr : w0.heap.size ≤ rb
  nm : w0.heap.size ≤ mb
  fr : Fr F0 w0 w
  box : w.heap[x]? = some (.cells #[.int .i64 t.kind, .int .i64 t.size, .int .u64 t.x, .slice t.ba t.bs.length t.bc] 31 (0, 0))

theorem RM.c {w0 w : World} {rb mb : Nat} {sr sm : Option (List UInt8)} {x : Nat} {t : It} (h : RM w0 w rb mb sr sm x t) :
    w.cell? ⟨x, 0, none⟩ = some (.int .i64 t.kind) ∧ w.cell? ⟨x, 1, none⟩ = some (.int .i64 t.size) ∧ w.cell? ⟨x, 2, none⟩ = some (.int .u64 t.x) ∧ w.cell? ⟨x, 3, none⟩ = some (.slice t.ba t.bs.length t.bc) := by
  have := h.box
  simp [World.cell?, this]

/-- The model's cells. -/
theorem RM.m {w0 w : World} {rb mb : Nat} {sr sm : Option (List UInt8)} {x : Nat} {t : It} (h : RM w0 w rb mb sr sm x t) :
    (∃ a c, w.cell? ⟨mb, 0, none⟩ = some (.slice a (lft sm) c)) ∧ w.cell? ⟨mb, 1, none⟩ = some (.bool sm.isNone) := by
  obtain ⟨a, hm, _⟩ := h.md
  obtain ⟨c, h1, _⟩ := hm.at_
  exact ⟨⟨a, c, (pair_cell h1).1⟩, (pair_cell h1).2.1⟩

theorem RM.more {w0 w w' : World} {rb mb : Nat} {sr sm : Option (List UInt8)} {x : Nat} {t : It} (h : RM w0 w rb mb sr sm x t) (hf : Fr F0 w w') : RM w0 w' rb mb sr sm x t := by
  obtain ⟨a, hr, ha⟩ := h.rd
  obtain ⟨a2, hm, ha2⟩ := h.md
  exact ⟨⟨a, hr.fr hf (fun f => f) fun _ _ f => f, ha⟩, ⟨a2, hm.fr hf (fun f => f) fun _ _ f => f, ha2⟩, h.nr, h.nm, h.fr.trans' hf, hf.keeps (fun f => f) h.box⟩

theorem RM.stepR {w0 w w' : World} {rb mb : Nat} {sr sr' sm : Option (List UInt8)} {x : Nat} {t : It} {a : Option Addr} (h : RM w0 w rb mb sr sm x t) (hr : IsR w rb a sr) (ha : ∀ k, ablk a = some k → w0.heap.size ≤ k) (hp : RPost w rb a sr' w') : RM w0 w' rb mb sr' sm x t := by
  have hb := h.box
  have hn : x ≠ rb := by
    rintro rfl
    obtain ⟨c, h1, _⟩ := hr.at_
    rw [h1] at hb
    simp at hb
  obtain ⟨a', h1, hf, ha'⟩ := hp
  obtain ⟨a2, hm, ha2⟩ := h.md
  exact ⟨⟨a', h1, fun k hk => ha k (ha' k hk)⟩, ⟨a2, hm.other hr hf, ha2⟩, h.nr, h.nm, h.fr.trans hf fun i hi hs => by have := h.nr; omega, hf.keeps hn hb⟩

theorem RM.stepM {w0 w w' : World} {rb mb : Nat} {sr sm sm' : Option (List UInt8)} {x : Nat} {t : It} {a : Option Addr} (h : RM w0 w rb mb sr sm x t) (hm : IsM w mb a sm) (ha : ∀ k, ablk a = some k → w0.heap.size ≤ k) (hp : MPost w mb a sm' w') : RM w0 w' rb mb sr sm' x t := by
  have hb := h.box
  have hn : x ≠ mb := by
    rintro rfl
    obtain ⟨c, h1, _⟩ := hm.at_
    rw [h1] at hb
    simp at hb
  obtain ⟨a', h1, hf, ha'⟩ := hp
  obtain ⟨a2, hr, ha2⟩ := h.rd
  exact ⟨⟨a2, hr.other hm hf, ha2⟩, ⟨a', h1, fun k hk => ha k (ha' k hk)⟩, h.nr, h.nm, h.fr.trans hf fun i hi hs => by have := h.nm; omega, hf.keeps hn hb⟩

theorem RM.callR {w0 w : World} {rb mb : Nat} {sr sr' sm : Option (List UInt8)} {x : Nat} {t : It} {f : FuncId} {args : Array Value} {v : Value} (h : RM w0 w rb mb sr sm x t)
    (hc : ∀ a, IsR w rb a sr → Calls Try.prog f args w fun e w' => e = .returned v ∧ RPost w rb a sr' w') :
    Calls Try.prog f args w fun e w' => e = .returned v ∧ RM w0 w' rb mb sr' sm x t := by
  obtain ⟨a, hr, ha⟩ := h.rd
  refine (hc a hr).mono ?_
  rintro e w' ⟨rfl, hp⟩
  exact ⟨rfl, h.stepR hr ha hp⟩

theorem RM.giveR {w0 w : World} {rb mb : Nat} {sr sr' sm : Option (List UInt8)} {r : List UInt8} {x : Nat} {t : It} {f : FuncId} {args : Array Value} (h : RM w0 w rb mb sr sm x t)
    (hc : ∀ a, IsR w rb a sr → Calls Try.prog f args w (RBytes w rb a r sr')) :
    Calls Try.prog f args w fun e w' => ∃ a c, e = .returned (.slice a r.length c) ∧ Bs w' a c r ∧ (∀ k, ablk a = some k → w.heap.size ≤ k) ∧ RM w0 w' rb mb sr' sm x t := by
  obtain ⟨a, hr, ha⟩ := h.rd
  refine (hc a hr).mono ?_
  rintro e w' ⟨a2, c2, rfl, hb, hp, hk⟩
  exact ⟨a2, c2, rfl, hb, hk, h.stepR hr ha hp⟩

theorem RM.callM {w0 w : World} {rb mb : Nat} {sr sm sm' : Option (List UInt8)} {x : Nat} {t : It} {f : FuncId} {args : Array Value} {v : Value} (h : RM w0 w rb mb sr sm x t)
    (hc : ∀ a, IsM w mb a sm → Calls Try.prog f args w fun e w' => e = .returned v ∧ MPost w mb a sm' w') :
    Calls Try.prog f args w fun e w' => e = .returned v ∧ RM w0 w' rb mb sr sm' x t ∧ Fr (fun k => k = mb) w w' := by
  obtain ⟨a, hm, ha⟩ := h.md
  refine (hc a hm).mono ?_
  rintro e w' ⟨rfl, hp⟩
  exact ⟨rfl, h.stepM hm ha hp, hp.choose_spec.2.1⟩

/-- '[]byte(s)'. -/
theorem run_bytes (w : World) (r : List UInt8) (hl : r.length ≤ maxLen) : ∃ c w', (convert 9 26 (.string (strOf r))).run Try.prog w = .ok (.slice (some ⟨w.heap.size, 0, none⟩) r.length c) w' ∧ Bs w' (some ⟨w.heap.size, 0, none⟩) c r ∧ Fr F0 w w' := by
  have h := run_bytes_of_string (P := Try.prog) w 9 26 5 (strOf r) Try.underlying9 Try.underlying26 Try.underlying5
  rw [strOf_size] at h
  refine ⟨_, _, h, ⟨by simp, grownCap_ge _ _ _ _, grownCap_le_maxLen _ _ _ _ hl, (fun e => by cases e), fun j u hj => ⟨_, _, rfl, ?_⟩⟩, ⟨rfl, rfl, rfl, by simp, fun k hk _ => Below.heap_alloc w.drew _ _ hk⟩⟩
  have hj' : j < (strOf r).data.size := by
    have := (List.getElem?_eq_some_iff.1 hj).1
    simpa [strOf] using this
  have hjr : j < r.length := by simpa [strOf] using hj'
  have hr := bytesRow_at (strOf r) (grownCap w r.length 0 5) j hj'
  have hh : (w.drew.alloc (.cells (bytesRow (strOf r) (grownCap w r.length 0 5)) 5 ((bytesRow (strOf r) (grownCap w r.length 0 5)).size, (bytesRow (strOf r) (grownCap w r.length 0 5)).size + 1))).heap[w.heap.size]? = some (.cells (bytesRow (strOf r) (grownCap w r.length 0 5)) 5 ((bytesRow (strOf r) (grownCap w r.length 0 5)).size, (bytesRow (strOf r) (grownCap w r.length 0 5)).size + 1)) := heap_alloc_new w.drew _
  simp only [World.cell?, hh, Option.isSome_none, Bool.false_eq_true, if_false, Nat.zero_add]
  rw [hr]
  rw [List.getElem?_map, List.getElem?_eq_getElem hjr] at hj
  simp only [Option.map_some, Option.some.injEq] at hj
  rw [← hj]
  simp [strOf, B8]
end Go.Proofs.Ytkeepojcdofibaa
