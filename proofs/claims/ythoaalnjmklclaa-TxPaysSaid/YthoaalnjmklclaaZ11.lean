import Derived.Test.YthoaalnjmklclaaZ8
import Derived.Test.YthoaalnjmklclaaZ4
import Derived.Test.YthoaalnjmklclaaZ2
import Derived.Test.YthoaalnjmklclaaZ10
import Derived.Great.BuildSlice
import Derived.Laws.IdiomCopy
import Derived.Sort.CutIn
/- Layer 9 (tx): what is looked for in a transaction's lists. -/
namespace Go.Proofs.Ythoaalnjmklclaa
set_option linter.unusedVariables false
set_option linter.unusedSimpArgs false
open Go.RowKit

/-- A whole output is read. -/
theorem Try.szTOut : (Try.prog.info? 55).map (·.size) = some 2 := by kernel_rfl
@[go_sem ↓ high] theorem load_tout (p : Value) : Instr.loadAt 55 p = loadRowAt 55 p := rfl
@[go_sem ↓ high] theorem store_tout (p v : Value) : Instr.storeAt 55 p v = storeRowAt 55 p v := rfl
@[go_sem] theorem run_load_tout (w : World) (g : Nat) : (loadRowAt 55 (.pointer (some ⟨g, 0, none⟩))).run Try.prog w = rowOut Try.prog 55 (.pointer (some ⟨g, 0, none⟩)) w 2 w.heap[g]? :=
  run_loadRowAt w _ g 2 _ Try.underlying55 rfl Try.szTOut
@[go_sem] theorem run_store_tout (w : World) (g : Nat) (cells : Array Value) : (storeRowAt 55 (.pointer (some ⟨g, 0, none⟩)) (.agg cells)).run Try.prog w = rowIn Try.prog 55 (.pointer (some ⟨g, 0, none⟩)) cells g w 2 w.heap[g]? :=
  run_storeRowAt w _ g 2 cells Try.szTOut
theorem load_out {w : World} {b o : Nat} {t : TO} (hc : ∀ i u, t.row[i]? = some u → w.cell? ⟨b, o + i, none⟩ = some u) : (loadRowAt 55 (.pointer (some ⟨b, o, none⟩))).run Try.prog w = .ok (.agg t.row.toArray) w :=
  run_loadAt_mid (P := Try.prog) w b o 55 t.row _ hc Try.underlying55 rfl (by rw [Try.szTOut, TO.row_length])

theorem tFew_any (t : TT) (w : World) (h : t.Ok w) : Calls Try.prog 26 #[.agg t.cells] w fun e w' => e = .returned (.bool t.m.few) ∧ Fr F0 w w' := by
  have e : t.m.few = decide (t.ins.length = 0 ∨ t.outs.length = 0) := by simp [MT.few, TT.m]
  rw [e]
  clear e
  have h1 := h.ins.most
  have h2 := h.outs.most
  clear h
  obtain ⟨vr, ia, ic, ins, oa, oc, outs, lt⟩ := t
  simp only [TT.cells] at *
  by_cases q1 : ins.length = 0
  · have l1 : ((ins.length : Int) == 0) = true := by simp [q1]
    go_enter Try.func26, Try.ntmps26
    go_wp2
    go_ret
    exact ⟨by simp [q1], (Fr.refl _ _).alloc _⟩
  · have l1 : ((ins.length : Int) == 0) = false := beq_false_of_ne (by omega)
    go_enter Try.func26, Try.ntmps26
    go_wp2
    go_ret
    refine ⟨?_, (Fr.refl _ _).alloc _⟩
    refine congrArg (fun b => Ending.returned (.bool b)) (?_ : ((outs.length : Int) == 0) = _)
    by_cases q2 : outs.length = 0
    · simp [q2]
    · rw [beq_false_of_ne (by omega : (outs.length : Int) ≠ 0), decide_eq_false (by omega)]
theorem tIsSize_any (n : Nat) (w : World) : Calls Try.prog 22 #[.int .i64 (n : Int)] w fun e w' => e = .returned (.bool (szT n)) ∧ w = w' := by
  by_cases q1 : n ≤ 4096
  · have l1 : (n : Int) ≤ 4096 := by omega
    go_enter Try.func22, Try.ntmps22
    go_wp2
    go_ret
    refine ⟨?_, rfl⟩
    by_cases q2 : n = 64
    · subst q2; rfl
    · have : ((n : Int) != 64) = true := bne_iff_ne.2 (by omega)
      simp [szT, q1, q2, this]
  · have l1 : ¬ (n : Int) ≤ 4096 := by omega
    go_enter Try.func22, Try.ntmps22
    go_wp2
    go_ret
    refine ⟨?_, rfl⟩
    simp [szT, q1]
theorem tOverF_any (t : TO) (w : World) (h : t.m.Ok) : Calls Try.prog 57 #[.agg t.row.toArray] w fun e w' => e = .returned (.bool (decide (4611686018427387904 < t.m.py))) ∧ Fr F0 w w' := by
  obtain ⟨⟨py, lk⟩, a, c⟩ := t
  have h1 := h.py
  simp only [TO.row] at *
  have HR := Lib.hid (aRight_any py _ rfl)
  have l1 : (!decide (py ≤ 4611686018427387904)) = decide (4611686018427387904 < py) := by by_cases q : py ≤ 4611686018427387904 <;> simp [q] <;> omega
  generalize decide (py ≤ 4611686018427387904) = b at *
  clear h h1
  go_enter Try.func57, Try.ntmps57
  go_wp2_with fail
  (with_reducible refine (HR.out _).mono ?_); rintro e w1 ⟨rfl, rfl⟩
  go_wp2_with fail
  go_ret
  exact ⟨by rw [← l1]; rfl, (Fr.refl _ _).alloc _⟩
theorem tLongG_any (t : TO) (w : World) : Calls Try.prog 60 #[.agg t.row.toArray] w fun e w' => e = .returned (.bool (decide (520 < t.m.lk.length))) ∧ Fr F0 w w' := by
  obtain ⟨⟨py, lk⟩, a, c⟩ := t
  simp only [TO.row] at *
  generalize lk.length = n at *
  go_enter Try.func60, Try.ntmps60
  go_wp2
  go_ret
  refine ⟨?_, (Fr.refl _ _).alloc _⟩
  exact congrArg (fun b => Ending.returned (.bool b)) (decide_eq_decide.2 (by omega : (520 : Int) < (n : Int) ↔ 520 < n))
theorem tLongF_any (t : TI) (w : World) (h : t.m.Ok) : Calls Try.prog 59 #[.agg t.row.toArray] w fun e w' => e = .returned (.bool (decide (520 < t.m.ky.length))) ∧ Fr F0 w w' := by
  have K := TI.cellsOf h
  obtain ⟨s0, c32, c33, c34, x0, o1⟩ := K
  generalize t.row.toArray = C at *
  generalize t.m.ky.length = n at *
  have d33 := cell_is c33 (by omega)
  go_enter Try.func59, Try.ntmps59
  go_wp2
  go_ret
  refine ⟨?_, (Fr.refl _ _).alloc _⟩
  exact congrArg (fun b => Ending.returned (.bool b)) (decide_eq_decide.2 (by omega : (520 : Int) < (n : Int) ↔ 520 < n))
set_option maxRecDepth 100000 in
set_option maxHeartbeats 4000000 in
/-- Where the first one is that a function chooses. -/
theorem idxOut_any (cf : Nat) (caps : Array Value) (p : TO → Bool) (l : List TO) (a : Option Addr) (n c : Nat) (w : World) (h : TOs w a c l) (hn : n = l.length)
    (eg : ∀ args w, (callFunc cf args).run Try.prog w = .ok (.enter cf args) w)
    (hp : ∀ t ∈ l, ∀ w', Fr F0 w w' → Calls Try.prog cf (#[.agg t.row.toArray] ++ caps) w' fun e w2 => e = .returned (.bool (p t)) ∧ Fr F0 w' w2) :
    Calls Try.prog 79 #[.slice a n c, .func (.func cf) #[] caps] w fun e w' => ∃ i : Int, e = .returned (.int .i64 i) ∧ decide (0 ≤ i) = l.any p ∧ Fr F0 w w' := by
  subst hn
  have hm := h.most
  have HP := Lib.hid hp
  clear hp
  go_enter Try.func79, Try.ntmps79
  go_wp2_with fail
  go_loopw [8] (fun iv wr => ∃ k : Nat, k ≤ l.length ∧ iv = .int .i64 k ∧ Hid ((l.take k).any p = false) ∧ Fr F0 w wr) (fun iv _ => l.length - (intOf iv).toNat)
  case atStart => exact ⟨0, Nat.zero_le _, rfl, by simp [Hid], Fr.refl _ _⟩
  case round =>
    obtain ⟨k, hk, rfl, HK, hf⟩ := hrel
    by_cases hkn : k < l.length
    · obtain ⟨hok, b, off, rfl, hc⟩ := (h.fr hf).get k hkn
      have hl := load_out (w := wr) (b := b) (o := off + k * 2) hc
      have HC := Lib.hid (HP.out _ (List.getElem_mem hkn))
      have l1 : (k : Int) < (l.length : Int) := by omega
      have hroom := h.sl.room
      clear hc hok h
      obtain ⟨t, ht⟩ : ∃ t, t = l[k] := ⟨_, rfl⟩
      rw [← ht] at hl HC
      replace ht := Lib.hid ht
      generalize hX : t.row.toArray = X at *
      go_wp2_with fail
      (with_reducible refine (HC.out _ hf).mono ?_); rintro e w2 ⟨rfl, f2⟩
      replace hf := hf.trans' f2
      clear hl
      by_cases hq : p t = true
      · rw [hq]
        go_wp2_with fail
        go_ret
        refine ⟨_, rfl, ?_, hf⟩
        rw [decide_eq_true (by omega)]
        exact (List.any_eq_true.2 ⟨t, by rw [ht.out]; exact List.getElem_mem hkn, hq⟩).symm
      · rw [Bool.not_eq_true] at hq
        rw [hq]
        go_wp2_with fail
        go_roundw
        case rel =>
          refine ⟨k + 1, by omega, by go_num, ?_, hf⟩
          rw [Hid, List.take_succ_eq_append_getElem hkn, List.any_append, HK.out, ← ht.out]
          simp [hq]
        case measure => simp [intOf]; omega
    · obtain rfl : k = l.length := by omega
      go_wp2_with fail
      go_ret
      refine ⟨-1, rfl, ?_, hf⟩
      have := HK.out
      rw [List.take_length] at this
      rw [this]
      rfl
theorem hasOut_any (cf : Nat) (caps : Array Value) (p : TO → Bool) (l : List TO) (a : Option Addr) (n c : Nat) (w : World) (h : TOs w a c l) (hn : n = l.length)
    (eg : ∀ args w, (callFunc cf args).run Try.prog w = .ok (.enter cf args) w)
    (hp : ∀ t ∈ l, ∀ w', Fr F0 w w' → Calls Try.prog cf (#[.agg t.row.toArray] ++ caps) w' fun e w2 => e = .returned (.bool (p t)) ∧ Fr F0 w' w2) :
    Calls Try.prog 56 #[.slice a n c, .func (.func cf) #[] caps] w fun e w' => e = .returned (.bool (l.any p)) ∧ Fr F0 w w' := by
  have HI := Lib.hid (idxOut_any cf caps p l a n c w h hn eg hp)
  clear h hp hn
  go_enter Try.func56, Try.ntmps56
  go_wp2_with fail
  (with_reducible refine HI.out.mono ?_); rintro e w2 ⟨i, rfl, hi, f2⟩
  go_wp2_with fail
  go_ret
  refine ⟨?_, f2⟩
  rw [← hi]
  rfl
set_option maxRecDepth 100000 in
set_option maxHeartbeats 4000000 in
/-- Where the first one is that a function chooses. -/
theorem idxIn_any (cf : Nat) (caps : Array Value) (p : TI → Bool) (l : List TI) (a : Option Addr) (n c : Nat) (w : World) (h : TIs w a c l) (hn : n = l.length)
    (eg : ∀ args w, (callFunc cf args).run Try.prog w = .ok (.enter cf args) w)
    (hp : ∀ t ∈ l, ∀ w', Fr F0 w w' → Calls Try.prog cf (#[.agg t.row.toArray] ++ caps) w' fun e w2 => e = .returned (.bool (p t)) ∧ Fr F0 w' w2) :
    Calls Try.prog 71 #[.slice a n c, .func (.func cf) #[] caps] w fun e w' => ∃ i : Int, e = .returned (.int .i64 i) ∧ decide (0 ≤ i) = l.any p ∧ Fr F0 w w' := by
  subst hn
  have hm := h.most
  have HP := Lib.hid hp
  clear hp
  go_enter Try.func71, Try.ntmps71
  go_wp2_with fail
  go_loopw [8] (fun iv wr => ∃ k : Nat, k ≤ l.length ∧ iv = .int .i64 k ∧ Hid ((l.take k).any p = false) ∧ Fr F0 w wr) (fun iv _ => l.length - (intOf iv).toNat)
  case atStart => exact ⟨0, Nat.zero_le _, rfl, by simp [Hid], Fr.refl _ _⟩
  case round =>
    obtain ⟨k, hk, rfl, HK, hf⟩ := hrel
    by_cases hkn : k < l.length
    · obtain ⟨hok, b, off, rfl, hc⟩ := (h.fr hf).get k hkn
      have hl := load_in (w := wr) (b := b) (o := off + k * 35) hok.m hc
      have HC := Lib.hid (HP.out _ (List.getElem_mem hkn))
      have l1 : (k : Int) < (l.length : Int) := by omega
      have hroom := h.sl.room
      clear hc hok h
      obtain ⟨t, ht⟩ : ∃ t, t = l[k] := ⟨_, rfl⟩
      rw [← ht] at hl HC
      replace ht := Lib.hid ht
      generalize hX : t.row.toArray = X at *
      go_wp2_with fail
      (with_reducible refine (HC.out _ hf).mono ?_); rintro e w2 ⟨rfl, f2⟩
      replace hf := hf.trans' f2
      clear hl
      by_cases hq : p t = true
      · rw [hq]
        go_wp2_with fail
        go_ret
        refine ⟨_, rfl, ?_, hf⟩
        rw [decide_eq_true (by omega)]
        exact (List.any_eq_true.2 ⟨t, by rw [ht.out]; exact List.getElem_mem hkn, hq⟩).symm
      · rw [Bool.not_eq_true] at hq
        rw [hq]
        go_wp2_with fail
        go_roundw
        case rel =>
          refine ⟨k + 1, by omega, by go_num, ?_, hf⟩
          rw [Hid, List.take_succ_eq_append_getElem hkn, List.any_append, HK.out, ← ht.out]
          simp [hq]
        case measure => simp [intOf]; omega
    · obtain rfl : k = l.length := by omega
      go_wp2_with fail
      go_ret
      refine ⟨-1, rfl, ?_, hf⟩
      have := HK.out
      rw [List.take_length] at this
      rw [this]
      rfl
theorem hasIn_any (cf : Nat) (caps : Array Value) (p : TI → Bool) (l : List TI) (a : Option Addr) (n c : Nat) (w : World) (h : TIs w a c l) (hn : n = l.length)
    (eg : ∀ args w, (callFunc cf args).run Try.prog w = .ok (.enter cf args) w)
    (hp : ∀ t ∈ l, ∀ w', Fr F0 w w' → Calls Try.prog cf (#[.agg t.row.toArray] ++ caps) w' fun e w2 => e = .returned (.bool (p t)) ∧ Fr F0 w' w2) :
    Calls Try.prog 45 #[.slice a n c, .func (.func cf) #[] caps] w fun e w' => e = .returned (.bool (l.any p)) ∧ Fr F0 w w' := by
  have HI := Lib.hid (idxIn_any cf caps p l a n c w h hn eg hp)
  clear h hp hn
  go_enter Try.func45, Try.ntmps45
  go_wp2_with fail
  (with_reducible refine HI.out.mono ?_); rintro e w2 ⟨i, rfl, hi, f2⟩
  go_wp2_with fail
  go_ret
  refine ⟨?_, f2⟩
  rw [← hi]
  rfl
end Go.Proofs.Ythoaalnjmklclaa

/- Layer 9 (tx): over, long, and what is written. -/
namespace Go.Proofs.Ythoaalnjmklclaa
set_option linter.unusedVariables false
set_option linter.unusedSimpArgs false
open Go.RowKit

theorem ex_map {α β : Type} (f : α → β) (p : β → Prop) (l : List α) : (∃ x, x ∈ l.map f ∧ p x) ↔ ∃ a, a ∈ l ∧ p (f a) := by
  constructor
  · rintro ⟨x, hx, hp⟩
    obtain ⟨a, ha, rfl⟩ := List.mem_map.1 hx
    exact ⟨a, ha, hp⟩
  · rintro ⟨a, ha, hp⟩
    exact ⟨f a, List.mem_map.2 ⟨a, ha, rfl⟩, hp⟩
theorem MT.over_any (t : TT) : t.m.over = t.outs.any (fun t => decide (4611686018427387904 < t.m.py)) := by
  rw [Bool.eq_iff_iff, MT.over, decide_eq_true_iff]
  refine (ex_map TO.m (fun x => 4611686018427387904 < x.py) t.outs).trans ?_
  simp
theorem MT.long_any (t : TT) : t.m.long = (decide (64 < t.ins.length) || (decide (64 < t.outs.length) || (t.ins.any (fun t => decide (520 < t.m.ky.length)) || t.outs.any (fun t => decide (520 < t.m.lk.length))))) := by
  rw [Bool.eq_iff_iff, MT.long, decide_eq_true_iff]
  have h1 := ex_map TI.m (fun x => 520 < x.ky.length) t.ins
  have h2 := ex_map TO.m (fun x => 520 < x.lk.length) t.outs
  simp only [TT.m, h1, h2, List.length_map]
  simp
theorem tOver_any (t : TT) (w : World) (h : t.Ok w) : Calls Try.prog 27 #[.agg t.cells] w fun e w' => e = .returned (.bool t.m.over) ∧ Fr F0 w w' := by
  have F := (Fr.refl F0 w).alloc (.cells t.cells 28)
  have HI := Lib.hid (hasOut_any 57 #[] (fun t => decide (4611686018427387904 < t.m.py)) t.outs t.oa t.outs.length t.oc _ (h.outs.fr F) rfl (enters_of Try.func57 (by kernel_rfl) rfl) fun x hx w' f => tOverF_any x w' (h.outs.ok x hx).m)
  rw [MT.over_any]
  clear h
  obtain ⟨vr, ia, ic, ins, oa, oc, outs, lt⟩ := t
  simp only [TT.cells] at *
  generalize (outs.any fun t => decide (4611686018427387904 < t.m.py)) = B at *
  go_enter Try.func27, Try.ntmps27
  go_wp2_with fail
  (with_reducible refine HI.out.mono ?_); rintro e w2 ⟨rfl, f2⟩
  go_wp2_with fail
  go_ret
  exact ⟨rfl, F.trans' f2⟩
set_option maxHeartbeats 1000000 in
theorem tLong_any (t : TT) (w : World) (h : t.Ok w) : Calls Try.prog 33 #[.agg t.cells] w fun e w' => e = .returned (.bool t.m.long) ∧ Fr F0 w w' := by
  have F := (Fr.refl F0 w).alloc (.cells t.cells 28)
  have HI := Lib.hid (hasIn_any 59 #[] (fun t => decide (520 < t.m.ky.length)) t.ins t.ia t.ins.length t.ic _ (h.ins.fr F) rfl (enters_of Try.func59 (by kernel_rfl) rfl) fun x hx w' f => tLongF_any x w' (h.ins.ok x hx).m)
  have HO := Lib.hid (fun w' (f : Fr F0 w w') => hasOut_any 60 #[] (fun t => decide (520 < t.m.lk.length)) t.outs t.oa t.outs.length t.oc _ (h.outs.fr f) rfl (enters_of Try.func60 (by kernel_rfl) rfl) fun x hx w' f => tLongG_any x w')
  rw [MT.long_any]
  have h1 := h.ins.most
  have h2 := h.outs.most
  clear h
  obtain ⟨vr, ia, ic, ins, oa, oc, outs, lt⟩ := t
  simp only [TT.cells] at *
  generalize (ins.any fun t => decide (520 < t.m.ky.length)) = B at *
  generalize (outs.any fun t => decide (520 < t.m.lk.length)) = D at *
  generalize ins.length = n at *
  generalize outs.length = m at *
  have r0 := heap_alloc_new w (.cells #[.int .u32 (vr : Int), .slice ia n ic, .slice oa m oc, .int .u32 (lt : Int)] 28)
  by_cases q1 : 64 < n
  · have l1 : (64 : Int) < (n : Int) := by omega
    go_enter Try.func33, Try.ntmps33
    go_wp2_with fail
    go_ret
    exact ⟨by simp [q1], F⟩
  have l1 : ¬ (64 : Int) < (n : Int) := by omega
  by_cases q2 : 64 < m
  · have l2 : (64 : Int) < (m : Int) := by omega
    go_enter Try.func33, Try.ntmps33
    go_wp2_with fail
    go_ret
    exact ⟨by simp [q2], F⟩
  have l2 : ¬ (64 : Int) < (m : Int) := by omega
  go_enter Try.func33, Try.ntmps33
  go_wp2_with fail
  (with_reducible refine HI.out.mono ?_); rintro e w2 ⟨rfl, f2⟩
  replace r0 := keep_fr f2 r0
  replace F := F.trans' f2
  clear HI
  cases B with
  | true =>
    go_wp2_with fail
    go_ret
    exact ⟨by simp, F⟩
  | false =>
    go_wp2_with fail
    (with_reducible refine (HO.out _ F).mono ?_); rintro e w3 ⟨rfl, f3⟩
    go_wp2_with fail
    go_ret
    exact ⟨by simp [q1, q2], F.trans' f3⟩

theorem WI.fr0 {W w w' : World} {g : Nat} {bs : List UInt8} (h : WI W g bs w) (f : Fr F0 w w') : WI W g bs w' := by
  obtain ⟨v, hw, f0, ho⟩ := h
  exact ⟨v, hw.fr f fun _ _ f => f, f0.trans f fun _ _ e => e.elim, ho⟩
theorem WI.frB {W w w0 : World} {g : Nat} {bs : List UInt8} (h : WI W g bs w) (f0 : Fr F0 w0 W) (hg : w0.heap.size ≤ g) : Fr F0 w0 w := by
  obtain ⟨v, hw, f, ho⟩ := h
  exact f0.trans f fun i hi e => by omega
theorem Bs.low {w : World} {a : Option Addr} {c : Nat} {l : List UInt8} (h : Bs w a c l) (hl : l ≠ []) : ∀ k, ablk a = some k → k < w.heap.size := by
  intro k hk
  obtain ⟨b, off, rfl, hc⟩ := h.at 0 (List.length_pos_iff.2 hl)
  cases hk
  exact World.block_lt_of_cell? w _ hc
/-! ### a writer's steps, since a world -/
theorem WPost.next {w0 w w' : World} {g : Nat} {v v1 : Value} {bs bs' : List UInt8} (h1 : IsW w g v1 bs) (hf : Fr (WS g v) w0 w) (ho : ∀ k, v1.ownBlock = some k → v.ownBlock = some k ∨ w0.heap.size ≤ k) (p : WPost w g v1 bs' w') : WPost w0 g v bs' w' := WPost.trans h1 hf ho p
theorem WPost.puts {w0 w : World} {g : Nat} {v : Value} {bs : List UInt8} (h : WPost w0 g v bs w) (x n : Nat) (hx : x < 18446744073709551616) (hn : szB n = true) (hl : bs.length ≤ 1000000) :
    Calls Try.prog 61 #[.pointer (some ⟨g, 0, none⟩), .int .u64 (x : Int), .int .i64 (n : Int)] w fun e w' => e = .returned (.tuple #[]) ∧ WPost w0 g v (bs ++ le n x) w' := by
  obtain ⟨v1, hw, f, ho⟩ := h
  exact (Put_any g v1 bs x n w hw (by omega) hn (by omega)).mono fun e w' ⟨he, p⟩ => ⟨he, WPost.next hw f ho p⟩
theorem WPost.put4 {w0 w : World} {g : Nat} {v : Value} {bs : List UInt8} (h : WPost w0 g v bs w) (x : Nat) (hx : x < 18446744073709551616) (hl : bs.length ≤ 1000000) :
    Calls Try.prog 61 #[.pointer (some ⟨g, 0, none⟩), .int .u64 (x : Int), .int .i64 4] w fun e w' => e = .returned (.tuple #[]) ∧ WPost w0 g v (bs ++ le 4 x) w' := h.puts x 4 hx rfl hl
theorem WPost.put8 {w0 w : World} {g : Nat} {v : Value} {bs : List UInt8} (h : WPost w0 g v bs w) (x : Nat) (hx : x < 18446744073709551616) (hl : bs.length ≤ 1000000) :
    Calls Try.prog 61 #[.pointer (some ⟨g, 0, none⟩), .int .u64 (x : Int), .int .i64 8] w fun e w' => e = .returned (.tuple #[]) ∧ WPost w0 g v (bs ++ le 8 x) w' := h.puts x 8 hx rfl hl
theorem WPost.count {w0 w : World} {g : Nat} {v : Value} {bs : List UInt8} (h : WPost w0 g v bs w) (x : Nat) (hx : x < 18446744073709551616) (hl : bs.length ≤ 1000000) :
    Calls Try.prog 62 #[.pointer (some ⟨g, 0, none⟩), .int .u64 (x : Int)] w fun e w' => e = .returned (.tuple #[]) ∧ WPost w0 g v (bs ++ cnt x) w' := by
  obtain ⟨v1, hw, f, ho⟩ := h
  exact (WCount_any g v1 bs x w hw (by omega) (by omega) (by omega)).mono fun e w' ⟨he, p⟩ => ⟨he, WPost.next hw f ho p⟩
theorem WPost.raw {w0 w : World} {g : Nat} {v : Value} {bs : List UInt8} (h : WPost w0 g v bs w) (a : Option Addr) (n c : Nat) (xs : List UInt8) (hb : Bs w a c xs) (hn : n = xs.length) (hl : bs.length + xs.length ≤ 1000000) :
    Calls Try.prog 81 #[.pointer (some ⟨g, 0, none⟩), .slice a n c] w fun e w' => e = .returned (.tuple #[]) ∧ WPost w0 g v (bs ++ xs) w' := by
  obtain ⟨v1, hw, f, ho⟩ := h
  exact (WRaw_any g v1 bs a n c xs w hw hb hn (by omega)).mono fun e w' ⟨he, p⟩ => ⟨he, WPost.next hw f ho p⟩
theorem WPost.counted {w0 w : World} {g : Nat} {v : Value} {bs : List UInt8} (h : WPost w0 g v bs w) (a : Option Addr) (n c : Nat) (xs : List UInt8) (hb : Bs w a c xs) (hn : n = xs.length) (hl : bs.length + xs.length ≤ 1000000)
    (ha : xs ≠ [] → ∀ k, ablk a = some k → k ≠ g ∧ v.ownBlock ≠ some k ∧ k < w0.heap.size) :
    Calls Try.prog 82 #[.pointer (some ⟨g, 0, none⟩), .slice a n c] w fun e w' => e = .returned (.tuple #[]) ∧ WPost w0 g v (bs ++ ctd xs) w' := by
  obtain ⟨v1, hw, f, ho⟩ := h
  refine (WCounted_any g v1 bs a n c xs w hw hb hn (by omega) fun hx k hk hs => ?_).mono fun e w' ⟨he, p⟩ => ⟨he, WPost.next hw f ho p⟩
  have h1 := ha hx k hk
  rcases hs with e | e
  · exact h1.1 e
  · rcases ho k e with h | h
    · exact h1.2.1 h
    · omega
theorem WPost.keep {w0 w : World} {g k : Nat} {v : Value} {bs : List UInt8} {o : Obj} (h : WPost w0 g v bs w) (h1 : k ≠ g) (h2 : v.ownBlock ≠ some k) (hx : w0.heap[k]? = some o) : w.heap[k]? = some o := by
  obtain ⟨v1, hw, f, ho⟩ := h
  exact f.keeps (fun e => by rcases e with e | e <;> contradiction) hx
theorem WPost.bs {w0 w : World} {g c : Nat} {v : Value} {bs xs : List UInt8} {a : Option Addr} (h : WPost w0 g v bs w) (hb : Bs w0 a c xs) (ha : xs ≠ [] → ∀ k, ablk a = some k → k ≠ g ∧ v.ownBlock ≠ some k ∧ k < w0.heap.size) : Bs w a c xs := by
  obtain ⟨v1, hw, f, ho⟩ := h
  refine Sl.frn hb f fun hx k hk e => ?_
  have := ha (fun e => hx (by rw [e]; rfl)) k hk
  rcases e with e | e
  · exact this.1 e
  · exact this.2.1 e
/-- What lay ahead of the writer is none of its blocks. -/
theorem low_ne {w0 W w wa : World} {g c : Nat} {v : Value} {a : Option Addr} {l : List UInt8} (h : Bs w0 a c l) (f0 : Fr F0 w0 W) (hg : w0.heap.size ≤ g) (ho : ∀ k, v.ownBlock = some k → W.heap.size ≤ k) (hs : w0.heap.size ≤ wa.heap.size) :
    l ≠ [] → ∀ k, ablk a = some k → k ≠ g ∧ v.ownBlock ≠ some k ∧ k < wa.heap.size := by
  intro hl k hk
  have h1 := h.low hl k hk
  have h2 := f0.size
  refine ⟨by omega, fun e => ?_, by omega⟩
  have := ho k e
  omega
set_option maxHeartbeats 1000000 in
theorem tOutWrite_any (t : TO) (w0 W w : World) (g : Nat) (bs : List UInt8) (h : t.Ok w0) (f0 : Fr F0 w0 W) (hg : w0.heap.size ≤ g) (hW : WI W g bs w) (hl : bs.length + t.m.lk.length ≤ 200000) :
    Calls Try.prog 64 #[.agg t.row.toArray, .pointer (some ⟨g, 0, none⟩)] w fun e w' => e = .returned (.tuple #[]) ∧ WI W g (bs ++ t.m.bytes) w' := by
  have F := hW.frB f0 hg
  obtain ⟨⟨py, lk⟩, a, c⟩ := t
  obtain ⟨⟨h1⟩, hb⟩ := h
  obtain ⟨v, hw, f, ho⟩ := hW
  simp only [TO.row, MO.bytes] at *
  have r0 := heap_alloc_new w (.cells #[.int .u64 (py : Int), .slice a lk.length c] 55)
  have F1 := F.alloc (.cells #[.int .u64 (py : Int), .slice a lk.length c] 55)
  have P := WPost.refl (hw.fr (((Fr.refl F0 w).alloc (.cells #[.int .u64 (py : Int), .slice a lk.length c] 55))) fun _ _ f => f)
  have hne := low_ne (w := w) hb f0 hg ho F1.size
  have gne : w.heap.size ≠ g := by have := hw.lt; omega
  have vne : v.ownBlock ≠ some w.heap.size := fun e => by have := hw.own.lt _ e; omega
  have hb' := Bs.fr7 hb F1
  have f' := f.alloc (.cells #[.int .u64 (py : Int), .slice a lk.length c] 55)
  have HP := Lib.hid (P.put8 py h1 (by omega))
  obtain ⟨n, hn⟩ : ∃ n, n = lk.length := ⟨_, rfl⟩
  rw [← hn] at hl
  have HN := Lib.hid (And.intro hn hl)
  have HW := Lib.hid (And.intro f' ho)
  rw [← hn] at r0 HP hb' P F1 hne HW ⊢
  clear hb f0 hg hw hl hn h1 F f f' ho F1
  go_enter Try.func64, Try.ntmps64
  go_wp2_with fail
  (with_reducible refine HP.out.mono ?_); rintro e w2 ⟨rfl, P2⟩
  have r2 := P2.keep gne vne r0
  have HC := Lib.hid (P2.counted a n c lk (P2.bs hb' hne) HN.out.1 (by have := HN.out.2; have := HN.out.1; simp [le_length]; omega) hne)
  clear HP P r0 P2
  go_wp2_with fail
  (with_reducible refine HC.out.mono ?_); rintro e w3 ⟨rfl, P3⟩
  go_wp2_with fail
  go_end0
  exact ⟨rfl, by rw [← List.append_assoc]; exact WI.step HW.out.1 HW.out.2 P3⟩

theorem F32 {t : TI} {C : Array Value} (K : InC t C) (h : t.m.Ok) {w : World} {g : Nat} {ty : TypeId} (hg : w.heap[g]? = some (.cells C ty (0, 0))) : Bs w (some ⟨g, 0, none⟩) 32 t.m.fr :=
  Bs.of_cells (o := 0) hg h.fr (by omega) (by rw [Nat.zero_add]; exact K.x0)
set_option maxHeartbeats 2000000 in
theorem tInWrite_any (t : TI) (w0 W w : World) (g : Nat) (bs : List UInt8) (h : t.Ok w0) (f0 : Fr F0 w0 W) (hg : w0.heap.size ≤ g) (hW : WI W g bs w) (hl : bs.length + t.m.ky.length ≤ 200000) :
    Calls Try.prog 63 #[.agg t.row.toArray, .pointer (some ⟨g, 0, none⟩)] w fun e w' => e = .returned (.tuple #[]) ∧ WI W g (bs ++ t.m.bytes) w' := by
  have F := hW.frB f0 hg
  obtain ⟨hm, hb⟩ := h
  obtain ⟨v, hw, f, ho⟩ := hW
  have K := TI.cellsOf hm
  have hx := hm.ix
  have hs := hm.sq
  obtain ⟨C, hC⟩ : ∃ C, C = t.row.toArray := ⟨_, rfl⟩
  rw [← hC] at K ⊢
  clear hC
  have HK := Lib.hid K
  obtain ⟨s0, c32, c33, c34, x0, o1⟩ := K
  have d32 := cell_is c32 (by omega)
  have d33 := cell_is c33 (by omega)
  have d34 := cell_is c34 (by omega)
  have r0 := heap_alloc_new w (.cells C 68)
  have F1 := F.alloc (.cells C 68)
  have P := WPost.refl (hw.fr (((Fr.refl F0 w).alloc (.cells C 68))) fun _ _ f => f)
  have hne := low_ne (w := w) hb f0 hg ho F1.size
  have gne : w.heap.size ≠ g := by have := hw.lt; omega
  have vne : v.ownBlock ≠ some w.heap.size := fun e => by have := hw.own.lt _ e; omega
  have hb' := Bs.fr7 hb F1
  have f' := f.alloc (.cells C 68)
  have HW := Lib.hid (And.intro f' ho)
  have HH := Lib.hid (And.intro hm (And.intro hb' hne))
  have HL := Lib.hid hl
  have HP := Lib.hid (P.raw (some ⟨w.heap.size, 0, none⟩) 32 32 t.m.fr (F32 HK.out hm r0) hm.fr.symm (by have := hm.fr; omega))
  have hfr := Lib.hid hm.fr
  clear hb f0 hg hw hl F f f' ho F1 P hb' hne x0 hm
  rw [MI.bytes]
  obtain ⟨⟨fr, ix, ky, sq⟩, a, c⟩ := t
  simp only at *
  obtain ⟨n, hn⟩ : ∃ n, n = ky.length := ⟨_, rfl⟩
  rw [← hn] at c33 d33 HL
  have HN := Lib.hid hn
  clear hn
  go_enter Try.func63, Try.ntmps63
  go_wp2_with fail
  (with_reducible refine HP.out.mono ?_); rintro e w2 ⟨rfl, P2⟩
  have r2 := P2.keep gne vne r0
  have H4 := Lib.hid (P2.put4 ix (by omega) (by have := HL.out; have := hfr.out; simp; omega))
  clear HP r0 P2
  go_wp2_with fail
  (with_reducible refine H4.out.mono ?_); rintro e w3 ⟨rfl, P3⟩
  have r3 := P3.keep gne vne (heap_alloc_new w (.cells C 68))
  have HC := Lib.hid (P3.counted a n c ky (P3.bs HH.out.2.1 HH.out.2.2) HN.out (by have := HL.out; have := hfr.out; have := HN.out; simp [le_length]; omega) HH.out.2.2)
  clear H4 r2 P3
  go_wp2_with fail
  (with_reducible refine HC.out.mono ?_); rintro e w4 ⟨rfl, P4⟩
  have r4 := P4.keep gne vne (heap_alloc_new w (.cells C 68))
  have H5 := Lib.hid (P4.put4 sq (by omega) (by have := HL.out; have := hfr.out; have := HN.out; have := csz_le ky.length; simp [le_length, ctd, cnt_length]; omega))
  clear HC r3 P4
  go_wp2_with fail
  (with_reducible refine H5.out.mono ?_); rintro e w5 ⟨rfl, P5⟩
  go_wp2_with fail
  go_end0
  exact ⟨rfl, by simp only [← List.append_assoc]; exact WI.step HW.out.1 HW.out.2 P5⟩
end Go.Proofs.Ythoaalnjmklclaa

/- Layer 9 (tx): written and Bytes. -/
namespace Go.Proofs.Ythoaalnjmklclaa
set_option linter.unusedVariables false
set_option linter.unusedSimpArgs false
open Go.RowKit

theorem WI.put4 {W w : World} {g : Nat} {bs : List UInt8} (h : WI W g bs w) (x : Nat) (hx : x < 18446744073709551616) (hl : bs.length ≤ 1000000) :
    Calls Try.prog 61 #[.pointer (some ⟨g, 0, none⟩), .int .u64 (x : Int), .int .i64 4] w fun e w' => e = .returned (.tuple #[]) ∧ WI W g (bs ++ le 4 x) w' := h.puts x 4 hx rfl hl

theorem TO.one (t : TO) : rowOne t.row.toArray := by
  unfold rowOne
  rw [Array.all_eq_true_iff_forall_mem]
  intro v hv
  simp only [TO.row, List.mem_toArray, List.mem_cons, List.not_mem_nil, or_false] at hv
  rcases hv with rfl | rfl <;> rfl
theorem flat_len {α : Type} (f : α → List UInt8) (n : Nat) : ∀ (l : List α), (∀ x ∈ l, (f x).length ≤ n) → (l.flatMap f).length ≤ l.length * n
  | [], _ => by simp
  | x :: l, h => by
    have h1 := h x (by simp)
    have h2 := flat_len f n l fun y hy => h y (by simp [hy])
    rw [List.flatMap_cons, List.length_append, List.length_cons, Nat.succ_mul]
    omega
theorem MI.len {x : MI} (h : x.Ok) (hl : x.ky.length ≤ 600) : x.bytes.length ≤ 700 := by
  have := csz_le x.ky.length
  simp [MI.bytes, ctd, cnt_length, le_length, h.fr]
  omega
theorem MO.len {x : MO} (hl : x.lk.length ≤ 600) : x.bytes.length ≤ 700 := by
  have := csz_le x.lk.length
  simp [MO.bytes, ctd, cnt_length, le_length]
  omega
theorem take_map {α β : Type} (f : α → β) (l : List α) (k : Nat) (h : k < l.length) : (l.take (k + 1)).map f = (l.take k).map f ++ [f l[k]] := by rw [List.take_succ_eq_append_getElem h, List.map_append]; rfl
theorem flat_take {α β : Type} (f : α → List β) (l : List α) (k : Nat) (h : k < l.length) : (l.take (k + 1)).flatMap f = (l.take k).flatMap f ++ f l[k] := by rw [List.take_succ_eq_append_getElem h, List.flatMap_append]; simp

set_option maxRecDepth 100000 in
set_option maxHeartbeats 8000000 in
theorem tWritten_any (t : TT) (w : World) (h : t.Ok w) (hs : t.m.small = true) : Calls Try.prog 34 #[.agg t.cells] w (NewBytes t.m.bytes w) := by
  have hs' : t.ins.length ≤ 70 ∧ t.outs.length ≤ 70 ∧ (∀ x ∈ t.ins, x.m.ky.length ≤ 600) ∧ (∀ x ∈ t.outs, x.m.lk.length ≤ 600) := by
    rw [MT.small, decide_eq_true_iff] at hs
    obtain ⟨h1, h2, h3, h4⟩ := hs
    exact ⟨by simpa [TT.m] using h1, by simpa [TT.m] using h2, fun x hx => h3 x.m (by simp [TT.m]; exact ⟨x, hx, rfl⟩), fun x hx => h4 x.m (by simp [TT.m]; exact ⟨x, hx, rfl⟩)⟩
  obtain ⟨s1, s2, s3, s4⟩ := hs'
  have S3 := Lib.hid s3
  have S4 := Lib.hid s4
  clear s3 s4 hs
  obtain ⟨hv, ht, hi, ho⟩ := h
  have HI := Lib.hid hi
  have HO := Lib.hid ho
  have eB : t.m.bytes = le 4 t.vr ++ cnt t.ins.length ++ t.ins.flatMap (fun x => x.m.bytes) ++ cnt t.outs.length ++ t.outs.flatMap (fun x => x.m.bytes) ++ le 4 t.lt := by
    simp [MT.bytes, TT.m, List.flatMap_map]
  obtain ⟨TB, hTB⟩ : ∃ TB, TB = t.m.bytes := ⟨_, rfl⟩
  rw [← hTB] at eB ⊢
  clear hTB
  have HTB := Lib.hid eB
  clear eB hi ho
  obtain ⟨vr, ia, ic, ins, oa, oc, outs, lt⟩ := t
  simp only [TT.cells] at *
  have rI := HI.out.sl.room
  have rO := HO.out.sl.room
  have mI := HI.out.sl.most
  have mO := HO.out.sl.most
  obtain ⟨n, hn⟩ : ∃ n, n = ins.length := ⟨_, rfl⟩
  obtain ⟨m, hm⟩ : ∃ n, n = outs.length := ⟨_, rfl⟩
  rw [← hn] at s1 rI ⊢
  rw [← hm] at s2 rO ⊢
  replace hn := Lib.hid hn
  replace hm := Lib.hid hm
  go_enter Try.func34, Try.ntmps34
  go_upto_region 2 with fail
  obtain ⟨W, hW⟩ : ∃ W, W = (w.alloc (.cells #[.int .u32 (vr : Int), .slice ia n ic, .slice oa m oc, .int .u32 (lt : Int)] 28)).alloc (.cells #[.slice none 0 0] 113) := ⟨_, rfl⟩
  refine wp_of_world W hW ?_
  obtain ⟨rb, rg⟩ := heap2 w (.cells #[.int .u32 (vr : Int), .slice ia n ic, .slice oa m oc, .int .u32 (lt : Int)] 28) (.cells #[.slice none 0 0] 113)
  have f0 : Fr F0 w W := by rw [hW]; exact ((Fr.refl F0 w).alloc _).alloc _
  rw [← hW] at rb rg
  clear hW
  have f1 := Lib.hid f0
  obtain ⟨b, hb⟩ : ∃ b, b = w.heap.size := ⟨_, rfl⟩
  obtain ⟨g, hg⟩ : ∃ g, g = b + 1 := ⟨_, rfl⟩
  rw [← hb] at rb rg ⊢
  rw [← hg] at rg ⊢
  have hgb : b ≠ g := by omega
  replace hg := Lib.hid (show w.heap.size ≤ g by omega)
  clear f0 hb
  have W0 := WI.of rg
  have HP := Lib.hid (W0.put4 vr (by omega) (by simp))
  clear W0 rg
  go_wp2_with fail
  (with_reducible refine HP.out.mono ?_); rintro e w2 ⟨rfl, W2⟩
  have rb2 := W2.keep hgb rb
  have HC := Lib.hid (W2.count n (by omega) (by simp [le_length]))
  clear HP
  go_wp2_with fail
  (with_reducible refine HC.out.mono ?_); rintro e w3 ⟨rfl, W3⟩
  have rb3 := W3.keep hgb rb
  clear HC W2 rb2
  go_wp2_with fail
  go_loopw [20] (fun iv wr => ∃ k : Nat, k ≤ n ∧ iv = .int .i64 k ∧ WI W g (le 4 vr ++ cnt n ++ (ins.take k).flatMap (fun x => x.m.bytes)) wr) (fun iv _ => n - (intOf iv).toNat)
  case atStart => exact ⟨0, Nat.zero_le _, rfl, by simpa using W3⟩
  case round =>
    obtain ⟨k, hk, rfl, hw⟩ := hrel
    clear W3 rb3
    have rb4 := hw.keep hgb rb
    have F := hw.frB f1.out hg.out
    by_cases hkn : k < n
    · have hkl : k < ins.length := by have := hn.out; omega
      obtain ⟨hok, bb, off, rfl, hc⟩ := (HI.out.fr F).get k hkl
      have hl := load_in (w := wr) (b := bb) (o := off + k * 35) hok.m hc
      have hlen : ((ins.take k).flatMap (fun x => x.m.bytes)).length ≤ k * 700 := by
        have := flat_len (fun x : TI => x.m.bytes) 700 (ins.take k) fun x hx => MI.len (HI.out.ok x (List.mem_of_mem_take hx)).m (S3.out x (List.mem_of_mem_take hx))
        rw [List.length_take, Nat.min_eq_left (by omega)] at this
        exact this
      obtain ⟨pl, hpl⟩ : ∃ pl, pl = (ins.take k).flatMap (fun x : TI => x.m.bytes) := ⟨_, rfl⟩
      rw [← hpl] at hlen hw
      have HX := Lib.hid (fun w2 (h2 : WI W g (le 4 vr ++ cnt n ++ pl) w2) => tInWrite_any ins[k] w W w2 g _ (HI.out.ok _ (List.getElem_mem hkl)) f1.out hg.out h2 (by have := S3.out _ (List.getElem_mem hkl); have := csz_le n; rw [List.length_append, List.length_append, le_length, cnt_length]; omega))
      have K := TI.cellsOf hok.m
      have HE := Lib.hid (flat_take (fun x : TI => x.m.bytes) ins k hkl)
      rw [← hpl] at HE
      have sz := K.size
      have o1 := K.one
      clear hc hok K hlen
      replace hpl := Lib.hid hpl
      generalize ins[k].row.toArray = X at *
      generalize ins[k].m.bytes = xb at *
      have l1 : (k : Int) < (n : Int) := by omega
      replace hw := Lib.hid hw
      go_upto_region 7 with fail
      refine wp_put fun W4 N4 => ?_
      have r5 := N4.new
      have W4 := hw.out.fr0 N4.fr
      clear N4 hl rb4 rb
      go_wp2_with fail
      (with_reducible refine (HX.out _ W4).mono ?_); rintro e w5 ⟨rfl, W5⟩
      clear HX W4 r5
      go_wp2_with fail
      go_roundw
      case rel => exact ⟨k + 1, by omega, by go_num, by rw [HE.out, ← List.append_assoc]; exact W5⟩
      case measure => simp [intOf]; omega
    · obtain rfl : k = n := by omega
      rw [hn.out, List.take_length] at hw
      rw [← hn.out] at hw
      have hlen : (ins.flatMap (fun x => x.m.bytes)).length ≤ 70 * 700 := by
        have := flat_len (fun x : TI => x.m.bytes) 700 ins fun x hx => MI.len (HI.out.ok x hx).m (S3.out x hx)
        have h2 := hn.out
        rw [← h2] at this
        have h3 : k * 700 ≤ 70 * 700 := Nat.mul_le_mul_right _ s1
        omega
      obtain ⟨pi, hpi⟩ : ∃ pi, pi = ins.flatMap (fun x : TI => x.m.bytes) := ⟨_, rfl⟩
      rw [← hpi] at hw hlen HTB
      clear hpi
      have HC := Lib.hid (hw.count m (by omega) (by have := csz_le k; rw [List.length_append, List.length_append, le_length, cnt_length]; omega))
      replace hlen := Lib.hid hlen
      clear hw F
      go_wp2_with fail
      (with_reducible refine HC.out.mono ?_); rintro e w5 ⟨rfl, W5⟩
      have rb5 := W5.keep hgb rb
      clear HC rb4
      go_wp2_with fail
      go_loopw [35] (fun iv wr => ∃ j : Nat, j ≤ m ∧ iv = .int .i64 j ∧ WI W g (le 4 vr ++ cnt k ++ pi ++ cnt m ++ (outs.take j).flatMap (fun x => x.m.bytes)) wr) (fun iv _ => m - (intOf iv).toNat)
      case atStart => exact ⟨0, Nat.zero_le _, rfl, by simpa using W5⟩
      case round =>
        obtain ⟨j, hj, rfl, hw⟩ := hrel
        clear W5 rb5
        have rb4 := hw.keep hgb rb
        have F := hw.frB f1.out hg.out
        by_cases hjm : j < m
        · have hjl : j < outs.length := by have := hm.out; omega
          obtain ⟨hok, bb, off, rfl, hc⟩ := (HO.out.fr F).get j hjl
          have hl := load_out (w := wr) (b := bb) (o := off + j * 2) hc
          have hlen2 : ((outs.take j).flatMap (fun x => x.m.bytes)).length ≤ j * 700 := by
            have := flat_len (fun x : TO => x.m.bytes) 700 (outs.take j) fun x hx => MO.len (S4.out x (List.mem_of_mem_take hx))
            rw [List.length_take, Nat.min_eq_left (by omega)] at this
            exact this
          obtain ⟨pl, hpl⟩ : ∃ pl, pl = (outs.take j).flatMap (fun x : TO => x.m.bytes) := ⟨_, rfl⟩
          rw [← hpl] at hlen2 hw
          have HX := Lib.hid (fun w2 (h2 : WI W g (le 4 vr ++ cnt k ++ pi ++ cnt m ++ pl) w2) => tOutWrite_any outs[j] w W w2 g _ (HO.out.ok _ (List.getElem_mem hjl)) f1.out hg.out h2 (by have := S4.out _ (List.getElem_mem hjl); have := csz_le k; have := csz_le m; have := hlen.out; simp only [List.length_append, le_length, cnt_length]; omega))
          have HE := Lib.hid (flat_take (fun x : TO => x.m.bytes) outs j hjl)
          rw [← hpl] at HE
          have sz : outs[j].row.toArray.size = 2 := rfl
          have o1 : rowOne outs[j].row.toArray := TO.one _
          clear hc hok hlen2
          replace hpl := Lib.hid hpl
          generalize outs[j].row.toArray = X at *
          generalize outs[j].m.bytes = xb at *
          have l1 : (j : Int) < (m : Int) := by omega
          replace hw := Lib.hid hw
          go_upto_region 13 with fail
          refine wp_put fun W4 N4 => ?_
          have r5 := N4.new
          have W4 := hw.out.fr0 N4.fr
          clear N4 hl rb4 rb
          go_wp2_with fail
          (with_reducible refine (HX.out _ W4).mono ?_); rintro e w5 ⟨rfl, W5⟩
          clear HX W4 r5
          go_wp2_with fail
          go_roundw
          case rel => exact ⟨j + 1, by omega, by go_num, by rw [HE.out, ← List.append_assoc]; exact W5⟩
          case measure => simp [intOf]; omega
        · obtain rfl : j = m := by omega
          rw [hm.out, List.take_length] at hw
          rw [← hm.out] at hw
          have hlen2 : (outs.flatMap (fun x => x.m.bytes)).length ≤ 70 * 700 := by
            have := flat_len (fun x : TO => x.m.bytes) 700 outs fun x hx => MO.len (S4.out x hx)
            have h2 := hm.out
            rw [← h2] at this
            have h3 : j * 700 ≤ 70 * 700 := Nat.mul_le_mul_right _ s2
            omega
          obtain ⟨po, hpo⟩ : ∃ po, po = outs.flatMap (fun x : TO => x.m.bytes) := ⟨_, rfl⟩
          rw [← hpo] at hw hlen2 HTB
          clear hpo
          have HP := Lib.hid (hw.put4 lt (by omega) (by have := csz_le k; have := csz_le j; have := hlen.out; simp only [List.length_append, le_length, cnt_length]; omega))
          replace hlen2 := Lib.hid hlen2
          clear hw F
          go_wp2_with fail
          (with_reducible refine HP.out.mono ?_); rintro e w6 ⟨rfl, W6⟩
          have HB := Lib.hid (W6.bytes f1.out hg.out (by have := csz_le k; have := csz_le j; have := hlen.out; have := hlen2.out; simp only [List.length_append, le_length, cnt_length]; omega))
          clear HP W6 rb4 rb
          go_wp2_with fail
          (with_reducible refine HB.out.mono ?_); rintro e w7 R
          have E0 := HTB.out
          rw [← hn.out, ← hm.out] at E0
          rw [← E0] at R
          clear E0
          replace R := Lib.hid R
          obtain ⟨a7, c7, rfl, hb7⟩ := R.out
          obtain ⟨N, hN⟩ : ∃ N, N = TB.length := ⟨_, rfl⟩
          rw [← hN] at R ⊢
          clear hN hb7
          go_wp2_with fail
          go_ret
          exact R.out

def MT.out (t : MT) : List UInt8 := if t.err = 0 then t.bytes else []
theorem MT.small_of {t : MT} (h : t.long = false) : t.small = true := by
  rw [MT.long, decide_eq_false_iff_not] at h
  rw [MT.small, decide_eq_true_iff]
  refine ⟨Nat.le_of_not_lt fun e => h (by omega), Nat.le_of_not_lt fun e => h (by omega), fun x hx => Nat.le_of_not_lt fun e => h (.inr (.inr (.inl ⟨x, hx, by omega⟩))), fun x hx => Nat.le_of_not_lt fun e => h (.inr (.inr (.inr ⟨x, hx, by omega⟩)))⟩
/-- What Bytes answers. -/
def BytesQ (t : MT) (w : World) (e : Ending) (w' : World) : Prop :=
  ∃ a n c, e = .returned (.tuple #[.slice a n c, .int .i64 t.err]) ∧ n = t.out.length ∧ Bs w' a c t.out ∧ Fr F0 w w' ∧ ∀ k, ablk a = some k → w.heap.size ≤ k
theorem BytesQ.no {t : MT} {w w' : World} {E : Int} (h : t.err = E) (h0 : E ≠ 0) (f : Fr F0 w w') : BytesQ t w (.returned (.tuple #[.slice none 0 0, .int .i64 E])) w' := by
  have e : t.out = [] := by rw [MT.out, if_neg (by omega)]
  exact ⟨none, 0, 0, by rw [h], by rw [e]; rfl, by rw [e]; exact Bs.nothing _, f, fun k hk => by cases hk⟩
set_option maxRecDepth 100000 in
set_option maxHeartbeats 8000000 in
theorem tBytes_any (t : TT) (w : World) (h : t.Ok w) : Calls Try.prog 11 #[.agg t.cells] w (BytesQ t.m w) := by
  have H := Lib.hid h
  have HF := Lib.hid (fun w' (f : Fr F0 w w') => tFew_any t w' (h.fr f))
  have HL := Lib.hid (fun w' (f : Fr F0 w w') => tLong_any t w' (h.fr f))
  have HO := Lib.hid (fun w' (f : Fr F0 w w') => tOver_any t w' (h.fr f))
  have HW := Lib.hid (fun w' (f : Fr F0 w w') (hs : t.m.small = true) => tWritten_any t w' (h.fr f) hs)
  have HZ := Lib.hid (fun n w' => tIsSize_any n w')
  obtain ⟨v0, v1, v2, v3, hc⟩ : ∃ v0 v1 v2 v3, t.cells = #[v0, v1, v2, v3] := ⟨_, _, _, _, rfl⟩
  rw [hc] at HF HL HO HW ⊢
  have r0 := heap_alloc_new w (.cells #[v0, v1, v2, v3] 28)
  have F := (Fr.refl F0 w).alloc (.cells #[v0, v1, v2, v3] 28)
  clear h hc
  generalize hm : t.m = M at *
  cases q1 : M.few with
  | true =>
    rw [q1] at HF
    have hE : M.err = 16 := by simp [MT.err, q1]
    clear HL HO HW HZ
    go_enter Try.func11, Try.ntmps11
    go_wp2_with fail
    (with_reducible refine (HF.out _ F).mono ?_); rintro e w2 ⟨rfl, f2⟩
    replace F := F.trans' f2
    go_wp2_with fail
    go_ret2
    exact BytesQ.no hE (by omega) F
  | false =>
  rw [q1] at HF
  cases q2 : M.long with
  | true =>
    rw [q2] at HL
    have hE : M.err = 3 := by simp [MT.err, q1, q2]
    clear HO HW HZ
    go_enter Try.func11, Try.ntmps11
    go_wp2_with fail
    (with_reducible refine (HF.out _ F).mono ?_); rintro e w2 ⟨rfl, f2⟩
    replace F := F.trans' f2
    replace r0 := keep_fr f2 r0
    go_wp2_with fail
    (with_reducible refine (HL.out _ F).mono ?_); rintro e w3 ⟨rfl, f3⟩
    replace F := F.trans' f3
    go_wp2_with fail
    go_ret2
    exact BytesQ.no hE (by omega) F
  | false =>
  rw [q2] at HL
  have HW2 := Lib.hid (fun w' f => HW.out w' f (MT.small_of q2))
  clear HW
  obtain ⟨N, hN⟩ : ∃ N, N = M.bytes.length := ⟨_, rfl⟩
  replace HZ := Lib.hid (HZ.out N)
  cases q3 : szT M.bytes.length with
  | false =>
    have hE : M.err = 3 := by simp [MT.err, q1, q2, q3]
    rw [← hN] at q3
    rw [q3] at HZ
    replace hN := Lib.hid hN
    clear HO
    go_enter Try.func11, Try.ntmps11
    go_wp2_with fail
    (with_reducible refine (HF.out _ F).mono ?_); rintro e w2 ⟨rfl, f2⟩
    replace F := F.trans' f2
    replace r0 := keep_fr f2 r0
    clear HF
    go_wp2_with fail
    (with_reducible refine (HL.out _ F).mono ?_); rintro e w3 ⟨rfl, f3⟩
    replace F := F.trans' f3
    replace r0 := keep_fr f3 r0
    clear HL
    go_wp2_with fail
    (with_reducible refine (HW2.out _ F).mono ?_); rintro e w4 ⟨a4, c4, rfl, hb4, f4, n4⟩
    replace F := F.trans' f4
    clear hb4 n4 HW2
    rw [← hN.out]
    go_wp2_with fail
    (with_reducible refine (HZ.out _).mono ?_); rintro e w5 ⟨rfl, rfl⟩
    go_wp2_with fail
    go_ret2
    exact BytesQ.no hE (by omega) F
  | true =>
  have q3' := q3
  rw [← hN] at q3'
  rw [q3'] at HZ
  cases q4 : M.over with
  | true =>
    rw [q4] at HO
    have hE : M.err = 4 := by simp [MT.err, q1, q2, q3, q4]
    replace hN := Lib.hid hN
    go_enter Try.func11, Try.ntmps11
    go_wp2_with fail
    (with_reducible refine (HF.out _ F).mono ?_); rintro e w2 ⟨rfl, f2⟩
    replace F := F.trans' f2
    replace r0 := keep_fr f2 r0
    clear HF
    go_wp2_with fail
    (with_reducible refine (HL.out _ F).mono ?_); rintro e w3 ⟨rfl, f3⟩
    replace F := F.trans' f3
    replace r0 := keep_fr f3 r0
    clear HL
    go_wp2_with fail
    (with_reducible refine (HW2.out _ F).mono ?_); rintro e w4 ⟨a4, c4, rfl, hb4, f4, n4⟩
    replace F := F.trans' f4
    replace r0 := keep_fr f4 r0
    clear hb4 n4 HW2
    rw [← hN.out]
    go_wp2_with fail
    (with_reducible refine (HZ.out _).mono ?_); rintro e w5 ⟨rfl, rfl⟩
    go_wp2_with fail
    (with_reducible refine (HO.out _ F).mono ?_); rintro e w6 ⟨rfl, f6⟩
    replace F := F.trans' f6
    go_wp2_with fail
    go_ret2
    exact BytesQ.no hE (by omega) F
  | false =>
    rw [q4] at HO
    have hE : M.err = 0 := by simp [MT.err, q1, q2, q3, q4]
    replace hN := Lib.hid hN
    go_enter Try.func11, Try.ntmps11
    go_wp2_with fail
    (with_reducible refine (HF.out _ F).mono ?_); rintro e w2 ⟨rfl, f2⟩
    replace F := F.trans' f2
    replace r0 := keep_fr f2 r0
    clear HF
    go_wp2_with fail
    (with_reducible refine (HL.out _ F).mono ?_); rintro e w3 ⟨rfl, f3⟩
    replace F := F.trans' f3
    replace r0 := keep_fr f3 r0
    clear HL
    go_wp2_with fail
    have hs3 := Lib.hid F.size
    (with_reducible refine (HW2.out _ F).mono ?_); rintro e w4 ⟨a4, c4, rfl, hb4, f4, n4⟩
    replace F := F.trans' f4
    replace r0 := keep_fr f4 r0
    have HB := Lib.hid (And.intro hb4 n4)
    clear hb4 n4 HW2
    rw [← hN.out]
    go_wp2_with fail
    (with_reducible refine (HZ.out _).mono ?_); rintro e w5 ⟨rfl, rfl⟩
    go_wp2_with fail
    (with_reducible refine (HO.out _ F).mono ?_); rintro e w6 ⟨rfl, f6⟩
    replace F := F.trans' f6
    go_wp2_with fail
    go_ret2
    refine ⟨a4, N, c4, by rw [hE]; rfl, ?_, ?_, F, fun k hk => Nat.le_trans hs3.out (HB.out.2 k hk).1⟩
    · rw [MT.out, if_pos hE, hN.out]
    · rw [MT.out, if_pos hE]; exact Bs.fr7 HB.out.1 f6
end Go.Proofs.Ythoaalnjmklclaa

/- Layer 9 (tx): what a reader tells, and lists that are appended to. -/
namespace Go.Proofs.Ythoaalnjmklclaa
set_option linter.unusedVariables false
set_option linter.unusedSimpArgs false
open Go.RowKit

/-- What word tells. -/
def rW (st : Option (List UInt8)) : Nat × Option (List UInt8) := (ofLE (tk 4 st).1, (tk 4 st).2)
def zero32 : List UInt8 := List.replicate 32 0
def fr32 (l : List UInt8) : List UInt8 := if l.length = 32 then l else zero32
theorem fr32_length (l : List UInt8) : (fr32 l).length = 32 := by unfold fr32; split; assumption; rfl
def rIn (st : Option (List UInt8)) : MI × Option (List UInt8) :=
  (⟨fr32 (tk 32 st).1, (rW (tk 32 st).2).1, (rctd 520 (rW (tk 32 st).2).2).1, (rW (rctd 520 (rW (tk 32 st).2).2).2).1⟩, (rW (rctd 520 (rW (tk 32 st).2).2).2).2)
def rOut (st : Option (List UInt8)) : MO × Option (List UInt8) := (⟨ofLE (tk 8 st).1, (rctd 520 (tk 8 st).2).1⟩, (rctd 520 (tk 8 st).2).2)
/-- So many, one behind the other. -/
def rMany {α : Type} (f : Option (List UInt8) → α × Option (List UInt8)) : Nat → Option (List UInt8) → List α × Option (List UInt8)
  | 0, st => ([], st)
  | n + 1, st => ((rMany f n st).1 ++ [(f (rMany f n st).2).1], (f (rMany f n st).2).2)
def rTx (st : Option (List UInt8)) : MT × Option (List UInt8) :=
  let v := rW st
  let n := rc 64 v.2
  let i := rMany rIn n.1 n.2
  let m := rc 64 i.2
  let o := rMany rOut m.1 m.2
  let l := rW o.2
  (⟨v.1, i.1, o.1, l.1⟩, l.2)

theorem rctd_lft (m : Int) (st : Option (List UInt8)) : lft (rctd m st).2 ≤ lft st := by
  unfold rctd
  split
  · simp [lft]
  · have h1 := (tk_len ((rc m.toNat st).1 : Int) (rc m.toNat st).2).2
    have h2 := rc_lft m.toNat st
    omega
theorem rW_lft (st : Option (List UInt8)) : lft (rW st).2 ≤ lft st := (tk_len 4 st).2
theorem rIn_lft (st : Option (List UInt8)) : lft (rIn st).2 ≤ lft st := by
  have h1 := (tk_len 32 st).2
  have h2 := rW_lft (tk 32 st).2
  have h3 := rctd_lft 520 (rW (tk 32 st).2).2
  have h4 := rW_lft (rctd 520 (rW (tk 32 st).2).2).2
  show lft (rW (rctd 520 (rW (tk 32 st).2).2).2).2 ≤ _
  omega
theorem rOut_lft (st : Option (List UInt8)) : lft (rOut st).2 ≤ lft st := by
  have h1 := (tk_len 8 st).2
  have h3 := rctd_lft 520 (tk 8 st).2
  show lft (rctd 520 (tk 8 st).2).2 ≤ _
  omega
theorem rMany_lft {α : Type} (f : Option (List UInt8) → α × Option (List UInt8)) (hf : ∀ st, lft (f st).2 ≤ lft st) : ∀ (n : Nat) (st : Option (List UInt8)), lft (rMany f n st).2 ≤ lft st
  | 0, st => Nat.le_refl _
  | n + 1, st => Nat.le_trans (hf _) (rMany_lft f hf n st)
theorem rMany_len {α : Type} (f : Option (List UInt8) → α × Option (List UInt8)) : ∀ (n : Nat) (st : Option (List UInt8)), (rMany f n st).1.length = n
  | 0, st => rfl
  | n + 1, st => by simp [rMany, rMany_len f n st]
theorem tk4_lt (st : Option (List UInt8)) : ofLE (tk 4 st).1 < 4294967296 := by
  have h1 := tk_le 4 st (by omega)
  have h2 := ofLE_lt (tk 4 st).1
  have h3 : 256 ^ (tk 4 st).1.length ≤ 256 ^ 4 := Nat.pow_le_pow_right (by omega) (by omega)
  omega
theorem tk8_lt (st : Option (List UInt8)) : ofLE (tk 8 st).1 < 18446744073709551616 := by
  have h1 := tk_le 8 st (by omega)
  have h2 := ofLE_lt (tk 8 st).1
  have h3 : 256 ^ (tk 8 st).1.length ≤ 256 ^ 8 := Nat.pow_le_pow_right (by omega) (by omega)
  omega

theorem tWord_any (B b : Nat) (st : Option (List UInt8)) (w : World) (h : RI B b st w) (hl : lft st ≤ 1000000) :
    Calls Try.prog 50 #[.pointer (some ⟨b, 0, none⟩)] w fun e w' => e = .returned (.int .u32 ((rW st).1 : Int)) ∧ RI B b (rW st).2 w' ∧ Fr (fun k => k = b) w w' := by
  have HG := Lib.hid (h.get 4 rfl hl)
  have hx := tk4_lt st
  have h1 : (rW st).1 = ofLE (tk 4 st).1 := rfl
  have h2 : (rW st).2 = (tk 4 st).2 := rfl
  rw [h1, h2]
  generalize ofLE (tk 4 st).1 = x at *
  generalize (tk 4 st).2 = st' at *
  have hw : IntKind.u32.wrap (x : Int) = (x : Int) := by rw [IntWalk.u32_in _ (by omega)]
  clear h h1 h2 hl
  go_enter Try.func50, Try.ntmps50
  go_wp2_with fail
  (with_reducible refine HG.out.mono ?_); rintro e w2 ⟨rfl, R2, f2⟩
  go_wp2_with fail
  go_ret
  exact ⟨rfl, R2, f2⟩

theorem row2_one (x : Int) (a : Option Addr) (n c : Nat) : rowOne #[.int .u64 x, .slice a n c] := by
  unfold rowOne
  rw [Array.all_eq_true_iff_forall_mem]
  intro v hv
  simp only [List.mem_toArray, List.mem_cons, List.not_mem_nil, or_false] at hv
  rcases hv with rfl | rfl <;> rfl
theorem Bs.frx {w w' : World} {S : Nat → Prop} {a : Option Addr} {c : Nat} {l : List UInt8} (h : Bs w a c l) (f : Fr S w w') (hs : l ≠ [] → ∀ k, ablk a = some k → ¬ S k) : Bs w' a c l :=
  Sl.frn h f fun hx => hs fun e => hx (by rw [e]; rfl)
theorem RI.lt {B b : Nat} {st : Option (List UInt8)} {w : World} (h : RI B b st w) : b < B := h.choose_spec.2.1

set_option maxRecDepth 100000 in
set_option maxHeartbeats 4000000 in
theorem tReadOut_any (B b : Nat) (st : Option (List UInt8)) (w : World) (h : RI B b st w) (hB : B ≤ w.heap.size) (hl : lft st ≤ 1000000) :
    Calls Try.prog 53 #[.pointer (some ⟨b, 0, none⟩)] w fun e w' => ∃ t : TO, e = .returned (.agg t.row.toArray) ∧ t.Ok w' ∧ t.m = (rOut st).1 ∧ RI B b (rOut st).2 w' ∧ Fr (fun k => k = b) w w' ∧ ∀ k, ablk t.a = some k → w.heap.size ≤ k := by
  have hx := tk8_lt st
  have hl2 := (tk_len 8 st).2
  have e1 : (rOut st).1 = ⟨ofLE (tk 8 st).1, (rctd 520 (tk 8 st).2).1⟩ := rfl
  have e2 : (rOut st).2 = (rctd 520 (tk 8 st).2).2 := rfl
  rw [e1, e2]
  clear e1 e2
  have hbB := h.lt
  have HG := Lib.hid (fun W (f : Fr F0 w W) => (h.fr0 f).get 8 rfl hl)
  have HC := Lib.hid (fun W (r : RI B b (tk 8 st).2 W) => r.counted 520 (by omega) (by omega))
  generalize ofLE (tk 8 st).1 = x at *
  generalize (tk 8 st).2 = s1 at *
  generalize (rctd 520 s1).1 = ky at *
  generalize (rctd 520 s1).2 = s2 at *
  clear h hl hl2
  go_enter Try.func53, Try.ntmps53
  go_upto_region 1 with fail
  refine wp_new fun W1 N1 => ?_
  have r2 := N1.new
  have F := N1.fr
  obtain ⟨g2, hg2⟩ : ∃ g, g = w.heap.size := ⟨_, rfl⟩
  rw [← hg2] at r2 ⊢
  clear N1
  go_upto_region 2 with fail
  refine wp_new fun W2 N2 => ?_
  have r3 := N2.new
  have ne := N2.ne r2
  replace r2 := N2.old r2
  obtain ⟨g3, hg3⟩ : ∃ g, g = W1.heap.size := ⟨_, rfl⟩
  rw [← hg3] at r3 ne ⊢
  have hs3 : w.heap.size ≤ g3 := by rw [hg3]; exact F.size
  replace F := F.trans' N2.fr
  have nb2 : g2 ≠ b := by omega
  have nb3 : g3 ≠ b := by omega
  have hs := Lib.hid (show w.heap.size ≤ g3 ∧ w.heap.size ≤ g2 by omega)
  clear N2 hg2 hg3 hs3
  go_wp2_with fail
  (with_reducible refine (HG.out _ F).mono ?_); rintro e w3 ⟨rfl, R3, f3⟩
  replace r2 := f3.keeps (fun e => nb2 e) r2
  replace r3 := f3.keeps (fun e => nb3 e) r3
  replace F := F.of0.trans' f3
  clear HG f3
  go_wp2_with fail
  refine calls_cell r3 fun W4 r4 f4 => ?_
  have R4 := R3.fr f4 (fun k e => by have := hs.out; omega)
  replace r2 := f4.keeps (fun e => ne e) r2
  replace F := F.trans f4 (fun i hi e => by have := hs.out; omega)
  clear f4 r3 R3
  have hL := Lib.hid (show g2 < W4.heap.size ∧ g3 < W4.heap.size from ⟨(Array.getElem?_eq_some_iff.1 r2).1, (Array.getElem?_eq_some_iff.1 r4).1⟩)
  (with_reducible refine (HC.out _ R4).mono ?_); rintro e w5 ⟨a5, c5, rfl, hb5, R5, f5, n5⟩
  replace r2 := f5.keeps (fun e => nb2 e) r2
  replace r4 := f5.keeps (fun e => nb3 e) r4
  have sW := Lib.hid (show w.heap.size ≤ W4.heap.size from F.size)
  replace F := F.trans' f5
  have HH := Lib.hid (And.intro hb5 (And.intro R5 n5))
  clear HC f5 R4 hb5 R5 n5
  obtain ⟨n, hn⟩ : ∃ n, n = ky.length := ⟨_, rfl⟩
  rw [← hn]
  replace hn := Lib.hid hn
  replace r4 : w5.heap[g3]? = some (.cells #[.int .u64 (x : Int), .slice none 0 0] 55 (0, 0)) := r4
  have o2 := row2_one (x : Int) a5 n c5
  go_wp2_with fail
  refine bodyPost_ret (results_cell_row rfl _ _ g2 _ _ _ _ rfl (by rw [heap_setRow_at, heap_setCell_ne' _ _ _ _ _ ne, r2]; rfl) Try.underlying55 rfl (by rw [Try.szTOut]; rfl)) rfl ?_
  have fE : Fr (fun k => k = g3 ∨ k = g2) w5 ((w5.setCell ⟨g3, 1, none⟩ (.slice a5 n c5)).setRow g2 #[.int .u64 (x : Int), .slice a5 n c5]) :=
    ((Fr.refl _ w5).setCell (p := ⟨g3, 1, none⟩) (fun _ => .inl rfl) _).setRow (fun _ => .inr rfl) _
  refine ⟨⟨⟨x, ky⟩, a5, c5⟩, by rw [hn.out]; rfl, ⟨⟨hx⟩, HH.out.1.frx fE fun _ k hk e => ?_⟩, rfl, HH.out.2.1.fr fE (fun k e => by have := hs.out; omega), F.trans fE (fun i hi e => by have := hs.out; omega), fun k hk => Nat.le_trans sW.out (HH.out.2.2 k hk)⟩
  have h1 := HH.out.2.2 k hk
  have h2 := hs.out
  have h3 := hL.out
  omega
end Go.Proofs.Ythoaalnjmklclaa

/- Layer 9 (tx): readIn. -/
namespace Go.Proofs.Ythoaalnjmklclaa
set_option linter.unusedVariables false
set_option linter.unusedSimpArgs false
open Go.RowKit

/-- An input's cells, its numbers and its key as values. -/
def rowI (fr : List UInt8) (v32 v33 v34 : Value) : Array Value := (fr.map B8 ++ [v32, v33, v34]).toArray
theorem TI.rowI (t : TI) : t.row.toArray = rowI t.m.fr (.int .u32 (t.m.ix : Int)) (.slice t.a t.m.ky.length t.c) (.int .u32 (t.m.sq : Int)) := rfl
theorem rowI_size {fr : List UInt8} (h : fr.length = 32) (a b c : Value) : (rowI fr a b c).size = 35 := by simp [rowI, h]
theorem rowI_32 {fr : List UInt8} (h : fr.length = 32) (a b c : Value) : (rowI fr a b c)[32]? = some a := by simp [rowI, h]
theorem rowI_33 {fr : List UInt8} (h : fr.length = 32) (a b c : Value) : (rowI fr a b c)[33]? = some b := by simp [rowI, h]
theorem rowI_34 {fr : List UInt8} (h : fr.length = 32) (a b c : Value) : (rowI fr a b c)[34]? = some c := by simp [rowI, h]
theorem rowI_s32 {fr : List UInt8} (h : fr.length = 32) (a b c v : Value) : (rowI fr a b c).setIfInBounds 32 v = rowI fr v b c := by
  simp only [rowI, List.setIfInBounds_toArray]; rw [List.set_append_right _ _ (by simp [h])]; simp [h]
theorem rowI_s33 {fr : List UInt8} (h : fr.length = 32) (a b c v : Value) : (rowI fr a b c).setIfInBounds 33 v = rowI fr a v c := by
  simp only [rowI, List.setIfInBounds_toArray]; rw [List.set_append_right _ _ (by simp [h])]; simp [h]
theorem rowI_s34 {fr : List UInt8} (h : fr.length = 32) (a b c v : Value) : (rowI fr a b c).setIfInBounds 34 v = rowI fr a b v := by
  simp only [rowI, List.setIfInBounds_toArray]; rw [List.set_append_right _ _ (by simp [h])]; simp [h]
theorem rowI_one (fr : List UInt8) (i : Int) (a : Option Addr) (n c : Nat) (q : Int) : rowOne (rowI fr (.int .u32 i) (.slice a n c) (.int .u32 q)) := by
  unfold rowOne
  rw [Array.all_eq_true_iff_forall_mem]
  intro v hv
  simp only [rowI, List.mem_toArray, List.mem_append, List.mem_map, List.mem_cons, List.not_mem_nil, or_false] at hv
  rcases hv with ⟨_, _, rfl⟩ | rfl | rfl | rfl <;> rfl
theorem zeroI : rowI zero32 (.int .u32 0) (.slice none 0 0) (.int .u32 0) = #[.int .u8 0, .int .u8 0, .int .u8 0, .int .u8 0, .int .u8 0, .int .u8 0, .int .u8 0, .int .u8 0, .int .u8 0, .int .u8 0, .int .u8 0, .int .u8 0, .int .u8 0, .int .u8 0, .int .u8 0, .int .u8 0,
  .int .u8 0, .int .u8 0, .int .u8 0, .int .u8 0, .int .u8 0, .int .u8 0, .int .u8 0, .int .u8 0, .int .u8 0, .int .u8 0, .int .u8 0, .int .u8 0, .int .u8 0, .int .u8 0, .int .u8 0, .int .u8 0, .int .u32 0, .slice none 0 0, .int .u32 0] := rfl

/-- copy of 32 bytes, or of none, into an input's hash. -/
theorem run_copy_in {w : World} {g c : Nat} {a : Option Addr} {l m : List UInt8} {v32 v33 v34 : Value} {ty : TypeId} (hg : w.heap[g]? = some (.cells (rowI m v32 v33 v34) 68 (0, 0))) (hm : m.length = 32) (hl : l.length = 32) (hb : Bs w a c l) :
    (Builtin.copy_ #[22, 22] ty #[.slice (some ⟨g, 0, none⟩) 32 32, .slice a 32 c]).run Try.prog w = .ok (.int .i64 32) (w.setRow g (rowI l v32 v33 v34)) := by
  obtain ⟨b, off, rfl, _⟩ := hb.at 0 (by omega)
  have key := run_copy_row (P := Try.prog) w 22 22 ty 5 g 0 32 32 ⟨b, off, none⟩ 32 c (rowI m v32 v33 v34) 68 (l.map B8) Try.underlying22 (by kernel_rfl) hg (by simp [hl]) (fun j v hj => by
      obtain ⟨b', o', e, hc⟩ := hb.cell j v hj
      cases e
      rw [Addr.add_lit]
      exact hc) (by simp [hl, rowI_size hm]) (by intro v hv; simp only [List.mem_map] at hv; obtain ⟨i, _, rfl⟩ := hv; rfl)
  rw [key]
  have e : ((rowI m v32 v33 v34).toList.take 0 ++ l.map B8 ++ (rowI m v32 v33 v34).toList.drop (0 + (l.map B8).length)).toArray = rowI l v32 v33 v34 := by
    rw [List.take_zero, List.nil_append, List.length_map, hl]
    simp [rowI, hm, List.drop_append]
  rw [e]
  simp [goInt, hl]
theorem wp_row {P : Program} {c : Code} {Q : Exit → Act → World → Prop} {a : Act} {w : World} {g : Nat} {c0 cs : Array Value} {t : TypeId} {fr : Nat × Nat} (h : w.heap[g]? = some (.cells cs t fr))
    (k : ∀ W, W.heap[g]? = some (.cells c0 t fr) → Fr (fun k => k = g) w W → Code.wp P c Q a W) : Code.wp P c Q a (w.setRow g c0) :=
  k _ (new_row h) (Fr.setRow (S := fun k => k = g) (Fr.refl _ _) (fun _ => rfl) _)
theorem wp_cell {P : Program} {c : Code} {Q : Exit → Act → World → Prop} {a : Act} {w : World} {g i : Nat} {v : Value} {cs : Array Value} {t : TypeId} {fr : Nat × Nat} (h : w.heap[g]? = some (.cells cs t fr))
    (k : ∀ W, W.heap[g]? = some (.cells (cs.setIfInBounds i v) t fr) → Fr (fun k => k = g) w W → Code.wp P c Q a W) : Code.wp P c Q a (w.setCell ⟨g, i, none⟩ v) :=
  k _ (by rw [heap_setCell_at, h]; rfl) (Fr.setCell (S := fun k => k = g) (Fr.refl _ _) (p := ⟨g, i, none⟩) (fun _ => rfl) _)
theorem setRow_same {w : World} {g : Nat} {cs : Array Value} {t : TypeId} {fr : Nat × Nat} (h : w.heap[g]? = some (.cells cs t fr)) : w.setRow g cs = w := by
  cases w with
  | mk heap a b c d =>
  unfold World.setRow
  congr 1
  apply Array.ext_getElem?
  intro i
  rw [Array.getElem?_modify]
  split
  · rename_i e
    subst e
    simp only at h
    rw [h]
    rfl
  · rfl
/-- Both at once. -/
theorem run_copy_fr {w : World} {g c n : Nat} {a : Option Addr} {l : List UInt8} {v32 v33 v34 : Value} {ty : TypeId} (hg : w.heap[g]? = some (.cells (rowI zero32 v32 v33 v34) 68 (0, 0))) (hl : l = [] ∨ l.length = 32) (hn : n = l.length) (hb : Bs w a c l) :
    (Builtin.copy_ #[22, 22] ty #[.slice (some ⟨g, 0, none⟩) 32 32, .slice a n c]).run Try.prog w = .ok (.int .i64 (n : Int)) (w.setRow g (rowI (fr32 l) v32 v33 v34)) := by
  subst hn
  rcases hl with rfl | hl
  · rw [show fr32 [] = zero32 from rfl, setRow_same hg]
    exact run_copy_none (P := Try.prog) w 22 22 ty 5 (some ⟨g, 0, none⟩) a 32 32 0 c Try.underlying22 (by kernel_rfl) rfl
  · rw [show fr32 l = l from if_pos hl, hl]
    exact run_copy_in hg rfl hl hb
theorem tk32 (st : Option (List UInt8)) : (tk 32 st).1 = [] ∨ (tk 32 st).1.length = 32 := by
  unfold tk
  cases st with
  | none => exact .inl rfl
  | some bs =>
    dsimp only
    split
    · right
      simp
      omega
    · exact .inl rfl

set_option maxRecDepth 100000 in
set_option maxHeartbeats 8000000 in
theorem tReadIn_any (B b : Nat) (st : Option (List UInt8)) (w : World) (h : RI B b st w) (hB : B ≤ w.heap.size) (hl : lft st ≤ 1000000) :
    Calls Try.prog 52 #[.pointer (some ⟨b, 0, none⟩)] w fun e w' => ∃ t : TI, e = .returned (.agg t.row.toArray) ∧ t.Ok w' ∧ t.m = (rIn st).1 ∧ RI B b (rIn st).2 w' ∧ Fr (fun k => k = b) w w' ∧ ∀ k, ablk t.a = some k → w.heap.size ≤ k := by
  have hl1 := (tk_len 32 st).2
  have hl2 := rW_lft (tk 32 st).2
  have hl3 := rctd_lft 520 (rW (tk 32 st).2).2
  have e1 : (rIn st).1 = ⟨fr32 (tk 32 st).1, (rW (tk 32 st).2).1, (rctd 520 (rW (tk 32 st).2).2).1, (rW (rctd 520 (rW (tk 32 st).2).2).2).1⟩ := rfl
  have e2 : (rIn st).2 = (rW (rctd 520 (rW (tk 32 st).2).2).2).2 := rfl
  rw [e1, e2]
  clear e1 e2
  have hbB := h.lt
  have HR := Lib.hid (fun W (f : Fr F0 w W) => (h.fr0 f).raw 32 hl)
  have HW1 := Lib.hid (fun W (r : RI B b (tk 32 st).2 W) => tWord_any B b _ W r (by omega))
  have HC := Lib.hid (fun W (r : RI B b (rW (tk 32 st).2).2 W) => r.counted 520 (by omega) (by omega))
  have HW2 := Lib.hid (fun W (r : RI B b (rctd 520 (rW (tk 32 st).2).2).2 W) => tWord_any B b _ W r (by omega))
  have x1 := tk4_lt (tk 32 st).2
  have x2 := tk4_lt (rctd 520 (rW (tk 32 st).2).2).2
  replace x1 : (rW (tk 32 st).2).1 < 4294967296 := x1
  replace x2 : (rW (rctd 520 (rW (tk 32 st).2).2).2).1 < 4294967296 := x2
  have ht := tk32 st
  generalize (rW (rctd 520 (rW (tk 32 st).2).2).2).1 = sq at *
  generalize (rW (rctd 520 (rW (tk 32 st).2).2).2).2 = s4 at *
  generalize (rctd 520 (rW (tk 32 st).2).2).1 = ky at *
  generalize (rctd 520 (rW (tk 32 st).2).2).2 = s3 at *
  generalize (rW (tk 32 st).2).1 = ix at *
  generalize (rW (tk 32 st).2).2 = s2 at *
  generalize (tk 32 st).1 = rw at *
  generalize (tk 32 st).2 = s1 at *
  clear h hl hl2 hl1 hl3
  have z35 := rowI_size (fr := zero32) rfl (.int .u32 0) (.slice none 0 0) (.int .u32 0)
  obtain ⟨Z, hZ⟩ : ∃ Z, Z = rowI zero32 (.int .u32 0) (.slice none 0 0) (.int .u32 0) := ⟨_, rfl⟩
  rw [← hZ] at z35
  have HZ := Lib.hid hZ
  rw [zeroI] at hZ
  replace hZ := Lib.hid hZ
  go_enter Try.func52, Try.ntmps52
  go_upto_region 1 with fail
  refine wp_new fun W1 N1 => ?_
  have r2 := N1.new
  rw [← hZ.out] at r2
  have F := N1.fr
  obtain ⟨g2, hg2⟩ : ∃ g, g = w.heap.size := ⟨_, rfl⟩
  rw [← hg2] at r2 ⊢
  clear N1
  go_upto_region 2 with fail
  refine wp_new fun W2 N2 => ?_
  have r3 := N2.new
  rw [← hZ.out] at r3
  have ne := N2.ne r2
  replace r2 := N2.old r2
  obtain ⟨g3, hg3⟩ : ∃ g, g = W1.heap.size := ⟨_, rfl⟩
  rw [← hg3] at r3 ne ⊢
  have hs3 : w.heap.size ≤ g3 := by rw [hg3]; exact F.size
  replace F := F.trans' N2.fr
  have nb2 : g2 ≠ b := by omega
  have nb3 : g3 ≠ b := by omega
  have hs := Lib.hid (show w.heap.size ≤ g3 ∧ w.heap.size ≤ g2 by omega)
  clear N2 hg2 hg3 hs3
  obtain ⟨rn, hrn⟩ : ∃ n, n = rw.length := ⟨_, rfl⟩
  rw [← hrn] at HR
  replace hrn := Lib.hid hrn
  refine wp_region_noPanic ?_
  refine wp_region_held_drew (S := (fun w' => True)) (by kernel_rfl) ?_ (fun hHeld => ?_)
  · ((try dsimp only) <;> (trivial))
  refine rtake 0 ?_
  refine rtake 1 ?_
  refine rtake 2 ?_
  refine wpAnyH_ready (rs := [3]) (by kernel_rfl) (by simp) ?_
  refine AllReadyH.cons (o := ⟨_, _, _, _, _, _⟩) rfl (fun K hK => ?_) AllReadyH.nil
  go_simp
  ((with_reducible refine (HR.out _ F.drew).mono ?_); rintro e w3 ⟨a3, c3, rfl, hb3, R3, f3, n3⟩; have r3' := f3.keeps (fun e => nb3 e) (keep_drew r3); rw [HZ.out] at r3'; have hcp := fun ty => run_copy_fr (ty := ty) (c := c3) r3' ht hrn.out hb3)
  refine hK.out _ _ ?_ (fun hHeld => ?_)
  · ((try dsimp only) <;> (trivial))
  clear hK K
  try (simp only [Act.put, List.setIfInBounds_toArray]; dsimp only [List.set_cons_zero, List.set_cons_succ])
  refine wpAnyH_ready (rs := [4]) (by kernel_rfl) (by simp) ?_
  refine AllReadyH.cons (o := ⟨_, _, _, _, _, _⟩) rfl (fun K hK => ?_) AllReadyH.nil
  go_simp
  refine hK.out _ _ ?_ (fun hHeld => ?_)
  · ((try dsimp only) <;> (trivial))
  clear hK K
  try (simp only [Act.put, List.setIfInBounds_toArray]; dsimp only [List.set_cons_zero, List.set_cons_succ])
  refine wpAnyH_done (by kernel_rfl) ?_ _
  refine NoPanic.normal ?_
  have hfr := fr32_length rw
  obtain ⟨fr, hfr0⟩ : ∃ fr, fr = fr32 rw := ⟨_, rfl⟩
  rw [← hfr0] at hcp hfr ⊢
  replace hfr0 := Lib.hid hfr0
  have r2' := f3.keeps (fun e => nb2 e) (keep_drew r2)
  have F3 : Fr (fun k => k = b) w w3 := F.drew.of0.trans' f3
  have sw := Lib.hid (show W2.heap.size ≤ w3.heap.size from f3.size)
  clear HR f3 n3 hb3 hcp
  go_upto_region 3 with fail
  refine wp_row r3' fun W5 r5 f5 => ?_
  have R5 := R3.fr f5 (fun k e => by have := hs.out; omega)
  replace r2 := f5.keeps (fun e => ne e) r2'
  have F5 : Fr (fun k => k = b) w W5 := F3.trans f5 (fun i hi e => by have := hs.out; omega)
  clear r2' r3' r3 F F3 f5 R3
  have c32 := rowI_32 hfr (.int .u32 0) (.slice none 0 0) (.int .u32 0)
  have z5 := rowI_size hfr (.int .u32 0) (.slice none 0 0) (.int .u32 0)
  go_wp2_with fail
  (with_reducible refine (HW1.out _ R5).mono ?_); rintro e w6 ⟨rfl, R6, f6⟩
  replace r2 := f6.keeps (fun e => nb2 e) r2
  replace r5 := f6.keeps (fun e => nb3 e) r5
  replace F5 := F5.trans' f6
  clear f6 R5 HW1
  go_wp2_with fail
  refine calls_cell r5 fun W7 r7 f7 => ?_
  rw [rowI_s32 hfr] at r7
  have R7 := R6.fr f7 (fun k e => by have := hs.out; omega)
  replace r2 := f7.keeps (fun e => ne e) r2
  have F7 : Fr (fun k => k = b) w W7 := F5.trans f7 (fun i hi e => by have := hs.out; omega)
  have s7 := Lib.hid (show w.heap.size ≤ W7.heap.size ∧ g2 < W7.heap.size ∧ g3 < W7.heap.size from ⟨F7.size, (Array.getElem?_eq_some_iff.1 r2).1, (Array.getElem?_eq_some_iff.1 r7).1⟩)
  clear f7 r5 F5 c32 z5 R6
  have c33 := rowI_33 hfr (.int .u32 (ix : Int)) (.slice none 0 0) (.int .u32 0)
  have z7 := rowI_size hfr (.int .u32 (ix : Int)) (.slice none 0 0) (.int .u32 0)
  (with_reducible refine (HC.out _ R7).mono ?_); rintro e w8 ⟨a8, c8, rfl, hb8, R8, f8, n8⟩
  replace r2 := f8.keeps (fun e => nb2 e) r2
  replace r7 := f8.keeps (fun e => nb3 e) r7
  replace F7 := F7.trans' f8
  clear f8 R7 HC
  replace n8 := Lib.hid n8
  obtain ⟨kn, hkn⟩ : ∃ n, n = ky.length := ⟨_, rfl⟩
  rw [← hkn]
  replace hkn := Lib.hid hkn
  go_wp2_with fail
  refine calls_cell r7 fun W9 r9 f9 => ?_
  rw [rowI_s33 hfr] at r9
  have R9 := R8.fr f9 (fun k e => by have := hs.out; omega)
  replace r2 := f9.keeps (fun e => ne e) r2
  have F9 : Fr (fun k => k = b) w W9 := F7.trans f9 (fun i hi e => by have := hs.out; omega)
  have hb9 := hb8.frx f9 (fun _ k hk e => by have h1 := n8.out k hk; have h2 := s7.out; omega)
  clear f9 r7 F7 c33 z7 R8 hb8
  have c34 := rowI_34 hfr (.int .u32 (ix : Int)) (.slice a8 kn c8) (.int .u32 0)
  have z9 := rowI_size hfr (.int .u32 (ix : Int)) (.slice a8 kn c8) (.int .u32 0)
  (with_reducible refine (HW2.out _ R9).mono ?_); rintro e w10 ⟨rfl, R10, f10⟩
  replace r2 := f10.keeps (fun e => nb2 e) r2
  replace r9 := f10.keeps (fun e => nb3 e) r9
  replace F9 := F9.trans' f10
  have hb10 := hb9.frx f10 (fun _ k hk e => by have h1 := n8.out k hk; have h2 := s7.out; omega)
  clear f10 R9 HW2 hb9
  go_upto_region 6 with fail
  refine wp_cell r9 fun W11 r11 f11 => ?_
  rw [rowI_s34 hfr] at r11
  have R11 := R10.fr f11 (fun k e => by have := hs.out; omega)
  replace r2 := f11.keeps (fun e => ne e) r2
  have F11 : Fr (fun k => k = b) w W11 := F9.trans f11 (fun i hi e => by have := hs.out; omega)
  have hb11 := hb10.frx f11 (fun _ k hk e => by have h1 := n8.out k hk; have h2 := s7.out; omega)
  clear f11 r9 F9 c34 z9 R10 hb10
  have z11 := rowI_size hfr (.int .u32 (ix : Int)) (.slice a8 kn c8) (.int .u32 (sq : Int))
  have o11 := rowI_one fr (ix : Int) a8 kn c8 (sq : Int)
  go_wp2_with fail
  refine bodyPost_ret (results_cell_row rfl _ _ g2 _ _ _ _ rfl (by rw [heap_setRow_at, r2]; rfl) Try.underlying68 rfl (by rw [Try.szTIn, z11])) rfl ?_
  have fE : Fr (fun k => k = g2) W11 (W11.setRow g2 (rowI fr (.int .u32 (ix : Int)) (.slice a8 kn c8) (.int .u32 (sq : Int)))) := Fr.setRow (S := fun k => k = g2) (Fr.refl _ W11) (fun _ => rfl) _
  refine ⟨⟨⟨fr, ix, ky, sq⟩, a8, c8⟩, by rw [hkn.out]; rfl, ⟨⟨hfr, x1, x2⟩, hb11.frx fE fun _ k hk e => ?_⟩, by rw [← hfr0.out], R11.fr fE (fun k e => by have := hs.out; omega), F11.trans fE (fun i hi e => by have := hs.out; omega), fun k hk => Nat.le_trans s7.out.1 (n8.out k hk)⟩
  have h1 := n8.out k hk
  have h2 := s7.out
  omega
end Go.Proofs.Ythoaalnjmklclaa

/- Layer 9 (tx): the outputs that a function chooses, told one by one. -/
namespace Go.Proofs.Ythoaalnjmklclaa
set_option linter.unusedVariables false
set_option linter.unusedSimpArgs false
open Go.RowKit Go.Shelf

attribute [local go_sem] Oper.semAt_some

/-- An output that was chosen, and where its lock's tag lies. -/
structure Ch where
  x : TO
  a : Option Addr
  c : Nat
def Ch.lk (h : Ch) : Array Value := lkC (lkP h.x.m.lk).1 (lkP h.x.m.lk).2.1 (.slice h.a (lkP h.x.m.lk).2.2.length h.c)
abbrev encCh (h : Ch) : Array Value := #[.agg h.lk, .int .u64 (h.x.m.py : Int)]
def chsn (p : Int × List UInt8 × List UInt8 → Bool) (l : List TO) : List TO := l.filter fun t => p (lkP t.m.lk)
/-- What the iterator reads. -/
structure SeesC (t : TT) (Bt Bc : Nat) (f : Value) (ty : TypeId) (W : World) : Prop where
  bt : W.heap[Bt]? = some (.cells t.cells 28 (0, 0))
  bc : W.heap[Bc]? = some (.cells #[f] ty (0, 0))
  outs : TOs W t.oa t.oc t.outs
/-- What comes next. -/
structure NextC (p : Int × List UInt8 × List UInt8 → Bool) (l : List TO) (pre : List Ch) (h : Ch) (W0 W : World) : Prop where
  k : ∃ k, ∃ (hk : k < l.length), h.x = l[k] ∧ p (lkP h.x.m.lk) = true ∧ pre.map Ch.x = chsn p (l.take k)
  bs : Bs W h.a h.c (lkP h.x.m.lk).2.2
  new : ∀ k, ablk h.a = some k → W0.heap.size ≤ k

theorem callsIn_put {F : Fence} {n : Nat} {P : Program} {f : FuncId} {args : Array Value} {Q : Ending → World → Prop} {w : World} {z cs : Array Value} {t : TypeId} (k : ∀ W, NewRow w W w.heap.size cs t → CallsIn F n P f args W Q) : CallsIn F n P f args ((w.alloc (.cells z t)).setRow w.heap.size cs) Q := k _ (put_new w z cs t)
theorem callsIn_new {F : Fence} {n : Nat} {P : Program} {f : FuncId} {args : Array Value} {Q : Ending → World → Prop} {w : World} {z : Array Value} {t : TypeId} (k : ∀ W, NewRow w W w.heap.size z t → CallsIn F n P f args W Q) : CallsIn F n P f args (w.alloc (.cells z t)) Q := k _ ⟨heap_alloc_new _ _, fun h => keep_alloc h, (Fr.refl F0 w).alloc _, fun h => by have := (Array.getElem?_eq_some_iff.1 h).1; omega⟩
theorem wpIn_put {F : Fence} {n : Nat} {P : Program} {c : Code} {Q : Exit → Act → World → Prop} {a : Act} {w : World} {z cs : Array Value} {t : TypeId} (k : ∀ W, NewRow w W w.heap.size cs t → Code.wpIn F n P c Q a W) : Code.wpIn F n P c Q a ((w.alloc (.cells z t)).setRow w.heap.size cs) := k _ (put_new w z cs t)
theorem wpIn_new {F : Fence} {n : Nat} {P : Program} {c : Code} {Q : Exit → Act → World → Prop} {a : Act} {w : World} {z : Array Value} {t : TypeId} (k : ∀ W, NewRow w W w.heap.size z t → Code.wpIn F n P c Q a W) : Code.wpIn F n P c Q a (w.alloc (.cells z t)) := k _ ⟨heap_alloc_new _ _, fun h => keep_alloc h, (Fr.refl F0 w).alloc _, fun h => by have := (Array.getElem?_eq_some_iff.1 h).1; omega⟩
theorem lkP_len (b : List UInt8) : (lkP b).2.1.length = 20 := by
  unfold lkP
  split
  · rename_i h
    simp
    omega
  · split <;> rfl

set_option maxRecDepth 100000 in
set_option maxHeartbeats 8000000 in
theorem chosenF_seq (t : TT) (Bt Bc cf : Nat) (caps : Array Value) (ty : TypeId) (p : Int × List UInt8 × List UInt8 → Bool) (Cc : World → Prop) (hs : ∀ x ∈ t.outs, x.m.lk.length ≤ 1000)
    (eg : ∀ args w, (callFunc cf args).run Try.prog w = .ok (.enter cf args) w)
    (hch : ∀ (b : List UInt8) (a : Option Addr) (n c : Nat) (W : World), Cc W → Calls Try.prog cf (#[.agg (lkC (lkP b).1 (lkP b).2.1 (.slice a n c))] ++ caps) W fun e w' => e = .returned (.bool (p (lkP b))) ∧ Fr F0 W w')
    (hcc : ∀ W W', Cc W → Fr F0 W W' → Cc W') :
    SeqO Try.prog 70 #[.pointer (some ⟨Bt, 0, none⟩), .pointer (some ⟨Bc, 0, none⟩)] encCh (fun _ _ _ => True) (fun _ W => SeesC t Bt Bc (.func (.func cf) #[] caps) ty W ∧ Cc W) (NextC p t.outs) (fun xs => xs.map Ch.x = chsn p t.outs) := by
  intro lp J Jx W oJ oX hC hY h0
  refine (callsIn_wide (n := 6)).1 ?_
  refine callsIn_of_wp Try.func70 rfl trivial ?_ rfl
  simp only [Try.ntmps70, List.size_toArray, List.length_cons, List.length_nil, Nat.reduceAdd, Nat.reduceSub, Array.replicate_succ, Array.replicate_zero, List.push_toArray, List.append_toArray, List.nil_append, List.cons_append]
  have hbt := (hC _ _ h0).1.bt
  have hm := (hC _ _ h0).1.outs.most
  have HH := Lib.hid (And.intro oJ (And.intro oX (And.intro hC hY)))
  have HS := Lib.hid (And.intro hs (And.intro hch hcc))
  clear oJ oX hC hY hs hch hcc
  obtain ⟨vr, ia, ic, ins, oa, oc, outs, lt⟩ := t
  simp only [TT.cells] at *
  obtain ⟨n, hn⟩ : ∃ n, n = outs.length := ⟨_, rfl⟩
  rw [← hn] at hbt hm
  replace hn := Lib.hid hn
  gi_wp2
  gi_loopw [10] (fun i wr => ∃ (k : Nat) (pre : List Ch), k ≤ n ∧ i = .int .i64 (k : Int) ∧ Hid (pre.map Ch.x = chsn p (outs.take k)) ∧ J pre wr) (fun i _ => n - (intOf i).toNat)
  case atStart => exact ⟨0, [], Nat.zero_le _, rfl, rfl, h0⟩
  case round =>
    clear hbt
    obtain ⟨k, pre, hk, rfl, hpre, hJ⟩ := hrel
    by_cases hlt : k < n
    · have hkl : k < outs.length := by have := hn.out; omega
      have hS := HH.out.2.2.1 _ _ hJ
      obtain ⟨hok, bb, off, rfl, hc⟩ := hS.1.outs.get k hkl
      have hl := load_out (w := wr) (b := bb) (o := off + k * 2) hc
      have hroom := hS.1.outs.sl.room
      simp only at hroom
      rw [← hn.out] at hroom
      have HP := Lib.hid (fun W (f : Fr F0 wr W) => lParseN outs[k].m.lk outs[k].a outs[k].m.lk.length outs[k].c W (Bs.fr7 hok.b f) rfl (HS.out.1 _ (List.getElem_mem hkl)))
      have l1 : (k : Int) < (n : Int) := by omega
      have hbc := hS.1.bc
      have HSs := Lib.hid hS
      clear hc hok hS
      obtain ⟨x, hx⟩ : ∃ x, x = outs[k] := ⟨_, rfl⟩
      rw [← hx] at hl HP
      have hxl : p (lkP x.m.lk) = true → chsn p (outs.take (k + 1)) = chsn p (outs.take k) ++ [x] := fun h => by
        rw [chsn, List.take_succ_eq_append_getElem hkl, List.filter_append, ← hx]
        simp [chsn, h]
      have hxn : p (lkP x.m.lk) = false → chsn p (outs.take (k + 1)) = chsn p (outs.take k) := fun h => by
        rw [chsn, List.take_succ_eq_append_getElem hkl, List.filter_append, ← hx]
        simp [chsn, h]
      have HX := Lib.hid (And.intro hxl (And.intro hxn hx))
      clear hxl hxn hx
      obtain ⟨⟨py, lk⟩, xa, xc⟩ := x
      simp only [TO.row] at hl
      simp only at HP
      obtain ⟨ln, hln⟩ : ∃ n, n = lk.length := ⟨_, rfl⟩
      rw [← hln] at hl HP
      replace hln := Lib.hid hln
      have o2 := row2_one (py : Int) xa ln xc
      gi_upto_region 3 with fail
      refine wpIn_put fun W1 N1 => ?_
      have r5 := N1.new
      have f1 := N1.fr
      replace hbc := N1.old hbc
      clear N1 hl
      obtain ⟨g5, hg5⟩ : ∃ g, g = wr.heap.size := ⟨_, rfl⟩
      rw [← hg5] at r5 ⊢
      clear hg5
      gi_wp2
      refine ⟨trivial, ?_⟩
      (with_reducible refine (callsIn_wide.2 (HP.out _ f1)).mono ?_); rintro e w2 ⟨a2, n2, c2, rfl, hn2, hb2, f2, k2⟩
      replace k2 := Lib.hid (show ∀ k, ablk a2 = some k → wr.heap.size ≤ k from fun k hk => Nat.le_trans f1.size (k2 k hk))
      replace r5 := keep_fr f2 r5
      replace hbc := keep_fr f2 hbc
      replace f1 := f1.trans' f2
      clear f2 HP
      have K := LkC.of (k := (lkP lk).1) (lkP_len lk) (.slice a2 n2 c2)
      have oC := lkC_one (k := (lkP lk).1) (A := (lkP lk).2.1) (a := a2) (n := n2) (c := c2)
      have HQ := Lib.hid (fun W hW => HS.out.2.1 lk a2 n2 c2 W hW)
      obtain ⟨LC, hLC⟩ : ∃ LC, LC = lkC (lkP lk).1 (lkP lk).2.1 (.slice a2 n2 c2) := ⟨_, rfl⟩
      rw [← hLC] at K oC HQ ⊢
      have sC := K.size
      replace hLC := Lib.hid (And.intro hLC hn2)
      clear K hn2
      gi_upto_region 4 with fail
      refine wpIn_put fun W3 N3 => ?_
      have r6 := N3.new
      replace r5 := N3.old r5
      replace hbc := N3.old hbc
      replace f1 := f1.trans' N3.fr
      replace hb2 := Bs.fr7 hb2 N3.fr
      clear N3
      obtain ⟨g6, hg6⟩ : ∃ g, g = w2.heap.size := ⟨_, rfl⟩
      rw [← hg6] at r6 ⊢
      clear hg6
      gi_wp2
      refine ⟨trivial, ?_⟩
      (with_reducible refine (callsIn_wide.2 (HQ.out _ (HS.out.2.2 _ _ HSs.out.2 f1))).mono ?_); rintro e w4 ⟨rfl, f4⟩
      replace r5 := keep_fr f4 r5
      replace r6 := keep_fr f4 r6
      replace f1 := f1.trans' f4
      replace hb2 := Bs.fr7 hb2 f4
      clear f4 HQ hbc
      cases hq : p (lkP lk) with
      | true =>
        have hnx : NextC p outs pre ⟨⟨⟨py, lk⟩, xa, xc⟩, a2, c2⟩ wr w4 := ⟨⟨k, hkl, HX.out.2.2, hq, hpre.out⟩, hb2, k2.out⟩
        obtain ⟨fn, tmps, assign, body, hy, hR⟩ := (HH.out.2.2.2 pre ⟨⟨⟨py, lk⟩, xa, xc⟩, a2, c2⟩ wr w4 hJ f1 hnx).plain (m := 5)
        have eA : encCh ⟨⟨⟨py, lk⟩, xa, xc⟩, a2, c2⟩ = #[.agg LC, .int .u64 (py : Int)] := by rw [encCh, Ch.lk, hLC.out.1, hLC.out.2]
        rw [eA] at hy
        have HT := Lib.hid (HX.out.1 hq)
        clear hnx eA hb2
        gi_wp2
        refine hR.mono ?_
        rintro e W5 (⟨rfl, hJ5, _⟩ | ⟨rfl, hJx, _⟩)
        · gi_wp2
          go_roundw
          case rel => exact ⟨k + 1, pre ++ [⟨⟨⟨py, lk⟩, xa, xc⟩, a2, c2⟩], by omega, by go_num, by rw [HT.out, List.map_append, hpre.out]; rfl, hJ5⟩
          case measure => simp [intOf]; omega
        · gi_wp2
          refine bodyPost_ret (results_none rfl _ _ _) rfl ?_
          exact ⟨⟨_, rfl⟩, .inr ⟨_, hJx⟩⟩
      | false =>
        have HT := Lib.hid (HX.out.2.1 hq)
        have hJ4 := own_frI HH.out.1 hJ f1
        clear hb2
        gi_wp2
        refine ⟨fun _ h => (by cases h), ?_⟩
        gi_wp2
        go_roundw
        case rel => exact ⟨k + 1, pre, by omega, by go_num, by rw [HT.out]; exact hpre.out, hJ4⟩
        case measure => simp [intOf]; omega
    · obtain rfl : k = n := by omega
      have hpre' := hpre.out
      rw [hn.out, List.take_length] at hpre'
      gi_wp2
      go_end0
      exact ⟨⟨_, rfl⟩, .inl ⟨_, hpre', hJ⟩⟩
end Go.Proofs.Ythoaalnjmklclaa

/- Layer 9 (tx): sums of chosen outputs. -/
namespace Go.Proofs.Ythoaalnjmklclaa
set_option linter.unusedVariables false
set_option linter.unusedSimpArgs false
open Go.RowKit Go.Shelf

attribute [local go_sem] Oper.semAt_some

def Ch.pay (h : Ch) : Nat := h.x.m.py
def pays (p : Int × List UInt8 × List UInt8 → Bool) (l : List TO) : List Nat := (chsn p l).map fun t => t.m.py
theorem pays_of {p : Int × List UInt8 × List UInt8 → Bool} {l : List TO} {xs : List Ch} (h : xs.map Ch.x = chsn p l) : xs.map Ch.pay = pays p l := by
  rw [pays, ← h, List.map_map]
  rfl
theorem next_of {p : Int × List UInt8 × List UInt8 → Bool} {l : List TO} {pre : List Ch} {h : Ch} {W0 W : World} (n : NextC p l pre h W0 W) : nextA (pays p l) (pre.map Ch.pay) h.pay := by
  obtain ⟨⟨k, hk, e, hp, hpre⟩, _⟩ := n
  have h1 : pre.map Ch.pay = pays p (l.take k) := pays_of hpre
  have h2 : pays p l = pays p (l.take k) ++ h.pay :: pays p (l.drop (k + 1)) := by
    have e1 : l = l.take k ++ (l[k] :: l.drop (k + 1)) := by rw [← List.drop_eq_getElem_cons hk, List.take_append_drop]
    have hp' : p (lkP l[k].m.lk) = true := by rw [← e]; exact hp
    have e2 : chsn p l = chsn p (l.take k) ++ (l[k] :: chsn p (l.drop (k + 1))) := by
      conv => lhs; rw [e1]
      rw [chsn, List.filter_append, List.filter_cons]
      simp only [hp', if_true]
      rfl
    rw [pays, e2, List.map_append, List.map_cons, ← e]
    rfl
  rw [h2, h1]
  refine ⟨by simp, ?_, ?_⟩
  · simp [List.getD]
  · simp

set_option maxHeartbeats 1000000 in
theorem tChosen_any (t : TT) (cf : Nat) (caps : Array Value) (w : World) : Calls Try.prog 41 #[.agg t.cells, .func (.func cf) #[] caps] w fun e w' =>
    ∃ g2 g3, e = .returned (.func (.func 70) #[] #[.pointer (some ⟨g2, 0, none⟩), .pointer (some ⟨g3, 0, none⟩)]) ∧ w'.heap[g2]? = some (.cells t.cells 28 (0, 0)) ∧ w'.heap[g3]? = some (.cells #[.func (.func cf) #[] caps] 90 (0, 0)) ∧ Fr F0 w w' ∧ w.heap.size ≤ g2 ∧ w.heap.size ≤ g3 := by
  have hmf : ∀ (fn : Fn) (first cap : Array Value) (w : World), (Instr.makeFunc fn first cap).run Try.prog w = .ok (.func fn first cap) w := fun _ _ _ _ => rfl
  obtain ⟨vr, ia, ic, ins, oa, oc, outs, lt⟩ := t
  simp only [TT.cells] at *
  go_enter Try.func41, Try.ntmps41
  go_wp2
  go_ret
  obtain ⟨r2, r3⟩ := heap2 w (.cells #[.int .u32 (vr : Int), .slice ia ins.length ic, .slice oa outs.length oc, .int .u32 (lt : Int)] 28) (.cells #[.func (.func cf) #[] caps] 90)
  exact ⟨w.heap.size, w.heap.size + 1, rfl, r2, r3, ((Fr.refl F0 w).alloc _).alloc _, Nat.le_refl _, by omega⟩

set_option maxRecDepth 100000 in
set_option maxHeartbeats 8000000 in
theorem sumF_seq (t : TT) (Bt Bc cf : Nat) (caps : Array Value) (p : Int × List UInt8 × List UInt8 → Bool) (Cc : World → Prop) (hs : ∀ x ∈ t.outs, x.m.lk.length ≤ 1000)
    (eg : ∀ args w, (callFunc cf args).run Try.prog w = .ok (.enter cf args) w)
    (hch : ∀ (b : List UInt8) (a : Option Addr) (n c : Nat) (W : World), Cc W → Calls Try.prog cf (#[.agg (lkC (lkP b).1 (lkP b).2.1 (.slice a n c))] ++ caps) W fun e w' => e = .returned (.bool (p (lkP b))) ∧ Fr F0 W w')
    (hcc : ∀ W W', Cc W → Fr F0 W W' → Cc W') :
    SeqO Try.prog 67 #[.pointer (some ⟨Bt, 0, none⟩), .pointer (some ⟨Bc, 0, none⟩)] encA Ku (fun _ W => SeesC t Bt Bc (.func (.func cf) #[] caps) 90 W ∧ Cc W) (fun pre x _ _ => nextA (pays p t.outs) pre x) (fun xs => xs = pays p t.outs) := by
  intro lp J Jx W oJ oX hC hY h0
  refine (callsIn_wide (n := 6)).1 ?_
  refine callsIn_of_wp_marks Try.func67 rfl trivial ?_ rfl
  simp only [Try.ntmps67, List.size_toArray, List.length_cons, List.length_nil, Nat.reduceAdd, Nat.reduceSub, Array.replicate_succ, Array.replicate_zero, List.push_toArray, List.append_toArray, List.nil_append, List.cons_append]
  have hbt := (hC _ _ h0).1.bt
  have hbc := (hC _ _ h0).1.bc
  have hT := Lib.hid (fun w => tChosen_any t cf caps w)
  have HQ := Lib.hid (fun g2 g3 => chosenF_seq t g2 g3 cf caps 90 p Cc hs eg hch hcc)
  have HH := Lib.hid (And.intro oJ (And.intro oX (And.intro hC hY)))
  clear oJ oX hC hY hs hch hcc
  obtain ⟨v0, a1, n1, c1, a2, n2, c2, v3, hc⟩ : ∃ (v0 : Int) (a1 : Option Addr) (n1 c1 : Nat) (a2 : Option Addr) (n2 c2 : Nat) (v3 : Int), t.cells = #[.int .u32 v0, .slice a1 n1 c1, .slice a2 n2 c2, .int .u32 v3] := ⟨_, _, _, _, _, _, _, _, rfl⟩
  rw [hc] at hbt hT
  gi_upto_region 1 with fail
  refine wpIn_new fun W1 N1 => ?_
  have ry := N1.new
  have f1 := N1.fr
  replace hbt := N1.old hbt
  replace hbc := N1.old hbc
  obtain ⟨gy, hgy⟩ : ∃ g, g = W.heap.size := ⟨_, rfl⟩
  rw [← hgy] at ry ⊢
  replace hgy := Lib.hid (Nat.le_of_eq hgy.symm)
  clear N1
  gi_wp2
  refine ⟨trivial, ?_⟩
  (with_reducible refine (callsIn_wide.2 (hT.out _)).mono ?_); rintro e w2 ⟨g2, g3, rfl, r2, r3, f2, k2, k3⟩
  replace ry := keep_fr f2 ry
  have F := f1.trans' f2
  have hg := Lib.hid (show W.heap.size ≤ gy ∧ W.heap.size ≤ g2 ∧ W.heap.size ≤ g3 from ⟨hgy.out, Nat.le_trans f1.size k2, Nat.le_trans f1.size k3⟩)
  rw [← hc] at r2
  have hwz := Lib.hid (show W.heap.size ≤ w2.heap.size from F.size)
  clear hbt hbc f1 f2 k2 k3 hT
  gi_wp2
  have hOI := OwnFrom.and (OwnFrom.and (fun (s : List Ch) A D row (hs : J (s.map Ch.pay) A) hgr hr => own_le HH.out.1 hwz.out (s.map Ch.pay) A D row hs hgr hr) (own_heap (β := List Ch) w2.heap.size gy (fun _ => #[.func (.yield lp) #[] #[]]) 119 (0, 0))) (OwnFrom.and (own_heap (β := List Ch) w2.heap.size g2 (fun _ => t.cells) 28 (0, 0)) (own_heap (β := List Ch) w2.heap.size g3 (fun _ => #[.func (.func cf) #[] caps]) 90 (0, 0)))
  refine range_lawO (gf := 70) (lb := #[.pointer (some ⟨g2, 0, none⟩), .pointer (some ⟨g3, 0, none⟩)]) rfl (enters_of Try.func70 (by kernel_rfl) rfl) (HQ.out g2 g3) (fun _ => rfl) (fun _ _ => trivial) (fun _ _ => trivial)
    (fun pre W' => (J (pre.map Ch.pay) W' ∧ W'.heap[gy]? = some (.cells #[.func (.yield lp) #[] #[]] 119 (0, 0))) ∧ (W'.heap[g2]? = some (.cells t.cells 28 (0, 0)) ∧ W'.heap[g3]? = some (.cells #[.func (.func cf) #[] caps] 90 (0, 0))))
    (fun cc pre W' => cc = .ret ∧ Jx (pre.map Ch.pay) W')
    hOI (fun cc => OwnFrom.and (own_pure _ _) (fun s A D row hs hgr hr => own_le HH.out.2.1 hwz.out (s.map Ch.pay) A D row hs hgr hr))
    (fun pre W' h => ⟨⟨h.2.1, h.2.2, (HH.out.2.2.1 _ _ h.1.1).1.outs⟩, (HH.out.2.2.1 _ _ h.1.1).2⟩)
    ⟨⟨own_frI HH.out.1 h0 F, ry⟩, r2, r3⟩
    (fun pre x a' _ => a' = { tmps := #[.func (.yield lp) #[] #[], .pointer (some ⟨Bt, 0, none⟩), .pointer (some ⟨Bc, 0, none⟩), .pointer (some ⟨gy, 0, none⟩), undef, .int .u64 (x.pay : Int), .agg #[.int .u32 v0, .slice a1 n1 c1, .slice a2 n2 c2, .int .u32 v3], .func (.func cf) #[] caps, .func (.func 70) #[] #[.pointer (some ⟨g2, 0, none⟩), .pointer (some ⟨g3, 0, none⟩)], .agg x.lk, .int .u64 (x.pay : Int), undef, undef, undef, undef], defers := [] } ∧ nextA (pays p t.outs) (pre.map Ch.pay) x.pay)
    (fun _ _ _ => own_pure _ _) ?assign ?body ?done ?stop
  case assign =>
    intro l2 pre x W0 W' K hi0 f0 hn hK
    have hn' := next_of hn
    gi_wp2
    exact hK _ _ (KeepsFrom.refl _ _) trivial (own_frI hOI hi0 f0) ⟨rfl, hn'⟩
  case body =>
    rintro l2 pre x a' W' ⟨⟨hJ, qy⟩, q2, q3⟩ ⟨rfl, hn⟩
    obtain ⟨fn, tmps, assign, body, hy, hR⟩ := (HH.out.2.2.2 _ _ W' W' hJ (Fr.refl _ _) hn).at (l2 := l2) (m := 3)
    dsimp only [encA] at hy
    have eJ : pre.map Ch.pay ++ [x.pay] = (pre ++ [x]).map Ch.pay := by rw [List.map_append]; rfl
    rw [eJ] at hR
    clear eJ hn
    generalize x.pay = px at *
    generalize x.lk = LK at *
    gi_wp2
    refine hR.mono ?_
    rintro e W5 (⟨rfl, hJ5, hk5⟩ | ⟨rfl, hJx, hk5⟩)
    · have hgo := hg.out
      have qy5 := hk5.2 _ _ hgo.1 qy
      have q25 := hk5.2 _ _ hgo.2.1 q2
      have q35 := hk5.2 _ _ hgo.2.2 q3
      clear hgo
      gi_wp2
      exact ⟨hk5.from hwz.out, trivial, ⟨hJ5, qy5⟩, q25, q35⟩
    · gi_wp2
      exact ⟨hk5.from hwz.out, ⟨rfl, hJx⟩, trivial⟩
  case done =>
    rintro D ys W' hD hy ⟨⟨hJ, qy⟩, q2, q3⟩ hK
    have hy' := pays_of hy
    have hJ9 := own_frI HH.out.1 hJ (Fr.refl _ _)
    have hJ10 : J (ys.map Ch.pay) (W'.putObj D (.deferred none)) := HH.out.1.putObj _ hJ (Nat.le_trans hwz.out hD) hK rfl
    gi_wp2
    refine ⟨by simp, .inl ⟨_, _, rfl, run_takeDeferred hK, ?_⟩⟩
    exact ⟨_, results_none rfl _ _ _, ⟨_, rfl⟩, .inl ⟨_, hy', hJ10⟩⟩
  case stop =>
    rintro D cc pre W' hD ⟨rfl, hJx⟩ hK
    have hJ10 : Jx (pre.map Ch.pay) (W'.putObj D (.deferred none)) := HH.out.2.1.putObj _ hJx (Nat.le_trans hwz.out hD) hK rfl
    gi_wp2
    refine ⟨by simp, .inl ⟨_, _, rfl, run_takeDeferred hK, ?_⟩⟩
    exact ⟨_, results_none rfl _ _ _, ⟨_, rfl⟩, .inr ⟨_, hJ10⟩⟩
end Go.Proofs.Ythoaalnjmklclaa

/- Layer 9 (tx): Paid and Total. -/
namespace Go.Proofs.Ythoaalnjmklclaa
set_option linter.unusedVariables false
set_option linter.unusedSimpArgs false
open Go.RowKit Go.Shelf

def pAll : Int × List UInt8 × List UInt8 → Bool := fun _ => true
def pTo (A : List UInt8) : Int × List UInt8 × List UInt8 → Bool := fun k => decide (k.1 = 1 ∧ k.2.1 = A)
def pTag : Int × List UInt8 × List UInt8 → Bool := fun k => decide (k.1 = 2)

theorem tTotalF_any (C : Array Value) (w : World) (hC : C.size = 22) : Calls Try.prog 37 #[.agg C] w fun e w' => e = .returned (.bool true) ∧ Fr F0 w w' := by
  go_enter Try.func37, Try.ntmps37
  go_wp2
  go_ret
  exact ⟨rfl, (Fr.refl F0 w).alloc _⟩
theorem tTagsF_any (b : List UInt8) (a : Option Addr) (n c : Nat) (w : World) : Calls Try.prog 42 #[.agg (lkC (lkP b).1 (lkP b).2.1 (.slice a n c))] w fun e w' => e = .returned (.bool (pTag (lkP b))) ∧ Fr F0 w w' := by
  have K := LkC.of (k := (lkP b).1) (lkP_len b) (.slice a n c)
  obtain ⟨s0, c0, c21, x1⟩ := K
  have eB : pTag (lkP b) = ((lkP b).1 == 2) := by rw [pTag, Bool.eq_iff_iff]; simp
  rw [eB]
  generalize lkC (lkP b).1 (lkP b).2.1 (.slice a n c) = C at *
  generalize (lkP b).1 = k at *
  have d0 := cell_is c0 (by omega)
  go_enter Try.func42, Try.ntmps42
  go_wp2
  go_ret
  exact ⟨rfl, (Fr.refl F0 w).alloc _⟩
set_option maxHeartbeats 2000000 in
theorem tPaidF_any (A b : List UInt8) (a : Option Addr) (n c ga : Nat) (w : World) (hA : A.length = 20) (hg : w.heap[ga]? = some (.cells (A.map B8).toArray 47 (0, 0))) :
    Calls Try.prog 36 #[.agg (lkC (lkP b).1 (lkP b).2.1 (.slice a n c)), .pointer (some ⟨ga, 0, none⟩)] w fun e w' => e = .returned (.bool (pTo A (lkP b))) ∧ Fr F0 w w' := by
  have K := LkC.of (k := (lkP b).1) (lkP_len b) (.slice a n c)
  obtain ⟨s0, c0, c21, x1⟩ := K
  have heq := fun w => run_equalIn_address w (lkP b).2.1 A (lkP_len b) hA
  have hsz : (A.map B8).toArray.size = 20 := by simp [hA]
  have eB : pTo A (lkP b) = (decide ((lkP b).1 = 1) && decide ((lkP b).2.1 = A)) := by rw [pTo, Bool.eq_iff_iff]; simp
  rw [eB]
  have hm : ∀ W, midOut Try.prog 47 (.pointer (some ⟨w.heap.size, 1, none⟩)) W 20 1 22 (some (.cells (lkC (lkP b).1 (lkP b).2.1 (.slice a n c)) 58 (0, 0))) = .ok (.agg ((lkP b).2.1.map B8).toArray) W := fun W => by
    rw [midOut_cells s0, x1]
  generalize lkC (lkP b).1 (lkP b).2.1 (.slice a n c) = C at *
  generalize (lkP b).1 = k at *
  generalize ((lkP b).2.1.map B8).toArray = X at *
  generalize (A.map B8).toArray = Y at *
  generalize decide ((lkP b).2.1 = A) = D at *
  have d0 := cell_is c0 (by omega)
  have hga := keep_alloc (o := .cells C 58) hg
  by_cases h1 : k = 1
  · subst h1
    have l1 : ((1 : Int) == 1) = true := rfl
    go_enter Try.func36, Try.ntmps36
    go_wp2
    go_ret
    exact ⟨by simp, (Fr.refl F0 w).alloc _⟩
  · have l1 : (k == 1) = false := beq_false_of_ne h1
    go_enter Try.func36, Try.ntmps36
    go_wp2
    go_ret
    exact ⟨by rw [decide_eq_false h1]; rfl, (Fr.refl F0 w).alloc _⟩

set_option maxHeartbeats 2000000 in
theorem tSum_any (t : TT) (cf : Nat) (caps : Array Value) (p : Int × List UInt8 × List UInt8 → Bool) (Cc : World → Prop) (w : World) (ht : t.Ok w) (hs : ∀ x ∈ t.outs, x.m.lk.length ≤ 1000)
    (eg : ∀ args w, (callFunc cf args).run Try.prog w = .ok (.enter cf args) w)
    (hch : ∀ (b : List UInt8) (a : Option Addr) (n c : Nat) (W : World), Cc W → Calls Try.prog cf (#[.agg (lkC (lkP b).1 (lkP b).2.1 (.slice a n c))] ++ caps) W fun e w' => e = .returned (.bool (p (lkP b))) ∧ Fr F0 W w')
    (hcc : ∀ W W', Cc W → Fr F0 W W' → Cc W') (hc0 : Cc w) :
    Calls Try.prog 35 #[.agg t.cells, .func (.func cf) #[] caps] w fun e w' => e = .returned (.tuple #[.int .u64 (toV 0 (pays p t.outs) : Nat), .int .i64 (toE 0 (pays p t.outs))]) ∧ Fr F0 w w' := by
  have hmf : ∀ (fn : Fn) (first cap : Array Value) (w : World), (Instr.makeFunc fn first cap).run Try.prog w = .ok (.func fn first cap) w := fun _ _ _ _ => rfl
  have hl : ∀ x ∈ pays p t.outs, x < 18446744073709551616 := by
    intro x hx
    simp only [pays, chsn, List.mem_map, List.mem_filter] at hx
    obtain ⟨y, ⟨hy, _⟩, rfl⟩ := hx
    exact (ht.outs.ok y hy).m.py
  have HT := Lib.hid (fun Bt Bc W (hb : W.heap[Bt]? = some (.cells t.cells 28 (0, 0))) (hbc : W.heap[Bc]? = some (.cells #[.func (.func cf) #[] caps] 90 (0, 0))) (f : Fr F0 w W) =>
    mTotal_seq 67 #[.pointer (some ⟨Bt, 0, none⟩), .pointer (some ⟨Bc, 0, none⟩)] (pays p t.outs) hl _ W (enters_of Try.func67 (by kernel_rfl) rfl) (sumF_seq t Bt Bc cf caps p Cc hs eg hch hcc)
      (fun _ W' f' => ⟨⟨keep_fr f' hb, keep_fr f' hbc, ht.outs.fr (f.trans' f')⟩, hcc _ _ hc0 (f.trans' f')⟩))
  generalize toV 0 (pays p t.outs) = V at *
  generalize toE 0 (pays p t.outs) = E at *
  obtain ⟨v0, a1, n1, c1, a2, n2, c2, v3, hc⟩ : ∃ (v0 : Int) (a1 : Option Addr) (n1 c1 : Nat) (a2 : Option Addr) (n2 c2 : Nat) (v3 : Int), t.cells = #[.int .u32 v0, .slice a1 n1 c1, .slice a2 n2 c2, .int .u32 v3] := ⟨_, _, _, _, _, _, _, _, rfl⟩
  rw [hc] at HT ⊢
  clear ht hs hch hcc hc0 hl hc
  obtain ⟨r2, r3⟩ := heap2 w (.cells #[.int .u32 v0, .slice a1 n1 c1, .slice a2 n2 c2, .int .u32 v3] 28) (.cells #[.func (.func cf) #[] caps] 90)
  have F : Fr F0 w ((w.alloc (.cells #[.int .u32 v0, .slice a1 n1 c1, .slice a2 n2 c2, .int .u32 v3] 28)).alloc (.cells #[.func (.func cf) #[] caps] 90)) := ((Fr.refl F0 w).alloc _).alloc _
  go_enter Try.func35, Try.ntmps35
  go_wp2_with fail
  (with_reducible refine (HT.out _ _ _ r2 r3 F).mono ?_); rintro e w2 ⟨rfl, f2⟩
  go_wp2_with fail
  go_ret2
  exact ⟨rfl, F.trans' f2⟩
set_option maxHeartbeats 1000000 in
theorem tTotal_any (t : TT) (w : World) (ht : t.Ok w) (hs : ∀ x ∈ t.outs, x.m.lk.length ≤ 1000) :
    Calls Try.prog 14 #[.agg t.cells] w fun e w' => e = .returned (.tuple #[.int .u64 (toV 0 (pays pAll t.outs) : Nat), .int .i64 (toE 0 (pays pAll t.outs))]) ∧ Fr F0 w w' := by
  have HT := Lib.hid (fun W (f : Fr F0 w W) => tSum_any t 37 #[] pAll (fun _ => True) W (ht.fr f) hs (enters_of Try.func37 (by kernel_rfl) rfl) (fun b a n c W _ => tTotalF_any _ W (LkC.of (lkP_len b) _).size) (fun _ _ _ _ => trivial) trivial)
  generalize toV 0 (pays pAll t.outs) = V at *
  generalize toE 0 (pays pAll t.outs) = E at *
  obtain ⟨v0, a1, n1, c1, a2, n2, c2, v3, hc⟩ : ∃ (v0 : Int) (a1 : Option Addr) (n1 c1 : Nat) (a2 : Option Addr) (n2 c2 : Nat) (v3 : Int), t.cells = #[.int .u32 v0, .slice a1 n1 c1, .slice a2 n2 c2, .int .u32 v3] := ⟨_, _, _, _, _, _, _, _, rfl⟩
  rw [hc] at HT ⊢
  clear ht hs hc
  have r2 := heap_alloc_new w (.cells #[.int .u32 v0, .slice a1 n1 c1, .slice a2 n2 c2, .int .u32 v3] 28)
  have F := (Fr.refl F0 w).alloc (.cells #[.int .u32 v0, .slice a1 n1 c1, .slice a2 n2 c2, .int .u32 v3] 28)
  go_enter Try.func14, Try.ntmps14
  go_wp2_with fail
  (with_reducible refine (HT.out _ F).mono ?_); rintro e w2 ⟨rfl, f2⟩
  go_wp2_with fail
  go_ret2
  exact ⟨rfl, F.trans' f2⟩
set_option maxHeartbeats 1000000 in
theorem tPaid_any (t : TT) (A : List UInt8) (hA : A.length = 20) (w : World) (ht : t.Ok w) (hs : ∀ x ∈ t.outs, x.m.lk.length ≤ 1000) :
    Calls Try.prog 13 #[.agg t.cells, .agg (A.map B8).toArray] w fun e w' => e = .returned (.tuple #[.int .u64 (toV 0 (pays (pTo A) t.outs) : Nat), .int .i64 (toE 0 (pays (pTo A) t.outs))]) ∧ Fr F0 w w' := by
  have hmf : ∀ (fn : Fn) (first cap : Array Value) (w : World), (Instr.makeFunc fn first cap).run Try.prog w = .ok (.func fn first cap) w := fun _ _ _ _ => rfl
  have HT := Lib.hid (fun ga W (f : Fr F0 w W) (hg : W.heap[ga]? = some (.cells (A.map B8).toArray 47 (0, 0))) => tSum_any t 36 #[.pointer (some ⟨ga, 0, none⟩)] (pTo A) (fun W => W.heap[ga]? = some (.cells (A.map B8).toArray 47 (0, 0))) W (ht.fr f) hs (enters_of Try.func36 (by kernel_rfl) rfl) (fun b a n c W hW => tPaidF_any A b a n c ga W hA hW) (fun _ _ h f => keep_fr f h) hg)
  generalize toV 0 (pays (pTo A) t.outs) = V at *
  generalize toE 0 (pays (pTo A) t.outs) = E at *
  obtain ⟨v0, a1, n1, c1, a2, n2, c2, v3, hc⟩ : ∃ (v0 : Int) (a1 : Option Addr) (n1 c1 : Nat) (a2 : Option Addr) (n2 c2 : Nat) (v3 : Int), t.cells = #[.int .u32 v0, .slice a1 n1 c1, .slice a2 n2 c2, .int .u32 v3] := ⟨_, _, _, _, _, _, _, _, rfl⟩
  have hsz : (A.map B8).toArray.size = 20 := by simp [hA]
  rw [hc] at HT ⊢
  generalize (A.map B8).toArray = X at *
  clear ht hs hc
  obtain ⟨r2, r3⟩ := heap2 w (.cells #[.int .u32 v0, .slice a1 n1 c1, .slice a2 n2 c2, .int .u32 v3] 28) (.cells X 47)
  have F : Fr F0 w ((w.alloc (.cells #[.int .u32 v0, .slice a1 n1 c1, .slice a2 n2 c2, .int .u32 v3] 28)).alloc (.cells X 47)) := ((Fr.refl F0 w).alloc _).alloc _
  go_enter Try.func13, Try.ntmps13
  go_wp2_with fail
  (with_reducible refine (HT.out _ _ F r3).mono ?_); rintro e w2 ⟨rfl, f2⟩
  go_wp2_with fail
  go_ret2
  exact ⟨rfl, F.trans' f2⟩
end Go.Proofs.Ythoaalnjmklclaa

/- Layer 9 (tx): lists that are appended to. -/
namespace Go.Proofs.Ythoaalnjmklclaa
set_option linter.unusedVariables false
set_option linter.unusedSimpArgs false
open Go.RowKit

theorem own_fr {S : Nat → Prop} {w w' : World} {base e size n : Nat} {v : Value} {xs : List Value} (h : w.ownsRow base e size v n xs) (hf : Fr S w w') (hs : ∀ k, v.ownBlock = some k → ¬ S k) : w'.ownsRow base e size v n xs := by
  refine ⟨h.1, ?_⟩
  rcases h.2 with hn | ⟨g, cap, cur, rfl, hb, hg, r⟩
  · exact .inl hn
  · exact .inr ⟨g, cap, cur, rfl, hb, hf.keeps (hs g rfl) hg, r⟩
/-- '[]T{x}', x a whole struct. -/
theorem run_slice1 {P : Program} (w : World) (t e : TypeId) (X : Array Value) (n : Nat) (ie : TypeInfo) (z : Value) (hu : P.underlying t = some (.slice e)) (hie : P.info? e = some ie) (hz : ie.zero = some z) (hs : ie.size = n) (h0 : 0 < n) (h1 : n ≤ 1000) (hX : X.size = n) :
    (Instr.buildSlice t 1 #[(0, .agg X)]).run P w = .ok (.slice (some ⟨w.heap.size, 0, none⟩) 1 1) (w.alloc (.cells X e)) := by
  subst hs
  refine run_buildSlice w t e 1 _ X ie z hu hie hz (by rw [Nat.one_mul]; have : 2 ^ 24 = 16777216 := rfl; omega) (by omega) ?_
  have := Great.fill_whole h0 [.agg X] ((Array.range (1 * ie.size)).map (z.cells[· % z.cells.size]!)) (fun v hv => by rw [List.mem_singleton] at hv; subst hv; exact hX) (by simp)
  simpa [Value.cells] using this
theorem one_of {l : List Value} (h : rowOne l.toArray) : ∀ u ∈ l, u.oneCell' = true := by
  unfold rowOne at h
  rw [Array.all_eq_true_iff_forall_mem] at h
  intro u hu
  exact h u (by simpa using hu)

theorem Try.infoIns : (Try.prog.info? 68).map (fun i => (i.zero, i.size, i.bytes)) = some (some (.agg (rowI zero32 (.int .u32 0) (.slice none 0 0) (.int .u32 0))), 35, 72) := by kernel_rfl
def buildIns (parts : Array (Nat × Value)) : Sem Value := Instr.buildSlice 25 1 parts
@[go_sem ↓ high] theorem build_Ins (p : Array (Nat × Value)) : Instr.buildSlice 25 1 p = buildIns p := rfl
theorem run_buildIns (w : World) (X : Array Value) (h : X.size = 35) : (buildIns #[(0, .agg X)]).run Try.prog w = .ok (.slice (some ⟨w.heap.size, 0, none⟩) 1 1) (w.alloc (.cells X 68)) := by
  obtain ⟨i0, hi, hz, hs, _⟩ := info_parts Try.infoIns
  exact run_slice1 w 25 68 X 35 i0 _ Try.underlying25 hi hz hs (by omega) (by omega) h
def appIns (ty : TypeId) (args : Array Value) : Sem Value := Builtin.append_ #[25, 25] ty args
@[go_sem ↓ high] theorem app_Ins (ty : TypeId) (args : Array Value) : Builtin.append_ #[25, 25] ty args = appIns ty args := rfl
/-- A list that the call itself has made: its blocks are B or later ones. -/
structure OwnIns (B : Nat) (w : World) (v : Value) (l : List TI) : Prop where
  own : w.ownsRow 0 68 35 v l.length (l.flatMap TI.row)
  blk : ∀ k, v.ownBlock = some k → B ≤ k
  ok : ∀ x ∈ l, x.Ok w
  new : ∀ x ∈ l, x.m.ky ≠ [] → ∀ k, ablk x.a = some k → B ≤ k ∧ v.ownBlock ≠ some k
theorem OwnIns.nil (B : Nat) (w : World) : OwnIns B w (.slice none 0 0) [] := ⟨World.ownsRow_nil _ _ _ _, fun k h => (by cases h), fun x h => (by cases h), fun x h => (by cases h)⟩
theorem OwnIns.fr {B : Nat} {S : Nat → Prop} {w w' : World} {v : Value} {l : List TI} (h : OwnIns B w v l) (f : Fr S w w') (hs : ∀ k, S k → k < B) : OwnIns B w' v l :=
  ⟨own_fr h.own f fun k hk e => by have h1 := h.blk k hk; have h2 := hs k e; omega, h.blk, fun x hx => ⟨(h.ok x hx).m, (h.ok x hx).b.frx f fun hn k hk e => by have h1 := (h.new x hx hn k hk).1; have h2 := hs k e; omega⟩, h.new⟩
theorem OwnIns.frS {B : Nat} {S : Nat → Prop} {w w' : World} {v : Value} {l : List TI} (h : OwnIns B w v l) (f : Fr S w w') (h1 : ∀ k, v.ownBlock = some k → ¬ S k) (h2 : ∀ x ∈ l, x.m.ky ≠ [] → ∀ k, ablk x.a = some k → ¬ S k) : OwnIns B w' v l :=
  ⟨own_fr h.own f h1, h.blk, fun x hx => ⟨(h.ok x hx).m, (h.ok x hx).b.frx f (h2 x hx)⟩, h.new⟩
theorem OwnIns.lt {B : Nat} {w : World} {v : Value} {l : List TI} (h : OwnIns B w v l) : ∀ k, v.ownBlock = some k → k < w.heap.size := fun k hk => (World.ownsRow.lt h.own k hk).2
/-- The slice of it, as what is read. -/
theorem OwnIns.is {B : Nat} {w : World} {v : Value} {l : List TI} (h : OwnIns B w v l) : ∃ a c, v = .slice a l.length c ∧ TIs w a c l := by
  obtain ⟨a, c, rfl⟩ := own_slice h.own
  exact ⟨a, c, rfl, (Sl.of_own h.own).2, h.ok⟩
/-- One more. -/
theorem OwnIns.app {B : Nat} {w : World} {v : Value} {l : List TI} (h : OwnIns B w v l) (x : TI) (hx : x.Ok w) (hn : x.m.ky ≠ [] → ∀ k, ablk x.a = some k → B ≤ k ∧ v.ownBlock ≠ some k) (hB : B ≤ w.heap.size) (hl : l.length ≤ 100000) (ty : TypeId) :
    ∃ a c w', (appIns ty #[v, .slice (some ⟨w.heap.size, 0, none⟩) 1 1]).run Try.prog (w.alloc (.cells x.row.toArray 68)) = .ok (.slice a (l.length + 1) c) w' ∧ OwnIns B w' (.slice a (l.length + 1) c) (l ++ [x]) ∧
      Fr (fun k => v.ownBlock = some k) w w' ∧ w.heap.size < w'.heap.size ∧ ∀ k, ablk a = some k → v.ownBlock = some k ∨ w.heap.size ≤ k := by
  obtain ⟨i0, hi, hz, hs, hb⟩ := info_parts Try.infoIns
  have hr : x.row.length = 35 := TI.row_length hx.m
  obtain ⟨W, hW⟩ : ∃ W, W = w.alloc (.cells x.row.toArray 68) := ⟨_, rfl⟩
  have hnew := heap_alloc_new w (.cells x.row.toArray 68)
  have fW : Fr F0 w W := by rw [hW]; exact (Fr.refl F0 w).alloc _
  have sW : W.heap.size = w.heap.size + 1 := by rw [hW]; simp
  rw [← hW] at hnew ⊢
  have hsl : Sl W 35 (some ⟨w.heap.size, 0, none⟩) 1 1 x.row := ⟨by rw [hr, Nat.one_mul], Nat.le_refl _, by unfold maxLen; omega, (fun e => by cases e), fun j u hj => ⟨_, _, rfl, by rw [cell_at, hnew, cellAt_cells, Nat.zero_add]; simpa using hj⟩⟩
  obtain ⟨v', w', hrun, hown, hg, hnw⟩ := run_app (P := Try.prog) (w := W) 25 ty 68 i0 _ 35 72 Try.underlying25 hi hz hs hb rfl (by omega) v l.length _ (own_fr h.own fW fun _ _ f => f) (some ⟨w.heap.size, 0, none⟩) 1 1 x.row hsl
    (by exact one_of (TI.cellsOf hx.m).one) (by unfold maxLen; omega) (by omega)
  obtain ⟨a, c, rfl⟩ := own_slice hown
  have F : Fr (fun k => v.ownBlock = some k) w w' := (fW.of0).grown hg fun k hk hl => hk
  have hnw' : ∀ k, ablk a = some k → v.ownBlock = some k ∨ w.heap.size ≤ k := fun k hk => by
    rcases hnw k (by rw [ablk_own]; exact hk) with e | e
    · exact .inl e
    · exact .inr (by omega)
  refine ⟨a, c, w', hrun, ⟨?_, fun k hk => ?_, fun y hy => ?_, fun y hy hne k hk => ?_⟩, F, by have := hg.size; omega, hnw'⟩
  · rw [List.length_append, List.flatMap_append]
    simpa using hown
  · rw [ablk_own] at hk
    rcases hnw' k hk with e | e
    · exact h.blk k e
    · omega
  · rw [List.mem_append, List.mem_singleton] at hy
    rcases hy with hy | rfl
    · exact ⟨(h.ok y hy).m, (h.ok y hy).b.frx F fun hne k hk e => (h.new y hy hne k hk).2 e⟩
    · exact ⟨hx.m, hx.b.frx F fun hne k hk e => (hn hne k hk).2 e⟩
  · rw [List.mem_append, List.mem_singleton] at hy
    have hlow : k < w.heap.size := by
      rcases hy with hy | rfl
      · exact (h.ok y hy).b.low hne k hk
      · exact hx.b.low hne k hk
    have hold : B ≤ k ∧ v.ownBlock ≠ some k := by
      rcases hy with hy | rfl
      · exact h.new y hy hne k hk
      · exact hn hne k hk
    refine ⟨hold.1, fun e => ?_⟩
    rw [ablk_own] at e
    rcases hnw' k e with e' | e'
    · exact hold.2 e'
    · omega

theorem Try.infoOuts : (Try.prog.info? 55).map (fun i => (i.zero, i.size, i.bytes)) = some (some (.agg #[.int .u64 0, .slice none 0 0]), 2, 32) := by kernel_rfl
def buildOuts (parts : Array (Nat × Value)) : Sem Value := Instr.buildSlice 26 1 parts
@[go_sem ↓ high] theorem build_Outs (p : Array (Nat × Value)) : Instr.buildSlice 26 1 p = buildOuts p := rfl
theorem run_buildOuts (w : World) (X : Array Value) (h : X.size = 2) : (buildOuts #[(0, .agg X)]).run Try.prog w = .ok (.slice (some ⟨w.heap.size, 0, none⟩) 1 1) (w.alloc (.cells X 55)) := by
  obtain ⟨i0, hi, hz, hs, _⟩ := info_parts Try.infoOuts
  exact run_slice1 w 26 55 X 2 i0 _ Try.underlying26 hi hz hs (by omega) (by omega) h
def appOuts (ty : TypeId) (args : Array Value) : Sem Value := Builtin.append_ #[26, 26] ty args
@[go_sem ↓ high] theorem app_Outs (ty : TypeId) (args : Array Value) : Builtin.append_ #[26, 26] ty args = appOuts ty args := rfl
/-- A list that the call itself has made: its blocks are B or later ones. -/
structure OwnOuts (B : Nat) (w : World) (v : Value) (l : List TO) : Prop where
  own : w.ownsRow 0 55 2 v l.length (l.flatMap TO.row)
  blk : ∀ k, v.ownBlock = some k → B ≤ k
  ok : ∀ x ∈ l, x.Ok w
  new : ∀ x ∈ l, x.m.lk ≠ [] → ∀ k, ablk x.a = some k → B ≤ k ∧ v.ownBlock ≠ some k
theorem OwnOuts.nil (B : Nat) (w : World) : OwnOuts B w (.slice none 0 0) [] := ⟨World.ownsRow_nil _ _ _ _, fun k h => (by cases h), fun x h => (by cases h), fun x h => (by cases h)⟩
theorem OwnOuts.fr {B : Nat} {S : Nat → Prop} {w w' : World} {v : Value} {l : List TO} (h : OwnOuts B w v l) (f : Fr S w w') (hs : ∀ k, S k → k < B) : OwnOuts B w' v l :=
  ⟨own_fr h.own f fun k hk e => by have h1 := h.blk k hk; have h2 := hs k e; omega, h.blk, fun x hx => ⟨(h.ok x hx).m, (h.ok x hx).b.frx f fun hn k hk e => by have h1 := (h.new x hx hn k hk).1; have h2 := hs k e; omega⟩, h.new⟩
theorem OwnOuts.frS {B : Nat} {S : Nat → Prop} {w w' : World} {v : Value} {l : List TO} (h : OwnOuts B w v l) (f : Fr S w w') (h1 : ∀ k, v.ownBlock = some k → ¬ S k) (h2 : ∀ x ∈ l, x.m.lk ≠ [] → ∀ k, ablk x.a = some k → ¬ S k) : OwnOuts B w' v l :=
  ⟨own_fr h.own f h1, h.blk, fun x hx => ⟨(h.ok x hx).m, (h.ok x hx).b.frx f (h2 x hx)⟩, h.new⟩
theorem OwnOuts.lt {B : Nat} {w : World} {v : Value} {l : List TO} (h : OwnOuts B w v l) : ∀ k, v.ownBlock = some k → k < w.heap.size := fun k hk => (World.ownsRow.lt h.own k hk).2
/-- The slice of it, as what is read. -/
theorem OwnOuts.is {B : Nat} {w : World} {v : Value} {l : List TO} (h : OwnOuts B w v l) : ∃ a c, v = .slice a l.length c ∧ TOs w a c l := by
  obtain ⟨a, c, rfl⟩ := own_slice h.own
  exact ⟨a, c, rfl, (Sl.of_own h.own).2, h.ok⟩
/-- One more. -/
theorem OwnOuts.app {B : Nat} {w : World} {v : Value} {l : List TO} (h : OwnOuts B w v l) (x : TO) (hx : x.Ok w) (hn : x.m.lk ≠ [] → ∀ k, ablk x.a = some k → B ≤ k ∧ v.ownBlock ≠ some k) (hB : B ≤ w.heap.size) (hl : l.length ≤ 100000) (ty : TypeId) :
    ∃ a c w', (appOuts ty #[v, .slice (some ⟨w.heap.size, 0, none⟩) 1 1]).run Try.prog (w.alloc (.cells x.row.toArray 55)) = .ok (.slice a (l.length + 1) c) w' ∧ OwnOuts B w' (.slice a (l.length + 1) c) (l ++ [x]) ∧
      Fr (fun k => v.ownBlock = some k) w w' ∧ w.heap.size < w'.heap.size ∧ ∀ k, ablk a = some k → v.ownBlock = some k ∨ w.heap.size ≤ k := by
  obtain ⟨i0, hi, hz, hs, hb⟩ := info_parts Try.infoOuts
  have hr : x.row.length = 2 := TO.row_length x
  obtain ⟨W, hW⟩ : ∃ W, W = w.alloc (.cells x.row.toArray 55) := ⟨_, rfl⟩
  have hnew := heap_alloc_new w (.cells x.row.toArray 55)
  have fW : Fr F0 w W := by rw [hW]; exact (Fr.refl F0 w).alloc _
  have sW : W.heap.size = w.heap.size + 1 := by rw [hW]; simp
  rw [← hW] at hnew ⊢
  have hsl : Sl W 2 (some ⟨w.heap.size, 0, none⟩) 1 1 x.row := ⟨by rw [hr, Nat.one_mul], Nat.le_refl _, by unfold maxLen; omega, (fun e => by cases e), fun j u hj => ⟨_, _, rfl, by rw [cell_at, hnew, cellAt_cells, Nat.zero_add]; simpa using hj⟩⟩
  obtain ⟨v', w', hrun, hown, hg, hnw⟩ := run_app (P := Try.prog) (w := W) 26 ty 55 i0 _ 2 32 Try.underlying26 hi hz hs hb rfl (by omega) v l.length _ (own_fr h.own fW fun _ _ f => f) (some ⟨w.heap.size, 0, none⟩) 1 1 x.row hsl
    (by exact one_of (TO.one x)) (by unfold maxLen; omega) (by omega)
  obtain ⟨a, c, rfl⟩ := own_slice hown
  have F : Fr (fun k => v.ownBlock = some k) w w' := (fW.of0).grown hg fun k hk hl => hk
  have hnw' : ∀ k, ablk a = some k → v.ownBlock = some k ∨ w.heap.size ≤ k := fun k hk => by
    rcases hnw k (by rw [ablk_own]; exact hk) with e | e
    · exact .inl e
    · exact .inr (by omega)
  refine ⟨a, c, w', hrun, ⟨?_, fun k hk => ?_, fun y hy => ?_, fun y hy hne k hk => ?_⟩, F, by have := hg.size; omega, hnw'⟩
  · rw [List.length_append, List.flatMap_append]
    simpa using hown
  · rw [ablk_own] at hk
    rcases hnw' k hk with e | e
    · exact h.blk k e
    · omega
  · rw [List.mem_append, List.mem_singleton] at hy
    rcases hy with hy | rfl
    · exact ⟨(h.ok y hy).m, (h.ok y hy).b.frx F fun hne k hk e => (h.new y hy hne k hk).2 e⟩
    · exact ⟨hx.m, hx.b.frx F fun hne k hk e => (hn hne k hk).2 e⟩
  · rw [List.mem_append, List.mem_singleton] at hy
    have hlow : k < w.heap.size := by
      rcases hy with hy | rfl
      · exact (h.ok y hy).b.low hne k hk
      · exact hx.b.low hne k hk
    have hold : B ≤ k ∧ v.ownBlock ≠ some k := by
      rcases hy with hy | rfl
      · exact h.new y hy hne k hk
      · exact hn hne k hk
    refine ⟨hold.1, fun e => ?_⟩
    rw [ablk_own] at e
    rcases hnw' k e with e' | e'
    · exact hold.2 e'
    · omega
end Go.Proofs.Ythoaalnjmklclaa

/- Layer 9 (tx): read and Parse. -/
namespace Go.Proofs.Ythoaalnjmklclaa
set_option linter.unusedVariables false
set_option linter.unusedSimpArgs false
open Go.RowKit

theorem Try.szTx : (Try.prog.info? 28).map (·.size) = some 4 := by kernel_rfl
theorem rMany_succ {α : Type} (f : Option (List UInt8) → α × Option (List UInt8)) (n : Nat) (st : Option (List UInt8)) : rMany f (n + 1) st = ((rMany f n st).1 ++ [(f (rMany f n st).2).1], (f (rMany f n st).2).2) := rfl

theorem RI.count64 {B b : Nat} {st : Option (List UInt8)} {w : World} (h : RI B b st w) (hl : lft st ≤ 1000000) :
    Calls Try.prog 51 #[.pointer (some ⟨b, 0, none⟩), .int .u64 64] w fun e w' => e = .returned (.int .u64 (rc 64 st).1) ∧ RI B b (rc 64 st).2 w' ∧ Fr (fun k => k = b) w w' := h.count 64 (by omega) hl
theorem OwnIns.mono {B B' : Nat} {w : World} {v : Value} {l : List TI} (h : OwnIns B w v l) (hb : B' ≤ B) : OwnIns B' w v l := ⟨h.own, fun k hk => Nat.le_trans hb (h.blk k hk), h.ok, fun x hx hn k hk => ⟨Nat.le_trans hb (h.new x hx hn k hk).1, (h.new x hx hn k hk).2⟩⟩
theorem OwnOuts.mono {B B' : Nat} {w : World} {v : Value} {l : List TO} (h : OwnOuts B w v l) (hb : B' ≤ B) : OwnOuts B' w v l := ⟨h.own, fun k hk => Nat.le_trans hb (h.blk k hk), h.ok, fun x hx hn k hk => ⟨Nat.le_trans hb (h.new x hx hn k hk).1, (h.new x hx hn k hk).2⟩⟩

set_option maxRecDepth 100000 in
set_option maxHeartbeats 16000000 in
theorem tRead_any (b : Nat) (st : Option (List UInt8)) (w : World) (h : RI w.heap.size b st w) (hl : lft st ≤ 1000000) :
    Calls Try.prog 24 #[.pointer (some ⟨b, 0, none⟩)] w fun e w' => ∃ (t : TT) (vi vo : Value), e = .returned (.agg t.cells) ∧ t.m = (rTx st).1 ∧ t.vr < 4294967296 ∧ t.lt < 4294967296 ∧ vi = .slice t.ia t.ins.length t.ic ∧ vo = .slice t.oa t.outs.length t.oc ∧
      OwnIns w.heap.size w' vi t.ins ∧ OwnOuts w.heap.size w' vo t.outs ∧ RI w.heap.size b (rTx st).2 w' ∧ Fr (fun k => k = b) w w' := by
  obtain ⟨B, hB⟩ : ∃ B, B = w.heap.size := ⟨_, rfl⟩
  rw [← hB] at h ⊢
  have hbB := h.lt
  obtain ⟨v0, hv0⟩ : ∃ v, v = (rW st).1 := ⟨_, rfl⟩
  obtain ⟨s0, hs0⟩ : ∃ s, s = (rW st).2 := ⟨_, rfl⟩
  obtain ⟨n, hn⟩ : ∃ n, n = (rc 64 s0).1 := ⟨_, rfl⟩
  obtain ⟨s1, hs1⟩ : ∃ s, s = (rc 64 s0).2 := ⟨_, rfl⟩
  obtain ⟨s2, hs2⟩ : ∃ s, s = (rMany rIn n s1).2 := ⟨_, rfl⟩
  obtain ⟨m, hm⟩ : ∃ n, n = (rc 64 s2).1 := ⟨_, rfl⟩
  obtain ⟨s3, hs3⟩ : ∃ s, s = (rc 64 s2).2 := ⟨_, rfl⟩
  obtain ⟨s4, hs4⟩ : ∃ s, s = (rMany rOut m s3).2 := ⟨_, rfl⟩
  have eT : rTx st = (⟨v0, (rMany rIn n s1).1, (rMany rOut m s3).1, (rW s4).1⟩, (rW s4).2) := by rw [rTx, hv0, hs4, hm, hs3, hs2, hn, hs1, hs0]
  have k0 : lft s0 ≤ lft st := by rw [hs0]; exact rW_lft st
  have k1 : lft s1 ≤ lft s0 := by rw [hs1]; exact rc_lft 64 s0
  have k2 : ∀ k, lft (rMany rIn k s1).2 ≤ lft s1 := fun k => rMany_lft rIn rIn_lft k s1
  have k2' : lft s2 ≤ lft s1 := by rw [hs2]; exact k2 n
  have k3 : lft s3 ≤ lft s2 := by rw [hs3]; exact rc_lft 64 s2
  have k4 : ∀ k, lft (rMany rOut k s3).2 ≤ lft s3 := fun k => rMany_lft rOut rOut_lft k s3
  have k4' : lft s4 ≤ lft s3 := by rw [hs4]; exact k4 m
  have n64 : n ≤ 64 := by rw [hn]; exact rc_le 64 s0
  have m64 : m ≤ 64 := by rw [hm]; exact rc_le 64 s2
  have x0 := tk4_lt st
  replace x0 : (rW st).1 < 4294967296 := x0
  have x4 := tk4_lt s4
  replace x4 : (rW s4).1 < 4294967296 := x4
  have H0 := Lib.hid (fun W (r : RI B b st W) => tWord_any B b _ W r hl)
  have H1 := Lib.hid (fun W (r : RI B b s0 W) => r.count64 (by omega))
  have H2 := Lib.hid (fun k W (r : RI B b (rMany rIn k s1).2 W) (hs : B ≤ W.heap.size) => tReadIn_any B b _ W r hs (by have := k2 k; omega))
  have H3 := Lib.hid (fun W (r : RI B b s2 W) => r.count64 (by omega))
  have H4 := Lib.hid (fun k W (r : RI B b (rMany rOut k s3).2 W) (hs : B ≤ W.heap.size) => tReadOut_any B b _ W r hs (by have := k4 k; omega))
  have H5 := Lib.hid (fun W (r : RI B b s4 W) => tWord_any B b _ W r (by omega))
  rw [← hv0] at x0 H0
  rw [← hs0] at H0
  rw [← hn, ← hs1] at H1
  rw [← hm, ← hs3] at H3
  obtain ⟨v5, hv5⟩ : ∃ v, v = (rW s4).1 := ⟨_, rfl⟩
  obtain ⟨s5, hs5⟩ : ∃ s, s = (rW s4).2 := ⟨_, rfl⟩
  rw [← hv5, ← hs5] at H5 eT
  rw [← hv5] at x4
  rw [eT]
  replace hs2 := Lib.hid hs2
  replace hs4 := Lib.hid hs4
  clear eT hv0 hs0 hn hs1 hm hs3 hv5 hs5 k0 k1 k2 k2' k3 k4 k4'
  go_enter Try.func24, Try.ntmps24
  go_upto_region 1 with fail
  refine wp_new fun W1 N1 => ?_
  have r2 := N1.new
  have F := N1.fr
  have R1 := h.fr0 F
  obtain ⟨g2, hg2⟩ : ∃ g, g = w.heap.size := ⟨_, rfl⟩
  rw [← hg2] at r2 ⊢
  have nb2 : g2 ≠ b := by omega
  replace hg2 := Lib.hid (show B ≤ g2 by omega)
  clear N1 h
  go_wp2_with fail
  (with_reducible refine (H0.out _ R1).mono ?_); rintro e w3 ⟨rfl, R3, f3⟩
  replace r2 := f3.keeps (fun e => nb2 e) r2
  have F3 : Fr (fun k => k = b) w w3 := F.of0.trans' f3
  have hbld : ∀ w, (Instr.build 28 #[(0, .int .u32 (v0 : Int))]).run Try.prog w = .ok (.agg #[.int .u32 (v0 : Int), .slice none 0 0, .slice none 0 0, .int .u32 0]) w := fun w => run_build w _ _ _ (by kernel_rfl)
  clear F f3 R1 H0
  clear hbld
  go_upto_region 2 with fail
  refine wp_new fun W4 N4 => ?_
  have r3 := N4.new
  have r2w := r2
  replace r2 := N4.old r2
  obtain ⟨g3, hg3⟩ : ∃ g, g = w3.heap.size := ⟨_, rfl⟩
  rw [← hg3] at r3 ⊢
  have R4 := R3.fr0 N4.fr
  have hs3 : B ≤ g3 := by rw [hg3, hB]; exact F3.size
  have F4 : Fr (fun k => k = b) w W4 := F3.trans N4.fr (fun i hi e => e.elim)
  have nb3 : g3 ≠ b := by omega
  have ne : g2 ≠ g3 := by rw [hg3]; exact N4.ne r2w
  obtain ⟨B4, hB4⟩ : ∃ x, x = W4.heap.size := ⟨_, rfl⟩
  have hlt3 : g3 < B4 := by rw [hB4]; exact (Array.getElem?_eq_some_iff.1 r3).1
  have hlt2 : g2 < B4 := by rw [hB4]; exact (Array.getElem?_eq_some_iff.1 r2).1
  replace hs3 := Lib.hid (show B ≤ g3 ∧ B ≤ g2 ∧ g3 < B4 ∧ g2 < B4 ∧ B4 ≤ W4.heap.size ∧ B ≤ B4 from ⟨hs3, hg2.out, hlt3, hlt2, Nat.le_of_eq hB4, by omega⟩)
  clear N4 hg3 F3 R3 hlt3 hlt2 hB4
  go_wp2_with fail
  (with_reducible refine (H1.out _ R4).mono ?_); rintro e w5 ⟨rfl, R5, f5⟩
  replace r2 := f5.keeps (fun e => nb2 e) r2
  replace r3 := f5.keeps (fun e => nb3 e) r3
  replace F4 := F4.trans' f5
  have hs5 := Lib.hid f5.size
  clear f5 R4 H1
  go_wp2_with fail
  go_loopw [9] (fun iv wr => ∃ (k : Nat) (l : List TI) (vi : Value), k ≤ n ∧ iv = .int .u64 (k : Int) ∧ Hid (l.map TI.m = (rMany rIn k s1).1) ∧ wr.heap[g3]? = some (.cells #[.int .u32 (v0 : Int), vi, .slice none 0 0, .int .u32 0] 28 (0, 0)) ∧
    wr.heap[g2]? = some (.cells #[.int .u32 0, .slice none 0 0, .slice none 0 0, .int .u32 0] 28 (0, 0)) ∧ Hid (OwnIns B4 wr vi l) ∧ RI B b (rMany rIn k s1).2 wr ∧ Fr (fun k => k = b) w wr ∧ Hid (W4.heap.size ≤ wr.heap.size)) (fun iv _ => n - (intOf iv).toNat)
  case atStart => exact ⟨0, [], _, Nat.zero_le _, rfl, rfl, r3, r2, OwnIns.nil _ _, R5, F4, hs5.out⟩
  case round =>
    obtain ⟨k, l, vi, hk, rfl, hl0, q3, q2, HO, hR, hF, hz⟩ := hrel
    clear r3 r2 R5 F4
    by_cases hkn : k < n
    · have l1 : (k : Int) < (n : Int) := by omega
      have hlen : l.length = k := by have := congrArg List.length hl0.out; simpa [rMany_len] using this
      have q3d := keep_drew q3
      have hRd := hR.fr0 (Fr.refl F0 _).drew
      have hOd := Lib.hid (HO.out.frS ((Fr.refl F0 _).drew) (fun _ _ f => f) (fun _ _ _ _ _ f => f))
      have hszd := Lib.hid (show B4 ≤ wr.drew.heap.size ∧ B ≤ wr.drew.heap.size from ⟨Nat.le_trans hs3.out.2.2.2.2.1 hz.out, Nat.le_trans hs3.out.2.2.2.2.2 (Nat.le_trans hs3.out.2.2.2.2.1 hz.out)⟩)
      have HC := Lib.hid (H2.out k _ hRd hszd.out.2)
      have hFd : Fr (fun k => k = b) w wr.drew := hF.drew
      clear hRd HO hF hR
      go_upto_region 4 with fail
      refine wp_region_noPanic ?_
      refine wp_region_held_drew (S := (fun w' => True)) (by kernel_rfl) ?_ (fun hHeld => ?_)
      · ((try dsimp only) <;> (trivial))
      refine rtake 0 ?_
      refine rtake 2 ?_
      refine wpAnyH_ready (rs := [1, 3]) (by kernel_rfl) (by simp) ?_
      refine AllReadyH.cons (o := ⟨_, _, _, _, _, _⟩) rfl (fun K hK => ?_) (AllReadyH.cons (o := ⟨_, _, _, _, _, _⟩) rfl (fun K hK => ?_) AllReadyH.nil)
      go_simp
      refine hK.out _ _ ?_ (fun hHeld => ?_)
      · ((try dsimp only) <;> (trivial))
      clear hK K
      try (simp only [Act.put, List.setIfInBounds_toArray]; dsimp only [List.set_cons_zero, List.set_cons_succ])
      refine wpAnyH_ready (rs := [3]) (by kernel_rfl) (by simp) ?_
      refine AllReadyH.cons (o := ⟨_, _, _, _, _, _⟩) rfl (fun K hK => ?_) AllReadyH.nil
      go_simp
      ((with_reducible refine HC.out.mono ?_); rintro e w6 ⟨x, rfl, hx, hm6, R6, f6, n6⟩; have q36 := f6.keeps (fun e => nb3 e) q3d; have O6 := Lib.hid (hOd.out.fr f6 (fun k e => by have := hs3.out; omega)); have q36a : (w6.alloc (.cells x.row.toArray 68)).heap[g3]? = _ := keep_alloc q36; have hbld := run_buildIns w6 x.row.toArray (TI.row_length hx.m); have hxn : x.m.ky ≠ [] → ∀ k, ablk x.a = some k → B4 ≤ k ∧ vi.ownBlock ≠ some k := (fun _ k hk => by have h1 := n6 k hk; have h2 := hszd.out; exact ⟨by omega, fun e => by have := hOd.out.lt k e; omega⟩); have happ := fun ty => O6.out.app x hx hxn (by have := hszd.out; have := f6.size; omega) (by omega) ty; obtain ⟨a7, c7, w7, happ, O7, f7, s7, n7⟩ := happ 25; have q37 := f7.keeps (fun e => by have h1 := O6.out.blk g3 e; have h2 := hs3.out; omega) q36)
      refine hK.out _ _ ?_ (fun hHeld => ?_)
      · ((try dsimp only) <;> (trivial))
      clear hK K
      try (simp only [Act.put, List.setIfInBounds_toArray]; dsimp only [List.set_cons_zero, List.set_cons_succ])
      refine wpAnyH_ready (rs := [4]) (by kernel_rfl) (by simp) ?_
      refine AllReadyH.cons (o := ⟨_, _, _, _, _, _⟩) rfl (fun K hK => ?_) AllReadyH.nil
      go_simp
      refine hK.out _ _ ?_ (fun hHeld => ?_)
      · ((try dsimp only) <;> (trivial))
      clear hK K
      try (simp only [Act.put, List.setIfInBounds_toArray]; dsimp only [List.set_cons_zero, List.set_cons_succ])
      refine wpAnyH_ready (rs := [5]) (by kernel_rfl) (by simp) ?_
      refine AllReadyH.cons (o := ⟨_, _, _, _, _, _⟩) rfl (fun K hK => ?_) AllReadyH.nil
      go_simp
      refine hK.out _ _ ?_ (fun hHeld => ?_)
      · ((try dsimp only) <;> (trivial))
      clear hK K
      try (simp only [Act.put, List.setIfInBounds_toArray]; dsimp only [List.set_cons_zero, List.set_cons_succ])
      refine rtake 6 ?_
      refine wpAnyH_ready (rs := [7]) (by kernel_rfl) (by simp) ?_
      refine AllReadyH.cons (o := ⟨_, _, _, _, _, _⟩) rfl (fun K hK => ?_) AllReadyH.nil
      go_simp
      refine hK.out _ _ ?_ (fun hHeld => ?_)
      · ((try dsimp only) <;> (trivial))
      clear hK K
      try (simp only [Act.put, List.setIfInBounds_toArray]; dsimp only [List.set_cons_zero, List.set_cons_succ])
      refine wpAnyH_done (by kernel_rfl) ?_ _
      refine NoPanic.normal ?_
      rotate_left
      go_simp
      ((with_reducible refine HC.out.mono ?_); rintro e w6 ⟨x, rfl, hx, hm6, R6, f6, n6⟩; have q36 := f6.keeps (fun e => nb3 e) q3d; have O6 := Lib.hid (hOd.out.fr f6 (fun k e => by have := hs3.out; omega)); have q36a : (w6.alloc (.cells x.row.toArray 68)).heap[g3]? = _ := keep_alloc q36; have hbld := run_buildIns w6 x.row.toArray (TI.row_length hx.m); have hxn : x.m.ky ≠ [] → ∀ k, ablk x.a = some k → B4 ≤ k ∧ vi.ownBlock ≠ some k := (fun _ k hk => by have h1 := n6 k hk; have h2 := hszd.out; exact ⟨by omega, fun e => by have := hOd.out.lt k e; omega⟩); have happ := fun ty => O6.out.app x hx hxn (by have := hszd.out; have := f6.size; omega) (by omega) ty; obtain ⟨a7, c7, w7, happ, O7, f7, s7, n7⟩ := happ 25; have q37 := f7.keeps (fun e => by have h1 := O6.out.blk g3 e; have h2 := hs3.out; omega) q36)
      refine hK.out _ _ ?_ (fun hHeld => ?_)
      · ((try dsimp only) <;> (trivial))
      clear hK K
      try (simp only [Act.put, List.setIfInBounds_toArray]; dsimp only [List.set_cons_zero, List.set_cons_succ])
      refine wpAnyH_ready (rs := [1, 4]) (by kernel_rfl) (by simp) ?_
      refine AllReadyH.cons (o := ⟨_, _, _, _, _, _⟩) rfl (fun K hK => ?_) (AllReadyH.cons (o := ⟨_, _, _, _, _, _⟩) rfl (fun K hK => ?_) AllReadyH.nil)
      go_simp
      refine hK.out _ _ ?_ (fun hHeld => ?_)
      · ((try dsimp only) <;> (trivial))
      clear hK K
      try (simp only [Act.put, List.setIfInBounds_toArray]; dsimp only [List.set_cons_zero, List.set_cons_succ])
      refine wpAnyH_ready (rs := [4]) (by kernel_rfl) (by simp) ?_
      refine AllReadyH.cons (o := ⟨_, _, _, _, _, _⟩) rfl (fun K hK => ?_) AllReadyH.nil
      go_simp
      refine hK.out _ _ ?_ (fun hHeld => ?_)
      · ((try dsimp only) <;> (trivial))
      clear hK K
      try (simp only [Act.put, List.setIfInBounds_toArray]; dsimp only [List.set_cons_zero, List.set_cons_succ])
      refine wpAnyH_ready (rs := [5]) (by kernel_rfl) (by simp) ?_
      refine AllReadyH.cons (o := ⟨_, _, _, _, _, _⟩) rfl (fun K hK => ?_) AllReadyH.nil
      go_simp
      refine hK.out _ _ ?_ (fun hHeld => ?_)
      · ((try dsimp only) <;> (trivial))
      clear hK K
      try (simp only [Act.put, List.setIfInBounds_toArray]; dsimp only [List.set_cons_zero, List.set_cons_succ])
      refine rtake 6 ?_
      refine wpAnyH_ready (rs := [7]) (by kernel_rfl) (by simp) ?_
      refine AllReadyH.cons (o := ⟨_, _, _, _, _, _⟩) rfl (fun K hK => ?_) AllReadyH.nil
      go_simp
      refine hK.out _ _ ?_ (fun hHeld => ?_)
      · ((try dsimp only) <;> (trivial))
      clear hK K
      try (simp only [Act.put, List.setIfInBounds_toArray]; dsimp only [List.set_cons_zero, List.set_cons_succ])
      refine wpAnyH_done (by kernel_rfl) ?_ _
      refine NoPanic.normal ?_
      rotate_left
      go_simp
      refine hK.out _ _ ?_ (fun hHeld => ?_)
      · ((try dsimp only) <;> (trivial))
      clear hK K
      try (simp only [Act.put, List.setIfInBounds_toArray]; dsimp only [List.set_cons_zero, List.set_cons_succ])
      refine wpAnyH_ready (rs := [1]) (by kernel_rfl) (by simp) ?_
      refine AllReadyH.cons (o := ⟨_, _, _, _, _, _⟩) rfl (fun K hK => ?_) AllReadyH.nil
      go_simp
      refine hK.out _ _ ?_ (fun hHeld => ?_)
      · ((try dsimp only) <;> (trivial))
      clear hK K
      try (simp only [Act.put, List.setIfInBounds_toArray]; dsimp only [List.set_cons_zero, List.set_cons_succ])
      refine wpAnyH_ready (rs := [5]) (by kernel_rfl) (by simp) ?_
      refine AllReadyH.cons (o := ⟨_, _, _, _, _, _⟩) rfl (fun K hK => ?_) AllReadyH.nil
      go_simp
      refine hK.out _ _ ?_ (fun hHeld => ?_)
      · ((try dsimp only) <;> (trivial))
      clear hK K
      try (simp only [Act.put, List.setIfInBounds_toArray]; dsimp only [List.set_cons_zero, List.set_cons_succ])
      refine rtake 6 ?_
      refine wpAnyH_ready (rs := [7]) (by kernel_rfl) (by simp) ?_
      refine AllReadyH.cons (o := ⟨_, _, _, _, _, _⟩) rfl (fun K hK => ?_) AllReadyH.nil
      go_simp
      refine hK.out _ _ ?_ (fun hHeld => ?_)
      · ((try dsimp only) <;> (trivial))
      clear hK K
      try (simp only [Act.put, List.setIfInBounds_toArray]; dsimp only [List.set_cons_zero, List.set_cons_succ])
      refine wpAnyH_done (by kernel_rfl) ?_ _
      refine NoPanic.normal ?_
      rotate_left
      all_goals
        have q27 := f7.keeps (fun e => by have h1 := O6.out.blk g2 e; have h2 := hs3.out; omega) (f6.keeps (fun e => nb2 e) (keep_drew q2))
        have R7 := R6.fr f7 (fun i e => by have h1 := O6.out.blk i e; have h2 := hs3.out; omega)
        have F7 : Fr (fun k => k = b) w w7 := (hFd.trans' f6).trans f7 (fun i hi e => by have h1 := O6.out.blk i e; have h2 := hs3.out; omega)
        have hz7 := Lib.hid (show W4.heap.size ≤ w7.heap.size by have h1 := f6.size; have h2 : wr.drew.heap.size = wr.heap.size := rfl; have h3 := hz.out; omega)
        have hE : (l ++ [x]).map TI.m = (rMany rIn (k + 1) s1).1 := by rw [List.map_append, hl0.out, rMany_succ]; exact congrArg _ (congrArg (fun y => [y]) hm6)
        rw [hlen] at O7
        have HE := Lib.hid hE
        clear hE q3 q2 q3d q36 q36a R6 happ hbld hxn hx f6 n6 HC hFd n7 s7 f7 hm6
        go_upto_region 5 with fail
        refine wp_cell q37 fun W8 r8 f8 => ?_
        have h3lt := hs3.out
        have r28 := f8.keeps (fun e => ne e) q27
        have R8 := R7.fr f8 (fun i e => by omega)
        have F8 : Fr (fun k => k = b) w W8 := F7.trans f8 (fun i hi e => by omega)
        have O8 := Lib.hid (O7.fr f8 (fun i e => by omega))
        have hz8 := Lib.hid (Nat.le_trans hz7.out f8.size)
        clear f8 q37 q27 R7 F7 O7 hz7 h3lt
        go_wp2_with fail
        go_roundw
        case rel => exact ⟨k + 1, l ++ [x], _, by omega, by go_num, HE.out, r8, r28, O8.out, by rw [rMany_succ]; exact R8, F8, hz8.out⟩
        case measure => simp [intOf]; omega
    · obtain rfl : k = n := by omega
      rw [← hs2.out] at hR
      have hlen : l.length = k := by have := congrArg List.length hl0.out; simpa [rMany_len] using this
      replace hl0 := Lib.hid hl0.out
      clear H2
      go_wp2_with fail
      (with_reducible refine (H3.out _ hR).mono ?_); rintro e w5 ⟨rfl, R5, f5⟩
      have r2 := f5.keeps (fun e => nb2 e) q2
      have r3 := f5.keeps (fun e => nb3 e) q3
      have F5 := hF.trans' f5
      have O5 := HO.out.fr f5 (fun i e => by have := hs3.out; omega)
      obtain ⟨B5, hB5⟩ : ∃ x, x = w5.heap.size := ⟨_, rfl⟩
      have hlo := Lib.hid (show (∀ i, vi.ownBlock = some i → i < B5) ∧ ∀ x ∈ l, x.m.ky ≠ [] → ∀ i, ablk x.a = some i → i < B5 from ⟨by rw [hB5]; exact O5.lt, by rw [hB5]; exact fun x hx hn => (O5.ok x hx).b.low hn⟩)
      replace hs3 := Lib.hid (show B ≤ g3 ∧ B ≤ g2 ∧ g3 < B4 ∧ g2 < B4 ∧ B4 ≤ B5 ∧ B ≤ B5 ∧ b < B by
        have h1 := hs3.out; have h2 := hz.out; have h3 := f5.size; omega)
      replace O5 := Lib.hid O5
      have hz5 := Lib.hid (Nat.le_of_eq hB5)
      clear f5 hR HO hz H3 q2 q3 hF hB5
      go_wp2_with fail
      go_loopw [21] (fun iv wr => ∃ (j : Nat) (l2 : List TO) (vo : Value), j ≤ m ∧ iv = .int .u64 (j : Int) ∧ Hid (l2.map TO.m = (rMany rOut j s3).1) ∧ wr.heap[g3]? = some (.cells #[.int .u32 (v0 : Int), vi, vo, .int .u32 0] 28 (0, 0)) ∧
        wr.heap[g2]? = some (.cells #[.int .u32 0, .slice none 0 0, .slice none 0 0, .int .u32 0] 28 (0, 0)) ∧ Hid (OwnIns B4 wr vi l) ∧ Hid (OwnOuts B5 wr vo l2) ∧ RI B b (rMany rOut j s3).2 wr ∧ Fr (fun k => k = b) w wr ∧ Hid (B5 ≤ wr.heap.size)) (fun iv _ => m - (intOf iv).toNat)
      case atStart => exact ⟨0, [], _, Nat.zero_le _, rfl, rfl, r3, r2, O5.out, OwnOuts.nil _ _, R5, F5, hz5.out⟩
      case round =>
        obtain ⟨j, l2, vo, hj, rfl, hl2, q3, q2, HO, HP, hR, hF, hz⟩ := hrel
        clear r3 r2 R5 F5 O5
        by_cases hjm : j < m
        · have l1 : (j : Int) < (m : Int) := by omega
          have hlen2 : l2.length = j := by have := congrArg List.length hl2.out; simpa [rMany_len] using this
          have q3d := keep_drew q3
          have hRd := hR.fr0 (Fr.refl F0 _).drew
          have hOd := Lib.hid (HO.out.frS ((Fr.refl F0 _).drew) (fun _ _ f => f) (fun _ _ _ _ _ f => f))
          have hPd := Lib.hid (HP.out.frS ((Fr.refl F0 _).drew) (fun _ _ f => f) (fun _ _ _ _ _ f => f))
          have hszd := Lib.hid (show B5 ≤ wr.drew.heap.size ∧ B ≤ wr.drew.heap.size from ⟨hz.out, Nat.le_trans hs3.out.2.2.2.2.2.1 hz.out⟩)
          have HC := Lib.hid (H4.out j _ hRd hszd.out.2)
          have hFd : Fr (fun k => k = b) w wr.drew := hF.drew
          clear hRd HO HP hF hR
          go_upto_region 8 with fail
          refine wp_region_noPanic ?_
          refine wp_region_held_drew (S := (fun w' => True)) (by kernel_rfl) ?_ (fun hHeld => ?_)
          · ((try dsimp only) <;> (trivial))
          refine rtake 0 ?_
          refine rtake 2 ?_
          refine wpAnyH_ready (rs := [1, 3]) (by kernel_rfl) (by simp) ?_
          refine AllReadyH.cons (o := ⟨_, _, _, _, _, _⟩) rfl (fun K hK => ?_) (AllReadyH.cons (o := ⟨_, _, _, _, _, _⟩) rfl (fun K hK => ?_) AllReadyH.nil)
          go_simp
          refine hK.out _ _ ?_ (fun hHeld => ?_)
          · ((try dsimp only) <;> (trivial))
          clear hK K
          try (simp only [Act.put, List.setIfInBounds_toArray]; dsimp only [List.set_cons_zero, List.set_cons_succ])
          refine wpAnyH_ready (rs := [3]) (by kernel_rfl) (by simp) ?_
          refine AllReadyH.cons (o := ⟨_, _, _, _, _, _⟩) rfl (fun K hK => ?_) AllReadyH.nil
          go_simp
          ((with_reducible refine HC.out.mono ?_); rintro e w6 ⟨x, rfl, hx, hm6, R6, f6, n6⟩; have q36 := f6.keeps (fun e => nb3 e) q3d; have q36a : (w6.alloc (.cells x.row.toArray 55)).heap[g3]? = _ := keep_alloc q36; have O6 := Lib.hid (hOd.out.fr f6 (fun k e => by have := hs3.out; omega)); have P6 := Lib.hid (hPd.out.fr f6 (fun k e => by have := hs3.out; omega)); have hbld := run_buildOuts w6 x.row.toArray (TO.row_length x); have hxn : x.m.lk ≠ [] → ∀ k, ablk x.a = some k → B5 ≤ k ∧ vo.ownBlock ≠ some k := (fun _ k hk => by have h1 := n6 k hk; have h2 := hszd.out; exact ⟨by omega, fun e => by have := hPd.out.lt k e; omega⟩); have happ := fun ty => P6.out.app x hx hxn (by have := hszd.out; have := f6.size; omega) (by omega) ty; obtain ⟨a7, c7, w7, happ, P7, f7, s7, n7⟩ := happ 26; have q37 := f7.keeps (fun e => by have h1 := P6.out.blk g3 e; have h2 := hs3.out; omega) q36)
          refine hK.out _ _ ?_ (fun hHeld => ?_)
          · ((try dsimp only) <;> (trivial))
          clear hK K
          try (simp only [Act.put, List.setIfInBounds_toArray]; dsimp only [List.set_cons_zero, List.set_cons_succ])
          refine wpAnyH_ready (rs := [4]) (by kernel_rfl) (by simp) ?_
          refine AllReadyH.cons (o := ⟨_, _, _, _, _, _⟩) rfl (fun K hK => ?_) AllReadyH.nil
          go_simp
          refine hK.out _ _ ?_ (fun hHeld => ?_)
          · ((try dsimp only) <;> (trivial))
          clear hK K
          try (simp only [Act.put, List.setIfInBounds_toArray]; dsimp only [List.set_cons_zero, List.set_cons_succ])
          refine wpAnyH_ready (rs := [5]) (by kernel_rfl) (by simp) ?_
          refine AllReadyH.cons (o := ⟨_, _, _, _, _, _⟩) rfl (fun K hK => ?_) AllReadyH.nil
          go_simp
          refine hK.out _ _ ?_ (fun hHeld => ?_)
          · ((try dsimp only) <;> (trivial))
          clear hK K
          try (simp only [Act.put, List.setIfInBounds_toArray]; dsimp only [List.set_cons_zero, List.set_cons_succ])
          refine rtake 6 ?_
          refine wpAnyH_ready (rs := [7]) (by kernel_rfl) (by simp) ?_
          refine AllReadyH.cons (o := ⟨_, _, _, _, _, _⟩) rfl (fun K hK => ?_) AllReadyH.nil
          go_simp
          refine hK.out _ _ ?_ (fun hHeld => ?_)
          · ((try dsimp only) <;> (trivial))
          clear hK K
          try (simp only [Act.put, List.setIfInBounds_toArray]; dsimp only [List.set_cons_zero, List.set_cons_succ])
          refine wpAnyH_done (by kernel_rfl) ?_ _
          refine NoPanic.normal ?_
          rotate_left
          go_simp
          ((with_reducible refine HC.out.mono ?_); rintro e w6 ⟨x, rfl, hx, hm6, R6, f6, n6⟩; have q36 := f6.keeps (fun e => nb3 e) q3d; have q36a : (w6.alloc (.cells x.row.toArray 55)).heap[g3]? = _ := keep_alloc q36; have O6 := Lib.hid (hOd.out.fr f6 (fun k e => by have := hs3.out; omega)); have P6 := Lib.hid (hPd.out.fr f6 (fun k e => by have := hs3.out; omega)); have hbld := run_buildOuts w6 x.row.toArray (TO.row_length x); have hxn : x.m.lk ≠ [] → ∀ k, ablk x.a = some k → B5 ≤ k ∧ vo.ownBlock ≠ some k := (fun _ k hk => by have h1 := n6 k hk; have h2 := hszd.out; exact ⟨by omega, fun e => by have := hPd.out.lt k e; omega⟩); have happ := fun ty => P6.out.app x hx hxn (by have := hszd.out; have := f6.size; omega) (by omega) ty; obtain ⟨a7, c7, w7, happ, P7, f7, s7, n7⟩ := happ 26; have q37 := f7.keeps (fun e => by have h1 := P6.out.blk g3 e; have h2 := hs3.out; omega) q36)
          refine hK.out _ _ ?_ (fun hHeld => ?_)
          · ((try dsimp only) <;> (trivial))
          clear hK K
          try (simp only [Act.put, List.setIfInBounds_toArray]; dsimp only [List.set_cons_zero, List.set_cons_succ])
          refine wpAnyH_ready (rs := [1, 4]) (by kernel_rfl) (by simp) ?_
          refine AllReadyH.cons (o := ⟨_, _, _, _, _, _⟩) rfl (fun K hK => ?_) (AllReadyH.cons (o := ⟨_, _, _, _, _, _⟩) rfl (fun K hK => ?_) AllReadyH.nil)
          go_simp
          refine hK.out _ _ ?_ (fun hHeld => ?_)
          · ((try dsimp only) <;> (trivial))
          clear hK K
          try (simp only [Act.put, List.setIfInBounds_toArray]; dsimp only [List.set_cons_zero, List.set_cons_succ])
          refine wpAnyH_ready (rs := [4]) (by kernel_rfl) (by simp) ?_
          refine AllReadyH.cons (o := ⟨_, _, _, _, _, _⟩) rfl (fun K hK => ?_) AllReadyH.nil
          go_simp
          refine hK.out _ _ ?_ (fun hHeld => ?_)
          · ((try dsimp only) <;> (trivial))
          clear hK K
          try (simp only [Act.put, List.setIfInBounds_toArray]; dsimp only [List.set_cons_zero, List.set_cons_succ])
          refine wpAnyH_ready (rs := [5]) (by kernel_rfl) (by simp) ?_
          refine AllReadyH.cons (o := ⟨_, _, _, _, _, _⟩) rfl (fun K hK => ?_) AllReadyH.nil
          go_simp
          refine hK.out _ _ ?_ (fun hHeld => ?_)
          · ((try dsimp only) <;> (trivial))
          clear hK K
          try (simp only [Act.put, List.setIfInBounds_toArray]; dsimp only [List.set_cons_zero, List.set_cons_succ])
          refine rtake 6 ?_
          refine wpAnyH_ready (rs := [7]) (by kernel_rfl) (by simp) ?_
          refine AllReadyH.cons (o := ⟨_, _, _, _, _, _⟩) rfl (fun K hK => ?_) AllReadyH.nil
          go_simp
          refine hK.out _ _ ?_ (fun hHeld => ?_)
          · ((try dsimp only) <;> (trivial))
          clear hK K
          try (simp only [Act.put, List.setIfInBounds_toArray]; dsimp only [List.set_cons_zero, List.set_cons_succ])
          refine wpAnyH_done (by kernel_rfl) ?_ _
          refine NoPanic.normal ?_
          rotate_left
          go_simp
          refine hK.out _ _ ?_ (fun hHeld => ?_)
          · ((try dsimp only) <;> (trivial))
          clear hK K
          try (simp only [Act.put, List.setIfInBounds_toArray]; dsimp only [List.set_cons_zero, List.set_cons_succ])
          refine wpAnyH_ready (rs := [1]) (by kernel_rfl) (by simp) ?_
          refine AllReadyH.cons (o := ⟨_, _, _, _, _, _⟩) rfl (fun K hK => ?_) AllReadyH.nil
          go_simp
          refine hK.out _ _ ?_ (fun hHeld => ?_)
          · ((try dsimp only) <;> (trivial))
          clear hK K
          try (simp only [Act.put, List.setIfInBounds_toArray]; dsimp only [List.set_cons_zero, List.set_cons_succ])
          refine wpAnyH_ready (rs := [5]) (by kernel_rfl) (by simp) ?_
          refine AllReadyH.cons (o := ⟨_, _, _, _, _, _⟩) rfl (fun K hK => ?_) AllReadyH.nil
          go_simp
          refine hK.out _ _ ?_ (fun hHeld => ?_)
          · ((try dsimp only) <;> (trivial))
          clear hK K
          try (simp only [Act.put, List.setIfInBounds_toArray]; dsimp only [List.set_cons_zero, List.set_cons_succ])
          refine rtake 6 ?_
          refine wpAnyH_ready (rs := [7]) (by kernel_rfl) (by simp) ?_
          refine AllReadyH.cons (o := ⟨_, _, _, _, _, _⟩) rfl (fun K hK => ?_) AllReadyH.nil
          go_simp
          refine hK.out _ _ ?_ (fun hHeld => ?_)
          · ((try dsimp only) <;> (trivial))
          clear hK K
          try (simp only [Act.put, List.setIfInBounds_toArray]; dsimp only [List.set_cons_zero, List.set_cons_succ])
          refine wpAnyH_done (by kernel_rfl) ?_ _
          refine NoPanic.normal ?_
          rotate_left
          all_goals
            have q27 := f7.keeps (fun e => by have h1 := P6.out.blk g2 e; have h2 := hs3.out; omega) (f6.keeps (fun e => nb2 e) (keep_drew q2))
            have R7 := R6.fr f7 (fun i e => by have h1 := P6.out.blk i e; have h2 := hs3.out; omega)
            have F7 : Fr (fun k => k = b) w w7 := (hFd.trans' f6).trans f7 (fun i hi e => by have h1 := P6.out.blk i e; have h2 := hs3.out; omega)
            have hz7 := Lib.hid (show B5 ≤ w7.heap.size by have h1 := f6.size; have h3 := hszd.out; omega)
            have O7 := O6.out.frS f7 (fun i h1 h2 => by have := hlo.out.1 i h1; have := P6.out.blk i h2; omega) (fun y hy hn i h1 h2 => by have := hlo.out.2 y hy hn i h1; have := P6.out.blk i h2; omega)
            have hE : (l2 ++ [x]).map TO.m = (rMany rOut (j + 1) s3).1 := by rw [List.map_append, hl2.out, rMany_succ]; exact congrArg _ (congrArg (fun y => [y]) hm6)
            rw [hlen2] at P7
            have HE := Lib.hid hE
            clear hE q3 q2 q3d q36 q36a R6 happ hbld hxn hx f6 n6 HC hFd n7 s7 f7 hm6
            go_upto_region 9 with fail
            refine wp_cell q37 fun W8 r8 f8 => ?_
            have h3lt := hs3.out
            have r28 := f8.keeps (fun e => ne e) q27
            have R8 := R7.fr f8 (fun i e => by omega)
            have F8 : Fr (fun k => k = b) w W8 := F7.trans f8 (fun i hi e => by omega)
            have O8 := Lib.hid (O7.fr f8 (fun i e => by omega))
            have P8 := Lib.hid (P7.fr f8 (fun i e => by omega))
            have hz8 := Lib.hid (Nat.le_trans hz7.out f8.size)
            clear f8 q37 q27 R7 F7 O7 P7 hz7 h3lt
            go_wp2_with fail
            go_roundw
            case rel => exact ⟨j + 1, l2 ++ [x], _, by omega, by go_num, HE.out, r8, r28, O8.out, P8.out, by rw [rMany_succ]; exact R8, F8, hz8.out⟩
            case measure => simp [intOf]; omega
        · obtain rfl : j = m := by omega
          rw [← hs4.out] at hR
          have hlen2 : l2.length = j := by have := congrArg List.length hl2.out; simpa [rMany_len] using this
          clear H4
          go_wp2_with fail
          (with_reducible refine (H5.out _ hR).mono ?_); rintro e w6 ⟨rfl, R6, f6⟩
          have r2 := f6.keeps (fun e => nb2 e) q2
          have r3 := f6.keeps (fun e => nb3 e) q3
          have F6 := hF.trans' f6
          have O6 := Lib.hid (HO.out.fr f6 (fun i e => by have := hs3.out; omega))
          have P6 := Lib.hid (HP.out.fr f6 (fun i e => by have := hs3.out; omega))
          clear q2 q3 HO HP f6 hR hF H5
          go_upto_region 11 with fail
          refine wp_cell r3 fun W7 r7 f7 => ?_
          have h3lt := hs3.out
          replace r2 := f7.keeps (fun e => ne e) r2
          have R7 := R6.fr f7 (fun i e => by omega)
          have F7 : Fr (fun k => k = b) w W7 := F6.trans f7 (fun i hi e => by omega)
          have O7 := Lib.hid (O6.out.fr f7 (fun i e => by omega))
          have P7 := Lib.hid (P6.out.fr f7 (fun i e => by omega))
          replace r7 : W7.heap[g3]? = some (.cells #[.int .u32 (v0 : Int), vi, vo, .int .u32 (v5 : Int)] 28 (0, 0)) := r7
          clear f7 r3 F6 O6 P6 h3lt
          obtain ⟨ai, ci, rfl, hTi⟩ := O7.out.is
          obtain ⟨ao, co, rfl, hTo⟩ := P7.out.is
          go_wp2_with fail
          obtain ⟨WE, hWE⟩ : ∃ WE, WE = ((((W7.setCell ⟨g2, 0, none⟩ (.int .u32 (v0 : Int))).setCell ⟨g2, 1, none⟩ (.slice ai k ci)).setCell ⟨g2, 2, none⟩ (.slice ao j co)).setCell ⟨g2, 3, none⟩ (.int .u32 (v5 : Int))) := ⟨_, rfl⟩
          have rE : WE.heap[g2]? = some (.cells #[.int .u32 (v0 : Int), .slice ai k ci, .slice ao j co, .int .u32 (v5 : Int)] 28 (0, 0)) := by
            rw [hWE, heap_setCell_at, heap_setCell_at, heap_setCell_at, heap_setCell_at, r2]
            rfl
          have fE : Fr (fun k => k = g2) W7 WE := by
            rw [hWE]
            exact ((((Fr.refl (fun k => k = g2) W7).setCell (p := ⟨g2, 0, none⟩) (fun _ => rfl) _).setCell (p := ⟨g2, 1, none⟩) (fun _ => rfl) _).setCell (p := ⟨g2, 2, none⟩) (fun _ => rfl) _).setCell (p := ⟨g2, 3, none⟩) (fun _ => rfl) _
          rw [← hWE]
          have h3lt := hs3.out
          refine bodyPost_ret (results_cell_row rfl _ _ g2 _ _ _ _ rfl rE Try.underlying28 rfl (by rw [Try.szTx]; rfl)) rfl ?_
          refine ⟨⟨v0, ai, ci, l, ao, co, l2, v5⟩, .slice ai l.length ci, .slice ao l2.length co, by rw [TT.cells, hlen, hlen2], ?_, x0, x4, rfl, rfl, (O7.out.fr fE (fun i e => by omega)).mono (by omega), (P7.out.fr fE (fun i e => by omega)).mono (by omega), R7.fr fE (fun i e => by omega), F7.trans fE (fun i hi e => by omega)⟩
          rw [TT.m, hl0.out, hl2.out]
end Go.Proofs.Ythoaalnjmklclaa

/- Layer 9 (tx): Parse. -/
namespace Go.Proofs.Ythoaalnjmklclaa
set_option linter.unusedVariables false
set_option linter.unusedSimpArgs false
open Go.RowKit

/-- The transaction of bytes. -/
def prs (b : List UInt8) : Option MT := if szT b.length = true ∧ (rTx (some b)).2 = some [] ∧ (rTx (some b)).1.few = false ∧ (rTx (some b)).1.over = false then some (rTx (some b)).1 else none
/-- A transaction that a call has made: its blocks are B or later ones. -/
structure TNew (B : Nat) (w : World) (t : TT) : Prop where
  ok : t.Ok w
  ia : ∀ k, ablk t.ia = some k → B ≤ k
  oa : ∀ k, ablk t.oa = some k → B ≤ k
  ins : ∀ x ∈ t.ins, x.m.ky ≠ [] → ∀ k, ablk x.a = some k → B ≤ k
  outs : ∀ x ∈ t.outs, x.m.lk ≠ [] → ∀ k, ablk x.a = some k → B ≤ k
theorem TNew.fr {B : Nat} {S : Nat → Prop} {w w' : World} {t : TT} (h : TNew B w t) (f : Fr S w w') (hs : ∀ k, S k → k < B) : TNew B w' t := by
  obtain ⟨⟨h1, h2, ⟨hi, hi2⟩, ⟨ho, ho2⟩⟩, a1, a2, a3, a4⟩ := h
  refine ⟨⟨h1, h2, ⟨hi.fr f fun k hk e => ?_, fun x hx => ⟨(hi2 x hx).m, (hi2 x hx).b.frx f fun hn k hk e => ?_⟩⟩, ⟨ho.fr f fun k hk e => ?_, fun x hx => ⟨(ho2 x hx).m, (ho2 x hx).b.frx f fun hn k hk e => ?_⟩⟩⟩, a1, a2, a3, a4⟩
  · have := a1 k hk; have := hs k e; omega
  · have := a3 x hx hn k hk; have := hs k e; omega
  · have := a2 k hk; have := hs k e; omega
  · have := a4 x hx hn k hk; have := hs k e; omega
theorem TNew.mono {B B' : Nat} {w : World} {t : TT} (h : TNew B w t) (hb : B' ≤ B) : TNew B' w t := ⟨h.ok, fun k hk => Nat.le_trans hb (h.ia k hk), fun k hk => Nat.le_trans hb (h.oa k hk), fun x hx hn k hk => Nat.le_trans hb (h.ins x hx hn k hk), fun x hx hn k hk => Nat.le_trans hb (h.outs x hx hn k hk)⟩
def TT.zero : TT := ⟨0, none, 0, [], none, 0, [], 0⟩
theorem TNew.zero (B : Nat) (w : World) : TNew B w TT.zero := ⟨⟨by decide, by decide, TIs.nothing w, TOs.nothing w⟩, fun k e => (by cases e), fun k e => (by cases e), fun x e => (by cases e), fun x e => (by cases e)⟩
/-- What Parse answers. -/
def ParseQ (bs : List UInt8) (w : World) (e : Ending) (w' : World) : Prop :=
  ∃ (t : TT) (E : Int), e = .returned (.tuple #[.agg t.cells, .int .i64 E]) ∧ ((prs bs = some t.m ∧ E = 0) ∨ (prs bs = none ∧ E = 2 ∧ t = TT.zero)) ∧ TNew w.heap.size w' t ∧ Fr F0 w w'
theorem ParseQ.no {bs : List UInt8} {w w' : World} (h : prs bs = none) (f : Fr F0 w w') : ParseQ bs w (.returned (.tuple #[.agg #[.int .u32 0, .slice none 0 0, .slice none 0 0, .int .u32 0], .int .i64 2])) w' :=
  ⟨TT.zero, 2, rfl, .inr ⟨h, rfl, rfl⟩, TNew.zero _ _, f⟩

theorem set4 {w : World} {g : Nat} {a b c d a' b' c' d' : Value} {t : TypeId} (h : w.heap[g]? = some (.cells #[a, b, c, d] t (0, 0))) :
    ((((w.setCell ⟨g, 0, none⟩ a').setCell ⟨g, 1, none⟩ b').setCell ⟨g, 2, none⟩ c').setCell ⟨g, 3, none⟩ d').heap[g]? = some (.cells #[a', b', c', d'] t (0, 0)) := by
  rw [heap_setCell_at, heap_setCell_at, heap_setCell_at, heap_setCell_at, h]
  rfl
theorem Fr.set4 {w w0 : World} {g : Nat} {a' b' c' d' : Value} (h : Fr F0 w0 w) (hg : w0.heap.size ≤ g) :
    Fr F0 w0 ((((w.setCell ⟨g, 0, none⟩ a').setCell ⟨g, 1, none⟩ b').setCell ⟨g, 2, none⟩ c').setCell ⟨g, 3, none⟩ d') := by
  have k : ∀ {x : World} (i : Nat) (v : Value), Fr F0 w0 x → Fr F0 w0 (x.setCell ⟨g, i, none⟩ v) := fun i v f => f.setCell (p := ⟨g, i, none⟩) (fun e => by simp only at e; omega) v
  exact k _ _ (k _ _ (k _ _ (k _ _ h)))
theorem Fr.set4g {w : World} {g : Nat} {a' b' c' d' : Value} : Fr (fun k => k = g) w ((((w.setCell ⟨g, 0, none⟩ a').setCell ⟨g, 1, none⟩ b').setCell ⟨g, 2, none⟩ c').setCell ⟨g, 3, none⟩ d') :=
  ((((Fr.refl (fun k => k = g) w).setCell (p := ⟨g, 0, none⟩) (fun _ => rfl) _).setCell (p := ⟨g, 1, none⟩) (fun _ => rfl) _).setCell (p := ⟨g, 2, none⟩) (fun _ => rfl) _).setCell (p := ⟨g, 3, none⟩) (fun _ => rfl) _

theorem rTx_lft (st : Option (List UInt8)) : lft (rTx st).2 ≤ lft st := by
  have h0 := rW_lft st
  obtain ⟨s0, hs0⟩ : ∃ s, s = (rW st).2 := ⟨_, rfl⟩
  obtain ⟨n, hn⟩ : ∃ n, n = (rc 64 s0).1 := ⟨_, rfl⟩
  obtain ⟨s1, hs1⟩ : ∃ s, s = (rc 64 s0).2 := ⟨_, rfl⟩
  obtain ⟨s2, hs2⟩ : ∃ s, s = (rMany rIn n s1).2 := ⟨_, rfl⟩
  obtain ⟨m, hm⟩ : ∃ n, n = (rc 64 s2).1 := ⟨_, rfl⟩
  obtain ⟨s3, hs3⟩ : ∃ s, s = (rc 64 s2).2 := ⟨_, rfl⟩
  obtain ⟨s4, hs4⟩ : ∃ s, s = (rMany rOut m s3).2 := ⟨_, rfl⟩
  have eT : (rTx st).2 = (rW s4).2 := by rw [rTx, hs4, hm, hs3, hs2, hn, hs1, hs0]
  rw [← hs0] at h0
  have h1 := rc_lft 64 s0
  rw [← hs1] at h1
  have h2 := rMany_lft rIn rIn_lft n s1
  rw [← hs2] at h2
  have h3 := rc_lft 64 s2
  rw [← hs3] at h3
  have h4 := rMany_lft rOut rOut_lft m s3
  rw [← hs4] at h4
  have h5 := rW_lft s4
  rw [eT]
  omega
set_option maxRecDepth 100000 in
set_option maxHeartbeats 16000000 in
theorem tParse_any (a : Option Addr) (n c : Nat) (bs : List UInt8) (w : World) (h : Bs w a c bs) (hn : n = bs.length) (hl : bs.length ≤ 100000) : Calls Try.prog 7 #[.slice a n c] w (ParseQ bs w) := by
  have HZ := Lib.hid (fun w' => tIsSize_any n w')
  have HR := Lib.hid (fun w' (f : Fr F0 w w') => Read_any a n c bs w' (Bs.fr7 h f) hn (by omega))
  have hlf : lft (some bs) ≤ 1000000 := by show bs.length ≤ _; omega
  have HD := Lib.hid (fun b w' (r : RI w'.heap.size b (some bs) w') => tRead_any b (some bs) w' r hlf)
  have hlf2 : lft (rTx (some bs)).2 ≤ 1000000 := Nat.le_trans (rTx_lft _) hlf
  obtain ⟨M, hM⟩ : ∃ M, M = (rTx (some bs)).1 := ⟨_, rfl⟩
  obtain ⟨st, hst⟩ : ∃ st, st = (rTx (some bs)).2 := ⟨_, rfl⟩
  rw [← hM, ← hst] at HD
  rw [← hst] at hlf2
  have hP : prs bs = if szT n = true ∧ st = some [] ∧ M.few = false ∧ M.over = false then some M else none := by unfold prs; rw [← hM, ← hst, ← hn]
  clear hM hst h hlf
  replace hn := Lib.hid hn
  replace hl := Lib.hid hl
  cases q1 : szT n with
  | false =>
    have hp : prs bs = none := by rw [hP, q1]; exact if_neg (by simp)
    rw [q1] at HZ
    clear HR HD hP
    go_enter Try.func7, Try.ntmps7
    go_upto_region 1 with fail
    refine wp_new fun W1 N1 => ?_
    have r2 := N1.new
    have F := N1.fr
    obtain ⟨g2, hg2⟩ : ∃ g, g = w.heap.size := ⟨_, rfl⟩
    rw [← hg2] at r2 ⊢
    replace hg2 := Lib.hid (Nat.le_of_eq hg2.symm)
    clear N1
    go_wp2_with fail
    (with_reducible refine (HZ.out _).mono ?_); rintro e w2 ⟨rfl, rfl⟩
    go_wp2_with fail
    refine bodyPost_ret (results_cell_row_tmp rfl _ _ g2 _ _ _ _ rfl (set4 r2) Try.underlying28 rfl (by rw [Try.szTx]; rfl)) rfl ?_
    exact ParseQ.no hp (F.set4 hg2.out)
  | true =>
  rw [q1] at HZ hP
  go_enter Try.func7, Try.ntmps7
  go_upto_region 1 with fail
  refine wp_new fun W1 N1 => ?_
  have r2 := N1.new
  have F := N1.fr
  obtain ⟨g2, hg2⟩ : ∃ g, g = w.heap.size := ⟨_, rfl⟩
  rw [← hg2] at r2 ⊢
  replace hg2 := Lib.hid (Nat.le_of_eq hg2.symm)
  clear N1
  go_wp2_with fail
  (with_reducible refine (HZ.out _).mono ?_); rintro e w2 ⟨rfl, rfl⟩
  clear HZ
  go_wp2_with fail
  (with_reducible refine (HR.out _ F).mono ?_); rintro e w3 hr
  obtain ⟨b, rfl, R3, f3, hb3⟩ := RI.of hr
  have n2b : g2 ≠ b := by have := (Array.getElem?_eq_some_iff.1 r2).1; omega
  replace r2 := f3.keeps (fun f => f) r2
  have hbl := Lib.hid (show w.heap.size ≤ b from Nat.le_trans F.size hb3)
  replace F := F.trans' f3
  clear hr f3 HR hb3
  go_wp2_with fail
  have sz3 := Lib.hid F.size
  have g23 := Lib.hid (show g2 < w3.heap.size from (Array.getElem?_eq_some_iff.1 r2).1)
  (with_reducible refine (HD.out _ _ R3).mono ?_); rintro e w4 ⟨t, vi, vo, rfl, hm, hv, ht, rfl, rfl, O4, P4, R4, f4⟩
  replace r2 := f4.keeps (fun e => n2b e) r2
  replace F : Fr F0 w w4 := F.trans f4 (fun i hi e => by have := hbl.out; omega)
  have T4 : TNew w3.heap.size w4 t := ⟨⟨hv, ht, (by obtain ⟨_, _, e, h⟩ := O4.is; cases e; exact h), (by obtain ⟨_, _, e, h⟩ := P4.is; cases e; exact h)⟩, (fun k hk => O4.blk k (by rw [ablk_own]; exact hk)), (fun k hk => P4.blk k (by rw [ablk_own]; exact hk)), (fun x hx hn k hk => (O4.new x hx hn k hk).1), (fun x hx hn k hk => (P4.new x hx hn k hk).1)⟩
  have HE := Lib.hid (fun W (f : Fr F0 w4 W) => (R4.fr0 f).ended (st := st) hlf2)
  clear O4 P4 f4 R4 R3 HD
  have HF := Lib.hid (fun W (f : Fr F0 w4 W) => tFew_any t W (T4.ok.fr f))
  have HO := Lib.hid (fun W (f : Fr F0 w4 W) => tOver_any t W (T4.ok.fr f))
  rw [hm] at HF HO
  have HT := Lib.hid T4
  have HM := Lib.hid hm
  have hlow := Lib.hid (show g2 < w4.heap.size from (Array.getElem?_eq_some_iff.1 r2).1)
  clear hv ht T4 hm
  obtain ⟨v0, a1, n1, c1, a2, n2, c2, v3, hc⟩ : ∃ (v0 : Int) (a1 : Option Addr) (n1 c1 : Nat) (a2 : Option Addr) (n2 c2 : Nat) (v3 : Int), t.cells = #[.int .u32 v0, .slice a1 n1 c1, .slice a2 n2 c2, .int .u32 v3] := ⟨_, _, _, _, _, _, _, _, rfl⟩
  rw [hc] at HF HO ⊢
  replace hc := Lib.hid hc
  clear hlf2
  cases q2 : decide (st = some []) with
  | false =>
    have hp : prs bs = none := by rw [hP]; exact if_neg (fun h => by rw [decide_eq_false_iff_not] at q2; exact q2 h.2.1)
    rw [q2] at HE
    clear HF HO hP q2
    go_upto_region 5 with fail
    refine wp_new fun W5 N5 => ?_
    have r5 := N5.new
    replace r2 := N5.old r2
    replace F := F.trans' N5.fr
    have F5 := N5.fr
    clear N5
    go_wp2_with fail
    (with_reducible refine (HE.out _ F5).mono ?_); rintro e w6 ⟨rfl, rfl⟩
    go_wp2_with fail
    refine bodyPost_ret (results_cell_row_tmp rfl _ _ g2 _ _ _ _ rfl (set4 r2) Try.underlying28 rfl (by rw [Try.szTx]; rfl)) rfl ?_
    exact ParseQ.no hp (F.set4 hg2.out)
  | true =>
  rw [q2] at HE
  rw [decide_eq_true_iff] at q2
  cases q3 : M.few with
  | true =>
    have hp : prs bs = none := by rw [hP]; exact if_neg (fun h => by rw [q3] at h; cases h.2.2.1)
    rw [q3] at HF
    clear HO hP
    go_upto_region 5 with fail
    refine wp_new fun W5 N5 => ?_
    have r5 := N5.new
    replace r2 := N5.old r2
    replace F := F.trans' N5.fr
    have F5 := N5.fr
    clear N5
    go_wp2_with fail
    (with_reducible refine (HE.out _ F5).mono ?_); rintro e w6 ⟨rfl, rfl⟩
    go_wp2_with fail
    (with_reducible refine (HF.out _ F5).mono ?_); rintro e w7 ⟨rfl, f7⟩
    replace r2 := keep_fr f7 r2
    replace F := F.trans' f7
    go_wp2_with fail
    refine bodyPost_ret (results_cell_row_tmp rfl _ _ g2 _ _ _ _ rfl (set4 r2) Try.underlying28 rfl (by rw [Try.szTx]; rfl)) rfl ?_
    exact ParseQ.no hp (F.set4 hg2.out)
  | false =>
  rw [q3] at HF
  cases q4 : M.over with
  | true =>
    have hp : prs bs = none := by rw [hP]; exact if_neg (fun h => by rw [q4] at h; cases h.2.2.2)
    rw [q4] at HO
    clear hP
    go_upto_region 5 with fail
    refine wp_new fun W5 N5 => ?_
    have r5 := N5.new
    replace r2 := N5.old r2
    replace F := F.trans' N5.fr
    have F5 := N5.fr
    clear N5
    go_wp2_with fail
    (with_reducible refine (HE.out _ F5).mono ?_); rintro e w6 ⟨rfl, rfl⟩
    go_wp2_with fail
    (with_reducible refine (HF.out _ F5).mono ?_); rintro e w7 ⟨rfl, f7⟩
    replace r2 := keep_fr f7 r2
    replace r5 := keep_fr f7 r5
    replace F := F.trans' f7
    replace F5 := F5.trans' f7
    go_wp2_with fail
    (with_reducible refine (HO.out _ F5).mono ?_); rintro e w8 ⟨rfl, f8⟩
    replace r2 := keep_fr f8 r2
    replace F := F.trans' f8
    go_wp2_with fail
    refine bodyPost_ret (results_cell_row_tmp rfl _ _ g2 _ _ _ _ rfl (set4 r2) Try.underlying28 rfl (by rw [Try.szTx]; rfl)) rfl ?_
    exact ParseQ.no hp (F.set4 hg2.out)
  | false =>
    have hp : prs bs = some M := by rw [hP]; exact if_pos ⟨trivial, q2, q3, q4⟩
    rw [q4] at HO
    clear hP
    go_upto_region 5 with fail
    refine wp_new fun W5 N5 => ?_
    have r5 := N5.new
    replace r2 := N5.old r2
    replace F := F.trans' N5.fr
    have F5 := N5.fr
    clear N5
    go_wp2_with fail
    (with_reducible refine (HE.out _ F5).mono ?_); rintro e w6 ⟨rfl, rfl⟩
    go_wp2_with fail
    (with_reducible refine (HF.out _ F5).mono ?_); rintro e w7 ⟨rfl, f7⟩
    replace r2 := keep_fr f7 r2
    replace r5 := keep_fr f7 r5
    replace F := F.trans' f7
    replace F5 := F5.trans' f7
    clear f7
    go_wp2_with fail
    (with_reducible refine (HO.out _ F5).mono ?_); rintro e w8 ⟨rfl, f8⟩
    replace r2 := keep_fr f8 r2
    replace r5 := keep_fr f8 r5
    replace F := F.trans' f8
    replace F5 := F5.trans' f8
    clear f8
    go_wp2_with fail
    refine bodyPost_ret (results_cell_row_tmp rfl _ _ g2 _ _ _ _ rfl (set4 r2) Try.underlying28 rfl (by rw [Try.szTx]; rfl)) rfl ?_
    refine ⟨t, 0, by rw [hc.out]; rfl, .inl ⟨by rw [HM.out]; exact hp, rfl⟩, ?_, F.set4 hg2.out⟩
    exact (HT.out.fr (F5.of0.trans' Fr.set4g) (fun k e => by have := g23.out; omega)).mono sz3.out
end Go.Proofs.Ythoaalnjmklclaa

/- Layer 9 (tx): the chapter's example. -/
namespace Go.Proofs.Ythoaalnjmklclaa
set_option linter.unusedVariables false
set_option linter.unusedSimpArgs false
open Go.RowKit

def exLk : List UInt8 := [118, 169, 20] ++ zero20 ++ [136, 172]
def exT : MT := ⟨0, [⟨zero32, 0, [], 0⟩], [⟨5, exLk⟩], 0⟩
theorem exT_out : exT.err = 0 ∧ exT.out.length = 85 := by decide +kernel
theorem exT_pays (a : Option Addr) (c : Nat) : pays (pTo zero20) [⟨⟨5, exLk⟩, a, c⟩] = [5] := by
  have h : pTo zero20 (lkP exLk) = true := by decide +kernel
  simp [pays, chsn, h]
theorem Sl.of_row {w : World} {g n : Nat} {X : Array Value} {t : TypeId} (h : w.heap[g]? = some (.cells X t (0, 0))) (hX : X.size = n) : Sl w n (some ⟨g, 0, none⟩) 1 1 X.toList :=
  ⟨by simpa using hX, Nat.le_refl _, by unfold maxLen; omega, (fun e => by cases e), fun j u hj => ⟨_, _, rfl, by rw [cell_at, h, cellAt_cells, Nat.zero_add]; simpa using hj⟩⟩

set_option maxRecDepth 100000 in
set_option maxHeartbeats 8000000 in
theorem lives09_any (w : World) : Calls Try.prog 6 #[] w fun e w' => e = .returned (.bool true) ∧ Fr F0 w w' := by
  have hb1 := fun w => run_buildLk w #[(0, .int .i64 1)] (lkC 1 zero20 (.slice none 0 0)) (by kernel_rfl)
  have H1 := Lib.hid (fun w => lBytesC 1 zero20 [] none 0 0 w rfl (Bs.nothing w) rfl (by simp))
  have hb2 := fun w => run_buildTIn w #[] (rowI zero32 (.int .u32 0) (.slice none 0 0) (.int .u32 0)) (by kernel_rfl)
  have hb3 := fun w => run_buildIns w (rowI zero32 (.int .u32 0) (.slice none 0 0) (.int .u32 0)) rfl
  have hb4 := fun w n a c => run_buildOuts w #[.int .u64 5, .slice a n c] rfl
  have hb5 := fun w => run_buildAd w #[] (zero20.map B8).toArray built_ad0
  obtain ⟨Z, hZ⟩ : ∃ Z, Z = rowI zero32 (.int .u32 0) (.slice none 0 0) (.int .u32 0) := ⟨_, rfl⟩
  rw [← hZ] at hb2 hb3
  have sZ : Z.size = 35 := by rw [hZ]; rfl
  replace hZ := Lib.hid hZ
  go_enter Try.func6, Try.ntmps6
  go_wp2_with fail
  (with_reducible refine (H1.out _).mono ?_); rintro e w2 ⟨a2, n2, c2, rfl, hn2, hB2, f2, _⟩
  have eE : lkE 1 [] = 0 := rfl
  rw [eE]
  replace hn2 : n2 = 25 := hn2
  subst hn2
  replace hB2 : Bs w2 a2 c2 exLk := hB2
  clear eE H1
  go_upto_region 3 with fail
  obtain ⟨W, hW⟩ : ∃ W, W = ((w2.alloc (.cells Z 68)).alloc (.cells #[.int .u64 5, .slice a2 25 c2] 55)).alloc (.cells #[.int .u32 0, .slice (some ⟨w2.heap.size, 0, none⟩) 1 1, .slice (some ⟨w2.heap.size + 1, 0, none⟩) 1 1, .int .u32 0] 28) := ⟨_, rfl⟩
  refine wp_of_world W hW ?_
  obtain ⟨rI, rO, rT⟩ := heap3 w2 (.cells Z 68) (.cells #[.int .u64 5, .slice a2 25 c2] 55) (.cells #[.int .u32 0, .slice (some ⟨w2.heap.size, 0, none⟩) 1 1, .slice (some ⟨w2.heap.size + 1, 0, none⟩) 1 1, .int .u32 0] 28)
  have F : Fr F0 w2 W := by rw [hW]; exact (((Fr.refl F0 w2).alloc _).alloc _).alloc _
  rw [← hW] at rI rO rT
  clear hW
  generalize w2.heap.size = gI at *
  generalize gI + 1 = gO at *
  generalize gO + 1 = gT at *
  have hok : TT.Ok W ⟨0, some ⟨gI, 0, none⟩, 1, [⟨⟨zero32, 0, [], 0⟩, none, 0⟩], some ⟨gO, 0, none⟩, 1, [⟨⟨5, exLk⟩, a2, c2⟩], 0⟩ := by
    refine ⟨(by decide : (0 : Nat) < 4294967296), (by decide : (0 : Nat) < 4294967296), ⟨?_, fun t ht => ?_⟩, ⟨?_, fun t ht => ?_⟩⟩
    · have := Sl.of_row rI sZ
      rw [hZ.out] at this
      exact this
    · rw [List.mem_singleton] at ht
      subst ht
      exact ⟨⟨rfl, (by decide : (0 : Nat) < 4294967296), (by decide : (0 : Nat) < 4294967296)⟩, Bs.nothing _⟩
    · exact Sl.of_row rO rfl
    · rw [List.mem_singleton] at ht
      subst ht
      exact ⟨⟨(by decide : (5 : Nat) < 18446744073709551616)⟩, Bs.fr7 hB2 F⟩
  have HB := Lib.hid (tBytes_any _ W hok)
  have HP := Lib.hid (fun W' f => tPaid_any _ zero20 rfl W' (hok.fr f) (fun x hx => by
    rw [List.mem_singleton] at hx
    subst hx
    show exLk.length ≤ 1000
    decide))
  have eM : (TT.mk 0 (some ⟨gI, 0, none⟩) 1 [⟨⟨zero32, 0, [], 0⟩, none, 0⟩] (some ⟨gO, 0, none⟩) 1 [⟨⟨5, exLk⟩, a2, c2⟩] 0).m = exT := rfl
  rw [eM] at HB
  have eP : pays (pTo zero20) (TT.mk 0 (some ⟨gI, 0, none⟩) 1 [⟨⟨zero32, 0, [], 0⟩, none, 0⟩] (some ⟨gO, 0, none⟩) 1 [⟨⟨5, exLk⟩, a2, c2⟩] 0).outs = [5] := exT_pays a2 c2
  rw [eP] at HP
  have eC : (TT.mk 0 (some ⟨gI, 0, none⟩) 1 [⟨⟨zero32, 0, [], 0⟩, none, 0⟩] (some ⟨gO, 0, none⟩) 1 [⟨⟨5, exLk⟩, a2, c2⟩] 0).cells = #[.int .u32 0, .slice (some ⟨gI, 0, none⟩) 1 1, .slice (some ⟨gO, 0, none⟩) 1 1, .int .u32 0] := rfl
  rw [eC] at HB HP
  have eV : toV 0 [5] = 5 := by decide
  have eE : toE 0 [5] = 0 := by decide
  rw [eV, eE] at HP
  replace F := f2.trans' F
  clear hok eM eP eC eV eE rI rO hB2 hb1 hb2 hb3 hb4 f2 sZ
  go_wp2_with fail
  (with_reducible refine HB.out.mono ?_); rintro e w4 ⟨a4, n4, c4, rfl, hn4, _, f4, _⟩
  rw [exT_out.1]
  rw [exT_out.2] at hn4
  subst hn4
  replace rT := keep_fr f4 rT
  clear HB
  go_wp2_with fail
  (with_reducible refine (HP.out _ f4).mono ?_); rintro e w5 ⟨rfl, f5⟩
  clear HP rT
  go_wp2_with fail
  go_ret
  exact ⟨rfl, (F.trans' f4).trans' f5⟩
end Go.Proofs.Ythoaalnjmklclaa

/- Layer 9 (tx): who spends. -/
namespace Go.Proofs.Ythoaalnjmklclaa
set_option linter.unusedVariables false
set_option linter.unusedSimpArgs false
open Go.RowKit

/-- Is an input's key the address's own? -/
def pSp (A : List UInt8) (x : TI) : Bool := opO x.m.ky && decide (opA x.m.ky = A)
set_option maxHeartbeats 2000000 in
theorem tSpendsF_any (A : List UInt8) (x : TI) (ga : Nat) (w : World) (hA : A.length = 20) (hx : x.Ok w) (hl : x.m.ky.length ≤ 1000) (hg : w.heap[ga]? = some (.cells (A.map B8).toArray 47 (0, 0))) :
    Calls Try.prog 46 #[.agg x.row.toArray, .pointer (some ⟨ga, 0, none⟩)] w fun e w' => e = .returned (.bool (pSp A x)) ∧ Fr F0 w w' := by
  have K := TI.cellsOf hx.m
  obtain ⟨s0, c32, c33, c34, x0, o1⟩ := K
  have HO := Lib.hid (fun w' (f : Fr F0 w w') => lOpenerC x.m.ky x.a x.m.ky.length x.c w' (Bs.fr7 hx.b f) rfl hl)
  have heq := fun w => run_equalIn_address w (opA x.m.ky) A (opA_length _) hA
  have sz1 : (A.map B8).toArray.size = 20 := by simp [hA]
  have sz2 : ((opA x.m.ky).map B8).toArray.size = 20 := by simp [opA_length]
  have on2 : rowOne ((opA x.m.ky).map B8).toArray := one_B8s _
  unfold pSp
  generalize x.row.toArray = C at *
  generalize x.m.ky.length = n at *
  generalize ((opA x.m.ky).map B8).toArray = X at *
  generalize (A.map B8).toArray = Y at *
  generalize decide (opA x.m.ky = A) = D at *
  generalize opO x.m.ky = o at *
  have d33 := cell_is c33 (by omega)
  have F := (Fr.refl F0 w).alloc (.cells C 68)
  have hga := F.keeps (fun f => f) hg
  clear hx hl hg
  go_enter Try.func46, Try.ntmps46
  go_wp2_with fail
  (with_reducible refine (HO.out _ F).mono ?_); rintro e w2 ⟨rfl, f⟩
  replace hga := keep_fr f hga
  replace F := F.trans' f
  clear HO f
  go_upto_region 2 with fail
  refine wp_put fun W3 N3 => ?_
  have r4 := N3.new
  replace hga := N3.old hga
  replace F := F.trans' N3.fr
  clear N3
  cases o with
  | true =>
    go_wp2
    go_ret
    exact ⟨by simp, F⟩
  | false =>
    go_wp2
    go_ret
    exact ⟨rfl, F⟩
set_option maxHeartbeats 2000000 in
theorem tSpends_any (t : TT) (A : List UInt8) (hA : A.length = 20) (w : World) (ht : t.Ok w) (hs : ∀ x ∈ t.ins, x.m.ky.length ≤ 1000) :
    Calls Try.prog 20 #[.agg t.cells, .agg (A.map B8).toArray] w fun e w' => e = .returned (.bool (t.ins.any (pSp A))) ∧ Fr F0 w w' := by
  have hmf : ∀ (fn : Fn) (first cap : Array Value) (w : World), (Instr.makeFunc fn first cap).run Try.prog w = .ok (.func fn first cap) w := fun _ _ _ _ => rfl
  have HT := Lib.hid (fun ga W (f : Fr F0 w W) (hg : W.heap[ga]? = some (.cells (A.map B8).toArray 47 (0, 0))) => hasIn_any 46 #[.pointer (some ⟨ga, 0, none⟩)] (pSp A) t.ins t.ia t.ins.length t.ic W (ht.ins.fr f) rfl (enters_of Try.func46 (by kernel_rfl) rfl) (fun x hx w' f' => tSpendsF_any A x ga w' hA (((ht.ins.ok x hx).fr f).fr f') (hs x hx) (keep_fr f' hg)))
  generalize t.ins.any (pSp A) = V at *
  obtain ⟨v0, v3, ia, oa, n, m, ic, oc, hc, hn, hm, hia, hoa, hic, hoc⟩ : ∃ (v0 v3 : Int) (ia oa : Option Addr) (n m ic oc : Nat), t.cells = #[.int .u32 v0, .slice ia n ic, .slice oa m oc, .int .u32 v3] ∧ n = t.ins.length ∧ m = t.outs.length ∧ ia = t.ia ∧ oa = t.oa ∧ ic = t.ic ∧ oc = t.oc := ⟨_, _, _, _, _, _, _, _, rfl, rfl, rfl, rfl, rfl, rfl, rfl⟩
  have hsz : (A.map B8).toArray.size = 20 := by simp [hA]
  rw [← hia, ← hn, ← hic] at HT
  rw [hc]
  generalize (A.map B8).toArray = X at *
  clear ht hs hc hn hm hia hoa hic hoc
  obtain ⟨r2, r3⟩ := heap2 w (.cells #[.int .u32 v0, .slice ia n ic, .slice oa m oc, .int .u32 v3] 28) (.cells X 47)
  have F : Fr F0 w ((w.alloc (.cells #[.int .u32 v0, .slice ia n ic, .slice oa m oc, .int .u32 v3] 28)).alloc (.cells X 47)) := ((Fr.refl F0 w).alloc _).alloc _
  go_enter Try.func20, Try.ntmps20
  go_wp2_with fail
  (with_reducible refine (HT.out _ _ F r3).mono ?_); rintro e w2 ⟨rfl, f2⟩
  go_wp2_with fail
  go_ret
  exact ⟨rfl, F.trans' f2⟩
end Go.Proofs.Ythoaalnjmklclaa
