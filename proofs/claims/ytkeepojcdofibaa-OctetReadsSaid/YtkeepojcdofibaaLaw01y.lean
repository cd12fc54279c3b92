/- OctetReads: the walk. -/
import Derived.OrdersHeld
import Derived.Deep.RegionHeld3
import Derived.Deep.CutBlock
import Derived.Deep.DeepCutAuto
import Derived.Laws.BitsAllLaws
import Derived.Test.YtkeepojcdofibaaLaw01m
namespace Go.Proofs.Ytkeepojcdofibaa
set_option linter.unusedVariables false
set_option linter.unusedSimpArgs false
open Go.RowKit

/-- Bytes that are all the call's own, appended to nothing. -/
theorem fresh_own (w : World) : OwnB (w.alloc (.cells #[] 5)) (.slice (some ⟨w.heap.size, 0, none⟩) 0 0) [] := World.ownsRow_made w #[] 0 (Nat.zero_le _) (Nat.zero_le _) rfl

/-- One byte of an owned row is turned. -/
theorem OwnB.set {w : World} {g n c : Nat} {bs : List UInt8} (h : OwnB w (.slice (some ⟨g, 0, none⟩) n c) bs) (j : Nat) (u : UInt8) : OwnB (w.setCell ⟨g, j, none⟩ (B8 u)) (.slice (some ⟨g, 0, none⟩) n c) (bs.set j u) := by
  have hn := h.bs.1
  subst hn
  have := (World.ownsRow.stored h j (B8 u)).1
  simpa [OwnB, List.map_set] using this

/-- A row that owns something lies somewhere. -/
theorem OwnB.form {w : World} {a : Option Addr} {n c : Nat} {bs : List UInt8} (h : OwnB w (.slice a n c) bs) (hne : 0 < bs.length) : ∃ g, a = some ⟨g, 0, none⟩ := by
  rcases h.2 with ⟨h1, h2⟩ | ⟨g, cap, cur, h1, _⟩
  · omega
  · simp only [Value.slice.injEq] at h1
    exact ⟨g, h1.1⟩

theorem OwnB.cellAt {w : World} {g n c : Nat} {bs : List UInt8} (h : OwnB w (.slice (some ⟨g, 0, none⟩) n c) bs) (j : Nat) (hj : j < bs.length) : w.cell? ⟨g, j, none⟩ = some (.int .u8 bs[j].toNat) ∧ w.frozen? ⟨g, j, none⟩ = false := by
  have hn := h.bs.1
  subst hn
  have h1 := World.ownsRow.cellAt h j (by omega)
  rw [List.getElem?_map, List.getElem?_eq_getElem hj] at h1
  exact ⟨h1, World.ownsRow.frozenAt h j⟩

set_option maxRecDepth 100000 in
set_option maxHeartbeats 4000000 in
theorem reads_any (a0 : Option Addr) (n0 c0 : Nat) (bb : List UInt8) (a : Option Addr) (n c : Nat) (l : List It) (w : World) (h0 : Bs w a0 c0 bb) (hn0 : n0 = bb.length) (h : Its w a c l) (hn : n = l.length) :
    Calls Try.prog 4 #[.slice a0 n0 c0, .slice a n c] w fun e w' => e = .returned (.bool true) ∧ Fr F0 w w' := by
  subst hn hn0
  have hbm : (bb.length : Int) ≤ 9223372036854775807 := by have h1 := h0.room; have h2 := h0.most; unfold maxLen at h2; omega
  cases hfew : fewB l with
  | false =>
    have LV := Lib.hid lives01_any
    have FW := Lib.hid (fun w' (hf : Fr F0 w w') => few01_any a _ c l w' (h.below hf) rfl)
    have HE := Lib.hid hfew
    clear hfew
    go_enter Try.func4, Try.ntmps4
    go_wp2_with fail
    refine (LV.out w).mono ?_
    rintro e w1 ⟨rfl, hf1⟩
    go_wp2_with fail
    refine (FW.out w1 hf1).mono ?_
    rintro e w2 ⟨rfl, hf2⟩
    rw [HE.out]
    go_wp2_with fail
    refine (LV.out w2).mono ?_
    rintro e w3 ⟨rfl, hf3⟩
    go_wp2
    go_ret
    exact ⟨rfl, (hf1.trans' hf2).trans' hf3⟩
  | true =>
    have h300 : ∀ t ∈ l, t.bs.length ≤ 300 := by
      intro t ht
      simp only [fewB, Bool.and_eq_true, List.all_eq_true, decide_eq_true_eq] at hfew
      exact hfew.1 t ht
    have h40 : l.length ≤ 40 := by
      simp only [fewB, Bool.and_eq_true, decide_eq_true_eq] at hfew
      exact hfew.2
    have LV := Lib.hid lives01_any
    have FW := Lib.hid (fun w' (hf : Fr F0 w w') => few01_any a _ c l w' (h.below hf) rfl)
    have HE := Lib.hid hfew
    have H300 := Lib.hid h300
    clear hfew h300
    by_cases h500 : 500 < bb.length
    · go_enter Try.func4, Try.ntmps4
      go_wp2_with fail
      refine (LV.out w).mono ?_
      rintro e w1 ⟨rfl, hf1⟩
      go_wp2_with fail
      refine (FW.out w1 hf1).mono ?_
      rintro e w2 ⟨rfl, hf2⟩
      rw [HE.out]
      go_wp2_with fail
      refine (LV.out w2).mono ?_
      rintro e w3 ⟨rfl, hf3⟩
      go_wp2
      go_ret
      exact ⟨rfl, (hf1.trans' hf2).trans' hf3⟩
    have hb5 : (bb.length : Int) ≤ 500 := by omega
    clear h500
    go_enter Try.func4, Try.ntmps4
    go_wp2_with fail
    refine (LV.out w).mono ?_
    rintro e w1 ⟨rfl, hf1⟩
    go_wp2_with fail
    refine (FW.out w1 hf1).mono ?_
    rintro e w2 ⟨rfl, hf2⟩
    rw [HE.out]
    have hf12 := hf1.trans' hf2
    clear hf1 hf2
    have A2 : Fr F0 w2 (w2.alloc (.cells #[] 5)) := (Fr.refl _ _).alloc _
    have H1 : Bs (w2.alloc (.cells #[] 5)) a0 c0 bb := Sl.fr h0 (hf12.trans' A2) fun _ _ f => f
    have H2 := fresh_own w2
    go_wp2_with (at_builtin; refine wpList_appB rfl _ _ rfl (.slice (some ⟨w2.heap.size, 0, none⟩) 0 0) [] rfl H2 _ _ _ _ rfl H1 rfl (by simp; omega) ?_; intro ao co w3 ho hg hb; simp only [List.length_nil, Nat.zero_add, List.nil_append] at ho ⊢; have HO := Lib.hid ho; have HG := Lib.hid hg; have HB := Lib.hid hb; clear hg hb H2)
    have hob := HO.out.bs.2
    refine (Read_any _ _ _ _ _ hob rfl (by omega)).mono ?_
    rintro e w4 ⟨rb, ra, rfl, hr, hf4, hr4, _, hk4⟩
    have hf3 : Fr F0 w w3 := (hf12.alloc _).grown HG.out fun k hk hl => by
      cases hk
      have := hf12.size
      exact absurd hl (by simp; omega)
    have ho3 : ∀ k, ablk ao = some k → w.heap.size ≤ k := by
      intro k hk
      rcases HB.out k hk with h | h
      · cases h
        exact hf12.size
      · have := hf12.size
        simp at h
        omega
    have hrb : w.heap.size ≤ rb := Nat.le_trans hf3.size hr4
    have hra : ∀ k, ablk ra = some k → w.heap.size ≤ k := fun k hk => Nat.le_trans hf3.size (hk4 k hk).1
    have hne1 : ∀ k, ablk ao = some k → k < w3.heap.size := fun k hk => HO.out.lt k (by rw [ablk_own]; exact hk)
    have hR : IsR w4 rb ra (some bb) := hr
    have ho4 : OwnB w4 (.slice ao bb.length co) bb := HO.out.fr hf4 fun _ _ f => f
    have hf4' := hf3.trans' hf4
    have RBNE : Hid (∀ k, ablk ao = some k → k ≠ rb ∧ ablk ra ≠ some k) := fun k hk => by
      have h1 := hne1 k hk
      refine ⟨by omega, fun e => ?_⟩
      have := (hk4 k e).1
      omega
    have HO3 := Lib.hid ho3
    have HRA := Lib.hid hra
    clear hne1 hr hk4 ho3 hra H1 ho HO HG HB hob hf4 hf3 A2
    go_wp2_with fail
    go_loopw [35] (fun iv wr => ∃ k : Nat, k ≤ bb.length ∧ iv = .int .i64 k ∧ (∃ bs', OwnB wr (.slice ao bb.length co) bs' ∧ bs'.length = bb.length) ∧ Fr (fun j => ablk ao = some j) w4 wr) (fun iv _ => bb.length - (intOf iv).toNat)
    case atStart => exact ⟨0, Nat.zero_le _, rfl, ⟨bb, ho4, rfl⟩, Fr.refl _ _⟩
    case round =>
      obtain ⟨k, hk, rfl, ⟨bs', ho', hl'⟩, hf⟩ := hrel
      by_cases hkn : k < bb.length
      · obtain ⟨g, rfl⟩ := ho'.form (by omega)
        obtain ⟨hc1, hz1⟩ := ho'.cellAt k (by omega)
        have hx8 := (bs'[k]'(by omega)).toNat_lt
        generalize (bs'[k]'(by omega)).toNat = v at *
        have hxor : bits .xor .u8 (v : Int) 255 = ((v ^^^ 255 : Nat) : Int) := u8_xor_nat v 255 (by omega) (by omega)
        have hv8 : v ^^^ 255 < 256 := Nat.xor_lt_two_pow (n := 8) (by omega) (by omega)
        generalize v ^^^ 255 = u at *
        have HS := Lib.hid (ho'.set k (UInt8.ofNat u))
        have HF := Lib.hid (Fr.setCell hf (p := ⟨g, k, none⟩) (fun _ => rfl) (B8 (UInt8.ofNat u)))
        have hB8 : B8 (UInt8.ofNat u) = .int .u8 u := by simp [B8, Nat.mod_eq_of_lt hv8]
        rw [hB8] at HS HF
        have HL := Lib.hid hl'
        clear hl' ho' hB8 hf
        go_wp2
        go_roundw
        case rel => exact ⟨k + 1, by omega, by go_num, ⟨_, HS.out, by rw [List.length_set]; exact HL.out⟩, HF.out⟩
        case measure => simp [intOf]; omega
      · obtain rfl : k = bb.length := by omega
        have hR1 : IsR wr rb ra (some bb) := hR.fr hf (fun e => (RBNE.out _ e).1 rfl) fun k hk e => (RBNE.out k e).2 hk
        have hfw : Fr F0 w wr := hf4'.trans hf fun i hi e => by have := HO3.out i e; omega
        clear hf4' hf ho' hR ho4 hl' hk hkn
        have A3 : Fr F0 wr (wr.alloc (.cells #[] 5)) := (Fr.refl _ _).alloc _
        have H1 : Bs (wr.alloc (.cells #[] 5)) a0 c0 bb := Sl.fr h0 (hfw.trans' A3) fun _ _ f => f
        have H2 := fresh_own wr
        go_wp2_with (at_builtin; refine wpList_appB rfl _ _ rfl (.slice (some ⟨wr.heap.size, 0, none⟩) 0 0) [] rfl H2 _ _ _ _ rfl H1 rfl (by simp; omega) ?_; intro am cm w5 ho hg hb; simp only [List.length_nil, Nat.zero_add, List.nil_append] at ho ⊢; have HO := Lib.hid ho; have HG := Lib.hid hg; have HB := Lib.hid hb; clear hg hb H2 ho)
        have hf5 : Fr F0 wr w5 := A3.grown HG.out fun k hk hl => by cases hk; exact absurd hl (Nat.lt_irrefl _)
        have hm5 : ∀ k, ablk am = some k → wr.heap.size ≤ k ∧ k < w5.heap.size := by
          intro k hk
          refine ⟨?_, HO.out.lt k (by rw [ablk_own]; exact hk)⟩
          rcases HB.out k hk with h | h
          · cases h
            exact Nat.le_refl _
          · simp at h
            omega
        have hM : IsM (w5.alloc (.cells #[.slice am bb.length cm, .bool false] 49)) w5.heap.size am (some bb) := by
          refine ⟨⟨cm, heap_alloc_new w5 _, Sl.fr HO.out.bs.2 ((Fr.refl F0 _).alloc _) fun _ _ f => f⟩, fun k hk => ?_⟩
          have := (hm5 k hk).2
          simp
          omega
        have hR5 : IsR (w5.alloc (.cells #[.slice am bb.length cm, .bool false] 49)) rb ra (some bb) := hR1.fr (hf5.alloc _) (fun f => f) fun _ _ f => f
        have hmb : w.heap.size ≤ w5.heap.size := Nat.le_trans hfw.size hf5.size
        have HAM := Lib.hid (show ∀ k, ablk am = some k → w.heap.size ≤ k from fun k hk => Nat.le_trans hfw.size (hm5 k hk).1)
        have HFM := Lib.hid ((hfw.trans' hf5).alloc (.cells #[.slice am bb.length cm, .bool false] 49))
        clear hm5 hf5 hfw hR1 HG HB HO A3 H1
        go_loopw [52] (fun iv wr => ∃ (k : Nat) (st : Option (List UInt8)), k ≤ l.length ∧ iv = .int .i64 k ∧ lft st ≤ 500 ∧ (∃ a, IsR wr rb a st ∧ ∀ i, ablk a = some i → w.heap.size ≤ i) ∧ (∃ a, IsM wr w5.heap.size a st ∧ ∀ i, ablk a = some i → w.heap.size ≤ i) ∧ Fr F0 w wr) (fun iv _ => l.length - (intOf iv).toNat)
        case atStart => exact ⟨0, some bb, Nat.zero_le _, rfl, by simp [lft]; omega, ⟨ra, hR5, HRA.out⟩, ⟨am, hM, HAM.out⟩, HFM.out⟩
        case round =>
          obtain ⟨k, st, hk, rfl, hst, hRd, hMd, hf⟩ := hrel
          clear hR5 hM
          have HRD := Lib.hid hRd
          have HMD := Lib.hid hMd
          clear hRd hMd HFM HAM HRA
          generalize w5.heap.size = mb at *
          by_cases hkn : k < l.length
          · have hr := h.below hf
            have hok := hr.ok _ (List.getElem_mem hkn)
            obtain ⟨b, off, rfl, hb, hc⟩ := hr.cells k hkn
            have c0 := hc 0 _ rfl
            have c1 := hc 1 _ rfl
            have c2 := hc 2 _ rfl
            have c3 := hc 3 _ rfl
            generalize ht : l[k] = t at *
            simp only [Nat.add_zero] at c0
            have hx := hok.x
            have hs0 := hok.s0
            have hs1 := hok.s1
            have hbl := hok.bytes.room
            have hbm := hok.bytes.most
            have BX : RM w (wr.alloc (.cells #[.int .i64 t.kind, .int .i64 t.size, .int .u64 t.x, .slice t.ba t.bs.length t.bc] 31)) rb mb st st wr.heap.size t := by
              obtain ⟨v, hv, ho⟩ := HRD.out
              obtain ⟨v2, hv2, ho2⟩ := HMD.out
              exact ⟨⟨v, hv.fr ((Fr.refl F0 wr).alloc _) (fun f => f) fun _ _ f => f, ho⟩, ⟨v2, hv2.fr ((Fr.refl F0 wr).alloc _) (fun f => f) fun _ _ f => f, ho2⟩, hrb, hmb, hf.alloc _, heap_alloc_new wr _⟩
            clear hc hr ht hok HE LV FW HRD HMD
            obtain ⟨kd, sz, x, ba, bc, ib⟩ := t
            dsimp only at *
            go_upto_block 4 with fail
            go_cut [11] (fun _ wx => ∃ st', lft st' ≤ 500 ∧ RM w wx rb mb st' st' wr.heap.size ⟨kd, sz, x, ba, bc, ib⟩)
            case first =>
              have hmbl : mb < (wr.alloc (.cells #[.int .i64 kd, .int .i64 sz, .int .u64 x, .slice ba ib.length bc] 31)).drew.heap.size := by
                obtain ⟨a, hm, _⟩ := BX.md
                obtain ⟨c, h1, _⟩ := hm.at_
                exact (Array.getElem?_eq_some_iff.1 h1).1
              have HMB := Lib.hid hmbl
              clear hmbl c0 c1 c2 c3 h0 h hb hbl hbm
              by_cases k0 : kd = 0
              · subst k0
                obtain ⟨d0, d1, d2, d3⟩ := BX.c
                cases hsz8 : szB sz with
                | true =>
                  have h8 := szB_le hsz8
                  have htl := tk_le sz st (by omega)
                  have hg : gt sz st = (ofLE (tk sz st).1, (tk sz st).2) := by simp [gt, hsz8]
                  have hbd := (tk_len sz st).2
                  have HG := Lib.hid hg
                  clear hg
                  generalize hq : tk sz st = q at *
                  have HQ := Lib.hid hq
                  clear hq
                  obtain ⟨r, s1⟩ := q
                  dsimp only at *
                  go_wp2_with fail
                  refine (right01_any _ _).mono ?_
                  rintro e w' ⟨rfl, rfl⟩
                  go_wp2_with fail
                  have QT : (tk sz st) = (r, s1) := HQ.out
                  refine (BX.callM fun a ha => mraw_any _ a _ _ _ ha (by omega)).mono ?_
                  rw [QT]
                  rintro e w3 ⟨rfl, r3, _⟩
                  clear QT
                  obtain ⟨c4, w4', hcv, hb4, hf4⟩ := run_bytes w3 r (by unfold maxLen; omega)
                  have r4 := r3.more hf4
                  have HCV := Lib.hid hcv
                  clear d0 d1 d2 d3
                  obtain ⟨d0, d1, d2, d3⟩ := r4.c
                  have HR4 := Lib.hid r4
                  clear hf4 r3 r4 BX HCV
                  go_wp2_with fail
                  refine (refGet_any _ _ _ _ _ hb4 rfl (by omega)).mono ?_
                  rintro e w' ⟨rfl, rfl⟩
                  clear hb4 hcv
                  go_wp2_with fail
                  refine (HR4.out.callR fun a ha => Get_any _ a _ _ _ ha (by omega)).mono ?_
                  rw [HG.out]
                  rintro e w5 ⟨rfl, r5⟩
                  have HR5 := Lib.hid r5
                  clear r5 d0 d1 d2 d3
                  go_wp2_with fail
                  go_meet
                  exact ⟨s1, by omega, HR5.out⟩
                | false =>
                  have hg : gt sz st = (0, none) := by simp [gt, hsz8]
                  go_wp2_with fail
                  refine (right01_any _ _).mono ?_
                  rintro e w' ⟨rfl, rfl⟩
                  go_wp2_with fail
                  refine (BX.callM fun a ha => mfail_any _ a _ _ ha).mono ?_
                  rintro e w3 ⟨rfl, r3, _⟩
                  clear d0 d1 d2 d3
                  obtain ⟨d0, d1, d2, d3⟩ := r3.c
                  have HR4 := Lib.hid r3
                  clear r3 BX
                  go_wp2_with fail
                  refine (HR4.out.callR fun a ha => Get_any _ a _ _ _ ha (by omega)).mono ?_
                  rw [hg]
                  rintro e w5 ⟨rfl, r5⟩
                  have HR5 := Lib.hid r5
                  clear r5 d0 d1 d2 d3 hg
                  go_wp2_with fail
                  go_meet
                  exact ⟨none, by simp [lft], HR5.out⟩
              have b0 : (kd == 0) = false := by simpa using k0
              by_cases k1 : kd = 1
              · subst k1
                clear k0
                have hbd := rc_lft x st
                obtain ⟨d0, d1, d2, d3⟩ := BX.c
                have BXd := BX.more ((Fr.refl F0 _).drew)
                have RCM := rc_mcnt x st
                have HRCM := Lib.hid RCM
                clear RCM
                go_wp2_with fail
                refine wp_region_noPanic ?_
                refine wp_region_held_drew (S := (fun w' => (∃ sr sm, RM w w' rb mb sr sm wr.heap.size ⟨1, sz, x, ba, bc, ib⟩) ∧ w'.cell? ⟨wr.heap.size, 2, none⟩ = some (.int .u64 x))) (by kernel_rfl) ?_ (fun hHeld => ?_)
                · (try dsimp only)
                  first | exact ⟨⟨_, _, BXd⟩, BXd.c.2.2.1⟩ | exact ⟨⟨_, _, r6⟩, r6.c.2.2.1⟩ | exact ⟨⟨_, _, r5⟩, r5.c.2.2.1⟩
                refine wpAnyH_take (i := 0) (oi := ⟨_, _, _, _, _, _⟩) (v := ?_) rfl (by kernel_rfl) (by kernel_rfl) (by kernel_rfl) (fun _ _ _ h => h) (Or.inl ⟨by rfl, ?_⟩) (by assumption) ?_
                rotate_left
                · intro w hSw; (try dsimp only at hSw); go_simp; (try (with_reducible rfl)); done
                simp only [Act.put, List.setIfInBounds_toArray, List.set_cons_zero, List.set_cons_succ]
                refine wpAnyH_take (i := 1) (oi := ⟨_, _, _, _, _, _⟩) (v := ?_) rfl (by kernel_rfl) (by kernel_rfl) (by kernel_rfl) (fun _ _ _ h => h) (Or.inl ⟨by rfl, ?_⟩) (by assumption) ?_
                rotate_left
                · intro w hSw; (try dsimp only at hSw); go_simp; (try (with_reducible rfl)); done
                simp only [Act.put, List.setIfInBounds_toArray, List.set_cons_zero, List.set_cons_succ]
                refine wpAnyH_take (i := 2) (oi := ⟨_, _, _, _, _, _⟩) (v := ?_) rfl (by kernel_rfl) (by kernel_rfl) (by kernel_rfl) (fun _ _ _ h => h) (Or.inl ⟨by rfl, ?_⟩) (by assumption) ?_
                rotate_left
                · intro w hSw; (try dsimp only at hSw); go_simp; (try (with_reducible rfl)); done
                simp only [Act.put, List.setIfInBounds_toArray, List.set_cons_zero, List.set_cons_succ]
                refine wpAnyH_take (i := 4) (oi := ⟨_, _, _, _, _, _⟩) (v := ?_) rfl (by kernel_rfl) (by kernel_rfl) (by kernel_rfl) (fun _ _ _ h => h) (Or.inl ⟨by rfl, ?_⟩) (by assumption) ?_
                rotate_left
                · intro w hSw; (try dsimp only at hSw); go_simp; (try (with_reducible rfl)); done
                simp only [Act.put, List.setIfInBounds_toArray, List.set_cons_zero, List.set_cons_succ]
                refine wpAnyH_take (i := 5) (oi := ⟨_, _, _, _, _, _⟩) (v := ?_) rfl (by kernel_rfl) (by kernel_rfl) (by kernel_rfl) (fun _ _ _ h => h) (Or.inl ⟨by rfl, ?_⟩) (by assumption) ?_
                rotate_left
                · intro w hSw; (try dsimp only at hSw); go_simp; (try (with_reducible rfl)); done
                simp only [Act.put, List.setIfInBounds_toArray, List.set_cons_zero, List.set_cons_succ]
                refine wpAnyH_take (i := 6) (oi := ⟨_, _, _, _, _, _⟩) (v := ?_) rfl (by kernel_rfl) (by kernel_rfl) (by kernel_rfl) (fun _ _ _ h => h) (Or.inl ⟨by rfl, ?_⟩) (by assumption) ?_
                rotate_left
                · intro w hSw; (try dsimp only at hSw); go_simp; (try (with_reducible rfl)); done
                simp only [Act.put, List.setIfInBounds_toArray, List.set_cons_zero, List.set_cons_succ]
                refine wpAnyH_ready (rs := [3]) (by kernel_rfl) (by simp) ?_
                refine AllReadyH.cons (o := ⟨_, _, _, _, _, _⟩) rfl (fun K hK => ?_) AllReadyH.nil
                go_simp
                (refine (BXd.callR fun a ha => RCount_any _ a _ _ _ ha (by omega) (by omega)).mono ?_; rintro e w5 ⟨rfl, r5⟩; rw [HRCM.out] at r5 ⊢)
                refine hK.out _ _ ?_ (fun hHeld => ?_)
                · (try dsimp only)
                  first | exact ⟨⟨_, _, BXd⟩, BXd.c.2.2.1⟩ | exact ⟨⟨_, _, r6⟩, r6.c.2.2.1⟩ | exact ⟨⟨_, _, r5⟩, r5.c.2.2.1⟩
                clear hK K
                try simp only [Act.put, List.setIfInBounds_toArray, List.set_cons_zero, List.set_cons_succ]
                refine wpAnyH_ready (rs := [7]) (by kernel_rfl) (by simp) ?_
                refine AllReadyH.cons (o := ⟨_, _, _, _, _, _⟩) rfl (fun K hK => ?_) AllReadyH.nil
                go_simp
                (refine (r5.callM fun a ha => mcount_any _ a _ _ _ ha (by omega) (by omega)).mono ?_; rintro e w6 ⟨rfl, r6, _⟩)
                refine hK.out _ _ ?_ (fun hHeld => ?_)
                · (try dsimp only)
                  first | exact ⟨⟨_, _, BXd⟩, BXd.c.2.2.1⟩ | exact ⟨⟨_, _, r6⟩, r6.c.2.2.1⟩ | exact ⟨⟨_, _, r5⟩, r5.c.2.2.1⟩
                clear hK K
                try simp only [Act.put, List.setIfInBounds_toArray, List.set_cons_zero, List.set_cons_succ]
                refine wpAnyH_ready (rs := [8]) (by kernel_rfl) (by simp) ?_
                refine AllReadyH.cons (o := ⟨_, _, _, _, _, _⟩) rfl (fun K hK => ?_) AllReadyH.nil
                go_simp
                refine hK.out _ _ ?_ (fun hHeld => ?_)
                · (try dsimp only)
                  first | exact ⟨⟨_, _, BXd⟩, BXd.c.2.2.1⟩ | exact ⟨⟨_, _, r6⟩, r6.c.2.2.1⟩ | exact ⟨⟨_, _, r5⟩, r5.c.2.2.1⟩
                clear hK K
                try simp only [Act.put, List.setIfInBounds_toArray, List.set_cons_zero, List.set_cons_succ]
                refine wpAnyH_done (by kernel_rfl) ?_ _
                refine NoPanic.normal ?_
                have HR6 := Lib.hid r6
                rw [HRCM.out] at hbd
                clear BXd BX r5 r6 d0 d1 d2 d3
                go_wp2_with fail
                go_meet
                exact ⟨_, by omega, HR6.out⟩
              have b1 : (kd == 1) = false := by simpa using k1
              clear k1
              by_cases k2 : kd = 2
              · subst k2
                clear k0
                obtain ⟨d0, d1, d2, d3⟩ := BX.c
                have BXd := BX.more ((Fr.refl F0 _).drew)
                have hbd := (tk_len sz st).2
                go_wp2_with fail
                refine wp_region_noPanic ?_
                refine wp_region_held_drew (S := (fun w' => (∃ sr sm, RM w w' rb mb sr sm wr.heap.size ⟨2, sz, x, ba, bc, ib⟩) ∧ w'.cell? ⟨wr.heap.size, 1, none⟩ = some (.int .i64 sz))) (by kernel_rfl) ?_ (fun hHeld => ?_)
                · (try dsimp only)
                  first | exact ⟨⟨_, _, BXd⟩, BXd.c.2.1⟩ | exact ⟨⟨_, _, r6⟩, r6.c.2.1⟩ | exact ⟨⟨_, _, r5⟩, r5.c.2.1⟩
                refine wpAnyH_take (i := 0) (oi := ⟨_, _, _, _, _, _⟩) (v := ?_) rfl (by kernel_rfl) (by kernel_rfl) (by kernel_rfl) (fun _ _ _ h => h) (Or.inl ⟨by rfl, ?_⟩) (by assumption) ?_
                rotate_left
                · intro w hSw; (try dsimp only at hSw); go_simp; (try (with_reducible rfl)); done
                simp only [Act.put, List.setIfInBounds_toArray, List.set_cons_zero, List.set_cons_succ]
                refine wpAnyH_take (i := 1) (oi := ⟨_, _, _, _, _, _⟩) (v := ?_) rfl (by kernel_rfl) (by kernel_rfl) (by kernel_rfl) (fun _ _ _ h => h) (Or.inl ⟨by rfl, ?_⟩) (by assumption) ?_
                rotate_left
                · intro w hSw; (try dsimp only at hSw); go_simp; (try (with_reducible rfl)); done
                simp only [Act.put, List.setIfInBounds_toArray, List.set_cons_zero, List.set_cons_succ]
                refine wpAnyH_take (i := 2) (oi := ⟨_, _, _, _, _, _⟩) (v := ?_) rfl (by kernel_rfl) (by kernel_rfl) (by kernel_rfl) (fun _ _ _ h => h) (Or.inl ⟨by rfl, ?_⟩) (by assumption) ?_
                rotate_left
                · intro w hSw; (try dsimp only at hSw); go_simp; (try (with_reducible rfl)); done
                simp only [Act.put, List.setIfInBounds_toArray, List.set_cons_zero, List.set_cons_succ]
                refine wpAnyH_take (i := 5) (oi := ⟨_, _, _, _, _, _⟩) (v := ?_) rfl (by kernel_rfl) (by kernel_rfl) (by kernel_rfl) (fun _ _ _ h => h) (Or.inl ⟨by rfl, ?_⟩) (by assumption) ?_
                rotate_left
                · intro w hSw; (try dsimp only at hSw); go_simp; (try (with_reducible rfl)); done
                simp only [Act.put, List.setIfInBounds_toArray, List.set_cons_zero, List.set_cons_succ]
                refine wpAnyH_take (i := 6) (oi := ⟨_, _, _, _, _, _⟩) (v := ?_) rfl (by kernel_rfl) (by kernel_rfl) (by kernel_rfl) (fun _ _ _ h => h) (Or.inl ⟨by rfl, ?_⟩) (by assumption) ?_
                rotate_left
                · intro w hSw; (try dsimp only at hSw); go_simp; (try (with_reducible rfl)); done
                simp only [Act.put, List.setIfInBounds_toArray, List.set_cons_zero, List.set_cons_succ]
                refine wpAnyH_take (i := 7) (oi := ⟨_, _, _, _, _, _⟩) (v := ?_) rfl (by kernel_rfl) (by kernel_rfl) (by kernel_rfl) (fun _ _ _ h => h) (Or.inl ⟨by rfl, ?_⟩) (by assumption) ?_
                rotate_left
                · intro w hSw; (try dsimp only at hSw); go_simp; (try (with_reducible rfl)); done
                simp only [Act.put, List.setIfInBounds_toArray, List.set_cons_zero, List.set_cons_succ]
                refine wpAnyH_ready (rs := [3]) (by kernel_rfl) (by simp) ?_
                refine AllReadyH.cons (o := ⟨_, _, _, _, _, _⟩) rfl (fun K hK => ?_) AllReadyH.nil
                go_simp
                (refine (BXd.giveR fun a ha => RRaw_any _ a _ _ _ ha (by omega)).mono ?_; rintro e w5 ⟨a5, c5, rfl, hb5, hk5, r5⟩; have hs5 := run_str (P := Try.prog) 26 9 5 Try.underlying26 Try.underlying5 Try.underlying9 hb5 _ rfl; have HB5 := Lib.hid hb5; have HK5 := Lib.hid hk5; clear hb5 hk5)
                refine hK.out _ _ ?_ (fun hHeld => ?_)
                · (try dsimp only)
                  first | exact ⟨⟨_, _, BXd⟩, BXd.c.2.1⟩ | exact ⟨⟨_, _, r6⟩, r6.c.2.1⟩ | exact ⟨⟨_, _, r5⟩, r5.c.2.1⟩
                clear hK K
                try simp only [Act.put, List.setIfInBounds_toArray, List.set_cons_zero, List.set_cons_succ]
                refine wpAnyH_ready (rs := [4, 8]) (by kernel_rfl) (by simp) ?_
                refine AllReadyH.cons (o := ⟨_, _, _, _, _, _⟩) rfl (fun K hK => ?_) (AllReadyH.cons (o := ⟨_, _, _, _, _, _⟩) rfl (fun K hK => ?_) AllReadyH.nil)
                go_simp
                refine hK.out _ _ ?_ (fun hHeld => ?_)
                · (try dsimp only)
                  first | exact ⟨⟨_, _, BXd⟩, BXd.c.2.1⟩ | exact ⟨⟨_, _, r6⟩, r6.c.2.1⟩ | exact ⟨⟨_, _, r5⟩, r5.c.2.1⟩
                clear hK K
                try simp only [Act.put, List.setIfInBounds_toArray, List.set_cons_zero, List.set_cons_succ]
                refine wpAnyH_ready (rs := [8]) (by kernel_rfl) (by simp) ?_
                refine AllReadyH.cons (o := ⟨_, _, _, _, _, _⟩) rfl (fun K hK => ?_) AllReadyH.nil
                go_simp
                (refine (r5.callM fun a ha => mraw_any _ a _ _ _ ha (by omega)).mono ?_; rintro e w6 ⟨rfl, r6, hf6⟩; have hs6 := run_str (P := Try.prog) 26 9 5 Try.underlying26 Try.underlying5 Try.underlying9 (Sl.fr HB5.out hf6 fun k hk e => by have h1 := HK5.out k hk; have h2 := HMB.out; omega) _ rfl)
                refine hK.out _ _ ?_ (fun hHeld => ?_)
                · (try dsimp only)
                  first | exact ⟨⟨_, _, BXd⟩, BXd.c.2.1⟩ | exact ⟨⟨_, _, r6⟩, r6.c.2.1⟩ | exact ⟨⟨_, _, r5⟩, r5.c.2.1⟩
                clear hK K
                try simp only [Act.put, List.setIfInBounds_toArray, List.set_cons_zero, List.set_cons_succ]
                refine wpAnyH_ready (rs := [9]) (by kernel_rfl) (by simp) ?_
                refine AllReadyH.cons (o := ⟨_, _, _, _, _, _⟩) rfl (fun K hK => ?_) AllReadyH.nil
                go_simp
                refine hK.out _ _ ?_ (fun hHeld => ?_)
                · (try dsimp only)
                  first | exact ⟨⟨_, _, BXd⟩, BXd.c.2.1⟩ | exact ⟨⟨_, _, r6⟩, r6.c.2.1⟩ | exact ⟨⟨_, _, r5⟩, r5.c.2.1⟩
                clear hK K
                try simp only [Act.put, List.setIfInBounds_toArray, List.set_cons_zero, List.set_cons_succ]
                refine wpAnyH_done (by kernel_rfl) ?_ _
                refine NoPanic.normal ?_
                rotate_left
                go_simp
                (refine (r5.callM fun a ha => mraw_any _ a _ _ _ ha (by omega)).mono ?_; rintro e w6 ⟨rfl, r6, hf6⟩; have hs6 := run_str (P := Try.prog) 26 9 5 Try.underlying26 Try.underlying5 Try.underlying9 (Sl.fr HB5.out hf6 fun k hk e => by have h1 := HK5.out k hk; have h2 := HMB.out; omega) _ rfl)
                refine hK.out _ _ ?_ (fun hHeld => ?_)
                · (try dsimp only)
                  first | exact ⟨⟨_, _, BXd⟩, BXd.c.2.1⟩ | exact ⟨⟨_, _, r6⟩, r6.c.2.1⟩ | exact ⟨⟨_, _, r5⟩, r5.c.2.1⟩
                clear hK K
                try simp only [Act.put, List.setIfInBounds_toArray, List.set_cons_zero, List.set_cons_succ]
                refine wpAnyH_ready (rs := [4]) (by kernel_rfl) (by simp) ?_
                refine AllReadyH.cons (o := ⟨_, _, _, _, _, _⟩) rfl (fun K hK => ?_) AllReadyH.nil
                go_simp
                refine hK.out _ _ ?_ (fun hHeld => ?_)
                · (try dsimp only)
                  first | exact ⟨⟨_, _, BXd⟩, BXd.c.2.1⟩ | exact ⟨⟨_, _, r6⟩, r6.c.2.1⟩ | exact ⟨⟨_, _, r5⟩, r5.c.2.1⟩
                clear hK K
                try simp only [Act.put, List.setIfInBounds_toArray, List.set_cons_zero, List.set_cons_succ]
                refine wpAnyH_ready (rs := [9]) (by kernel_rfl) (by simp) ?_
                refine AllReadyH.cons (o := ⟨_, _, _, _, _, _⟩) rfl (fun K hK => ?_) AllReadyH.nil
                go_simp
                refine hK.out _ _ ?_ (fun hHeld => ?_)
                · (try dsimp only)
                  first | exact ⟨⟨_, _, BXd⟩, BXd.c.2.1⟩ | exact ⟨⟨_, _, r6⟩, r6.c.2.1⟩ | exact ⟨⟨_, _, r5⟩, r5.c.2.1⟩
                clear hK K
                try simp only [Act.put, List.setIfInBounds_toArray, List.set_cons_zero, List.set_cons_succ]
                refine wpAnyH_done (by kernel_rfl) ?_ _
                refine NoPanic.normal ?_
                rotate_left
                all_goals
                  have HR6 := Lib.hid r6
                  clear BXd BX r5 r6 d0 d1 d2 d3
                  go_wp2_with fail
                  go_meet
                  exact ⟨_, by omega, HR6.out⟩
              have b2 : (kd == 2) = false := by simpa using k2
              by_cases k3 : kd = 3
              · subst k3
                clear k0 k2
                obtain ⟨d0, d1, d2, d3⟩ := BX.c
                have hE0 : strOf [] = (⟨#[]⟩ : ByteArray) := rfl
                have HE0 := Lib.hid hE0
                clear hE0
                by_cases hneg : sz < 0
                · have hrc : rctd sz st = ([], none) := by simp [rctd, hneg]
                  have HRC := Lib.hid hrc
                  clear hrc
                  go_wp2_with fail
                  refine (BX.callM fun a ha => mfail_any _ a _ _ ha).mono ?_
                  rintro e w3 ⟨rfl, r3, _⟩
                  clear d0 d1 d2 d3
                  obtain ⟨d0, d1, d2, d3⟩ := r3.c
                  have HR3 := Lib.hid r3
                  clear r3 BX
                  go_wp2_with fail
                  refine (HR3.out.giveR fun a ha => RCounted_any _ a _ _ _ ha (by omega) (by omega)).mono ?_
                  rw [HRC.out]
                  rintro e w5 ⟨a5, c5, rfl, hb5, _, r5⟩
                  have hs5 := run_str (P := Try.prog) 26 9 5 Try.underlying26 Try.underlying5 Try.underlying9 hb5 _ rfl
                  rw [HE0.out, List.length_nil] at hs5
                  have HR5 := Lib.hid r5
                  clear r5 d0 d1 d2 d3 hb5
                  go_wp2_with fail
                  go_meet
                  exact ⟨none, by simp [lft], HR5.out⟩
                · obtain ⟨m, rfl⟩ := Int.eq_ofNat_of_zero_le (show 0 ≤ sz by omega)
                  have hrc : rctd (m : Int) st = tk (rc m st).1 (rc m st).2 := by
                    unfold rctd
                    rw [if_neg (by omega), Int.toNat_natCast]
                  have hle := rc_le m st
                  have hlf := rc_lft m st
                  rw [rc_mcnt] at hrc hle hlf
                  have HRC := Lib.hid hrc
                  clear hrc hneg
                  go_wp2_with fail
                  refine (BX.callM fun a ha => mcount_any _ a _ m _ ha (by omega) (by omega)).mono ?_
                  generalize mcnt m st = q at *
                  obtain ⟨x1, s1⟩ := q
                  rintro e w3 ⟨rfl, r3, _⟩
                  dsimp only at *
                  clear d0 d1 d2 d3
                  obtain ⟨d0, d1, d2, d3⟩ := r3.c
                  have hm1 := r3.m.2
                  have HR3 := Lib.hid r3
                  clear r3 BX
                  cases s1 with
                  | none =>
                    have ht0 : tk (x1 : Int) none = ([], none) := rfl
                    rw [ht0] at HRC
                    clear ht0
                    simp only [Option.isNone_none] at hm1
                    go_wp2_with fail
                    refine (HR3.out.giveR fun a ha => RCounted_any _ a _ _ _ ha (by omega) (by omega)).mono ?_
                    rw [HRC.out]
                    rintro e w5 ⟨a5, c5, rfl, hb5, _, r5⟩
                    have hs5 := run_str (P := Try.prog) 26 9 5 Try.underlying26 Try.underlying5 Try.underlying9 hb5 _ rfl
                    rw [HE0.out, List.length_nil] at hs5
                    have HR5 := Lib.hid r5
                    clear r5 d0 d1 d2 d3 hb5 hm1
                    go_wp2_with fail
                    go_meet
                    exact ⟨none, by simp [lft], HR5.out⟩
                  | some b1' =>
                    have hbd := (tk_len (x1 : Int) (some b1')).2
                    simp only [Option.isNone_some] at hm1
                    go_wp2_with fail
                    refine (HR3.out.callM fun a ha => mraw_any _ a _ _ _ ha (by omega)).mono ?_
                    generalize tk (x1 : Int) (some b1') = q2 at *
                    obtain ⟨r, s2⟩ := q2
                    rintro e w4 ⟨rfl, r4, _⟩
                    dsimp only at *
                    clear d0 d1 d2 d3 hm1
                    obtain ⟨d0, d1, d2, d3⟩ := r4.c
                    have HR4 := Lib.hid r4
                    clear r4 HR3
                    go_wp2_with fail
                    refine (HR4.out.giveR fun a ha => RCounted_any _ a _ _ _ ha (by omega) (by omega)).mono ?_
                    rw [HRC.out]
                    rintro e w5 ⟨a5, c5, rfl, hb5, _, r5⟩
                    have hs5 := run_str (P := Try.prog) 26 9 5 Try.underlying26 Try.underlying5 Try.underlying9 hb5 _ rfl
                    have HR5 := Lib.hid r5
                    clear r5 d0 d1 d2 d3 hb5
                    go_wp2_with fail
                    go_meet
                    exact ⟨s2, by omega, HR5.out⟩
              · have b3 : (kd == 3) = false := by simpa using k3
                have HBX := Lib.hid BX
                clear BX k0 k2 k3
                go_wp2_with fail
                go_meet
                exact ⟨st, hst, HBX.out.more ((Fr.refl F0 _))⟩
            case rest =>
              obtain ⟨st', hst', RX⟩ := hcut
              clear BX c0 c1 c2 c3
              have RXd := RX.more ((Fr.refl F0 _).drew)
              obtain ⟨⟨ma, mc, hm0⟩, hm1⟩ := RXd.m
              obtain ⟨ra2, hr2, _⟩ := RXd.rd
              have RXX := Lib.hid RXd
              have HR2 := Lib.hid hr2
              clear RX RXd hr2
              cases st' with
              | none =>
                go_wp2_with fail
                refine wp_region_noPanic ?_
                refine wp_region_held_drew (S := (fun w' => w'.cell? ⟨mb, 0, none⟩ = some (.slice ma (lft none) mc) ∧ w'.cell? ⟨mb, 1, none⟩ = some (.bool true))) (by kernel_rfl) ?_ (fun hHeld => ?_)
                · (try dsimp only)
                  exact ⟨hm0, hm1⟩
                refine wpAnyH_take (i := 0) (oi := ⟨_, _, _, _, _, _⟩) (v := ?_) rfl (by kernel_rfl) (by kernel_rfl) (by kernel_rfl) (fun _ _ _ h => h) (Or.inl ⟨by rfl, ?_⟩) (by assumption) ?_
                rotate_left
                · intro w hSw; (try dsimp only at hSw); go_simp; (try (with_reducible rfl)); done
                simp only [Act.put, List.setIfInBounds_toArray, List.set_cons_zero, List.set_cons_succ]
                refine wpAnyH_take (i := 2) (oi := ⟨_, _, _, _, _, _⟩) (v := ?_) rfl (by kernel_rfl) (by kernel_rfl) (by kernel_rfl) (fun _ _ _ h => h) (Or.inl ⟨by rfl, ?_⟩) (by assumption) ?_
                rotate_left
                · intro w hSw; (try dsimp only at hSw); go_simp; (try (with_reducible rfl)); done
                simp only [Act.put, List.setIfInBounds_toArray, List.set_cons_zero, List.set_cons_succ]
                refine wpAnyH_take (i := 3) (oi := ⟨_, _, _, _, _, _⟩) (v := ?_) rfl (by kernel_rfl) (by kernel_rfl) (by kernel_rfl) (fun _ _ _ h => h) (Or.inl ⟨by rfl, ?_⟩) (by assumption) ?_
                rotate_left
                · intro w hSw; (try dsimp only at hSw); go_simp; (try (with_reducible rfl)); done
                simp only [Act.put, List.setIfInBounds_toArray, List.set_cons_zero, List.set_cons_succ]
                refine wpAnyH_take (i := 4) (oi := ⟨_, _, _, _, _, _⟩) (v := ?_) rfl (by kernel_rfl) (by kernel_rfl) (by kernel_rfl) (fun _ _ _ h => h) (Or.inl ⟨by rfl, ?_⟩) (by assumption) ?_
                rotate_left
                · intro w hSw; (try dsimp only at hSw); go_simp; (try (with_reducible rfl)); done
                simp only [Act.put, List.setIfInBounds_toArray, List.set_cons_zero, List.set_cons_succ]
                refine wpAnyH_take (i := 5) (oi := ⟨_, _, _, _, _, _⟩) (v := ?_) rfl (by kernel_rfl) (by kernel_rfl) (by kernel_rfl) (fun _ _ _ h => h) (Or.inl ⟨by rfl, ?_⟩) (by assumption) ?_
                rotate_left
                · intro w hSw; (try dsimp only at hSw); go_simp; (try (with_reducible rfl)); done
                simp only [Act.put, List.setIfInBounds_toArray, List.set_cons_zero, List.set_cons_succ]
                refine wpAnyH_ready (rs := [1]) (by kernel_rfl) (by simp) ?_
                refine AllReadyH.cons (o := ⟨_, _, _, _, _, _⟩) rfl (fun K hK => ?_) AllReadyH.nil
                go_simp
                (refine (RWrong_any _ _ _ _ HR2.out).mono ?_; rintro e w' ⟨rfl, rfl⟩)
                refine hK.out _ _ ?_ (fun hHeld => ?_)
                · (try dsimp only)
                  exact ⟨hm0, hm1⟩
                clear hK K
                try simp only [Act.put, List.setIfInBounds_toArray, List.set_cons_zero, List.set_cons_succ]
                refine wpAnyH_take (i := 6) (oi := ⟨_, _, _, _, _, _⟩) (v := ?_) rfl (by kernel_rfl) (by kernel_rfl) (by kernel_rfl) (fun _ _ _ h => h) (Or.inl ⟨by rfl, ?_⟩) (by assumption) ?_
                rotate_left
                · intro w hSw; (try dsimp only at hSw); go_simp; (try (with_reducible rfl)); done
                simp only [Act.put, List.setIfInBounds_toArray, List.set_cons_zero, List.set_cons_succ]
                refine wpAnyH_take (i := 7) (oi := ⟨_, _, _, _, _, _⟩) (v := ?_) rfl (by kernel_rfl) (by kernel_rfl) (by kernel_rfl) (fun _ _ _ h => h) (Or.inl ⟨by rfl, ?_⟩) (by assumption) ?_
                rotate_left
                · intro w hSw; (try dsimp only at hSw); go_simp; (try (with_reducible rfl)); done
                simp only [Act.put, List.setIfInBounds_toArray, List.set_cons_zero, List.set_cons_succ]
                refine wpAnyH_take (i := 8) (oi := ⟨_, _, _, _, _, _⟩) (v := ?_) rfl (by kernel_rfl) (by kernel_rfl) (by kernel_rfl) (fun _ _ _ h => h) (Or.inl ⟨by rfl, ?_⟩) (by assumption) ?_
                rotate_left
                · intro w hSw; (try dsimp only at hSw); go_simp; (try (with_reducible rfl)); done
                simp only [Act.put, List.setIfInBounds_toArray, List.set_cons_zero, List.set_cons_succ]
                refine wpAnyH_take (i := 10) (oi := ⟨_, _, _, _, _, _⟩) (v := ?_) rfl (by kernel_rfl) (by kernel_rfl) (by kernel_rfl) (fun _ _ _ h => h) (Or.inl ⟨by rfl, ?_⟩) (by assumption) ?_
                rotate_left
                · intro w hSw; (try dsimp only at hSw); go_simp; (try (with_reducible rfl)); done
                simp only [Act.put, List.setIfInBounds_toArray, List.set_cons_zero, List.set_cons_succ]
                refine wpAnyH_take (i := 11) (oi := ⟨_, _, _, _, _, _⟩) (v := ?_) rfl (by kernel_rfl) (by kernel_rfl) (by kernel_rfl) (fun _ _ _ h => h) (Or.inl ⟨by rfl, ?_⟩) (by assumption) ?_
                rotate_left
                · intro w hSw; (try dsimp only at hSw); go_simp; (try (with_reducible rfl)); done
                simp only [Act.put, List.setIfInBounds_toArray, List.set_cons_zero, List.set_cons_succ]
                refine wpAnyH_take (i := 12) (oi := ⟨_, _, _, _, _, _⟩) (v := ?_) rfl (by kernel_rfl) (by kernel_rfl) (by kernel_rfl) (fun _ _ _ h => h) (Or.inl ⟨by rfl, ?_⟩) (by assumption) ?_
                rotate_left
                · intro w hSw; (try dsimp only at hSw); go_simp; (try (with_reducible rfl)); done
                simp only [Act.put, List.setIfInBounds_toArray, List.set_cons_zero, List.set_cons_succ]
                refine wpAnyH_take (i := 13) (oi := ⟨_, _, _, _, _, _⟩) (v := ?_) rfl (by kernel_rfl) (by kernel_rfl) (by kernel_rfl) (fun _ _ _ h => h) (Or.inl ⟨by rfl, ?_⟩) (by assumption) ?_
                rotate_left
                · intro w hSw; (try dsimp only at hSw); go_simp; (try (with_reducible rfl)); done
                simp only [Act.put, List.setIfInBounds_toArray, List.set_cons_zero, List.set_cons_succ]
                refine wpAnyH_take (i := 14) (oi := ⟨_, _, _, _, _, _⟩) (v := ?_) rfl (by kernel_rfl) (by kernel_rfl) (by kernel_rfl) (fun _ _ _ h => h) (Or.inl ⟨by rfl, ?_⟩) (by assumption) ?_
                rotate_left
                · intro w hSw; (try dsimp only at hSw); go_simp; (try (with_reducible rfl)); done
                simp only [Act.put, List.setIfInBounds_toArray, List.set_cons_zero, List.set_cons_succ]
                refine wpAnyH_ready (rs := [9]) (by kernel_rfl) (by simp) ?_
                refine AllReadyH.cons (o := ⟨_, _, _, _, _, _⟩) rfl (fun K hK => ?_) AllReadyH.nil
                go_simp
                (refine (RLeft_any _ _ _ _ HR2.out (by simp [lft])).mono ?_; rintro e w' ⟨rfl, rfl⟩)
                refine hK.out _ _ ?_ (fun hHeld => ?_)
                · (try dsimp only)
                  exact ⟨hm0, hm1⟩
                clear hK K
                try simp only [Act.put, List.setIfInBounds_toArray, List.set_cons_zero, List.set_cons_succ]
                refine wpAnyH_take (i := 15) (oi := ⟨_, _, _, _, _, _⟩) (v := ?_) rfl (by kernel_rfl) (by kernel_rfl) (by kernel_rfl) (fun _ _ _ h => h) (Or.inl ⟨by rfl, ?_⟩) (by assumption) ?_
                rotate_left
                · intro w hSw; (try dsimp only at hSw); go_simp; (try (with_reducible rfl)); done
                simp only [Act.put, List.setIfInBounds_toArray, List.set_cons_zero, List.set_cons_succ]
                refine wpAnyH_take (i := 16) (oi := ⟨_, _, _, _, _, _⟩) (v := ?_) rfl (by kernel_rfl) (by kernel_rfl) (by kernel_rfl) (fun _ _ _ h => h) (Or.inl ⟨by rfl, ?_⟩) (by assumption) ?_
                rotate_left
                · intro w hSw; (try dsimp only at hSw); go_simp; (try (with_reducible rfl)); done
                simp only [Act.put, List.setIfInBounds_toArray, List.set_cons_zero, List.set_cons_succ]
                refine wpAnyH_take (i := 17) (oi := ⟨_, _, _, _, _, _⟩) (v := ?_) rfl (by kernel_rfl) (by kernel_rfl) (by kernel_rfl) (fun _ _ _ h => h) (Or.inl ⟨by rfl, ?_⟩) (by assumption) ?_
                rotate_left
                · intro w hSw; (try dsimp only at hSw); go_simp; (try (with_reducible rfl)); done
                simp only [Act.put, List.setIfInBounds_toArray, List.set_cons_zero, List.set_cons_succ]
                refine wpAnyH_take (i := 18) (oi := ⟨_, _, _, _, _, _⟩) (v := ?_) rfl (by kernel_rfl) (by kernel_rfl) (by kernel_rfl) (fun _ _ _ h => h) (Or.inl ⟨by rfl, ?_⟩) (by assumption) ?_
                rotate_left
                · intro w hSw; (try dsimp only at hSw); go_simp; (try (with_reducible rfl)); done
                simp only [Act.put, List.setIfInBounds_toArray, List.set_cons_zero, List.set_cons_succ]
                refine wpAnyH_take (i := 20) (oi := ⟨_, _, _, _, _, _⟩) (v := ?_) rfl (by kernel_rfl) (by kernel_rfl) (by kernel_rfl) (fun _ _ _ h => h) (Or.inl ⟨by rfl, ?_⟩) (by assumption) ?_
                rotate_left
                · intro w hSw; (try dsimp only at hSw); go_simp; (try (with_reducible rfl)); done
                simp only [Act.put, List.setIfInBounds_toArray, List.set_cons_zero, List.set_cons_succ]
                refine wpAnyH_take (i := 21) (oi := ⟨_, _, _, _, _, _⟩) (v := ?_) rfl (by kernel_rfl) (by kernel_rfl) (by kernel_rfl) (fun _ _ _ h => h) (Or.inl ⟨by rfl, ?_⟩) (by assumption) ?_
                rotate_left
                · intro w hSw; (try dsimp only at hSw); go_simp; (try (with_reducible rfl)); done
                simp only [Act.put, List.setIfInBounds_toArray, List.set_cons_zero, List.set_cons_succ]
                refine wpAnyH_take (i := 22) (oi := ⟨_, _, _, _, _, _⟩) (v := ?_) rfl (by kernel_rfl) (by kernel_rfl) (by kernel_rfl) (fun _ _ _ h => h) (Or.inl ⟨by rfl, ?_⟩) (by assumption) ?_
                rotate_left
                · intro w hSw; (try dsimp only at hSw); go_simp; (try (with_reducible rfl)); done
                simp only [Act.put, List.setIfInBounds_toArray, List.set_cons_zero, List.set_cons_succ]
                refine wpAnyH_take (i := 23) (oi := ⟨_, _, _, _, _, _⟩) (v := ?_) rfl (by kernel_rfl) (by kernel_rfl) (by kernel_rfl) (fun _ _ _ h => h) (Or.inl ⟨by rfl, ?_⟩) (by assumption) ?_
                rotate_left
                · intro w hSw; (try dsimp only at hSw); go_simp; (try (with_reducible rfl)); done
                simp only [Act.put, List.setIfInBounds_toArray, List.set_cons_zero, List.set_cons_succ]
                refine wpAnyH_take (i := 24) (oi := ⟨_, _, _, _, _, _⟩) (v := ?_) rfl (by kernel_rfl) (by kernel_rfl) (by kernel_rfl) (fun _ _ _ h => h) (Or.inl ⟨by rfl, ?_⟩) (by assumption) ?_
                rotate_left
                · intro w hSw; (try dsimp only at hSw); go_simp; (try (with_reducible rfl)); done
                simp only [Act.put, List.setIfInBounds_toArray, List.set_cons_zero, List.set_cons_succ]
                refine wpAnyH_ready (rs := [19]) (by kernel_rfl) (by simp) ?_
                refine AllReadyH.cons (o := ⟨_, _, _, _, _, _⟩) rfl (fun K hK => ?_) AllReadyH.nil
                go_simp
                (refine (REnd_any _ _ _ _ HR2.out (by simp [lft])).mono ?_; rintro e w' ⟨rfl, rfl⟩)
                refine hK.out _ _ ?_ (fun hHeld => ?_)
                · (try dsimp only)
                  exact ⟨hm0, hm1⟩
                clear hK K
                try simp only [Act.put, List.setIfInBounds_toArray, List.set_cons_zero, List.set_cons_succ]
                refine wpAnyH_take (i := 25) (oi := ⟨_, _, _, _, _, _⟩) (v := ?_) rfl (by kernel_rfl) (by kernel_rfl) (by kernel_rfl) (fun _ _ _ h => h) (Or.inl ⟨by rfl, ?_⟩) (by assumption) ?_
                rotate_left
                · intro w hSw; (try dsimp only at hSw); go_simp; (try (with_reducible rfl)); done
                simp only [Act.put, List.setIfInBounds_toArray, List.set_cons_zero, List.set_cons_succ]
                refine wpAnyH_take (i := 26) (oi := ⟨_, _, _, _, _, _⟩) (v := undef) rfl (by kernel_rfl) (by kernel_rfl) (by kernel_rfl) (fun _ _ _ h => h) (Or.inr ⟨by rfl, rfl⟩) (by assumption) ?_
                try simp only [Act.put, List.setIfInBounds_toArray, List.set_cons_zero, List.set_cons_succ]
                refine wpAnyH_take (i := 27) (oi := ⟨_, _, _, _, _, _⟩) (v := undef) rfl (by kernel_rfl) (by kernel_rfl) (by kernel_rfl) (fun _ _ _ h => h) (Or.inr ⟨by rfl, rfl⟩) (by assumption) ?_
                try simp only [Act.put, List.setIfInBounds_toArray, List.set_cons_zero, List.set_cons_succ]
                refine wpAnyH_take (i := 28) (oi := ⟨_, _, _, _, _, _⟩) (v := undef) rfl (by kernel_rfl) (by kernel_rfl) (by kernel_rfl) (fun _ _ _ h => h) (Or.inr ⟨by rfl, rfl⟩) (by assumption) ?_
                try simp only [Act.put, List.setIfInBounds_toArray, List.set_cons_zero, List.set_cons_succ]
                refine wpAnyH_take (i := 29) (oi := ⟨_, _, _, _, _, _⟩) (v := undef) rfl (by kernel_rfl) (by kernel_rfl) (by kernel_rfl) (fun _ _ _ h => h) (Or.inr ⟨by rfl, rfl⟩) (by assumption) ?_
                try simp only [Act.put, List.setIfInBounds_toArray, List.set_cons_zero, List.set_cons_succ]
                refine wpAnyH_take (i := 30) (oi := ⟨_, _, _, _, _, _⟩) (v := undef) rfl (by kernel_rfl) (by kernel_rfl) (by kernel_rfl) (fun _ _ _ h => h) (Or.inr ⟨by rfl, rfl⟩) (by assumption) ?_
                try simp only [Act.put, List.setIfInBounds_toArray, List.set_cons_zero, List.set_cons_succ]
                refine wpAnyH_take (i := 31) (oi := ⟨_, _, _, _, _, _⟩) (v := undef) rfl (by kernel_rfl) (by kernel_rfl) (by kernel_rfl) (fun _ _ _ h => h) (Or.inr ⟨by rfl, rfl⟩) (by assumption) ?_
                try simp only [Act.put, List.setIfInBounds_toArray, List.set_cons_zero, List.set_cons_succ]
                refine wpAnyH_take (i := 32) (oi := ⟨_, _, _, _, _, _⟩) (v := ?_) rfl (by kernel_rfl) (by kernel_rfl) (by kernel_rfl) (fun _ _ _ h => h) (Or.inl ⟨by rfl, ?_⟩) (by assumption) ?_
                rotate_left
                · intro w hSw; (try dsimp only at hSw); go_simp; (try (with_reducible rfl)); done
                simp only [Act.put, List.setIfInBounds_toArray, List.set_cons_zero, List.set_cons_succ]
                refine wpAnyH_take (i := 33) (oi := ⟨_, _, _, _, _, _⟩) (v := ?_) rfl (by kernel_rfl) (by kernel_rfl) (by kernel_rfl) (fun _ _ _ h => h) (Or.inl ⟨by rfl, ?_⟩) (by assumption) ?_
                rotate_left
                · intro w hSw; (try dsimp only at hSw); go_simp; (try (with_reducible rfl)); done
                simp only [Act.put, List.setIfInBounds_toArray, List.set_cons_zero, List.set_cons_succ]
                refine wpAnyH_take (i := 34) (oi := ⟨_, _, _, _, _, _⟩) (v := ?_) rfl (by kernel_rfl) (by kernel_rfl) (by kernel_rfl) (fun _ _ _ h => h) (Or.inl ⟨by rfl, ?_⟩) (by assumption) ?_
                rotate_left
                · intro w hSw; (try dsimp only at hSw); go_simp; (try (with_reducible rfl)); done
                simp only [Act.put, List.setIfInBounds_toArray, List.set_cons_zero, List.set_cons_succ]
                refine wpAnyH_done (by kernel_rfl) ?_ _
                refine NoPanic.normal ?_
                clear hm0 hm1
                go_wp2
                go_roundw
                case rel =>
                  obtain ⟨g1, g2, _, _, g3, _⟩ := RXX.out
                  exact ⟨k + 1, none, by omega, by go_num, hst', g1, g2, g3⟩
                case measure => simp [intOf]; omega
              | some bs =>
                have hE : endB (some bs) = ((lft (some bs) : Int) == 0) := by
                  rw [Bool.eq_iff_iff]
                  simp [endB, lft]
                have HE2 := Lib.hid hE
                clear hE
                go_wp2_with fail
                refine wp_region_noPanic ?_
                refine wp_region_held_drew (S := (fun w' => w'.cell? ⟨mb, 0, none⟩ = some (.slice ma (lft (some bs)) mc) ∧ w'.cell? ⟨mb, 1, none⟩ = some (.bool false))) (by kernel_rfl) ?_ (fun hHeld => ?_)
                · (try dsimp only)
                  exact ⟨hm0, hm1⟩
                refine wpAnyH_take (i := 0) (oi := ⟨_, _, _, _, _, _⟩) (v := ?_) rfl (by kernel_rfl) (by kernel_rfl) (by kernel_rfl) (fun _ _ _ h => h) (Or.inl ⟨by rfl, ?_⟩) (by assumption) ?_
                rotate_left
                · intro w hSw; (try dsimp only at hSw); go_simp; (try (with_reducible rfl)); done
                simp only [Act.put, List.setIfInBounds_toArray, List.set_cons_zero, List.set_cons_succ]
                refine wpAnyH_take (i := 2) (oi := ⟨_, _, _, _, _, _⟩) (v := ?_) rfl (by kernel_rfl) (by kernel_rfl) (by kernel_rfl) (fun _ _ _ h => h) (Or.inl ⟨by rfl, ?_⟩) (by assumption) ?_
                rotate_left
                · intro w hSw; (try dsimp only at hSw); go_simp; (try (with_reducible rfl)); done
                simp only [Act.put, List.setIfInBounds_toArray, List.set_cons_zero, List.set_cons_succ]
                refine wpAnyH_take (i := 3) (oi := ⟨_, _, _, _, _, _⟩) (v := ?_) rfl (by kernel_rfl) (by kernel_rfl) (by kernel_rfl) (fun _ _ _ h => h) (Or.inl ⟨by rfl, ?_⟩) (by assumption) ?_
                rotate_left
                · intro w hSw; (try dsimp only at hSw); go_simp; (try (with_reducible rfl)); done
                simp only [Act.put, List.setIfInBounds_toArray, List.set_cons_zero, List.set_cons_succ]
                refine wpAnyH_take (i := 4) (oi := ⟨_, _, _, _, _, _⟩) (v := ?_) rfl (by kernel_rfl) (by kernel_rfl) (by kernel_rfl) (fun _ _ _ h => h) (Or.inl ⟨by rfl, ?_⟩) (by assumption) ?_
                rotate_left
                · intro w hSw; (try dsimp only at hSw); go_simp; (try (with_reducible rfl)); done
                simp only [Act.put, List.setIfInBounds_toArray, List.set_cons_zero, List.set_cons_succ]
                refine wpAnyH_take (i := 5) (oi := ⟨_, _, _, _, _, _⟩) (v := ?_) rfl (by kernel_rfl) (by kernel_rfl) (by kernel_rfl) (fun _ _ _ h => h) (Or.inl ⟨by rfl, ?_⟩) (by assumption) ?_
                rotate_left
                · intro w hSw; (try dsimp only at hSw); go_simp; (try (with_reducible rfl)); done
                simp only [Act.put, List.setIfInBounds_toArray, List.set_cons_zero, List.set_cons_succ]
                refine wpAnyH_ready (rs := [1]) (by kernel_rfl) (by simp) ?_
                refine AllReadyH.cons (o := ⟨_, _, _, _, _, _⟩) rfl (fun K hK => ?_) AllReadyH.nil
                go_simp
                (refine (RWrong_any _ _ _ _ HR2.out).mono ?_; rintro e w' ⟨rfl, rfl⟩)
                refine hK.out _ _ ?_ (fun hHeld => ?_)
                · (try dsimp only)
                  exact ⟨hm0, hm1⟩
                clear hK K
                try simp only [Act.put, List.setIfInBounds_toArray, List.set_cons_zero, List.set_cons_succ]
                refine wpAnyH_take (i := 6) (oi := ⟨_, _, _, _, _, _⟩) (v := ?_) rfl (by kernel_rfl) (by kernel_rfl) (by kernel_rfl) (fun _ _ _ h => h) (Or.inl ⟨by rfl, ?_⟩) (by assumption) ?_
                rotate_left
                · intro w hSw; (try dsimp only at hSw); go_simp; (try (with_reducible rfl)); done
                simp only [Act.put, List.setIfInBounds_toArray, List.set_cons_zero, List.set_cons_succ]
                refine wpAnyH_take (i := 7) (oi := ⟨_, _, _, _, _, _⟩) (v := ?_) rfl (by kernel_rfl) (by kernel_rfl) (by kernel_rfl) (fun _ _ _ h => h) (Or.inl ⟨by rfl, ?_⟩) (by assumption) ?_
                rotate_left
                · intro w hSw; (try dsimp only at hSw); go_simp; (try (with_reducible rfl)); done
                simp only [Act.put, List.setIfInBounds_toArray, List.set_cons_zero, List.set_cons_succ]
                refine wpAnyH_take (i := 8) (oi := ⟨_, _, _, _, _, _⟩) (v := ?_) rfl (by kernel_rfl) (by kernel_rfl) (by kernel_rfl) (fun _ _ _ h => h) (Or.inl ⟨by rfl, ?_⟩) (by assumption) ?_
                rotate_left
                · intro w hSw; (try dsimp only at hSw); go_simp; (try (with_reducible rfl)); done
                simp only [Act.put, List.setIfInBounds_toArray, List.set_cons_zero, List.set_cons_succ]
                refine wpAnyH_take (i := 10) (oi := ⟨_, _, _, _, _, _⟩) (v := ?_) rfl (by kernel_rfl) (by kernel_rfl) (by kernel_rfl) (fun _ _ _ h => h) (Or.inl ⟨by rfl, ?_⟩) (by assumption) ?_
                rotate_left
                · intro w hSw; (try dsimp only at hSw); go_simp; (try (with_reducible rfl)); done
                simp only [Act.put, List.setIfInBounds_toArray, List.set_cons_zero, List.set_cons_succ]
                refine wpAnyH_take (i := 11) (oi := ⟨_, _, _, _, _, _⟩) (v := ?_) rfl (by kernel_rfl) (by kernel_rfl) (by kernel_rfl) (fun _ _ _ h => h) (Or.inl ⟨by rfl, ?_⟩) (by assumption) ?_
                rotate_left
                · intro w hSw; (try dsimp only at hSw); go_simp; (try (with_reducible rfl)); done
                simp only [Act.put, List.setIfInBounds_toArray, List.set_cons_zero, List.set_cons_succ]
                refine wpAnyH_take (i := 12) (oi := ⟨_, _, _, _, _, _⟩) (v := ?_) rfl (by kernel_rfl) (by kernel_rfl) (by kernel_rfl) (fun _ _ _ h => h) (Or.inl ⟨by rfl, ?_⟩) (by assumption) ?_
                rotate_left
                · intro w hSw; (try dsimp only at hSw); go_simp; (try (with_reducible rfl)); done
                simp only [Act.put, List.setIfInBounds_toArray, List.set_cons_zero, List.set_cons_succ]
                refine wpAnyH_take (i := 13) (oi := ⟨_, _, _, _, _, _⟩) (v := ?_) rfl (by kernel_rfl) (by kernel_rfl) (by kernel_rfl) (fun _ _ _ h => h) (Or.inl ⟨by rfl, ?_⟩) (by assumption) ?_
                rotate_left
                · intro w hSw; (try dsimp only at hSw); go_simp; (try (with_reducible rfl)); done
                simp only [Act.put, List.setIfInBounds_toArray, List.set_cons_zero, List.set_cons_succ]
                refine wpAnyH_take (i := 14) (oi := ⟨_, _, _, _, _, _⟩) (v := ?_) rfl (by kernel_rfl) (by kernel_rfl) (by kernel_rfl) (fun _ _ _ h => h) (Or.inl ⟨by rfl, ?_⟩) (by assumption) ?_
                rotate_left
                · intro w hSw; (try dsimp only at hSw); go_simp; (try (with_reducible rfl)); done
                simp only [Act.put, List.setIfInBounds_toArray, List.set_cons_zero, List.set_cons_succ]
                refine wpAnyH_ready (rs := [9]) (by kernel_rfl) (by simp) ?_
                refine AllReadyH.cons (o := ⟨_, _, _, _, _, _⟩) rfl (fun K hK => ?_) AllReadyH.nil
                go_simp
                (refine (RLeft_any _ _ _ _ HR2.out (by omega)).mono ?_; rintro e w' ⟨rfl, rfl⟩)
                refine hK.out _ _ ?_ (fun hHeld => ?_)
                · (try dsimp only)
                  exact ⟨hm0, hm1⟩
                clear hK K
                try simp only [Act.put, List.setIfInBounds_toArray, List.set_cons_zero, List.set_cons_succ]
                refine wpAnyH_take (i := 15) (oi := ⟨_, _, _, _, _, _⟩) (v := ?_) rfl (by kernel_rfl) (by kernel_rfl) (by kernel_rfl) (fun _ _ _ h => h) (Or.inl ⟨by rfl, ?_⟩) (by assumption) ?_
                rotate_left
                · intro w hSw; (try dsimp only at hSw); go_simp; (try (with_reducible rfl)); done
                simp only [Act.put, List.setIfInBounds_toArray, List.set_cons_zero, List.set_cons_succ]
                refine wpAnyH_take (i := 16) (oi := ⟨_, _, _, _, _, _⟩) (v := ?_) rfl (by kernel_rfl) (by kernel_rfl) (by kernel_rfl) (fun _ _ _ h => h) (Or.inl ⟨by rfl, ?_⟩) (by assumption) ?_
                rotate_left
                · intro w hSw; (try dsimp only at hSw); go_simp; (try (with_reducible rfl)); done
                simp only [Act.put, List.setIfInBounds_toArray, List.set_cons_zero, List.set_cons_succ]
                refine wpAnyH_take (i := 17) (oi := ⟨_, _, _, _, _, _⟩) (v := ?_) rfl (by kernel_rfl) (by kernel_rfl) (by kernel_rfl) (fun _ _ _ h => h) (Or.inl ⟨by rfl, ?_⟩) (by assumption) ?_
                rotate_left
                · intro w hSw; (try dsimp only at hSw); go_simp; (try (with_reducible rfl)); done
                simp only [Act.put, List.setIfInBounds_toArray, List.set_cons_zero, List.set_cons_succ]
                refine wpAnyH_take (i := 18) (oi := ⟨_, _, _, _, _, _⟩) (v := ?_) rfl (by kernel_rfl) (by kernel_rfl) (by kernel_rfl) (fun _ _ _ h => h) (Or.inl ⟨by rfl, ?_⟩) (by assumption) ?_
                rotate_left
                · intro w hSw; (try dsimp only at hSw); go_simp; (try (with_reducible rfl)); done
                simp only [Act.put, List.setIfInBounds_toArray, List.set_cons_zero, List.set_cons_succ]
                refine wpAnyH_take (i := 20) (oi := ⟨_, _, _, _, _, _⟩) (v := ?_) rfl (by kernel_rfl) (by kernel_rfl) (by kernel_rfl) (fun _ _ _ h => h) (Or.inl ⟨by rfl, ?_⟩) (by assumption) ?_
                rotate_left
                · intro w hSw; (try dsimp only at hSw); go_simp; (try (with_reducible rfl)); done
                simp only [Act.put, List.setIfInBounds_toArray, List.set_cons_zero, List.set_cons_succ]
                refine wpAnyH_take (i := 21) (oi := ⟨_, _, _, _, _, _⟩) (v := ?_) rfl (by kernel_rfl) (by kernel_rfl) (by kernel_rfl) (fun _ _ _ h => h) (Or.inl ⟨by rfl, ?_⟩) (by assumption) ?_
                rotate_left
                · intro w hSw; (try dsimp only at hSw); go_simp; (try (with_reducible rfl)); done
                simp only [Act.put, List.setIfInBounds_toArray, List.set_cons_zero, List.set_cons_succ]
                refine wpAnyH_take (i := 22) (oi := ⟨_, _, _, _, _, _⟩) (v := ?_) rfl (by kernel_rfl) (by kernel_rfl) (by kernel_rfl) (fun _ _ _ h => h) (Or.inl ⟨by rfl, ?_⟩) (by assumption) ?_
                rotate_left
                · intro w hSw; (try dsimp only at hSw); go_simp; (try (with_reducible rfl)); done
                simp only [Act.put, List.setIfInBounds_toArray, List.set_cons_zero, List.set_cons_succ]
                refine wpAnyH_take (i := 23) (oi := ⟨_, _, _, _, _, _⟩) (v := ?_) rfl (by kernel_rfl) (by kernel_rfl) (by kernel_rfl) (fun _ _ _ h => h) (Or.inl ⟨by rfl, ?_⟩) (by assumption) ?_
                rotate_left
                · intro w hSw; (try dsimp only at hSw); go_simp; (try (with_reducible rfl)); done
                simp only [Act.put, List.setIfInBounds_toArray, List.set_cons_zero, List.set_cons_succ]
                refine wpAnyH_take (i := 24) (oi := ⟨_, _, _, _, _, _⟩) (v := ?_) rfl (by kernel_rfl) (by kernel_rfl) (by kernel_rfl) (fun _ _ _ h => h) (Or.inl ⟨by rfl, ?_⟩) (by assumption) ?_
                rotate_left
                · intro w hSw; (try dsimp only at hSw); go_simp; (try (with_reducible rfl)); done
                simp only [Act.put, List.setIfInBounds_toArray, List.set_cons_zero, List.set_cons_succ]
                refine wpAnyH_ready (rs := [19]) (by kernel_rfl) (by simp) ?_
                refine AllReadyH.cons (o := ⟨_, _, _, _, _, _⟩) rfl (fun K hK => ?_) AllReadyH.nil
                go_simp
                (refine (REnd_any _ _ _ _ HR2.out (by omega)).mono ?_; rintro e w' ⟨rfl, rfl⟩; rw [HE2.out])
                refine hK.out _ _ ?_ (fun hHeld => ?_)
                · (try dsimp only)
                  exact ⟨hm0, hm1⟩
                clear hK K
                try simp only [Act.put, List.setIfInBounds_toArray, List.set_cons_zero, List.set_cons_succ]
                refine wpAnyH_take (i := 25) (oi := ⟨_, _, _, _, _, _⟩) (v := ?_) rfl (by kernel_rfl) (by kernel_rfl) (by kernel_rfl) (fun _ _ _ h => h) (Or.inl ⟨by rfl, ?_⟩) (by assumption) ?_
                rotate_left
                · intro w hSw; (try dsimp only at hSw); go_simp; (try (with_reducible rfl)); done
                simp only [Act.put, List.setIfInBounds_toArray, List.set_cons_zero, List.set_cons_succ]
                refine wpAnyH_take (i := 26) (oi := ⟨_, _, _, _, _, _⟩) (v := ?_) rfl (by kernel_rfl) (by kernel_rfl) (by kernel_rfl) (fun _ _ _ h => h) (Or.inl ⟨by rfl, ?_⟩) (by assumption) ?_
                rotate_left
                · intro w hSw; (try dsimp only at hSw); go_simp; (try (with_reducible rfl)); done
                simp only [Act.put, List.setIfInBounds_toArray, List.set_cons_zero, List.set_cons_succ]
                refine wpAnyH_take (i := 27) (oi := ⟨_, _, _, _, _, _⟩) (v := ?_) rfl (by kernel_rfl) (by kernel_rfl) (by kernel_rfl) (fun _ _ _ h => h) (Or.inl ⟨by rfl, ?_⟩) (by assumption) ?_
                rotate_left
                · intro w hSw; (try dsimp only at hSw); go_simp; (try (with_reducible rfl)); done
                simp only [Act.put, List.setIfInBounds_toArray, List.set_cons_zero, List.set_cons_succ]
                refine wpAnyH_take (i := 28) (oi := ⟨_, _, _, _, _, _⟩) (v := ?_) rfl (by kernel_rfl) (by kernel_rfl) (by kernel_rfl) (fun _ _ _ h => h) (Or.inl ⟨by rfl, ?_⟩) (by assumption) ?_
                rotate_left
                · intro w hSw; (try dsimp only at hSw); go_simp; (try (with_reducible rfl)); done
                simp only [Act.put, List.setIfInBounds_toArray, List.set_cons_zero, List.set_cons_succ]
                refine wpAnyH_take (i := 29) (oi := ⟨_, _, _, _, _, _⟩) (v := ?_) rfl (by kernel_rfl) (by kernel_rfl) (by kernel_rfl) (fun _ _ _ h => h) (Or.inl ⟨by rfl, ?_⟩) (by assumption) ?_
                rotate_left
                · intro w hSw; (try dsimp only at hSw); go_simp; (try (with_reducible rfl)); done
                simp only [Act.put, List.setIfInBounds_toArray, List.set_cons_zero, List.set_cons_succ]
                refine wpAnyH_take (i := 30) (oi := ⟨_, _, _, _, _, _⟩) (v := ?_) rfl (by kernel_rfl) (by kernel_rfl) (by kernel_rfl) (fun _ _ _ h => h) (Or.inl ⟨by rfl, ?_⟩) (by assumption) ?_
                rotate_left
                · intro w hSw; (try dsimp only at hSw); go_simp; (try (with_reducible rfl)); done
                simp only [Act.put, List.setIfInBounds_toArray, List.set_cons_zero, List.set_cons_succ]
                refine wpAnyH_take (i := 31) (oi := ⟨_, _, _, _, _, _⟩) (v := ?_) rfl (by kernel_rfl) (by kernel_rfl) (by kernel_rfl) (fun _ _ _ h => h) (Or.inl ⟨by rfl, ?_⟩) (by assumption) ?_
                rotate_left
                · intro w hSw; (try dsimp only at hSw); go_simp; (try (with_reducible rfl)); done
                simp only [Act.put, List.setIfInBounds_toArray, List.set_cons_zero, List.set_cons_succ]
                refine wpAnyH_take (i := 32) (oi := ⟨_, _, _, _, _, _⟩) (v := ?_) rfl (by kernel_rfl) (by kernel_rfl) (by kernel_rfl) (fun _ _ _ h => h) (Or.inl ⟨by rfl, ?_⟩) (by assumption) ?_
                rotate_left
                · intro w hSw; (try dsimp only at hSw); go_simp; (try (with_reducible rfl)); done
                simp only [Act.put, List.setIfInBounds_toArray, List.set_cons_zero, List.set_cons_succ]
                refine wpAnyH_take (i := 33) (oi := ⟨_, _, _, _, _, _⟩) (v := ?_) rfl (by kernel_rfl) (by kernel_rfl) (by kernel_rfl) (fun _ _ _ h => h) (Or.inl ⟨by rfl, ?_⟩) (by assumption) ?_
                rotate_left
                · intro w hSw; (try dsimp only at hSw); go_simp; (try (with_reducible rfl)); done
                simp only [Act.put, List.setIfInBounds_toArray, List.set_cons_zero, List.set_cons_succ]
                refine wpAnyH_take (i := 34) (oi := ⟨_, _, _, _, _, _⟩) (v := ?_) rfl (by kernel_rfl) (by kernel_rfl) (by kernel_rfl) (fun _ _ _ h => h) (Or.inl ⟨by rfl, ?_⟩) (by assumption) ?_
                rotate_left
                · intro w hSw; (try dsimp only at hSw); go_simp; (try (with_reducible rfl)); done
                simp only [Act.put, List.setIfInBounds_toArray, List.set_cons_zero, List.set_cons_succ]
                refine wpAnyH_done (by kernel_rfl) ?_ _
                refine NoPanic.normal ?_
                clear hm0 hm1
                go_wp2
                go_roundw
                case rel =>
                  obtain ⟨g1, g2, _, _, g3, _⟩ := RXX.out
                  exact ⟨k + 1, some bs, by omega, by go_num, hst', g1, g2, g3⟩
                case measure => simp [intOf]; omega
          · have HFE := Lib.hid hf
            clear HRD HMD
            go_wp2_with (first | (go_at_call 23; refine (RWrong_none _).mono ?_; rintro e w' ⟨rfl, rfl⟩) | (go_at_call 22; refine (REnd_none _).mono ?_; rintro e w' ⟨rfl, rfl⟩) | (go_at_call 24; refine (RLeft_none _).mono ?_; rintro e w' ⟨rfl, rfl⟩) | (go_at_call 17; refine (Get_none _ _ rfl).mono ?_; rintro e w6 ⟨rfl, h6⟩; have HF6 := Lib.hid h6; clear h6) | (go_at_call 19; refine (RCount_none 9 _ (by omega)).mono ?_; rintro e w7 ⟨rfl, h7⟩; have HF7 := Lib.hid h7; clear h7) | (go_at_call 20; refine (RRaw_none _ _).mono ?_; rintro e w8 ⟨a8, c8, rfl, _, h8, _⟩; have HF8 := Lib.hid h8; clear h8) | (go_at_call 21; refine (RCounted_none 3 _ (by omega)).mono ?_; rintro e w9 ⟨a9, c9, rfl, _, h9, _⟩; have HF9 := Lib.hid h9; clear h9))
            go_ret
            exact ⟨rfl, (((HFE.out.trans' HF6.out).trans' HF7.out).trans' HF8.out).trans' HF9.out⟩
end Go.Proofs.Ytkeepojcdofibaa
