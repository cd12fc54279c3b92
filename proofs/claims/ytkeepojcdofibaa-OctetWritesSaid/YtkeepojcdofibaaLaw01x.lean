/- OctetWrites: the walk. -/
import Derived.Deep.RegionWith
import Derived.Deep.QuietTactic
import Derived.BigQuiet
import Derived.Deep.RegionHeld3
import Derived.Test.YtkeepojcdofibaaLaw01w
namespace Go.Proofs.Ytkeepojcdofibaa
open Go.RowKit

attribute [local go_sem] strOf_size strOf_append

set_option maxRecDepth 100000 in
set_option maxHeartbeats 4000000 in
theorem writes_any (a : Option Addr) (n c : Nat) (l : List It) (w : World) (h : Its w a c l) (hn : n = l.length) :
    Calls Try.prog 3 #[.slice a n c] w fun e w' => e = .returned (.bool true) ∧ Fr F0 w w' := by
  subst hn
  cases hfew : fewB l with
  | false =>
    have LV := Lib.hid lives01_any
    have FW := Lib.hid (fun w' (hf : Fr F0 w w') => few01_any a _ c l w' (h.below hf) rfl)
    have HE := Lib.hid hfew
    clear hfew
    go_enter Try.func3, Try.ntmps3
    go_wp2_with fail
    refine (LV.out w).mono ?_
    rintro e w1 ⟨rfl, hf1⟩
    go_wp2_with fail
    refine (FW.out w1 hf1).mono ?_
    rintro e w2 ⟨rfl, hf2⟩
    rw [HE.out]
    go_wp2_with fail
    refine (LV.out w2).mono ?_
    rintro e w3 ⟨rfl, hf3⟩
    go_wp2
    go_ret
    exact ⟨rfl, (hf1.trans' hf2).trans' hf3⟩
  | true =>
    have h300 : ∀ t ∈ l, t.bs.length ≤ 300 := by
      intro t ht
      simp only [fewB, Bool.and_eq_true, List.all_eq_true, decide_eq_true_eq] at hfew
      exact hfew.1 t ht
    have h40 : l.length ≤ 40 := by
      simp only [fewB, Bool.and_eq_true, decide_eq_true_eq] at hfew
      exact hfew.2
    have LV := Lib.hid lives01_any
    have FW := Lib.hid (fun w' (hf : Fr F0 w w') => few01_any a _ c l w' (h.below hf) rfl)
    have HE := Lib.hid hfew
    have H300 := Lib.hid h300
    clear hfew h300
    go_enter Try.func3, Try.ntmps3
    go_wp2_with fail
    refine (LV.out w).mono ?_
    rintro e w1 ⟨rfl, hf1⟩
    go_wp2_with fail
    refine (FW.out w1 hf1).mono ?_
    rintro e w2 ⟨rfl, hf2⟩
    rw [HE.out]
    have hf12 := hf1.trans' hf2
    clear hf1 hf2
    go_wp2_with fail
    have hw0 : IsW (w2.alloc (.cells #[.slice none 0 0] 28)) w2.heap.size (.slice none 0 0) [] := ⟨heap_alloc_new w2 _, OwnB.nil _⟩
    have hsz := hf12.size
    go_loopw [5, 23] (fun sv iv wr => ∃ k : Nat, k ≤ l.length ∧ iv = .int .i64 k ∧ sv = .string (strOf (puts (l.take k))) ∧ (∃ v, IsW wr w2.heap.size v (puts (l.take k)) ∧ ∀ i, v.ownBlock = some i → w.heap.size ≤ i) ∧ Fr F0 w wr) (fun _ iv _ => l.length - (intOf iv).toNat)
    case atStart => exact ⟨0, Nat.zero_le _, rfl, rfl, ⟨_, hw0, fun i e => by cases e⟩, hf12.alloc _⟩
    case round =>
      obtain ⟨k, hk, rfl, rfl, hW, hf⟩ := hrel
      clear hw0
      have HW := Lib.hid hW
      clear hW
      have hpl : (puts (l.take k)).length ≤ 12400 := by
        have := puts_len (l.take k) fun t ht => H300.out t (List.mem_of_mem_take ht)
        simp only [List.length_take] at this
        omega
      by_cases hkn : k < l.length
      · have HS := Lib.hid (puts_snoc l k hkn)
        have hr := h.below hf
        have hok := hr.ok _ (List.getElem_mem hkn)
        have h3 := H300.out _ (List.getElem_mem hkn)
        obtain ⟨b, off, rfl, hb, hc⟩ := hr.cells k hkn
        have c0 := hc 0 _ rfl
        have c1 := hc 1 _ rfl
        have c2 := hc 2 _ rfl
        have c3 := hc 3 _ rfl
        have hblk := Lib.hid (h.blk _ (List.getElem_mem hkn))
        have HOK := Lib.hid (h.ok _ (List.getElem_mem hkn))
        generalize ht : l[k] = t at *
        simp only [Nat.add_zero] at c0
        generalize hp : puts (l.take k) = P at *
        have hnl : 140737488355328 ≥ 20000 := by omega
        have hx := hok.x
        have hs0 := hok.s0
        have hs1 := hok.s1
        have BX : RW w (wr.alloc (.cells #[.int .i64 t.kind, .int .i64 t.size, .int .u64 t.x, .slice t.ba t.bs.length t.bc] 31)) w2.heap.size P wr.heap.size t := by
          obtain ⟨v, hv, ho⟩ := HW.out
          exact ⟨⟨v, hv.fr ((Fr.refl F0 wr).alloc _) fun _ _ f => f, ho⟩, hsz, hf.alloc _, heap_alloc_new wr _⟩
        clear hc hr hp ht
        clear hok HE LV FW
        obtain ⟨kd, sz, x, ba, bc, ib⟩ := t
        dsimp only at *
        by_cases k0 : kd = 0
        · subst k0
          obtain ⟨d0, d1, d2, d3⟩ := BX.c
          cases hsz8 : szB sz with
          | true =>
            have h8 := szB_le hsz8
            have hle : (le sz.toNat x).length ≤ 8 := by rw [le_length]; omega
            go_wp2_with fail
            refine (BX.calls fun v hv ho => Put_at _ v _ _ _ _ hv (by omega) (by omega) hsz8 (by omega)).mono ?_
            rintro e w3 ⟨rfl, r3⟩
            clear d0 d1 d2 d3
            obtain ⟨d0, d1, d2, d3⟩ := r3.c
            go_wp2_with fail
            refine (Put_none _ _ _).mono ?_
            rintro e w' ⟨rfl, rfl⟩
            go_wp2_with fail
            refine (right01_any _ _).mono ?_
            rintro e w' ⟨rfl, rfl⟩
            go_wp2_with fail
            refine (r3.bytes (refPut_at _ _ _ (by omega) (by omega) (by omega) (by omega))).mono ?_
            rintro e w4 ⟨a4, c4, rfl, hb4, r4⟩
            clear d0 d1 d2 d3
            have hs := run_str (P := Try.prog) 26 9 5 Try.underlying26 Try.underlying5 Try.underlying9 hb4 _ rfl
            rw [Int.toNat_natCast] at hs r4 ⊢
            go_wp2
            go_roundw
            case rel =>
              refine ⟨k + 1, by omega, by go_num, ?_, ?_, r4.fr⟩
              · rw [HS.out]; simp [It.put, hsz8]
              · rw [HS.out]; simpa [It.put, hsz8] using r4.wr
            case measure => simp [intOf]; omega
          | false =>
            go_wp2_with fail
            refine (Put_bad _ _ _ _ hsz8).mono ?_
            rintro e w' ⟨rfl, rfl⟩
            go_wp2_with fail
            refine (Put_none _ _ _).mono ?_
            rintro e w' ⟨rfl, rfl⟩
            go_wp2_with fail
            refine (right01_any _ _).mono ?_
            rintro e w' ⟨rfl, rfl⟩
            go_wp2
            go_roundw
            case rel =>
              refine ⟨k + 1, by omega, by go_num, ?_, ?_, BX.fr⟩
              · rw [HS.out]; simp [It.put, hsz8]
              · rw [HS.out]; simpa [It.put, hsz8] using BX.wr
            case measure => simp [intOf]; omega
        have b0 : (kd == 0) = false := by simpa using k0
        by_cases k1 : kd = 1
        · subst k1
          clear k0
          obtain ⟨d0, d1, d2, d3⟩ := BX.c
          have hcl := cnt_length x
          have hcz := csz_le x
          have hcl9 : (cnt x).length ≤ 9 := by omega
          have HCL := Lib.hid hcl
          clear hcl
          go_wp2_with fail
          refine (BX.calls fun v hv ho => WCount_any _ v _ _ _ hv (by omega) (by omega) (by omega)).mono ?_
          rintro e w3 ⟨rfl, r3⟩
          clear d0 d1 d2 d3
          obtain ⟨d0, d1, d2, d3⟩ := r3.c
          go_wp2_with fail
          refine (r3.bytes (refCount_at _ _ (by omega) (by omega))).mono ?_
          rintro e w4 ⟨a4, c4, rfl, hb4, r4⟩
          clear d0 d1 d2 d3
          obtain ⟨d0, d1, d2, d3⟩ := r4.c
          have hs := run_str (P := Try.prog) 26 9 5 Try.underlying26 Try.underlying5 Try.underlying9 hb4 _ rfl
          rw [Int.toNat_natCast] at hs r4 ⊢
          go_wp2_with fail
          clear hs
          have r4d := r4.more ((Fr.refl F0 w4).drew)
          refine wp_region_noPanic ?_
          refine wp_region_held_drew (S := (fun w' => RW w w' w2.heap.size (P ++ cnt x) wr.heap.size ⟨1, sz, x, ba, bc, ib⟩ ∧ w'.cell? ⟨wr.heap.size, 2, none⟩ = some (.int .u64 x))) (by kernel_rfl) ?_ (fun hHeld => ?_)
          · (try dsimp only)
            first | exact ⟨r4d, r4d.c.2.2.1⟩ | exact ⟨r5, r5.c.2.2.1⟩
          refine wpAnyH_take (i := 0) (oi := ⟨_, _, _, _, _, _⟩) (v := ?_) rfl (by kernel_rfl) (by kernel_rfl) (by kernel_rfl) (fun _ _ _ h => h) (Or.inl ⟨by rfl, ?_⟩) (by assumption) ?_
          rotate_left
          · intro w hSw; (try dsimp only at hSw); go_simp; (try (with_reducible rfl)); done
          simp only [Act.put, List.setIfInBounds_toArray, List.set_cons_zero, List.set_cons_succ]
          refine wpAnyH_take (i := 1) (oi := ⟨_, _, _, _, _, _⟩) (v := ?_) rfl (by kernel_rfl) (by kernel_rfl) (by kernel_rfl) (fun _ _ _ h => h) (Or.inl ⟨by rfl, ?_⟩) (by assumption) ?_
          rotate_left
          · intro w hSw; (try dsimp only at hSw); go_simp; (try (with_reducible rfl)); done
          simp only [Act.put, List.setIfInBounds_toArray, List.set_cons_zero, List.set_cons_succ]
          refine wpAnyH_take (i := 3) (oi := ⟨_, _, _, _, _, _⟩) (v := ?_) rfl (by kernel_rfl) (by kernel_rfl) (by kernel_rfl) (fun _ _ _ h => h) (Or.inl ⟨by rfl, ?_⟩) (by assumption) ?_
          rotate_left
          · intro w hSw; (try dsimp only at hSw); go_simp; (try (with_reducible rfl)); done
          simp only [Act.put, List.setIfInBounds_toArray, List.set_cons_zero, List.set_cons_succ]
          refine wpAnyH_take (i := 4) (oi := ⟨_, _, _, _, _, _⟩) (v := ?_) rfl (by kernel_rfl) (by kernel_rfl) (by kernel_rfl) (fun _ _ _ h => h) (Or.inl ⟨by rfl, ?_⟩) (by assumption) ?_
          rotate_left
          · intro w hSw; (try dsimp only at hSw); go_simp; (try (with_reducible rfl)); done
          simp only [Act.put, List.setIfInBounds_toArray, List.set_cons_zero, List.set_cons_succ]
          refine wpAnyH_ready (rs := [2]) (by kernel_rfl) (by simp) ?_
          refine AllReadyH.cons (o := ⟨_, _, _, _, _, _⟩) rfl (fun K hK => ?_) AllReadyH.nil
          go_simp
          (refine (CountSize_n _ _ _ rfl).mono ?_; rintro e w5 ⟨rfl, rfl⟩)
          refine hK.out _ _ ?_ (fun hHeld => ?_)
          · (try dsimp only)
            first | exact ⟨r4d, r4d.c.2.2.1⟩ | exact ⟨r5, r5.c.2.2.1⟩
          clear hK K
          try simp only [Act.put, List.setIfInBounds_toArray, List.set_cons_zero, List.set_cons_succ]
          refine wpAnyH_ready (rs := [5]) (by kernel_rfl) (by simp) ?_
          refine AllReadyH.cons (o := ⟨_, _, _, _, _, _⟩) rfl (fun K hK => ?_) AllReadyH.nil
          go_simp
          (refine (r4d.bytes (refCount_any _ _ (by omega))).mono ?_; rintro e w5 ⟨a5, c5, rfl, hb5, r5⟩)
          refine hK.out _ _ ?_ (fun hHeld => ?_)
          · (try dsimp only)
            first | exact ⟨r4d, r4d.c.2.2.1⟩ | exact ⟨r5, r5.c.2.2.1⟩
          clear hK K
          try simp only [Act.put, List.setIfInBounds_toArray, List.set_cons_zero, List.set_cons_succ]
          refine wpAnyH_ready (rs := [6]) (by kernel_rfl) (by simp) ?_
          refine AllReadyH.cons (o := ⟨_, _, _, _, _, _⟩) rfl (fun K hK => ?_) AllReadyH.nil
          go_simp
          refine hK.out _ _ ?_ (fun hHeld => ?_)
          · (try dsimp only)
            first | exact ⟨r4d, r4d.c.2.2.1⟩ | exact ⟨r5, r5.c.2.2.1⟩
          clear hK K
          try simp only [Act.put, List.setIfInBounds_toArray, List.set_cons_zero, List.set_cons_succ]
          refine wpAnyH_ready (rs := [7]) (by kernel_rfl) (by simp) ?_
          refine AllReadyH.cons (o := ⟨_, _, _, _, _, _⟩) rfl (fun K hK => ?_) AllReadyH.nil
          go_simp
          refine hK.out _ _ ?_ (fun hHeld => ?_)
          · (try dsimp only)
            first | exact ⟨r4d, r4d.c.2.2.1⟩ | exact ⟨r5, r5.c.2.2.1⟩
          clear hK K
          try simp only [Act.put, List.setIfInBounds_toArray, List.set_cons_zero, List.set_cons_succ]
          refine wpAnyH_done (by kernel_rfl) ?_ _
          refine NoPanic.normal ?_
          have q1 : ((csz x : Int) == ((cnt x).length : Int)) = true := by rw [HCL.out]; simp
          have q2 : ((csz x : Int) != ((cnt x).length : Int)) = false := by rw [HCL.out]; simp
          have R5 := Lib.hid r5
          clear r5 r4 r4d r3 BX hb5 hb4 d0 d1 d2 d3
          go_wp2
          go_roundw
          case rel =>
            refine ⟨k + 1, by omega, by go_num, ?_, ?_, R5.out.fr⟩
            · rw [HS.out]; simp [It.put]
            · rw [HS.out]; simpa [It.put] using R5.out.wr
          case measure => simp [intOf]; omega
        have b1 : (kd == 1) = false := by simpa using k1
        by_cases k2 : kd = 2
        · subst k2
          clear k0 k1
          obtain ⟨d0, d1, d2, d3⟩ := BX.c
          have hB := Sl.fr HOK.out.bytes BX.fr fun _ _ f => f

          go_wp2_with fail
          refine (BX.calls fun v hv ho => WRaw_any _ v _ _ _ _ _ _ hv hB rfl (by omega)).mono ?_
          rintro e w3 ⟨rfl, r3⟩
          clear d0 d1 d2 d3 hB
          obtain ⟨d0, d1, d2, d3⟩ := r3.c
          go_wp2_with fail
          refine (WRaw_none _ _ _ _).mono ?_
          rintro e w' ⟨rfl, rfl⟩
          have hB : Bs w3 ba bc ib := Sl.fr HOK.out.bytes r3.fr fun _ _ f => f
          have hs := run_str (P := Try.prog) 26 9 5 Try.underlying26 Try.underlying5 Try.underlying9 hB _ rfl
          have R3 := Lib.hid r3
          clear r3 BX hB
          go_wp2
          go_roundw
          case rel =>
            refine ⟨k + 1, by omega, by go_num, ?_, ?_, R3.out.fr⟩
            · rw [HS.out]; simp [It.put]
            · rw [HS.out]; simpa [It.put] using R3.out.wr
          case measure => simp [intOf]; omega
        have b2 : (kd == 2) = false := by simpa using k2
        by_cases k3 : kd = 3
        · subst k3
          clear k0 k1 k2
          obtain ⟨d0, d1, d2, d3⟩ := BX.c
          have hB := Sl.fr HOK.out.bytes BX.fr fun _ _ f => f
          have hcz := csz_le ib.length
          have hcl9 : (cnt ib.length).length ≤ 9 := by rw [cnt_length]; omega
          go_wp2_with fail
          refine (BX.calls fun v hv ho => WCounted_any _ v _ _ _ _ _ _ hv hB rfl (by omega) ?_).mono ?_
          · intro hne i hi hw
            have h1 := hblk.out hne i hi
            rcases hw with rfl | hw
            · omega
            · have := ho i hw
              omega
          rintro e w3 ⟨rfl, r3⟩
          clear d0 d1 d2 d3 hB
          have r3d := r3.more ((Fr.refl F0 w3).drew)
          have hBw : Bs w ba bc ib := HOK.out.bytes
          have hil : IntKind.u64.wrap (ib.length : Int) = (ib.length : Int) := IntWalk.u64_in _ (by omega)
          go_wp2_with fail
          have hsum1 : ¬ 9223372036854775807 < (cnt ib.length).length + ib.length := by omega
          have hsum2 : ¬ 9223372036854775807 < P.length + ((cnt ib.length).length + ib.length) := by omega
          refine wp_region_noPanic ?_
          refine wp_region_held_drew (S := (fun w' => RW w w' w2.heap.size (P ++ ctd ib) wr.heap.size ⟨3, sz, x, ba, bc, ib⟩ ∧ w'.cell? ⟨wr.heap.size, 3, none⟩ = some (.slice ba ib.length bc) ∧ (convert 26 9 (.slice ba ib.length bc)).run Try.prog w' = .ok (.string (strOf ib)) w')) (by kernel_rfl) ?_ (fun hHeld => ?_)
          · (try dsimp only)
            first | exact ⟨r3d, r3d.c.2.2.2, run_str (P := Try.prog) 26 9 5 Try.underlying26 Try.underlying5 Try.underlying9 (Sl.fr hBw r3d.fr fun _ _ f => f) _ rfl⟩ | exact ⟨r5, r5.c.2.2.2, run_str (P := Try.prog) 26 9 5 Try.underlying26 Try.underlying5 Try.underlying9 (Sl.fr hBw r5.fr fun _ _ f => f) _ rfl⟩
          refine wpAnyH_take (i := 0) (oi := ⟨_, _, _, _, _, _⟩) (v := ?_) rfl (by kernel_rfl) (by kernel_rfl) (by kernel_rfl) (fun _ _ _ h => h) (Or.inl ⟨by rfl, ?_⟩) (by assumption) ?_
          rotate_left
          · intro w hSw; (try dsimp only at hSw); go_simp; (try (with_reducible rfl)); done
          simp only [Act.put, List.setIfInBounds_toArray, List.set_cons_zero, List.set_cons_succ]
          refine wpAnyH_take (i := 1) (oi := ⟨_, _, _, _, _, _⟩) (v := ?_) rfl (by kernel_rfl) (by kernel_rfl) (by kernel_rfl) (fun _ _ _ h => h) (Or.inl ⟨by rfl, ?_⟩) (by assumption) ?_
          rotate_left
          · intro w hSw; (try dsimp only at hSw); go_simp; (try (with_reducible rfl)); done
          simp only [Act.put, List.setIfInBounds_toArray, List.set_cons_zero, List.set_cons_succ]
          refine wpAnyH_take (i := 2) (oi := ⟨_, _, _, _, _, _⟩) (v := ?_) rfl (by kernel_rfl) (by kernel_rfl) (by kernel_rfl) (fun _ _ _ h => h) (Or.inl ⟨by rfl, ?_⟩) (by assumption) ?_
          rotate_left
          · intro w hSw; (try dsimp only at hSw); go_simp; (try (with_reducible rfl)); done
          simp only [Act.put, List.setIfInBounds_toArray, List.set_cons_zero, List.set_cons_succ]
          refine wpAnyH_take (i := 3) (oi := ⟨_, _, _, _, _, _⟩) (v := ?_) rfl (by kernel_rfl) (by kernel_rfl) (by kernel_rfl) (fun _ _ _ h => h) (Or.inl ⟨by rfl, ?_⟩) (by assumption) ?_
          rotate_left
          · intro w hSw; (try dsimp only at hSw); go_simp; (try (with_reducible rfl)); done
          simp only [Act.put, List.setIfInBounds_toArray, List.set_cons_zero, List.set_cons_succ]
          refine wpAnyH_take (i := 4) (oi := ⟨_, _, _, _, _, _⟩) (v := ?_) rfl (by kernel_rfl) (by kernel_rfl) (by kernel_rfl) (fun _ _ _ h => h) (Or.inl ⟨by rfl, ?_⟩) (by assumption) ?_
          rotate_left
          · intro w hSw; (try dsimp only at hSw); go_simp; (try (with_reducible rfl)); done
          simp only [Act.put, List.setIfInBounds_toArray, List.set_cons_zero, List.set_cons_succ]
          refine wpAnyH_take (i := 7) (oi := ⟨_, _, _, _, _, _⟩) (v := ?_) rfl (by kernel_rfl) (by kernel_rfl) (by kernel_rfl) (fun _ _ _ h => h) (Or.inl ⟨by rfl, ?_⟩) (by assumption) ?_
          rotate_left
          · intro w hSw; (try dsimp only at hSw); go_simp; (try (with_reducible rfl)); done
          simp only [Act.put, List.setIfInBounds_toArray, List.set_cons_zero, List.set_cons_succ]
          refine wpAnyH_take (i := 8) (oi := ⟨_, _, _, _, _, _⟩) (v := ?_) rfl (by kernel_rfl) (by kernel_rfl) (by kernel_rfl) (fun _ _ _ h => h) (Or.inl ⟨by rfl, ?_⟩) (by assumption) ?_
          rotate_left
          · intro w hSw; (try dsimp only at hSw); go_simp; (try (with_reducible rfl)); done
          simp only [Act.put, List.setIfInBounds_toArray, List.set_cons_zero, List.set_cons_succ]
          refine wpAnyH_take (i := 9) (oi := ⟨_, _, _, _, _, _⟩) (v := ?_) rfl (by kernel_rfl) (by kernel_rfl) (by kernel_rfl) (fun _ _ _ h => h) (Or.inl ⟨by rfl, ?_⟩) (by assumption) ?_
          rotate_left
          · intro w hSw; (try dsimp only at hSw); go_simp; (try (with_reducible rfl)); done
          simp only [Act.put, List.setIfInBounds_toArray, List.set_cons_zero, List.set_cons_succ]
          refine wpAnyH_ready (rs := [5]) (by kernel_rfl) (by simp) ?_
          refine AllReadyH.cons (o := ⟨_, _, _, _, _, _⟩) rfl (fun K hK => ?_) AllReadyH.nil
          go_simp
          (refine (r3d.bytes (refCount_any ib.length _ (by omega))).mono ?_; rintro e w5 ⟨a5, c5, rfl, hb5, r5⟩; have hs5 := run_str (P := Try.prog) 26 9 5 Try.underlying26 Try.underlying5 Try.underlying9 hb5 _ rfl)
          refine hK.out _ _ ?_ (fun hHeld => ?_)
          · (try dsimp only)
            first | exact ⟨r3d, r3d.c.2.2.2, run_str (P := Try.prog) 26 9 5 Try.underlying26 Try.underlying5 Try.underlying9 (Sl.fr hBw r3d.fr fun _ _ f => f) _ rfl⟩ | exact ⟨r5, r5.c.2.2.2, run_str (P := Try.prog) 26 9 5 Try.underlying26 Try.underlying5 Try.underlying9 (Sl.fr hBw r5.fr fun _ _ f => f) _ rfl⟩
          clear hK K
          try simp only [Act.put, List.setIfInBounds_toArray, List.set_cons_zero, List.set_cons_succ]
          refine wpAnyH_ready (rs := [6]) (by kernel_rfl) (by simp) ?_
          refine AllReadyH.cons (o := ⟨_, _, _, _, _, _⟩) rfl (fun K hK => ?_) AllReadyH.nil
          go_simp
          refine hK.out _ _ ?_ (fun hHeld => ?_)
          · (try dsimp only)
            first | exact ⟨r3d, r3d.c.2.2.2, run_str (P := Try.prog) 26 9 5 Try.underlying26 Try.underlying5 Try.underlying9 (Sl.fr hBw r3d.fr fun _ _ f => f) _ rfl⟩ | exact ⟨r5, r5.c.2.2.2, run_str (P := Try.prog) 26 9 5 Try.underlying26 Try.underlying5 Try.underlying9 (Sl.fr hBw r5.fr fun _ _ f => f) _ rfl⟩
          clear hK K
          try simp only [Act.put, List.setIfInBounds_toArray, List.set_cons_zero, List.set_cons_succ]
          refine wpAnyH_ready (rs := [10]) (by kernel_rfl) (by simp) ?_
          refine AllReadyH.cons (o := ⟨_, _, _, _, _, _⟩) rfl (fun K hK => ?_) AllReadyH.nil
          go_simp
          refine hK.out _ _ ?_ (fun hHeld => ?_)
          · (try dsimp only)
            first | exact ⟨r3d, r3d.c.2.2.2, run_str (P := Try.prog) 26 9 5 Try.underlying26 Try.underlying5 Try.underlying9 (Sl.fr hBw r3d.fr fun _ _ f => f) _ rfl⟩ | exact ⟨r5, r5.c.2.2.2, run_str (P := Try.prog) 26 9 5 Try.underlying26 Try.underlying5 Try.underlying9 (Sl.fr hBw r5.fr fun _ _ f => f) _ rfl⟩
          clear hK K
          try simp only [Act.put, List.setIfInBounds_toArray, List.set_cons_zero, List.set_cons_succ]
          refine wpAnyH_ready (rs := [11]) (by kernel_rfl) (by simp) ?_
          refine AllReadyH.cons (o := ⟨_, _, _, _, _, _⟩) rfl (fun K hK => ?_) AllReadyH.nil
          go_simp
          refine hK.out _ _ ?_ (fun hHeld => ?_)
          · (try dsimp only)
            first | exact ⟨r3d, r3d.c.2.2.2, run_str (P := Try.prog) 26 9 5 Try.underlying26 Try.underlying5 Try.underlying9 (Sl.fr hBw r3d.fr fun _ _ f => f) _ rfl⟩ | exact ⟨r5, r5.c.2.2.2, run_str (P := Try.prog) 26 9 5 Try.underlying26 Try.underlying5 Try.underlying9 (Sl.fr hBw r5.fr fun _ _ f => f) _ rfl⟩
          clear hK K
          try simp only [Act.put, List.setIfInBounds_toArray, List.set_cons_zero, List.set_cons_succ]
          refine wpAnyH_take (i := 12) (oi := ⟨_, _, _, _, _, _⟩) (v := ?_) rfl (by kernel_rfl) (by kernel_rfl) (by kernel_rfl) (fun _ _ _ h => h) (Or.inl ⟨by rfl, ?_⟩) (by assumption) ?_
          rotate_left
          · intro w hSw; (try dsimp only at hSw); go_simp; (try (with_reducible rfl)); done
          simp only [Act.put, List.setIfInBounds_toArray, List.set_cons_zero, List.set_cons_succ]
          refine wpAnyH_done (by kernel_rfl) ?_ _
          refine NoPanic.normal ?_
          have R5 := Lib.hid r5
          clear r5 r3d r3 BX hb5 hil hs5 hBw
          go_wp2
          go_roundw
          case rel =>
            refine ⟨k + 1, by omega, by go_num, ?_, ?_, R5.out.fr⟩
            · rw [HS.out]; simp [It.put, ctd]
            · rw [HS.out]; simpa [It.put] using R5.out.wr
          case measure => simp [intOf]; omega
        have b3 : (kd == 3) = false := by simpa using k3
        clear k0 k1 k2 k3
        have hput : It.put ⟨kd, sz, x, ba, bc, ib⟩ = [] := by
          simp only [beq_eq_false_iff_ne] at b0 b1 b2 b3
          simp [It.put, b0, b1, b2, b3]
        have HPUT := Lib.hid hput
        clear hput
        go_wp2
        go_roundw
        case rel =>
          refine ⟨k + 1, by omega, by go_num, ?_, ?_, BX.fr⟩
          · rw [HS.out, HPUT.out]; simp
          · rw [HS.out, HPUT.out]; simpa using BX.wr
        case measure => simp [intOf]; omega
      · have hkl : k = l.length := by omega
        subst hkl
        rw [List.take_length] at HW hpl ⊢
        clear hk hkn
        obtain ⟨v, hv, ho⟩ := HW.out
        go_wp2_with fail
        refine (WBytes_any _ v _ _ hv (by omega)).mono ?_
        rintro e w3 ⟨a3, c3, rfl, hb3, hf3, _⟩
        have hs := run_str (P := Try.prog) 26 9 5 Try.underlying26 Try.underlying5 Try.underlying9 hb3 _ rfl
        have HV := Lib.hid (⟨hv.fr hf3 fun _ _ f => f, ho⟩ : IsW w3 w2.heap.size v (puts l) ∧ _)
        have HF := Lib.hid (hf.trans' hf3)
        clear hv ho hf3 hf12 HW hb3
        go_wp2_with fail
        refine (WBytes_none _).mono ?_
        rintro e w' ⟨rfl, rfl⟩
        clear hs
        go_wp2_with fail
        refine (WBytes_any _ v _ _ HV.out.1 (by omega)).mono ?_
        rintro e w4 ⟨a4, c4, rfl, hb4, hf4, _⟩
        have HF4 := Lib.hid (HF.out.trans' hf4)
        clear hf4 HF
        go_wp2_with fail
        refine (Read_any _ _ _ _ _ hb4 rfl (by omega)).mono ?_
        rintro e w5 ⟨rb, ra, rfl, hr, hf5, hr5, _, hk5⟩
        have hs4 := HF4.out.size
        have HR := Lib.hid (show ∀ k, ablk ra = some k → w.heap.size ≤ k from fun k hk => Nat.le_trans hs4 (hk5 k hk).1)
        have hrb : w.heap.size ≤ rb := Nat.le_trans hs4 hr5
        have HF5 := Lib.hid (HF4.out.trans' hf5)
        clear hf5 HF4 hk5 hr5 hs4 hb4 HV
        go_wp2_with fail
        go_loopw [124] (fun iv wr => ∃ k : Nat, k ≤ l.length ∧ iv = .int .i64 k ∧ (∃ a, IsR wr rb a (some (puts (l.drop k))) ∧ ∀ i, ablk a = some i → w.heap.size ≤ i) ∧ Fr F0 w wr) (fun iv _ => l.length - (intOf iv).toNat)
        case atStart => exact ⟨0, Nat.zero_le _, rfl, ⟨ra, hr, HR.out⟩, HF5.out⟩
        case round =>
          obtain ⟨k, hk, rfl, hW, hf⟩ := hrel
          clear hr
          have HW := Lib.hid hW
          clear hW HR HF5
          have hpl2 : (puts (l.drop k)).length ≤ 12400 := by
            have := puts_len (l.drop k) fun t ht => H300.out t (List.mem_of_mem_drop ht)
            simp only [List.length_drop] at this
            omega
          by_cases hkn : k < l.length
          · have HS := puts_drop l k hkn
            have hr := h.below hf
            have hok := hr.ok _ (List.getElem_mem hkn)
            have h3 := H300.out _ (List.getElem_mem hkn)
            obtain ⟨b, off, rfl, hb, hc⟩ := hr.cells k hkn
            have c0 := hc 0 _ rfl
            have c1 := hc 1 _ rfl
            have c2 := hc 2 _ rfl
            have c3 := hc 3 _ rfl
            have HOK := Lib.hid (h.ok _ (List.getElem_mem hkn))
            generalize ht : l[k] = t at *
            simp only [Nat.add_zero] at c0
            rw [HS] at HW hpl2
            clear HS
            generalize hp : puts (l.drop (k + 1)) = P at *
            have HP := Lib.hid hp
            have hx := hok.x
            have hs0 := hok.s0
            have hs1 := hok.s1
            have BX : RR w (wr.alloc (.cells #[.int .i64 t.kind, .int .i64 t.size, .int .u64 t.x, .slice t.ba t.bs.length t.bc] 31)) rb (some (t.put ++ P)) wr.heap.size t := by
              obtain ⟨v, hv, ho⟩ := HW.out
              exact ⟨⟨v, hv.fr ((Fr.refl F0 wr).alloc _) (fun f => f) fun _ _ f => f, ho⟩, hrb, hf.alloc _, heap_alloc_new wr _⟩
            clear hc hr hp ht
            clear hok HE LV FW HW
            obtain ⟨kd, sz, x, ba, bc, ib⟩ := t
            dsimp only at *
            by_cases k0 : kd = 0
            · subst k0
              obtain ⟨d0, d1, d2, d3⟩ := BX.c
              cases hsz8 : szB sz with
              | true =>
                have h8 := szB_le hsz8
                have hp : It.put ⟨0, sz, x, ba, bc, ib⟩ = le sz.toNat x := by simp [It.put, hsz8]
                rw [hp] at BX
                have hll : (le sz.toNat x ++ P).length ≤ 12500 := by simp [le_length, hp] at hpl2 ⊢; omega
                clear hp
                have BXd := BX.more ((Fr.refl F0 _).drew)
                go_wp2_with fail
                refine wp_region_noPanic ?_
                refine wp_region_held_drew (S := (fun w' => (∃ st, RR w w' rb st wr.heap.size ⟨0, sz, x, ba, bc, ib⟩) ∧ w'.cell? ⟨wr.heap.size, 1, none⟩ = some (.int .i64 sz) ∧ w'.cell? ⟨wr.heap.size, 2, none⟩ = some (.int .u64 x))) (by kernel_rfl) ?_ (fun hHeld => ?_)
                · (try dsimp only)
                  first | exact ⟨⟨_, BXd⟩, BXd.c.2.1, BXd.c.2.2.1⟩ | exact ⟨⟨_, r6⟩, r6.c.2.1, r6.c.2.2.1⟩ | exact ⟨⟨_, r5⟩, r5.c.2.1, r5.c.2.2.1⟩
                refine wpAnyH_take (i := 0) (oi := ⟨_, _, _, _, _, _⟩) (v := ?_) rfl (by kernel_rfl) (by kernel_rfl) (by kernel_rfl) (fun _ _ _ h => h) (Or.inl ⟨by rfl, ?_⟩) (by assumption) ?_
                rotate_left
                · intro w hSw; (try dsimp only at hSw); go_simp; (try (with_reducible rfl)); done
                simp only [Act.put, List.setIfInBounds_toArray, List.set_cons_zero, List.set_cons_succ]
                refine wpAnyH_take (i := 1) (oi := ⟨_, _, _, _, _, _⟩) (v := ?_) rfl (by kernel_rfl) (by kernel_rfl) (by kernel_rfl) (fun _ _ _ h => h) (Or.inl ⟨by rfl, ?_⟩) (by assumption) ?_
                rotate_left
                · intro w hSw; (try dsimp only at hSw); go_simp; (try (with_reducible rfl)); done
                simp only [Act.put, List.setIfInBounds_toArray, List.set_cons_zero, List.set_cons_succ]
                refine wpAnyH_ready (rs := [2]) (by kernel_rfl) (by simp) ?_
                refine AllReadyH.cons (o := ⟨_, _, _, _, _, _⟩) rfl (fun K hK => ?_) AllReadyH.nil
                go_simp
                (refine (right01_any _ _).mono ?_; rintro e w5 ⟨rfl, rfl⟩)
                refine hK.out _ _ ?_ (fun hHeld => ?_)
                · (try dsimp only)
                  first | exact ⟨⟨_, BXd⟩, BXd.c.2.1, BXd.c.2.2.1⟩ | exact ⟨⟨_, r6⟩, r6.c.2.1, r6.c.2.2.1⟩ | exact ⟨⟨_, r5⟩, r5.c.2.1, r5.c.2.2.1⟩
                clear hK K
                try simp only [Act.put, List.setIfInBounds_toArray, List.set_cons_zero, List.set_cons_succ]
                refine wpAnyH_take (i := 3) (oi := ⟨_, _, _, _, _, _⟩) (v := ?_) rfl (by kernel_rfl) (by kernel_rfl) (by kernel_rfl) (fun _ _ _ h => h) (Or.inl ⟨by rfl, ?_⟩) (by assumption) ?_
                rotate_left
                · intro w hSw; (try dsimp only at hSw); go_simp; (try (with_reducible rfl)); done
                simp only [Act.put, List.setIfInBounds_toArray, List.set_cons_zero, List.set_cons_succ]
                refine wpAnyH_take (i := 4) (oi := ⟨_, _, _, _, _, _⟩) (v := ?_) rfl (by kernel_rfl) (by kernel_rfl) (by kernel_rfl) (fun _ _ _ h => h) (Or.inl ⟨by rfl, ?_⟩) (by assumption) ?_
                rotate_left
                · intro w hSw; (try dsimp only at hSw); go_simp; (try (with_reducible rfl)); done
                simp only [Act.put, List.setIfInBounds_toArray, List.set_cons_zero, List.set_cons_succ]
                refine wpAnyH_take (i := 5) (oi := ⟨_, _, _, _, _, _⟩) (v := ?_) rfl (by kernel_rfl) (by kernel_rfl) (by kernel_rfl) (fun _ _ _ h => h) (Or.inl ⟨by rfl, ?_⟩) (by assumption) ?_
                rotate_left
                · intro w hSw; (try dsimp only at hSw); go_simp; (try (with_reducible rfl)); done
                simp only [Act.put, List.setIfInBounds_toArray, List.set_cons_zero, List.set_cons_succ]
                refine wpAnyH_take (i := 6) (oi := ⟨_, _, _, _, _, _⟩) (v := ?_) rfl (by kernel_rfl) (by kernel_rfl) (by kernel_rfl) (fun _ _ _ h => h) (Or.inl ⟨by rfl, ?_⟩) (by assumption) ?_
                rotate_left
                · intro w hSw; (try dsimp only at hSw); go_simp; (try (with_reducible rfl)); done
                simp only [Act.put, List.setIfInBounds_toArray, List.set_cons_zero, List.set_cons_succ]
                refine wpAnyH_take (i := 8) (oi := ⟨_, _, _, _, _, _⟩) (v := ?_) rfl (by kernel_rfl) (by kernel_rfl) (by kernel_rfl) (fun _ _ _ h => h) (Or.inl ⟨by rfl, ?_⟩) (by assumption) ?_
                rotate_left
                · intro w hSw; (try dsimp only at hSw); go_simp; (try (with_reducible rfl)); done
                simp only [Act.put, List.setIfInBounds_toArray, List.set_cons_zero, List.set_cons_succ]
                refine wpAnyH_take (i := 9) (oi := ⟨_, _, _, _, _, _⟩) (v := ?_) rfl (by kernel_rfl) (by kernel_rfl) (by kernel_rfl) (fun _ _ _ h => h) (Or.inl ⟨by rfl, ?_⟩) (by assumption) ?_
                rotate_left
                · intro w hSw; (try dsimp only at hSw); go_simp; (try (with_reducible rfl)); done
                simp only [Act.put, List.setIfInBounds_toArray, List.set_cons_zero, List.set_cons_succ]
                refine wpAnyH_take (i := 10) (oi := ⟨_, _, _, _, _, _⟩) (v := ?_) rfl (by kernel_rfl) (by kernel_rfl) (by kernel_rfl) (fun _ _ _ h => h) (Or.inl ⟨by rfl, ?_⟩) (by assumption) ?_
                rotate_left
                · intro w hSw; (try dsimp only at hSw); go_simp; (try (with_reducible rfl)); done
                simp only [Act.put, List.setIfInBounds_toArray, List.set_cons_zero, List.set_cons_succ]
                refine wpAnyH_take (i := 11) (oi := ⟨_, _, _, _, _, _⟩) (v := ?_) rfl (by kernel_rfl) (by kernel_rfl) (by kernel_rfl) (fun _ _ _ h => h) (Or.inl ⟨by rfl, ?_⟩) (by assumption) ?_
                rotate_left
                · intro w hSw; (try dsimp only at hSw); go_simp; (try (with_reducible rfl)); done
                simp only [Act.put, List.setIfInBounds_toArray, List.set_cons_zero, List.set_cons_succ]
                refine wpAnyH_ready (rs := [7]) (by kernel_rfl) (by simp) ?_
                refine AllReadyH.cons (o := ⟨_, _, _, _, _, _⟩) rfl (fun K hK => ?_) AllReadyH.nil
                go_simp
                (refine (BXd.calls fun a ha => Get_any _ a _ _ _ ha (by simp [lft] at hll ⊢; omega)).mono ?_; rintro e w5 ⟨rfl, r5⟩; rw [gt_le _ _ _ hsz8] at r5 ⊢)
                refine hK.out _ _ ?_ (fun hHeld => ?_)
                · (try dsimp only)
                  first | exact ⟨⟨_, BXd⟩, BXd.c.2.1, BXd.c.2.2.1⟩ | exact ⟨⟨_, r6⟩, r6.c.2.1, r6.c.2.2.1⟩ | exact ⟨⟨_, r5⟩, r5.c.2.1, r5.c.2.2.1⟩
                clear hK K
                try simp only [Act.put, List.setIfInBounds_toArray, List.set_cons_zero, List.set_cons_succ]
                refine wpAnyH_ready (rs := [12]) (by kernel_rfl) (by simp) ?_
                refine AllReadyH.cons (o := ⟨_, _, _, _, _, _⟩) rfl (fun K hK => ?_) AllReadyH.nil
                go_simp
                (refine (r5.bytes (refPut_at _ _ _ (by omega) (by omega) (by omega) (by omega))).mono ?_; rintro e w6 ⟨a6, c6, rfl, hb6, r6⟩)
                refine hK.out _ _ ?_ (fun hHeld => ?_)
                · (try dsimp only)
                  first | exact ⟨⟨_, BXd⟩, BXd.c.2.1, BXd.c.2.2.1⟩ | exact ⟨⟨_, r6⟩, r6.c.2.1, r6.c.2.2.1⟩ | exact ⟨⟨_, r5⟩, r5.c.2.1, r5.c.2.2.1⟩
                clear hK K
                try simp only [Act.put, List.setIfInBounds_toArray, List.set_cons_zero, List.set_cons_succ]
                refine wpAnyH_ready (rs := [13]) (by kernel_rfl) (by simp) ?_
                refine AllReadyH.cons (o := ⟨_, _, _, _, _, _⟩) rfl (fun K hK => ?_) AllReadyH.nil
                go_simp
                (refine (refGet_any _ _ _ _ _ hb6 rfl (by rw [le_length]; omega)).mono ?_; rintro e w7 ⟨rfl, rfl⟩)
                refine hK.out _ _ ?_ (fun hHeld => ?_)
                · (try dsimp only)
                  first | exact ⟨⟨_, BXd⟩, BXd.c.2.1, BXd.c.2.2.1⟩ | exact ⟨⟨_, r6⟩, r6.c.2.1, r6.c.2.2.1⟩ | exact ⟨⟨_, r5⟩, r5.c.2.1, r5.c.2.2.1⟩
                clear hK K
                try simp only [Act.put, List.setIfInBounds_toArray, List.set_cons_zero, List.set_cons_succ]
                refine wpAnyH_ready (rs := [14]) (by kernel_rfl) (by simp) ?_
                refine AllReadyH.cons (o := ⟨_, _, _, _, _, _⟩) rfl (fun K hK => ?_) AllReadyH.nil
                go_simp
                refine hK.out _ _ ?_ (fun hHeld => ?_)
                · (try dsimp only)
                  first | exact ⟨⟨_, BXd⟩, BXd.c.2.1, BXd.c.2.2.1⟩ | exact ⟨⟨_, r6⟩, r6.c.2.1, r6.c.2.2.1⟩ | exact ⟨⟨_, r5⟩, r5.c.2.1, r5.c.2.2.1⟩
                clear hK K
                try simp only [Act.put, List.setIfInBounds_toArray, List.set_cons_zero, List.set_cons_succ]
                refine wpAnyH_ready (rs := [15]) (by kernel_rfl) (by simp) ?_
                refine AllReadyH.cons (o := ⟨_, _, _, _, _, _⟩) rfl (fun K hK => ?_) AllReadyH.nil
                go_simp
                refine hK.out _ _ ?_ (fun hHeld => ?_)
                · (try dsimp only)
                  first | exact ⟨⟨_, BXd⟩, BXd.c.2.1, BXd.c.2.2.1⟩ | exact ⟨⟨_, r6⟩, r6.c.2.1, r6.c.2.2.1⟩ | exact ⟨⟨_, r5⟩, r5.c.2.1, r5.c.2.2.1⟩
                clear hK K
                try simp only [Act.put, List.setIfInBounds_toArray, List.set_cons_zero, List.set_cons_succ]
                refine wpAnyH_done (by kernel_rfl) ?_ _
                refine NoPanic.normal ?_
                have RX := Lib.hid r6
                clear BXd BX r5 r6 d0 d1 d2 d3 hb6
                go_wp2
                go_roundw
                case rel => exact ⟨k + 1, by omega, by go_num, by rw [HP.out]; exact RX.out.rd, RX.out.fr⟩
                case measure => simp [intOf]; omega
              | false =>
                have hp : It.put ⟨0, sz, x, ba, bc, ib⟩ = [] := by simp [It.put, hsz8]
                rw [hp, List.nil_append] at BX
                clear hp hpl2
                have BXd := BX.more ((Fr.refl F0 _).drew)
                go_wp2_with fail
                refine wp_region_noPanic ?_
                refine wp_region_held_drew (S := (fun w' => (∃ st, RR w w' rb st wr.heap.size ⟨0, sz, x, ba, bc, ib⟩) ∧ w'.cell? ⟨wr.heap.size, 1, none⟩ = some (.int .i64 sz))) (by kernel_rfl) ?_ (fun hHeld => ?_)
                · (try dsimp only)
                  exact ⟨⟨_, BXd⟩, BXd.c.2.1⟩
                refine wpAnyH_take (i := 0) (oi := ⟨_, _, _, _, _, _⟩) (v := ?_) rfl (by kernel_rfl) (by kernel_rfl) (by kernel_rfl) (fun _ _ _ h => h) (Or.inl ⟨by rfl, ?_⟩) (by assumption) ?_
                rotate_left
                · intro w hSw; (try dsimp only at hSw); go_simp; (try (with_reducible rfl)); done
                simp only [Act.put, List.setIfInBounds_toArray, List.set_cons_zero, List.set_cons_succ]
                refine wpAnyH_take (i := 1) (oi := ⟨_, _, _, _, _, _⟩) (v := ?_) rfl (by kernel_rfl) (by kernel_rfl) (by kernel_rfl) (fun _ _ _ h => h) (Or.inl ⟨by rfl, ?_⟩) (by assumption) ?_
                rotate_left
                · intro w hSw; (try dsimp only at hSw); go_simp; (try (with_reducible rfl)); done
                simp only [Act.put, List.setIfInBounds_toArray, List.set_cons_zero, List.set_cons_succ]
                refine wpAnyH_ready (rs := [2]) (by kernel_rfl) (by simp) ?_
                refine AllReadyH.cons (o := ⟨_, _, _, _, _, _⟩) rfl (fun K hK => ?_) AllReadyH.nil
                go_simp
                (refine (right01_any _ _).mono ?_; rintro e w5 ⟨rfl, rfl⟩)
                refine hK.out _ _ ?_ (fun hHeld => ?_)
                · (try dsimp only)
                  exact ⟨⟨_, BXd⟩, BXd.c.2.1⟩
                clear hK K
                try simp only [Act.put, List.setIfInBounds_toArray, List.set_cons_zero, List.set_cons_succ]
                refine wpAnyH_take (i := 3) (oi := ⟨_, _, _, _, _, _⟩) (v := ?_) rfl (by kernel_rfl) (by kernel_rfl) (by kernel_rfl) (fun _ _ _ h => h) (Or.inl ⟨by rfl, ?_⟩) (by assumption) ?_
                rotate_left
                · intro w hSw; (try dsimp only at hSw); go_simp; (try (with_reducible rfl)); done
                simp only [Act.put, List.setIfInBounds_toArray, List.set_cons_zero, List.set_cons_succ]
                refine wpAnyH_take (i := 4) (oi := ⟨_, _, _, _, _, _⟩) (v := undef) rfl (by kernel_rfl) (by kernel_rfl) (by kernel_rfl) (fun _ _ _ h => h) (Or.inr ⟨by rfl, rfl⟩) (by assumption) ?_
                try simp only [Act.put, List.setIfInBounds_toArray, List.set_cons_zero, List.set_cons_succ]
                refine wpAnyH_take (i := 5) (oi := ⟨_, _, _, _, _, _⟩) (v := undef) rfl (by kernel_rfl) (by kernel_rfl) (by kernel_rfl) (fun _ _ _ h => h) (Or.inr ⟨by rfl, rfl⟩) (by assumption) ?_
                try simp only [Act.put, List.setIfInBounds_toArray, List.set_cons_zero, List.set_cons_succ]
                refine wpAnyH_take (i := 6) (oi := ⟨_, _, _, _, _, _⟩) (v := undef) rfl (by kernel_rfl) (by kernel_rfl) (by kernel_rfl) (fun _ _ _ h => h) (Or.inr ⟨by rfl, rfl⟩) (by assumption) ?_
                try simp only [Act.put, List.setIfInBounds_toArray, List.set_cons_zero, List.set_cons_succ]
                refine wpAnyH_take (i := 7) (oi := ⟨_, _, _, _, _, _⟩) (v := undef) rfl (by kernel_rfl) (by kernel_rfl) (by kernel_rfl) (fun _ _ _ h => h) (Or.inr ⟨by rfl, rfl⟩) (by assumption) ?_
                try simp only [Act.put, List.setIfInBounds_toArray, List.set_cons_zero, List.set_cons_succ]
                refine wpAnyH_take (i := 8) (oi := ⟨_, _, _, _, _, _⟩) (v := undef) rfl (by kernel_rfl) (by kernel_rfl) (by kernel_rfl) (fun _ _ _ h => h) (Or.inr ⟨by rfl, rfl⟩) (by assumption) ?_
                try simp only [Act.put, List.setIfInBounds_toArray, List.set_cons_zero, List.set_cons_succ]
                refine wpAnyH_take (i := 9) (oi := ⟨_, _, _, _, _, _⟩) (v := undef) rfl (by kernel_rfl) (by kernel_rfl) (by kernel_rfl) (fun _ _ _ h => h) (Or.inr ⟨by rfl, rfl⟩) (by assumption) ?_
                try simp only [Act.put, List.setIfInBounds_toArray, List.set_cons_zero, List.set_cons_succ]
                refine wpAnyH_take (i := 10) (oi := ⟨_, _, _, _, _, _⟩) (v := undef) rfl (by kernel_rfl) (by kernel_rfl) (by kernel_rfl) (fun _ _ _ h => h) (Or.inr ⟨by rfl, rfl⟩) (by assumption) ?_
                try simp only [Act.put, List.setIfInBounds_toArray, List.set_cons_zero, List.set_cons_succ]
                refine wpAnyH_take (i := 11) (oi := ⟨_, _, _, _, _, _⟩) (v := undef) rfl (by kernel_rfl) (by kernel_rfl) (by kernel_rfl) (fun _ _ _ h => h) (Or.inr ⟨by rfl, rfl⟩) (by assumption) ?_
                try simp only [Act.put, List.setIfInBounds_toArray, List.set_cons_zero, List.set_cons_succ]
                refine wpAnyH_take (i := 12) (oi := ⟨_, _, _, _, _, _⟩) (v := undef) rfl (by kernel_rfl) (by kernel_rfl) (by kernel_rfl) (fun _ _ _ h => h) (Or.inr ⟨by rfl, rfl⟩) (by assumption) ?_
                try simp only [Act.put, List.setIfInBounds_toArray, List.set_cons_zero, List.set_cons_succ]
                refine wpAnyH_take (i := 13) (oi := ⟨_, _, _, _, _, _⟩) (v := undef) rfl (by kernel_rfl) (by kernel_rfl) (by kernel_rfl) (fun _ _ _ h => h) (Or.inr ⟨by rfl, rfl⟩) (by assumption) ?_
                try simp only [Act.put, List.setIfInBounds_toArray, List.set_cons_zero, List.set_cons_succ]
                refine wpAnyH_take (i := 14) (oi := ⟨_, _, _, _, _, _⟩) (v := undef) rfl (by kernel_rfl) (by kernel_rfl) (by kernel_rfl) (fun _ _ _ h => h) (Or.inr ⟨by rfl, rfl⟩) (by assumption) ?_
                try simp only [Act.put, List.setIfInBounds_toArray, List.set_cons_zero, List.set_cons_succ]
                refine wpAnyH_take (i := 15) (oi := ⟨_, _, _, _, _, _⟩) (v := ?_) rfl (by kernel_rfl) (by kernel_rfl) (by kernel_rfl) (fun _ _ _ h => h) (Or.inl ⟨by rfl, ?_⟩) (by assumption) ?_
                rotate_left
                · intro w hSw; (try dsimp only at hSw); go_simp; (try (with_reducible rfl)); done
                simp only [Act.put, List.setIfInBounds_toArray, List.set_cons_zero, List.set_cons_succ]
                refine wpAnyH_done (by kernel_rfl) ?_ _
                refine NoPanic.normal ?_
                have RX := Lib.hid BXd
                clear BXd BX d0 d1 d2 d3
                go_wp2
                go_roundw
                case rel => exact ⟨k + 1, by omega, by go_num, by rw [HP.out]; exact RX.out.rd, RX.out.fr⟩
                case measure => simp [intOf]; omega
            have b0 : (kd == 0) = false := by simpa using k0
            by_cases k1 : kd = 1
            · subst k1
              clear k0
              obtain ⟨d0, d1, d2, d3⟩ := BX.c
              have hp : It.put ⟨1, sz, x, ba, bc, ib⟩ = cnt x := by simp [It.put]
              rw [hp] at BX
              have hll : (cnt x ++ P).length ≤ 12500 := by rw [hp] at hpl2; omega
              clear hp hpl2
              have BXd := BX.more ((Fr.refl F0 _).drew)
              go_wp2_with fail
              refine wp_region_noPanic ?_
              refine wp_region_held_drew (S := (fun w' => (∃ st, RR w w' rb st wr.heap.size ⟨1, sz, x, ba, bc, ib⟩) ∧ w'.cell? ⟨wr.heap.size, 2, none⟩ = some (.int .u64 x))) (by kernel_rfl) ?_ (fun hHeld => ?_)
              · (try dsimp only)
                first | exact ⟨⟨_, BXd⟩, BXd.c.2.2.1⟩ | exact ⟨⟨_, r5⟩, r5.c.2.2.1⟩
              refine wpAnyH_take (i := 0) (oi := ⟨_, _, _, _, _, _⟩) (v := ?_) rfl (by kernel_rfl) (by kernel_rfl) (by kernel_rfl) (fun _ _ _ h => h) (Or.inl ⟨by rfl, ?_⟩) (by assumption) ?_
              rotate_left
              · intro w hSw; (try dsimp only at hSw); go_simp; (try (with_reducible rfl)); done
              simp only [Act.put, List.setIfInBounds_toArray, List.set_cons_zero, List.set_cons_succ]
              refine wpAnyH_take (i := 1) (oi := ⟨_, _, _, _, _, _⟩) (v := ?_) rfl (by kernel_rfl) (by kernel_rfl) (by kernel_rfl) (fun _ _ _ h => h) (Or.inl ⟨by rfl, ?_⟩) (by assumption) ?_
              rotate_left
              · intro w hSw; (try dsimp only at hSw); go_simp; (try (with_reducible rfl)); done
              simp only [Act.put, List.setIfInBounds_toArray, List.set_cons_zero, List.set_cons_succ]
              refine wpAnyH_take (i := 2) (oi := ⟨_, _, _, _, _, _⟩) (v := ?_) rfl (by kernel_rfl) (by kernel_rfl) (by kernel_rfl) (fun _ _ _ h => h) (Or.inl ⟨by rfl, ?_⟩) (by assumption) ?_
              rotate_left
              · intro w hSw; (try dsimp only at hSw); go_simp; (try (with_reducible rfl)); done
              simp only [Act.put, List.setIfInBounds_toArray, List.set_cons_zero, List.set_cons_succ]
              refine wpAnyH_take (i := 4) (oi := ⟨_, _, _, _, _, _⟩) (v := ?_) rfl (by kernel_rfl) (by kernel_rfl) (by kernel_rfl) (fun _ _ _ h => h) (Or.inl ⟨by rfl, ?_⟩) (by assumption) ?_
              rotate_left
              · intro w hSw; (try dsimp only at hSw); go_simp; (try (with_reducible rfl)); done
              simp only [Act.put, List.setIfInBounds_toArray, List.set_cons_zero, List.set_cons_succ]
              refine wpAnyH_take (i := 5) (oi := ⟨_, _, _, _, _, _⟩) (v := ?_) rfl (by kernel_rfl) (by kernel_rfl) (by kernel_rfl) (fun _ _ _ h => h) (Or.inl ⟨by rfl, ?_⟩) (by assumption) ?_
              rotate_left
              · intro w hSw; (try dsimp only at hSw); go_simp; (try (with_reducible rfl)); done
              simp only [Act.put, List.setIfInBounds_toArray, List.set_cons_zero, List.set_cons_succ]
              refine wpAnyH_ready (rs := [3]) (by kernel_rfl) (by simp) ?_
              refine AllReadyH.cons (o := ⟨_, _, _, _, _, _⟩) rfl (fun K hK => ?_) AllReadyH.nil
              go_simp
              (refine (BXd.calls fun a ha => RCount_any _ a _ _ _ ha (by simp [lft] at hll ⊢; omega) (by omega)).mono ?_; rintro e w5 ⟨rfl, r5⟩; rw [rc_cnt _ _ _ (by omega) (Nat.le_refl _)] at r5 ⊢)
              refine hK.out _ _ ?_ (fun hHeld => ?_)
              · (try dsimp only)
                first | exact ⟨⟨_, BXd⟩, BXd.c.2.2.1⟩ | exact ⟨⟨_, r5⟩, r5.c.2.2.1⟩
              clear hK K
              try simp only [Act.put, List.setIfInBounds_toArray, List.set_cons_zero, List.set_cons_succ]
              refine wpAnyH_ready (rs := [6]) (by kernel_rfl) (by simp) ?_
              refine AllReadyH.cons (o := ⟨_, _, _, _, _, _⟩) rfl (fun K hK => ?_) AllReadyH.nil
              go_simp
              refine hK.out _ _ ?_ (fun hHeld => ?_)
              · (try dsimp only)
                first | exact ⟨⟨_, BXd⟩, BXd.c.2.2.1⟩ | exact ⟨⟨_, r5⟩, r5.c.2.2.1⟩
              clear hK K
              try simp only [Act.put, List.setIfInBounds_toArray, List.set_cons_zero, List.set_cons_succ]
              refine wpAnyH_done (by kernel_rfl) ?_ _
              refine NoPanic.normal ?_
              have RX := Lib.hid r5
              clear BXd BX r5 d0 d1 d2 d3
              go_wp2
              go_roundw
              case rel => exact ⟨k + 1, by omega, by go_num, by rw [HP.out]; exact RX.out.rd, RX.out.fr⟩
              case measure => simp [intOf]; omega
            have b1 : (kd == 1) = false := by simpa using k1
            clear k1
            by_cases k2 : kd = 2
            · subst k2
              clear k0
              obtain ⟨d0, d1, d2, d3⟩ := BX.c
              have hp : It.put ⟨2, sz, x, ba, bc, ib⟩ = ib := by simp [It.put]
              rw [hp] at BX
              have hll : (ib ++ P).length ≤ 12500 := by rw [hp] at hpl2; omega
              clear hp hpl2
              have BXd := BX.more ((Fr.refl F0 _).drew)
              have hBw : Bs w ba bc ib := HOK.out.bytes
              go_wp2_with fail
              refine wp_region_noPanic ?_
              refine wp_region_held_drew (S := (fun w' => (∃ st, RR w w' rb st wr.heap.size ⟨2, sz, x, ba, bc, ib⟩) ∧ w'.cell? ⟨wr.heap.size, 3, none⟩ = some (.slice ba ib.length bc) ∧ (convert 26 9 (.slice ba ib.length bc)).run Try.prog w' = .ok (.string (strOf ib)) w')) (by kernel_rfl) ?_ (fun hHeld => ?_)
              · (try dsimp only)
                first | exact ⟨⟨_, BXd⟩, BXd.c.2.2.2, run_str (P := Try.prog) 26 9 5 Try.underlying26 Try.underlying5 Try.underlying9 (Sl.fr hBw BXd.fr fun _ _ f => f) _ rfl⟩ | exact ⟨⟨_, r5⟩, r5.c.2.2.2, run_str (P := Try.prog) 26 9 5 Try.underlying26 Try.underlying5 Try.underlying9 (Sl.fr hBw r5.fr fun _ _ f => f) _ rfl⟩
              refine wpAnyH_take (i := 0) (oi := ⟨_, _, _, _, _, _⟩) (v := ?_) rfl (by kernel_rfl) (by kernel_rfl) (by kernel_rfl) (fun _ _ _ h => h) (Or.inl ⟨by rfl, ?_⟩) (by assumption) ?_
              rotate_left
              · intro w hSw; (try dsimp only at hSw); go_simp; (try (with_reducible rfl)); done
              simp only [Act.put, List.setIfInBounds_toArray, List.set_cons_zero, List.set_cons_succ]
              refine wpAnyH_take (i := 1) (oi := ⟨_, _, _, _, _, _⟩) (v := ?_) rfl (by kernel_rfl) (by kernel_rfl) (by kernel_rfl) (fun _ _ _ h => h) (Or.inl ⟨by rfl, ?_⟩) (by assumption) ?_
              rotate_left
              · intro w hSw; (try dsimp only at hSw); go_simp; (try (with_reducible rfl)); done
              simp only [Act.put, List.setIfInBounds_toArray, List.set_cons_zero, List.set_cons_succ]
              refine wpAnyH_take (i := 2) (oi := ⟨_, _, _, _, _, _⟩) (v := ?_) rfl (by kernel_rfl) (by kernel_rfl) (by kernel_rfl) (fun _ _ _ h => h) (Or.inl ⟨by rfl, ?_⟩) (by assumption) ?_
              rotate_left
              · intro w hSw; (try dsimp only at hSw); go_simp; (try (with_reducible rfl)); done
              simp only [Act.put, List.setIfInBounds_toArray, List.set_cons_zero, List.set_cons_succ]
              refine wpAnyH_take (i := 3) (oi := ⟨_, _, _, _, _, _⟩) (v := ?_) rfl (by kernel_rfl) (by kernel_rfl) (by kernel_rfl) (fun _ _ _ h => h) (Or.inl ⟨by rfl, ?_⟩) (by assumption) ?_
              rotate_left
              · intro w hSw; (try dsimp only at hSw); go_simp; (try (with_reducible rfl)); done
              simp only [Act.put, List.setIfInBounds_toArray, List.set_cons_zero, List.set_cons_succ]
              refine wpAnyH_take (i := 6) (oi := ⟨_, _, _, _, _, _⟩) (v := ?_) rfl (by kernel_rfl) (by kernel_rfl) (by kernel_rfl) (fun _ _ _ h => h) (Or.inl ⟨by rfl, ?_⟩) (by assumption) ?_
              rotate_left
              · intro w hSw; (try dsimp only at hSw); go_simp; (try (with_reducible rfl)); done
              simp only [Act.put, List.setIfInBounds_toArray, List.set_cons_zero, List.set_cons_succ]
              refine wpAnyH_take (i := 7) (oi := ⟨_, _, _, _, _, _⟩) (v := ?_) rfl (by kernel_rfl) (by kernel_rfl) (by kernel_rfl) (fun _ _ _ h => h) (Or.inl ⟨by rfl, ?_⟩) (by assumption) ?_
              rotate_left
              · intro w hSw; (try dsimp only at hSw); go_simp; (try (with_reducible rfl)); done
              simp only [Act.put, List.setIfInBounds_toArray, List.set_cons_zero, List.set_cons_succ]
              refine wpAnyH_take (i := 8) (oi := ⟨_, _, _, _, _, _⟩) (v := ?_) rfl (by kernel_rfl) (by kernel_rfl) (by kernel_rfl) (fun _ _ _ h => h) (Or.inl ⟨by rfl, ?_⟩) (by assumption) ?_
              rotate_left
              · intro w hSw; (try dsimp only at hSw); go_simp; (try (with_reducible rfl)); done
              simp only [Act.put, List.setIfInBounds_toArray, List.set_cons_zero, List.set_cons_succ]
              refine wpAnyH_ready (rs := [4]) (by kernel_rfl) (by simp) ?_
              refine AllReadyH.cons (o := ⟨_, _, _, _, _, _⟩) rfl (fun K hK => ?_) AllReadyH.nil
              go_simp
              (refine (BXd.gives fun a ha => RRaw_any _ a _ _ _ ha (by simp [lft] at hll ⊢; omega)).mono ?_; rintro e w5 ⟨a5, c5, rfl, hb5, r5⟩; rw [tk_app] at hb5 r5 ⊢; have hs5 := run_str (P := Try.prog) 26 9 5 Try.underlying26 Try.underlying5 Try.underlying9 hb5 _ rfl)
              refine hK.out _ _ ?_ (fun hHeld => ?_)
              · (try dsimp only)
                first | exact ⟨⟨_, BXd⟩, BXd.c.2.2.2, run_str (P := Try.prog) 26 9 5 Try.underlying26 Try.underlying5 Try.underlying9 (Sl.fr hBw BXd.fr fun _ _ f => f) _ rfl⟩ | exact ⟨⟨_, r5⟩, r5.c.2.2.2, run_str (P := Try.prog) 26 9 5 Try.underlying26 Try.underlying5 Try.underlying9 (Sl.fr hBw r5.fr fun _ _ f => f) _ rfl⟩
              clear hK K
              try simp only [Act.put, List.setIfInBounds_toArray, List.set_cons_zero, List.set_cons_succ]
              refine wpAnyH_ready (rs := [5]) (by kernel_rfl) (by simp) ?_
              refine AllReadyH.cons (o := ⟨_, _, _, _, _, _⟩) rfl (fun K hK => ?_) AllReadyH.nil
              go_simp
              refine hK.out _ _ ?_ (fun hHeld => ?_)
              · (try dsimp only)
                first | exact ⟨⟨_, BXd⟩, BXd.c.2.2.2, run_str (P := Try.prog) 26 9 5 Try.underlying26 Try.underlying5 Try.underlying9 (Sl.fr hBw BXd.fr fun _ _ f => f) _ rfl⟩ | exact ⟨⟨_, r5⟩, r5.c.2.2.2, run_str (P := Try.prog) 26 9 5 Try.underlying26 Try.underlying5 Try.underlying9 (Sl.fr hBw r5.fr fun _ _ f => f) _ rfl⟩
              clear hK K
              try simp only [Act.put, List.setIfInBounds_toArray, List.set_cons_zero, List.set_cons_succ]
              refine wpAnyH_ready (rs := [9]) (by kernel_rfl) (by simp) ?_
              refine AllReadyH.cons (o := ⟨_, _, _, _, _, _⟩) rfl (fun K hK => ?_) AllReadyH.nil
              go_simp
              refine hK.out _ _ ?_ (fun hHeld => ?_)
              · (try dsimp only)
                first | exact ⟨⟨_, BXd⟩, BXd.c.2.2.2, run_str (P := Try.prog) 26 9 5 Try.underlying26 Try.underlying5 Try.underlying9 (Sl.fr hBw BXd.fr fun _ _ f => f) _ rfl⟩ | exact ⟨⟨_, r5⟩, r5.c.2.2.2, run_str (P := Try.prog) 26 9 5 Try.underlying26 Try.underlying5 Try.underlying9 (Sl.fr hBw r5.fr fun _ _ f => f) _ rfl⟩
              clear hK K
              try simp only [Act.put, List.setIfInBounds_toArray, List.set_cons_zero, List.set_cons_succ]
              refine wpAnyH_done (by kernel_rfl) ?_ _
              refine NoPanic.normal ?_
              have RX := Lib.hid r5
              clear BXd BX r5 d0 d1 d2 d3 hb5 hs5 hBw
              go_wp2
              go_roundw
              case rel => exact ⟨k + 1, by omega, by go_num, by rw [HP.out]; exact RX.out.rd, RX.out.fr⟩
              case measure => simp [intOf]; omega
            have b2 : (kd == 2) = false := by simpa using k2
            by_cases k3 : kd = 3
            · subst k3
              clear k0 k2
              obtain ⟨d0, d1, d2, d3⟩ := BX.c
              have hp : It.put ⟨3, sz, x, ba, bc, ib⟩ = ctd ib := by simp [It.put]
              rw [hp] at BX
              have hll : (ctd ib ++ P).length ≤ 12500 := by rw [hp] at hpl2; omega
              clear hp hpl2
              have BXd := BX.more ((Fr.refl F0 _).drew)
              have hBw : Bs w ba bc ib := HOK.out.bytes
              go_wp2_with fail
              refine wp_region_noPanic ?_
              refine wp_region_held_drew (S := (fun w' => (∃ st, RR w w' rb st wr.heap.size ⟨3, sz, x, ba, bc, ib⟩) ∧ w'.cell? ⟨wr.heap.size, 3, none⟩ = some (.slice ba ib.length bc) ∧ (convert 26 9 (.slice ba ib.length bc)).run Try.prog w' = .ok (.string (strOf ib)) w')) (by kernel_rfl) ?_ (fun hHeld => ?_)
              · (try dsimp only)
                first | exact ⟨⟨_, BXd⟩, BXd.c.2.2.2, run_str (P := Try.prog) 26 9 5 Try.underlying26 Try.underlying5 Try.underlying9 (Sl.fr hBw BXd.fr fun _ _ f => f) _ rfl⟩ | exact ⟨⟨_, r5⟩, r5.c.2.2.2, run_str (P := Try.prog) 26 9 5 Try.underlying26 Try.underlying5 Try.underlying9 (Sl.fr hBw r5.fr fun _ _ f => f) _ rfl⟩
              refine wpAnyH_take (i := 0) (oi := ⟨_, _, _, _, _, _⟩) (v := ?_) rfl (by kernel_rfl) (by kernel_rfl) (by kernel_rfl) (fun _ _ _ h => h) (Or.inl ⟨by rfl, ?_⟩) (by assumption) ?_
              rotate_left
              · intro w hSw; (try dsimp only at hSw); go_simp; (try (with_reducible rfl)); done
              simp only [Act.put, List.setIfInBounds_toArray, List.set_cons_zero, List.set_cons_succ]
              refine wpAnyH_take (i := 1) (oi := ⟨_, _, _, _, _, _⟩) (v := ?_) rfl (by kernel_rfl) (by kernel_rfl) (by kernel_rfl) (fun _ _ _ h => h) (Or.inl ⟨by rfl, ?_⟩) (by assumption) ?_
              rotate_left
              · intro w hSw; (try dsimp only at hSw); go_simp; (try (with_reducible rfl)); done
              simp only [Act.put, List.setIfInBounds_toArray, List.set_cons_zero, List.set_cons_succ]
              refine wpAnyH_take (i := 2) (oi := ⟨_, _, _, _, _, _⟩) (v := ?_) rfl (by kernel_rfl) (by kernel_rfl) (by kernel_rfl) (fun _ _ _ h => h) (Or.inl ⟨by rfl, ?_⟩) (by assumption) ?_
              rotate_left
              · intro w hSw; (try dsimp only at hSw); go_simp; (try (with_reducible rfl)); done
              simp only [Act.put, List.setIfInBounds_toArray, List.set_cons_zero, List.set_cons_succ]
              refine wpAnyH_take (i := 3) (oi := ⟨_, _, _, _, _, _⟩) (v := ?_) rfl (by kernel_rfl) (by kernel_rfl) (by kernel_rfl) (fun _ _ _ h => h) (Or.inl ⟨by rfl, ?_⟩) (by assumption) ?_
              rotate_left
              · intro w hSw; (try dsimp only at hSw); go_simp; (try (with_reducible rfl)); done
              simp only [Act.put, List.setIfInBounds_toArray, List.set_cons_zero, List.set_cons_succ]
              refine wpAnyH_take (i := 6) (oi := ⟨_, _, _, _, _, _⟩) (v := ?_) rfl (by kernel_rfl) (by kernel_rfl) (by kernel_rfl) (fun _ _ _ h => h) (Or.inl ⟨by rfl, ?_⟩) (by assumption) ?_
              rotate_left
              · intro w hSw; (try dsimp only at hSw); go_simp; (try (with_reducible rfl)); done
              simp only [Act.put, List.setIfInBounds_toArray, List.set_cons_zero, List.set_cons_succ]
              refine wpAnyH_take (i := 7) (oi := ⟨_, _, _, _, _, _⟩) (v := ?_) rfl (by kernel_rfl) (by kernel_rfl) (by kernel_rfl) (fun _ _ _ h => h) (Or.inl ⟨by rfl, ?_⟩) (by assumption) ?_
              rotate_left
              · intro w hSw; (try dsimp only at hSw); go_simp; (try (with_reducible rfl)); done
              simp only [Act.put, List.setIfInBounds_toArray, List.set_cons_zero, List.set_cons_succ]
              refine wpAnyH_take (i := 8) (oi := ⟨_, _, _, _, _, _⟩) (v := ?_) rfl (by kernel_rfl) (by kernel_rfl) (by kernel_rfl) (fun _ _ _ h => h) (Or.inl ⟨by rfl, ?_⟩) (by assumption) ?_
              rotate_left
              · intro w hSw; (try dsimp only at hSw); go_simp; (try (with_reducible rfl)); done
              simp only [Act.put, List.setIfInBounds_toArray, List.set_cons_zero, List.set_cons_succ]
              refine wpAnyH_ready (rs := [4]) (by kernel_rfl) (by simp) ?_
              refine AllReadyH.cons (o := ⟨_, _, _, _, _, _⟩) rfl (fun K hK => ?_) AllReadyH.nil
              go_simp
              (refine (BXd.gives fun a ha => RCounted_any _ a _ _ _ ha (by simp [lft] at hll ⊢; omega) (by omega)).mono ?_; rintro e w5 ⟨a5, c5, rfl, hb5, r5⟩; rw [rctd_ctd _ _ (by omega)] at hb5 r5 ⊢; have hs5 := run_str (P := Try.prog) 26 9 5 Try.underlying26 Try.underlying5 Try.underlying9 hb5 _ rfl)
              refine hK.out _ _ ?_ (fun hHeld => ?_)
              · (try dsimp only)
                first | exact ⟨⟨_, BXd⟩, BXd.c.2.2.2, run_str (P := Try.prog) 26 9 5 Try.underlying26 Try.underlying5 Try.underlying9 (Sl.fr hBw BXd.fr fun _ _ f => f) _ rfl⟩ | exact ⟨⟨_, r5⟩, r5.c.2.2.2, run_str (P := Try.prog) 26 9 5 Try.underlying26 Try.underlying5 Try.underlying9 (Sl.fr hBw r5.fr fun _ _ f => f) _ rfl⟩
              clear hK K
              try simp only [Act.put, List.setIfInBounds_toArray, List.set_cons_zero, List.set_cons_succ]
              refine wpAnyH_ready (rs := [5]) (by kernel_rfl) (by simp) ?_
              refine AllReadyH.cons (o := ⟨_, _, _, _, _, _⟩) rfl (fun K hK => ?_) AllReadyH.nil
              go_simp
              refine hK.out _ _ ?_ (fun hHeld => ?_)
              · (try dsimp only)
                first | exact ⟨⟨_, BXd⟩, BXd.c.2.2.2, run_str (P := Try.prog) 26 9 5 Try.underlying26 Try.underlying5 Try.underlying9 (Sl.fr hBw BXd.fr fun _ _ f => f) _ rfl⟩ | exact ⟨⟨_, r5⟩, r5.c.2.2.2, run_str (P := Try.prog) 26 9 5 Try.underlying26 Try.underlying5 Try.underlying9 (Sl.fr hBw r5.fr fun _ _ f => f) _ rfl⟩
              clear hK K
              try simp only [Act.put, List.setIfInBounds_toArray, List.set_cons_zero, List.set_cons_succ]
              refine wpAnyH_ready (rs := [9]) (by kernel_rfl) (by simp) ?_
              refine AllReadyH.cons (o := ⟨_, _, _, _, _, _⟩) rfl (fun K hK => ?_) AllReadyH.nil
              go_simp
              refine hK.out _ _ ?_ (fun hHeld => ?_)
              · (try dsimp only)
                first | exact ⟨⟨_, BXd⟩, BXd.c.2.2.2, run_str (P := Try.prog) 26 9 5 Try.underlying26 Try.underlying5 Try.underlying9 (Sl.fr hBw BXd.fr fun _ _ f => f) _ rfl⟩ | exact ⟨⟨_, r5⟩, r5.c.2.2.2, run_str (P := Try.prog) 26 9 5 Try.underlying26 Try.underlying5 Try.underlying9 (Sl.fr hBw r5.fr fun _ _ f => f) _ rfl⟩
              clear hK K
              try simp only [Act.put, List.setIfInBounds_toArray, List.set_cons_zero, List.set_cons_succ]
              refine wpAnyH_done (by kernel_rfl) ?_ _
              refine NoPanic.normal ?_
              have RX := Lib.hid r5
              clear BXd BX r5 d0 d1 d2 d3 hb5 hs5 hBw
              go_wp2
              go_roundw
              case rel => exact ⟨k + 1, by omega, by go_num, by rw [HP.out]; exact RX.out.rd, RX.out.fr⟩
              case measure => simp [intOf]; omega
            have b3 : (kd == 3) = false := by simpa using k3
            have hput : It.put ⟨kd, sz, x, ba, bc, ib⟩ = [] := by
              simp only [beq_eq_false_iff_ne] at b0 b1 b2 b3
              simp [It.put, b0, b1, b2, b3]
            rw [hput, List.nil_append] at BX
            clear hput hpl2 k0 k2 k3
            have RX := Lib.hid BX
            clear BX
            go_wp2
            go_roundw
            case rel => exact ⟨k + 1, by omega, by go_num, by rw [HP.out]; exact RX.out.rd, RX.out.fr⟩
            case measure => simp [intOf]; omega
          · have hkl : k = l.length := by omega
            subst hkl
            obtain ⟨a6, hr6, _⟩ := HW.out
            rw [List.drop_length] at hr6
            change IsR wr rb a6 (some []) at hr6
            have HF6 := Lib.hid hf
            go_wp2_with (first | (go_at_call 22; refine (REnd_any _ _ _ _ hr6 (by simp [lft])).mono ?_; rintro e w' ⟨rfl, rfl⟩) | (go_at_call 23; refine (RWrong_any _ _ _ _ hr6).mono ?_; rintro e w' ⟨rfl, rfl⟩) | (go_at_call 24; refine (RLeft_any _ _ _ _ hr6 (by simp [lft])).mono ?_; rintro e w' ⟨rfl, rfl⟩))
            go_ret
            exact ⟨rfl, HF6.out⟩
end Go.Proofs.Ytkeepojcdofibaa
