/- The document's answer 02 (digest): the walk of root. -/
import Derived.Test.YtpmdmojgpfpoeaaDoorRef2a
namespace Go.Proofs.YtpmdmojgpfpoeaaDoor
set_option linter.unusedVariables false
set_option linter.unusedSimpArgs false
open Go.RowKit

theorem made_zeros (q : Nat) : (madeCells #[Value.int IntKind.u64 0] q).toList = (List.replicate q 0).map U64 := by
  apply List.ext_getElem
  · simp [madeCells]
  · intro i h1 h2
    simp [madeCells, Nat.mod_one]
    rfl

theorem ovr_step (a b : List Nat) (i : Nat) (h : a.getD i 0 ≠ b.getD i 0) : ovr a b (i + 1) = decide (b.getD i 0 < a.getD i 0) := by rw [ovr, if_neg h]
theorem ovr_same (a b : List Nat) (i : Nat) (h : a.getD i 0 = b.getD i 0) : ovr a b (i + 1) = ovr a b i := by rw [ovr, if_pos h]

theorem rootX_lt (p n : Nat) : ∀ b x, x + 2 ^ b ≤ 2 ^ 36 → rootX p n b x < 2 ^ 36
  | 0, x, h => by simp only [rootX]; simp at h; omega
  | b + 1, x, h => by
    rw [rootX]
    rw [Nat.pow_succ] at h
    have : 0 < 2 ^ b := Nat.pow_pos (by omega)
    split
    · exact rootX_lt p n b x (by omega)
    · exact rootX_lt p n b _ (by omega)

set_option maxRecDepth 100000 in
set_option maxHeartbeats 8000000 in
theorem root_any (p n : Nat) (hp : p < 1099511627776) (hn : n ≤ 3) (w : World) :
    Calls Tryd.prog 21 #[.int .u64 (p : Int), .int .i64 (n : Int)] w fun e w' => e = .returned (.int .u32 (wi (BitVec.ofNat 32 (rootN p n)))) ∧ Fr F0 w w' := by
  obtain ⟨i0, hi, hz0, hz1, hz2⟩ := info_parts Tryd.infoU64
  obtain ⟨q, hq⟩ : ∃ q, q = 2 * n := ⟨_, rfl⟩
  have mq : IntKind.i64.wrap (2 * (n : Int)) = (q : Int) := by rw [IntWalk.i64_in _ (by omega)]; omega
  have hq6 : q ≤ 6 := by omega
  have HQ := Lib.hid hq
  clear hq
  go_enter Tryd.func21, Tryd.ntmps21
  go_wp2_with (first | (at_make; refine wpList_make_full w rfl _ _ _ rfl 0 46 i0 _ 1 Tryd.underlying49 hi hz0 hz1 .i64 .i64 q q q rfl rfl rfl rfl (by rw [hz2]; omega) (by unfold maxLen; omega) (Nat.zero_le _) ?_; intro w1 ho hg; have hoU : OwnU w1 (.slice (some ⟨w.heap.size, 0, none⟩) q q) (List.replicate q 0) := (by unfold OwnU; rw [← made_zeros, List.length_replicate]; simpa [Value.cells] using ho)) | (at_builtin; refine wpList_appU rfl _ _ rfl _ (List.replicate q 0) rfl (hoU.fr ((Fr.refl F0 w1).alloc _) (fun _ _ f => f)) _ _ _ [p] rfl (Us.of_new w1 p) rfl (by simp; omega) ?_; intro a3 c3 w3 ho3 hg3 hb3))
  have hF3 : Fr F0 w w3 := ((((Fr.refl F0 w).grown hg (fun k e => by cases e)).alloc _).grown hg3 fun k e hl => by cases e; simp at hl)
  have hW3 : Us w3 a3 c3 (wantL p n) := by
    have := ho3.us.2
    rwa [HQ.out] at this
  have hwl : (wantL p n).length = q + 1 := by simp [wantL, HQ.out]
  have hwl' : q + 1 = (wantL p n).length := hwl.symm
  generalize hQ1 : q + 1 = Q1 at *
  clear hQ1 ho hoU ho3 hg hg3 hb3 hwl
  have HF3 := Lib.hid hF3
  have HW3 := Lib.hid hW3
  have HWL := Lib.hid hwl'
  clear hF3 hW3 hwl'
  go_loopw [6, 7] (fun xv bv wr => ∃ b x : Nat, b ≤ 36 ∧ bv = .int .i64 ((b : Int) - 1) ∧ xv = .int .u64 (x : Int) ∧ x + 2 ^ b ≤ 2 ^ 36 ∧ rootX p n b x = rootX p n 36 0 ∧ Fr F0 w3 wr) (fun _ bv _ => (intOf bv + 1).toNat)
  case atStart => exact ⟨36, 0, by omega, rfl, rfl, by omega, rfl, Fr.refl _ _⟩
  case round =>
    obtain ⟨b, x, hb, rfl, rfl, hxb, hres, hf⟩ := hrel
    obtain ⟨w4, hw4⟩ : ∃ w4, w4 = wr := ⟨_, rfl⟩
    subst hw4
    have HR := Lib.hid hres
    clear hres
    cases b with
    | zero =>
      have hx : x < 2 ^ 36 := by simp at hxb; omega
      have hN : wi (BitVec.ofNat 32 (rootN p n)) = (x : Int) % 4294967296 := by
        have := HR.out
        rw [rootX] at this
        rw [wi, rootN, ← this, BitVec.toNat_ofNat]
        show ((x % 4294967296 % 4294967296 : Nat) : Int) = _
        rw [Nat.mod_mod]
        rfl
      have HN := Lib.hid hN
      clear hN
      go_wp2
      go_ret
      refine ⟨?_, HF3.out.trans' hf⟩
      rw [HN.out]
      rfl
    | succ b =>
      have hb1 : ((b + 1 : Nat) : Int) - 1 = (b : Int) := by omega
      have hp0 : 0 < 2 ^ b := Nat.pow_pos (by omega)
      rw [Nat.pow_succ] at hxb
      obtain ⟨P2, hP2⟩ : ∃ P2, 2 ^ b = P2 := ⟨_, rfl⟩
      have HP2 := Lib.hid hP2
      rw [hP2] at hxb hp0
      have mb : IntKind.u64.wrap ((2 : Int) ^ b) = (P2 : Int) := by
        rw [← hP2, show (2 : Int) ^ b = ((2 ^ b : Nat) : Int) by rw [Int.natCast_pow]; rfl]
        exact IntWalk.u64_in _ (by omega)
      have mx : IntKind.u64.wrap ((x : Int) + (P2 : Int)) = ((x + P2 : Nat) : Int) := by rw [IntWalk.u64_in _ (by omega)]; omega
      obtain ⟨y, hy⟩ : ∃ y, x + P2 = y := ⟨_, rfl⟩
      rw [hy] at mx
      have HY := Lib.hid hy
      have hyl : y < 1099511627776 := by omega
      have lb : (b : Int) < 64 := by omega
      clear hy hP2
      rw [hb1]
      clear hb1
      go_wp2_with fail
      refine (power_any y n hyl hn w4).mono ?_
      rintro e w5 ⟨aA, cA, rfl, hA, hf5⟩
      have hf5' := hf.trans' hf5
      have HA := Lib.hid hA
      obtain ⟨LA, hLA⟩ : ∃ l, (powL y n).length = l := ⟨_, rfl⟩
      rw [hLA]
      have HLA := Lib.hid hLA
      clear hA hf hf5 hLA
      go_wp2_with fail
      go_loopw [9, 10] (fun ov iv wr => ∃ i : Nat, i ≤ 16 ∧ iv = .int .i64 i ∧ ov = .bool (ovr (powL y n) (wantL p n) i) ∧ wr = w5) (fun _ iv _ => 16 - (intOf iv).toNat)
      case atStart => exact ⟨0, by omega, rfl, rfl, rfl⟩
      case round =>
        obtain ⟨i, hi, rfl, rfl, rfl⟩ := hrel
        have hWr : Us wr a3 c3 (wantL p n) := Sl.fr HW3.out hf5' fun _ _ f => f
        by_cases hi16 : i < 16
        · have l1 : (i : Int) < 16 := by omega
          have C1 := digit_any aA LA cA (powL y n) i HLA.out.symm wr HA.out
          have C2 := digit_any a3 Q1 c3 (wantL p n) i HWL.out wr hWr
          have S1 := ovr_step (powL y n) (wantL p n) i
          have S2 := ovr_same (powL y n) (wantL p n) i
          generalize (powL y n).getD i 0 = da at *
          generalize (wantL p n).getD i 0 = db at *
          have D1 := Lib.hid C1
          have D2 := Lib.hid C2
          by_cases hdd : da = db
          · have HS := Lib.hid (S2 hdd)
            subst hdd
            clear C1 C2 S1 S2 hWr
            go_wp2_with fail
            refine D1.out.mono ?_
            rintro e w6 ⟨rfl, rfl⟩
            go_wp2_with fail
            refine D2.out.mono ?_
            rintro e w6 ⟨rfl, rfl⟩
            go_wp2
            go_roundw
            case rel => exact ⟨i + 1, by omega, by go_num, by rw [HS.out], trivial⟩
            case measure => simp [intOf]; omega
          · have HS := Lib.hid (S1 hdd)
            clear C1 C2 S1 S2 hWr
            go_wp2_with fail
            refine D1.out.mono ?_
            rintro e w6 ⟨rfl, rfl⟩
            go_wp2_with fail
            refine D2.out.mono ?_
            rintro e w6 ⟨rfl, rfl⟩
            go_wp2_with fail
            refine D1.out.mono ?_
            rintro e w6 ⟨rfl, rfl⟩
            go_wp2_with fail
            refine D2.out.mono ?_
            rintro e w6 ⟨rfl, rfl⟩
            go_wp2
            go_roundw
            case rel => exact ⟨i + 1, by omega, by go_num, by rw [HS.out], trivial⟩
            case measure => simp [intOf]; omega
        · have hi0 : i = 16 := by omega
          have HO : ovr (powL y n) (wantL p n) i = ovr (powL y n) (wantL p n) 16 := by rw [hi0]
          have HX := Lib.hid (show rootX p n (b + 1) x = rootX p n b (if ovr (powL (x + 2 ^ b) n) (wantL p n) 16 then x else x + 2 ^ b) from rfl)
          rw [HO]
          have HXY : x + 2 ^ b = y := by rw [HP2.out]; exact HY.out
          have HXY' := Lib.hid HXY
          clear hi0 HO hWr HXY
          generalize hov : ovr (powL y n) (wantL p n) 16 = ov at *
          have HOV := Lib.hid hov
          clear hov
          have mb1 : IntKind.i64.wrap ((b : Int) - 1) = (b : Int) - 1 := IntWalk.i64_in _ (by omega)
          cases ov with
          | true =>
            go_wp2
            go_roundw
            case rel =>
              refine ⟨b, x, by omega, by go_num, rfl, by have := HP2.out; omega, ?_, hf5'⟩
              rw [← HR.out, HX.out, HXY'.out, HOV.out]
              rfl
            case measure => simp [intOf] <;> omega
          | false =>
            go_wp2
            go_roundw
            case rel =>
              refine ⟨b, y, by omega, by go_num, rfl, by have := HP2.out; have := HY.out; omega, ?_, hf5'⟩
              rw [← HR.out, HX.out, HXY'.out, HOV.out]
              rfl
            case measure => simp [intOf] <;> omega
end Go.Proofs.YtpmdmojgpfpoeaaDoor
