import Derived.Test.YtaobgaoldfeehaaDoorZb11
import Derived.Test.YtaobgaoldfeehaaDoorZb12
import Derived.Test.YtaobgaoldfeehaaDoorZb15
import Derived.Test.YtaobgaoldfeehaaDoorZb2
/- Layer 9 (tx): the program's own Hash. -/
namespace Go.Proofs.YtaobgaoldfeehaaDoor
set_option linter.unusedVariables false
set_option linter.unusedSimpArgs false
open Go.RowKit

theorem TT.shape9 (t : TT) : ∃ (x0 x3 : Int) (ia oa : Option Addr) (n m ic oc : Nat), t.cells = #[.int .u32 x0, .slice ia n ic, .slice oa m oc, .int .u32 x3] ∧ n = t.ins.length ∧ m = t.outs.length ∧ ia = t.ia ∧ oa = t.oa ∧ ic = t.ic ∧ oc = t.oc :=
  ⟨_, _, _, _, _, _, _, _, rfl, rfl, rfl, rfl, rfl, rfl, rfl⟩
/-- What Hash answers. -/
def MT.hsh (t : MT) : List UInt8 := if t.err = 0 then sha2 t.bytes else zero32
theorem MT.hsh_length (t : MT) : t.hsh.length = 32 := by
  unfold MT.hsh
  split
  · simp [sha2, sha_length]
  · rfl
theorem MT.out_ok {t : MT} (h : t.err = 0) : t.out = t.bytes := by rw [MT.out, if_pos h]

set_option maxRecDepth 100000 in
set_option maxHeartbeats 8000000 in
theorem tHash_any (t : TT) (w : World) (h : t.Ok w) (hcub : Cub w) (hl : t.m.out.length ≤ 140737488355000) :
    Calls Tryd.prog 7 #[.agg t.cells] w fun e w' => e = .returned (.tuple #[.agg (t.m.hsh.map B8).toArray, .int .i64 t.m.err]) ∧ Fr F0 w w' := by
  have HB := Lib.hid (fun w' (f : Fr F0 w w') => tBytes_any t w' (h.fr f))
  have HC := Lib.hid hcub
  have HL := Lib.hid hl
  obtain ⟨x0, x3, ia, oa, n1, m1, ic, oc, hC, hrest⟩ := t.shape9
  clear hrest
  rw [hC] at HB ⊢
  have hz1 : (t.m.hsh.map B8).toArray.size = 32 := by simp [MT.hsh_length]
  obtain ⟨E, hE⟩ : ∃ E, E = t.m.err := ⟨_, rfl⟩
  obtain ⟨H, hH⟩ : ∃ H, H = t.m.hsh := ⟨_, rfl⟩
  rw [← hH] at hz1 ⊢
  replace hH := Lib.hid hH
  unfold BytesQ at HB
  rw [← hE] at HB ⊢
  replace hE := Lib.hid hE
  clear hC hcub h hl
  go_enter Tryd.func7, Tryd.ntmps7
  go_upto_region 1 with fail
  refine wp_new fun W1 N1 => ?_
  obtain ⟨cs, r1, hz⟩ : ∃ cs, W1.heap[(w.alloc (.cells #[.int .u32 x0, .slice ia n1 ic, .slice oa m1 oc, .int .u32 x3] 26)).heap.size]? = some (.cells cs 34 (0, 0)) ∧ cs.size = 32 := ⟨_, N1.new, rfl⟩
  have r0 := N1.old (heap_alloc_new w (.cells #[.int .u32 x0, .slice ia n1 ic, .slice oa m1 oc, .int .u32 x3] 26))
  have F := ((Fr.refl F0 w).alloc (.cells #[.int .u32 x0, .slice ia n1 ic, .slice oa m1 oc, .int .u32 x3] 26)).trans' N1.fr
  rw [World.size_alloc] at r1
  clear N1
  have gl := Lib.hid (show w.heap.size ≤ w.heap.size + 1 by omega)
  obtain ⟨g1, hg1⟩ : ∃ g, g = w.heap.size + 1 := ⟨_, rfl⟩
  obtain ⟨g0, hg0⟩ : ∃ g, g = w.heap.size := ⟨_, rfl⟩
  rw [← hg1] at r1 ⊢
  rw [← hg0] at r0 ⊢
  replace hg1 := Lib.hid hg1
  clear hg0 gl
  go_wp2_with fail
  (with_reducible refine (HB.out _ F).mono ?_); rintro e w3 ⟨a, k, c, rfl, hk, hb, f3, _⟩
  have HK := Lib.hid hk
  have HBb := Lib.hid hb
  have F3 := F.trans' f3
  replace r1 := keep_fr f3 r1
  clear HB hk hb F f3 r0
  by_cases h0 : E = 0
  · subst h0
    have hb1 : H = sha2 t.m.bytes := by rw [hH.out, MT.hsh, if_pos hE.out.symm]
    have hb2 := MT.out_ok hE.out.symm
    have HD := Lib.hid (Double_any a k c t.m.out HK.out HL.out w3 HBb.out (HC.out.fr F3 fun f => f))
    rw [hb2, ← hb1] at HD
    clear hb1 hb2
    go_wp2_with fail
    (with_reducible refine HD.out.mono ?_); rintro e w4 ⟨rfl, f4⟩
    replace r1 := keep_fr f4 r1
    replace F3 := F3.trans' f4
    clear HD f4
    go_wp2_with (refine wpList_store_row rfl 34 (.tmp 2) (.tmp 16) rfl g1 _ rfl rfl 34 _ r1 (by rw [Tryd.sz32, hz1]) (by rw [hz, hz1]) (oneB_map _) ?_)
    refine bodyPost_ret (results_cell_row_tmp rfl _ _ g1 _ _ _ _ rfl (setRow_heap _ _ _ _ _ _ r1) Tryd.underlying34 rfl (by rw [Tryd.sz32]; exact congrArg some hz1.symm)) rfl ⟨rfl, ?_⟩
    exact F3.setRow (fun h => by have := hg1.out; omega) _
  · obtain rfl : H = zero32 := by rw [hH.out, MT.hsh, if_neg (fun e => h0 (hE.out.trans e))]
    have lE : ((E : Int) == 0) = false := beq_false_of_ne h0
    go_wp2_with (refine wpList_store_row rfl 34 (.tmp 2) (.tmp 13) rfl g1 (zero32.map B8).toArray rfl rfl 34 _ r1 (by rw [Tryd.sz32, hz1]) (by rw [hz, hz1]) (oneB_map _) ?_)
    refine bodyPost_ret (results_cell_row_tmp rfl _ _ g1 _ _ _ _ rfl (setRow_heap _ _ _ _ _ _ r1) Tryd.underlying34 rfl (by rw [Tryd.sz32]; exact congrArg some hz1.symm)) rfl ⟨rfl, ?_⟩
    exact F3.setRow (fun h => by have := hg1.out; omega) _
end Go.Proofs.YtaobgaoldfeehaaDoor
