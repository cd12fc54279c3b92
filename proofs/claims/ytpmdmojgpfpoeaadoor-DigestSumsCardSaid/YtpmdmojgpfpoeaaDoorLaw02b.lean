/- Layer 2's law DigestSums, walked. -/
import Derived.Test.YtpmdmojgpfpoeaaDoorLaw02a
import Derived.Test.YtpmdmojgpfpoeaaDoorRef2e
namespace Go.Proofs.YtpmdmojgpfpoeaaDoor
set_option linter.unusedVariables false
set_option linter.unusedSimpArgs false
open Go.RowKit

attribute [local go_sem] strOf_size strOf_append

theorem Tryd.infoU8' : ∃ i, Tryd.prog.info? 5 = some i := by
  obtain ⟨i0, hi, _⟩ := info_parts Tryd.infoU8
  exact ⟨i0, hi⟩

theorem eql_hash (w : World) (l : List UInt8) (h : l.length = 32) : (binOp .eql 25 (.agg (l.map B8).toArray) (.agg (l.map B8).toArray)).run Tryd.prog w = .ok (.bool true) w := by
  obtain ⟨i0, hi⟩ := Tryd.infoU8'
  rw [run_eql_bytes w 25 5 32 i0 Tryd.underlying25 hi (by kernel_rfl) (by kernel_rfl) Tryd.underlying5 l l h h]
  simp

set_option maxRecDepth 100000 in
set_option maxHeartbeats 8000000 in
theorem digestSums_any (a : Option Addr) (n c : Nat) (bs : List UInt8) (hn : n = bs.length) (w : World) (h : Bs w a c bs) (hcub : Cub w) :
    Calls Tryd.prog 3 #[.slice a n c] w fun e w' => e = .returned (.bool true) ∧ Fr F0 w w' := by
  subst hn
  have HB := Lib.hid h
  have HC := Lib.hid hcub
  have hb : bs.length ≤ c := h.room
  clear h hcub
  go_enter Tryd.func3, Tryd.ntmps3
  go_wp2_with fail
  refine (lives02_any w HC.out).mono ?_
  rintro e w1 ⟨rfl, h1⟩
  by_cases h300 : bs.length ≤ 300
  · have l1 : ¬ (300 : Int) < (bs.length : Int) := by omega
    have hB1 : Bs w1 a c bs := Sl.fr HB.out h1 fun _ _ f => f
    have E1 := eql_hash (l := sha bs) (h := sha_length bs)
    have E2 := eql_hash (l := sha2 bs) (h := by rw [sha2, sha_length])
    have HB1 := Lib.hid (And.intro hB1 h1)
    go_wp2_with (at_builtin; refine wpList_appB rfl _ _ rfl _ [] rfl (World.ownsRow_made w1 #[] 0 (Nat.zero_le _) (Nat.zero_le _) rfl) _ _ _ bs rfl (Sl.fr hB1 ((Fr.refl F0 w1).alloc _) fun _ _ f => f) rfl (by simp; omega) ?_; intro a2 c2 w2 ho hg hbk)
    have ho' : OwnB w2 (.slice a2 bs.length c2) bs := by simpa using ho
    have hF2 : Fr F0 w1 w2 := ((Fr.refl F0 w1).alloc _).grown hg fun k e hl => by
      cases e
      exact absurd hl (Nat.lt_irrefl _)
    have hB2 : Bs w2 a2 c2 bs := ho'.bs.2
    have hA2 : Bs w2 a c bs := Sl.fr HB1.out.1 hF2 fun _ _ f => f
    have hW2 := HB1.out.2.trans' hF2
    have hC2 := HC.out.fr hW2 fun f => f
    clear ho ho' hg hbk hB1 h1
    refine (Sum_any a2 _ c2 bs rfl (by omega) _ hB2 hC2).mono ?_
    rintro e w3 ⟨rfl, h3⟩
    go_wp2_with fail
    refine (r2Sum_any a _ c bs rfl (by omega) _ (Sl.fr hA2 h3 fun _ _ f => f)).mono ?_
    rintro e w4 ⟨rfl, h4⟩
    have F4 := h3.trans' h4
    go_wp2_with fail
    refine (Double_any a2 _ c2 bs rfl (by omega) _ (Sl.fr hB2 F4 fun _ _ f => f) (hC2.fr F4 fun f => f)).mono ?_
    rintro e w5 ⟨rfl, h5⟩
    have F5 := F4.trans' h5
    go_wp2_with fail
    refine (r2Double_any a _ c bs rfl (by omega) _ (Sl.fr hA2 F5 fun _ _ f => f)).mono ?_
    rintro e w6 ⟨rfl, h6⟩
    have F6 := F5.trans' h6
    have S1 := run_str (P := Tryd.prog) 22 9 5 Tryd.underlying22 Tryd.underlying5 Tryd.underlying9 (Sl.fr hB2 F6 fun _ _ f => f : Bs w6 a2 c2 bs) _ rfl
    have S2 := run_str (P := Tryd.prog) 22 9 5 Tryd.underlying22 Tryd.underlying5 Tryd.underlying9 (Sl.fr hA2 F6 fun _ _ f => f : Bs w6 a c bs) _ rfl
    go_wp2
    go_ret
    exact ⟨rfl, hW2.trans' F6⟩
  · have l1 : (300 : Int) < (bs.length : Int) := by omega
    go_wp2_with fail
    refine (lives02_any w1 (HC.out.fr h1 fun f => f)).mono ?_
    rintro e w2 ⟨rfl, h2⟩
    go_wp2
    go_ret
    exact ⟨rfl, h1.trans' h2⟩
end Go.Proofs.YtpmdmojgpfpoeaaDoor
