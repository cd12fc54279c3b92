import Derived.Test.YtohckefafbhooaaGreatF43
import Derived.Test.YtohckefafbhooaaGreatF46
import Derived.Test.YtohckefafbhooaaGreatF13
import Derived.Test.YtohckefafbhooaaGreatF41
import Derived.Test.YtohckefafbhooaaGreatF39
import Derived.Test.YtohckefafbhooaaGreatF42
set_option maxRecDepth 100000
set_option maxHeartbeats 64000000
namespace Go.Proofs.YtohckefafbhooaaGreat
set_option maxRecDepth 100000
set_option linter.unusedVariables false
set_option linter.unusedSimpArgs false
open Go.RowKit
section
variable (x v a : Nat) (w : World)
end
end Go.Proofs.YtohckefafbhooaaGreat
namespace Go.Proofs.YtohckefafbhooaaGreat
set_option maxRecDepth 100000
set_option linter.unusedVariables false
set_option linter.unusedSimpArgs false
open Go.RowKit
theorem run_fieldP0 (a b : Int) (w : World) : (Instr.field 76 (.agg #[.int .u64 a,.int .u64 b]) 0).run Tryz.prog w = .ok (.int .u64 a) w := by kernel_rfl
theorem run_fieldP1 (a b : Int) (w : World) : (Instr.field 76 (.agg #[.int .u64 a,.int .u64 b]) 1).run Tryz.prog w = .ok (.int .u64 b) w := by kernel_rfl
end Go.Proofs.YtohckefafbhooaaGreat
namespace Go.Proofs.YtohckefafbhooaaGreat
set_option maxRecDepth 100000
set_option linter.unusedVariables false
set_option linter.unusedSimpArgs false
open Go.RowKit
attribute [-go_sem] cell_at
theorem kVaults_any {S : Nat → Prop} {w : World} {p tp q fp vb : Nat} {M : Bok} (h : KP S w p tp q fp vb M) (hM : M.Ok) : Calls Tryz.prog 34 #[.pointer (some ⟨p,0,none⟩)] w (VsQ w M.vs) := by
 obtain ⟨tob,qp,qob,b,e⟩ := h
 exact bkVaults_any b hM.vls
theorem take_succV {l : List Vlt} {k : Nat} {x : Vlt} (f : Vlt → Nat) (h : l[k]? = some x) : sumV f (l.take (k + 1)) = sumV f (l.take k) + f x := by
 rw [List.take_add_one,h,sumV_app]
 show _ + sumV f [x] = _
 rw [sumV_cons,sumV_nil,Nat.add_zero]
theorem take_leV {l : List Vlt} {k : Nat} (f : Vlt → Nat) : sumV f (l.take k) ≤ sumV f l := by
 have := sumV_app f (l.take k) (l.drop k)
 rw [List.take_append_drop] at this
 omega
theorem sums20_any {S : Nat → Prop} {w : World} {p tp q fp vb : Nat} {M : Bok} (h : KP S w p tp q fp vb M) (hM : M.Ok) : Calls Tryz.prog 14 #[.pointer (some ⟨p,0,none⟩)] w fun e w' => e = .returned (.bool true) ∧ Fr F0 w w' := by
 have H := Lib.hid (fun (W : World) (F : Fr F0 w W) => h.fr0 F)
 have HM := Lib.hid hM
 have hf0 := run_fieldP0
 have hf1 := run_fieldP1
 have kw : IntKind.u64.wrap ((M.pc : Int) + (M.dep : Int)) = ((M.pc + M.dep : Nat) : Int) := by
  have := hM.held
  have := hM.inn
  have := hM.paid
  rw [IntWalk.u64_in _ (by omega)]; omega
 obtain ⟨n,hn⟩ : ∃ n,M.vs.length = n := ⟨_,rfl⟩
 have HN := Lib.hid hn
 obtain ⟨pd,hpd⟩ : ∃ z,M.pc + M.dep = z := ⟨_,rfl⟩
 have HPD := Lib.hid hpd
 rw [hpd] at kw
 clear h hM hn hpd
 go_enter Tryz.func14,Tryz.ntmps14
 go_wp2_with fail
 (with_reducible refine (bkPool_any (H.out w (Fr.refl _ _))).mono ?_); rintro e w1 ⟨rfl,f1⟩
 have F1 := Lib.hid f1
 clear f1
 go_wp2_with fail
 (with_reducible refine (bkPool_any (H.out w1 F1.out)).mono ?_); rintro e w2 ⟨rfl,f2⟩
 replace F1 := Lib.hid (F1.out.trans' f2)
 clear f2
 go_wp2_with fail
 (with_reducible refine (kDepositsP (H.out w2 F1.out)).mono ?_); rintro e w3 ⟨rfl,e3⟩
 replace e3 := e3.symm
 subst e3
 go_wp2_with fail
 (with_reducible refine (kVaults_any (H.out _ F1.out) HM.out).mono ?_); rintro e w4 ⟨gb,v,rfl,hbx,f4⟩
 replace F1 := Lib.hid (F1.out.trans' f4)
 replace hbx := Lib.hid hbx
 clear f4
 go_wp2_with fail
 (with_reducible refine (allV20_any hbx.out (by have := HM.out.len; omega)).mono ?_); rintro e w5 ⟨a,c,rfl,ho,f5⟩
 have F := Lib.hid (F1.out.trans' f5)
 rw [HN.out] at ho ⊢
 have HV := Lib.hid ho
 clear f5 ho F1 hbx kw
 go_wp2_with fail
 go_loopw [3,4,20] (fun sI sC iv wr => ∃ k : Nat,k ≤ n ∧ iv = .int .i64 (k : Int) ∧ sI = .int .u64 ((M.pn + sumV Vlt.iss (M.vs.take k) : Nat) : Int) ∧ sC = .int .u64 ((pd + sumV Vlt.coll (M.vs.take k) : Nat) : Int) ∧ Fr F0 w5 wr) (fun _ _ iv _ => n - (intOf iv).toNat)
 case atStart => exact ⟨0,by omega,rfl,rfl,rfl,Fr.refl _ _⟩
 case round =>
  obtain ⟨k,hk,rfl,rfl,rfl,f⟩ := hrel
  have h1t := take_leV (l := M.vs) (k := k) Vlt.iss
  have h2t := take_leV (l := M.vs) (k := k) Vlt.coll
  have h5t := HM.out.tok
  have h6t := HM.out.most
  have h7t := HM.out.held
  have h8t := HM.out.inn
  have h9t := HM.out.paid
  have h10t := HPD.out
  by_cases h1 : k < n
  ·have l1 : (k : Int) < (n : Int) := by omega
   obtain ⟨g,rfl⟩ := OwnE.place1 HV.out h1
   have hr := List.getElem?_eq_getElem (show k < M.vs.length by have := HN.out; omega)
   obtain ⟨x,hx⟩ : ∃ x,M.vs[k]'(by have := HN.out; omega) = x := ⟨_,rfl⟩
   rw [hx] at hr
   have lds := OwnE.loadE encB_len Tryz.underlying72 rfl Tryz.szBVault (HV.out.fr0 f) k x hr
   have oS : rowOne (encB x).toArray := cB_one x
   have sz := encB_len x
   have h3t := take_succV Vlt.iss hr
   have h4t := take_succV Vlt.coll hr
   have h11t := take_leV (l := M.vs) (k := k + 1) Vlt.iss
   have h12t := take_leV (l := M.vs) (k := k + 1) Vlt.coll
   have k1 : IntKind.i64.wrap ((k : Int) + 1) = ((k + 1 : Nat) : Int) := by rw [IntWalk.i64_in _ (by have := HM.out.len; have := HN.out; omega)]; omega
   have k2 : IntKind.u64.wrap (((M.pn + sumV Vlt.iss (M.vs.take k) : Nat) : Int) + (x.iss : Int)) = ((M.pn + sumV Vlt.iss (M.vs.take (k + 1)) : Nat) : Int) := by
    rw [IntWalk.u64_in _ (by omega)]; omega
   have k3 : IntKind.u64.wrap (((pd + sumV Vlt.coll (M.vs.take k) : Nat) : Int) + (x.coll : Int)) = ((pd + sumV Vlt.coll (M.vs.take (k + 1)) : Nat) : Int) := by
    rw [IntWalk.u64_in _ (by omega)]; omega
   obtain ⟨s1,hs1⟩ : ∃ z,M.pn + sumV Vlt.iss (M.vs.take k) = z := ⟨_,rfl⟩
   obtain ⟨s2,hs2⟩ : ∃ z,pd + sumV Vlt.coll (M.vs.take k) = z := ⟨_,rfl⟩
   obtain ⟨s3,hs3⟩ : ∃ z,M.pn + sumV Vlt.iss (M.vs.take (k + 1)) = z := ⟨_,rfl⟩
   obtain ⟨s4,hs4⟩ : ∃ z,pd + sumV Vlt.coll (M.vs.take (k + 1)) = z := ⟨_,rfl⟩
   have HS := Lib.hid (And.intro hs3 hs4)
   rw [hs1,hs3] at k2
   rw [hs2,hs4] at k3
   rw [hs1,hs2]
   have HF := Lib.hid f
   have HK := Lib.hid h1
   clear hr hx f h1 hk h1t h2t h3t h4t h5t h6t h7t h8t h9t h10t h11t h12t hs1 hs2 hs3 hs4
   go_upto_region 5 with fail
   refine wp_put fun W3 N => ?_
   have hV : VX W3 wr.heap.size x := N.new
   have c1 := hV.coll
   have c2 := hV.iss
   have F3 := Lib.hid (HF.out.trans' N.fr)
   clear N lds oS sz hV
   obtain ⟨b,hb⟩ : ∃ g,wr.heap.size = g := ⟨_,rfl⟩
   rw [hb] at c1 c2 ⊢
   clear hb
   go_wp2_with fail
   go_roundw
   case rel => exact ⟨k + 1,HK.out,rfl,by rw [HS.out.1],by rw [HS.out.2],F3.out⟩
   case measure => have := HK.out; simp [intOf]; omega
  ·obtain rfl : k = n := by omega
   have l1 : ¬ (k : Int) < (k : Int) := by omega
   have ht : M.vs.take k = M.vs := by rw [← HN.out,List.take_length]
   rw [ht] at h1t h2t ⊢
   have e1 : (((M.pn + sumV Vlt.iss M.vs : Nat) : Int) == ((sumN M.tok 256 : Nat) : Int)) = true := beq_iff_eq.2 (by omega)
   have e2 : (((pd + sumV Vlt.coll M.vs : Nat) : Int) == (M.held : Int)) = true := beq_iff_eq.2 (by omega)
   obtain ⟨s1,hs1⟩ : ∃ z,M.pn + sumV Vlt.iss M.vs = z := ⟨_,rfl⟩
   obtain ⟨s2,hs2⟩ : ∃ z,pd + sumV Vlt.coll M.vs = z := ⟨_,rfl⟩
   rw [hs1] at e1 ⊢
   rw [hs2] at e2 ⊢
   replace F := Lib.hid (F.out.trans' f)
   clear f hk h1 h1t h2t h5t h6t h7t h8t h9t h10t hs1 hs2 ht
   have HT := Lib.hid (kTotal_any (H.out wr F.out) HM.out)
   obtain ⟨tt,htt⟩ : ∃ z,sumN M.tok 256 = z := ⟨_,rfl⟩
   rw [htt] at HT e1
   clear htt
   go_wp2_with fail
   (with_reducible refine (kTokensP (H.out wr F.out)).mono ?_); rintro e w6 ⟨rfl,e6⟩
   replace e6 := e6.symm
   subst e6
   go_wp2_with fail
   (with_reducible refine HT.out.mono ?_); rintro e w7 ⟨rfl,f7⟩
   have F7 := Lib.hid (F.out.trans' f7)
   clear f7
   go_wp2_with fail
   (with_reducible refine (kPurseP (H.out _ F7.out)).mono ?_); rintro e w8 ⟨rfl,e8⟩
   replace e8 := e8.symm
   subst e8
   go_wp2_with fail
   (with_reducible refine (kHeld_any (H.out _ F7.out)).mono ?_); rintro e w9 ⟨rfl,f9⟩
   have F9 := Lib.hid (F7.out.trans' f9)
   clear f9
   go_wp2_with fail
   go_ret
   exact ⟨rfl,F9.out⟩
end Go.Proofs.YtohckefafbhooaaGreat
namespace Go.Proofs.YtohckefafbhooaaGreat
set_option maxRecDepth 100000
set_option linter.unusedVariables false
set_option linter.unusedSimpArgs false
open Go.RowKit
attribute [-go_sem] cell_at
section
variable {w w' : World} {g : Nat} {x : Vlt}
end
end Go.Proofs.YtohckefafbhooaaGreat
