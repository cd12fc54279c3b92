import Derived.Test.YtjlelckefiannaaGreatDoorZ18
import Derived.Test.YtjlelckefiannaaGreatDoorZ15
import Derived.ProofKit
import Derived.LaidMore
import Derived.OpenShut
import Derived.Stop.Joined
import Derived.MakeChecks
import Derived.FnData
set_option maxRecDepth 100000
set_option maxHeartbeats 64000000
namespace Go.Proofs.YtjlelckefiannaaGreatDoor
set_option linter.unusedVariables false
set_option linter.unusedSimpArgs false
open Go.RowKit
theorem adl(a:Option Addr)(n c:Nat)(bs:List UInt8)(hn:n=bs.length)(hl:bs.length≤140737488355000)(w:World)(h:Bs w a c bs)(zn:Cub w):
  Calls Tryz.prog 28 #[.slice a n c] w λe w'=>e = .returned (.agg ((uj bs).map B8).toArray)∧Fr F0 w w':=by
 subst hn
 have hz1:((sha bs).map B8).toArray.size=32:=by simp[tu]
 have hz2:((uj bs).map B8).toArray.size=32:=by simp[uj,tu]
 have HB:=Lib.hid h
 have HC:=Lib.hid zn
 clear h zn
 go_enter Tryz.func28,Tryz.ntmps28
 go_wp2_with fail
 refine(aBd a _ c bs rfl hl _ (Sl.fr HB.out ((Fr.refl F0 w).alloc _) λ_ _ f=>f) (HC.out.fr ((Fr.refl F0 w).alloc _) λf=>f)).mono ?_
 rintro e w1 ⟨rfl,h1⟩
 have h1s:=h1.size
 simp only[World.size_alloc]at h1s
 go_wp2_with (refine wpList_store_row rfl 24 (.tmp 3) (.tmp 5) rfl w1.heap.size _ rfl rfl 24 _ (heap_alloc_new w1 _) (by rw[Tryz.sz32,hz1]) (by rw[hz1];rfl) (abd _) ?_)
 generalize hY:w1.heap.size=Y at *
 have hF2:Fr F0 w ((w1.alloc (.cells #[.int .u8 0,.int .u8 0,.int .u8 0,.int .u8 0,.int .u8 0,.int .u8 0,.int .u8 0,.int .u8 0,.int .u8 0,.int .u8 0,.int .u8 0,.int .u8 0,.int .u8 0,.int .u8 0,.int .u8 0,.int .u8 0,.int .u8 0,.int .u8 0,.int .u8 0,.int .u8 0,.int .u8 0,.int .u8 0,.int .u8 0,.int .u8 0,.int .u8 0,.int .u8 0,.int .u8 0,.int .u8 0,.int .u8 0,.int .u8 0,.int .u8 0,.int .u8 0] 24)).setRow Y ((sha bs).map B8).toArray):=((((Fr.refl F0 w).alloc _).trans' h1).alloc _).setRow (λh=>by omega) _
 have hY2:=setRow_heap _ _ _ ((sha bs).map B8).toArray _ _ (show(w1.alloc (.cells #[.int .u8 0,.int .u8 0,.int .u8 0,.int .u8 0,.int .u8 0,.int .u8 0,.int .u8 0,.int .u8 0,.int .u8 0,.int .u8 0,.int .u8 0,.int .u8 0,.int .u8 0,.int .u8 0,.int .u8 0,.int .u8 0,.int .u8 0,.int .u8 0,.int .u8 0,.int .u8 0,.int .u8 0,.int .u8 0,.int .u8 0,.int .u8 0,.int .u8 0,.int .u8 0,.int .u8 0,.int .u8 0,.int .u8 0,.int .u8 0,.int .u8 0,.int .u8 0] 24)).heap[Y]? = some (.cells _ 24 (0,0)) by rw[←hY];exact heap_alloc_new w1 _)
 have hR:∃cs,((w1.alloc (.cells #[.int .u8 0,.int .u8 0,.int .u8 0,.int .u8 0,.int .u8 0,.int .u8 0,.int .u8 0,.int .u8 0,.int .u8 0,.int .u8 0,.int .u8 0,.int .u8 0,.int .u8 0,.int .u8 0,.int .u8 0,.int .u8 0,.int .u8 0,.int .u8 0,.int .u8 0,.int .u8 0,.int .u8 0,.int .u8 0,.int .u8 0,.int .u8 0,.int .u8 0,.int .u8 0,.int .u8 0,.int .u8 0,.int .u8 0,.int .u8 0,.int .u8 0,.int .u8 0] 24)).setRow Y ((sha bs).map B8).toArray).heap[w.heap.size]? = some (.cells cs 24 (0,0))∧cs.size=32:=⟨_,by rw[setRow_other _ _ _ _ aPl,heap_alloc_old _ _ aPl];exact h1.keeps (λf=>f) (heap_alloc_new w _),rfl⟩
 generalize (w1.alloc (.cells #[.int .u8 0,.int .u8 0,.int .u8 0,.int .u8 0,.int .u8 0,.int .u8 0,.int .u8 0,.int .u8 0,.int .u8 0,.int .u8 0,.int .u8 0,.int .u8 0,.int .u8 0,.int .u8 0,.int .u8 0,.int .u8 0,.int .u8 0,.int .u8 0,.int .u8 0,.int .u8 0,.int .u8 0,.int .u8 0,.int .u8 0,.int .u8 0,.int .u8 0,.int .u8 0,.int .u8 0,.int .u8 0,.int .u8 0,.int .u8 0,.int .u8 0,.int .u8 0] 24)).setRow Y ((sha bs).map B8).toArray=w2 at *
 obtain⟨cs,hR,hRz⟩:=hR
 have hx:=Bs.aJy hY2 (by rw[tu];unfold maxLen;omega)
 rw[tu]at hx
 refine(aBd _ 32 32 (sha bs) (tu _).symm (by rw[tu];omega) _ hx (HC.out.fr hF2 λf=>f)).mono ?_
 rintro e w3 ⟨rfl,h3⟩
 go_wp2_with (refine wpList_store_row rfl 24 (.tmp 2) (.tmp 7) rfl w.heap.size _ rfl rfl 24 _ (h3.keeps (λf=>f) hR) (by rw[Tryz.sz32];exact congrArg some hz2.symm) (by rw[hRz];exact hz2.symm) (abd _) ?_)
 refine bodyPost_ret (results_cell_row rfl _ _ w.heap.size _ _ _ _ rfl (setRow_heap _ _ _ _ _ _ (h3.keeps (λf=>f) hR)) Tryz.underlying24 rfl (by rw[Tryz.sz32];exact congrArg some hz2.symm)) rfl ⟨rfl,?_⟩
 exact(hF2.trans' h3).setRow (λh=>by omega) _
end Go.Proofs.YtjlelckefiannaaGreatDoor
namespace Go.Proofs.YtjlelckefiannaaGreatDoor
set_option linter.unusedVariables false
set_option linter.unusedSimpArgs false
open Go.ChangeShapes Go.WideShapes Go.ChangeAt Go.RowKit
abbrev azd : List (String × DataW Unit) := [("pontage/digest.cubes", Rows.laid_pontage_digest_cubes)]
theorem aRw : Tryz.prog.globalNamed "pontage/digest.cubes" = some 0 := by kernel_rfl
theorem aQ1:(Tryz.prog.globals[0]?).map (·.type)=some 235:=by kernel_rfl
theorem ayb:Rows.laid_pontage_digest_cubes (H:=Unit) = .agg (abo.map λn:Nat => .lit (.int .u32 (n:Int))):=by rfl
theorem aHl:∀i,i<64→wi (aei.getD i 0)=((abo.getD i 0:Nat):Int):=by decide +kernel
theorem door_met(os:Os)(args:Array Value):laidMetH Tryz.prog azd ((World.doorLaid Tryz.prog 400 os).forCall (λ_ _=>0) ⟨#[],args,[]⟩).memory :=
 laidMetH_of_parts3 (fuel:=8) (laidMet_of_run' 8 (by kernel_rfl) (by kernel_rfl)) (by kernel_rfl) (by kernel_rfl)
theorem Cub.of_laid{W:World}(h:laidMetH Tryz.prog azd W):Cub W:=by
 rw[MakeChecks.laidMetH_plain _ _ _ (by kernel_rfl)]at h
 obtain⟨ps,⟨g0,t0,cs0,f0,p0,q0,hg0,ht0,hv0,hd0,_,_⟩,_,_⟩:=h
 obtain rfl:=Option.some.inj (aRw.symm.trans hg0)
 obtain rfl:=Option.some.inj (aQ1.symm.trans ht0)
 intro j hj
 obtain⟨xs,m,rfl,hx,hlen,hn,hel⟩:=DataW.trod_array Tryz.underlying235 hd0
 have c1:Tryz.prog.cellsOf 25=1:=by kernel_rfl
 have hxj:=hel j hj
 rw[c1,Nat.mul_one]at hxj
 have hjx:j<xs.length:=by omega
 rw[List.getElem?_eq_getElem hjx]at hxj
 obtain⟨k,e1,e2,_⟩:=DataW.trod_int Tryz.underlying25 hxj
 simp only[Prod.mk.injEq]at hx
 have hx1:=hx.1
 rw[ayb,DataW.agg.injEq]at hx1
 have hk:=congrArg (λl=>l[j]?) hx1
 simp only[List.getElem?_map,List.getElem?_eq_getElem hjx,Option.map_some]at hk
 have hcl:j<abo.length:=by show j<64;exact hj
 rw[List.getElem?_eq_getElem hcl,Option.map_some,e2]at hk
 have hk2:(abo[j]:Int)=k:=by simpa using hk
 rw[World.var?_cell hg0 hv0 j,aHl j hj]
 have hcs:cs0.toList.drop j ≠ []:=by intro e;rw[e]at e1;simp at e1
 have hjl:j<cs0.toList.length:=by
  rcases Nat.lt_or_ge j cs0.toList.length with h|h
  ·exact h
  ·exact absurd (List.drop_eq_nil_of_le h) hcs
 rw[List.drop_eq_getElem_cons hjl]at e1
 simp only[List.take_succ_cons,List.take_zero,List.cons.injEq,and_true]at e1
 rw[show abo.getD j 0=abo[j] by simp[List.getD,List.getElem?_eq_getElem hcl],hk2,←e1]
 simp at hjl
 simp[hjl]
end Go.Proofs.YtjlelckefiannaaGreatDoor
