/- For any proof and any text: where the table of the cube roots reads as the program's text lays it (the card ties that), the law SpvBytes of layer 14 (spv) returns true, and its arguments read behind the call as they read before. -/
import Derived.Test.YtjlelckefiannaaGreatDoorZ49
import Derived.Test.YtjlelckefiannaaGreatDoorZ21
import Derived.Test.YtjlelckefiannaaGreatDoorZ19
import Derived.Test.YtjlelckefiannaaGreatDoorCards
import Derived.Test.YtjlelckefiannaaGreatDoorTie
import Derived.SevenTiedAt
import Derived.Below
namespace Go.Proofs.YtjlelckefiannaaGreatDoor.spvBytes
set_option maxRecDepth 100000
set_option linter.unusedVariables false
set_option linter.unusedSimpArgs false
open Go.RowKit Go.ChangeShapes Go.WideShapes Go.ChangeAt Go.Proofs.YtjlelckefiannaaGreatDoor

set_option maxRecDepth 100000 in
set_option maxHeartbeats 4000000 in
theorem lifted(os:Os)(started:os.Started)(H:Type)(enc:TypeId×Value→H):
    ReturnsInHanded {} Tryz.checked os 3 .any (λw args=>(Rows.spvBytesSpec.pre enc Tryz.prog Tryz.f3 [] false w args∧laidMetH Tryz.prog azd w)∧sizedMet enc Tryz.prog Tryz.f3 (OpenSpec.ofChange Rows.spvBytesSpec) false w args)
      (Rows.spvBytesSpec.post enc Tryz.prog Tryz.f3 false true false false):=by
  refine returnsInHanded_of_change_and (C:=Tryz.checked) (X:=λw _=>laidMetH Tryz.prog azd w) (λ_ _ _ hh h=>h.of_heap hh) own started (by kernel_rfl) Tryz.func3
    (ChangeSpec.witness_shaped (enc:=enc) (C:=Tryz.checked) (os:=os) (X:=λw _=>laidMetH Tryz.prog azd w) false (World.doorLaid Tryz.prog 400 os) #[.agg #[.slice none 0 0, .int .u8 0, .int .u8 0, .int .u8 0, .int .u8 0, .int .u8 0, .int .u8 0, .int .u8 0, .int .u8 0, .int .u8 0, .int .u8 0, .int .u8 0, .int .u8 0, .int .u8 0, .int .u8 0, .int .u8 0, .int .u8 0, .int .u8 0, .int .u8 0, .int .u8 0, .int .u8 0, .int .u8 0, .int .u8 0, .int .u8 0, .int .u8 0, .int .u8 0, .int .u8 0, .int .u8 0, .int .u8 0, .int .u8 0, .int .u8 0, .int .u8 0, .int .u8 0, .int .u32 0, .int .u32 0, .slice none 0 0], .slice none 0 0] 8 rfl (World.shaped_of_RefB (by kernel_rfl) (by kernel_rfl)) (by kernel_rfl) (by kernel_rfl) (by kernel_rfl) (door_met os _)) ?_
  intro W base args ds gs before hval0 hW _ _ hL _
  have hval:∀(j:Nat) t v, Tryz.f3.params[j]? = some t→args[j]? = some v→Value.okWide Tryz.prog W .any base t v:=hval0
  have hW':=hW
  obtain⟨p, q, hA0, hV, rfl, hfz, hnd⟩:=hW
  have hA:DataW.TrodAll enc Tryz.prog W 0 (λ_=>true) true Tryz.f3.params.toList args.toList ds p:=hA0
  rw[Tryz.params3]at hA hval
  obtain⟨v0, vs0, d0, ds0, p0, q0, hargs, rfl, rfl, h0, r0⟩:=trodAll_cons hA
  obtain⟨v1, vs1, d1, ds1, p1, q1, rfl, rfl, rfl, h1, r1⟩:=trodAll_cons r0
  obtain⟨rfl, rfl, rfl⟩:=trodAll_nil r1
  obtain rfl:args=#[v0, v1]:=by cases args;simp_all
  obtain⟨rfl, rfl⟩:=trodVars_none hV
  have lt0:∀x∈p0, x.block<W.heap.size:=by obtain⟨m, hm⟩:=h0;exact DataW.trod_lt m _ _ _ hm
  have lt1:∀x∈p1, x.block<W.heap.size:=by obtain⟨m, hm⟩:=h1;exact DataW.trod_lt m _ _ _ hm
  have k0:=h0
  obtain⟨p0_, a0, c0, b0, e0, o0, wb0, wh0, rfl⟩:=axn h0 (hval 0 28 v0 rfl rfl)
  obtain⟨a1, n1, c1, rfl⟩:=okWide_slice Tryz.underlying22 (hval 1 22 v1 rfl rfl)
  have k1:=h1
  obtain⟨l1, hl1, w1⟩:∃l:List UInt8, l.length=n1∧Bs W a1 c1 l:=by
    obtain⟨fuel, hf⟩:=h1
    exact open_bytes (by simpa [Value.cells]using hf)
  subst hl1
  clear hA0 hval0
  refine(aqu p0_ o0 a0 c0 b0 e0 l1 a1 c1 W wb0 wh0 w1 (Cub.of_laid hL)).mono λe W' ⟨he, hfr⟩=>?_
  subst he
  have bel:Below W.heap.size W W':=hfr.below (Nat.le_refl _) λ_ _ f=>f
  exact⟨_, rfl, _, _, _, [], _, [], hW', trodAll_mk1 (shut_bool Tryz.underlying4 _), trodAll_cons_mk (Below.trod laidOut (by kernel_rfl) (of_decide_eq_true (by kernel_rfl)) k0 bel lt0) (trodAll_cons_mk (Below.trod laidOut (by kernel_rfl) (of_decide_eq_true (by kernel_rfl)) k1 bel lt1) (trodAll_mk0)), rfl, bel.frame _, λh=>by cases h⟩

theorem holds:Rows.SpvBytesSaid :=
  OpenClaim.holds_of_wide 3 Tryz.f3 rfl rfl rfl rfl rfl rfl rfl ⟨rfl, rfl, rfl, rfl, rfl⟩ rfl rfl rfl rfl rfl (by kernel_rfl) Tryz.func3 (by kernel_rfl)
    (of_decide_eq_true (by kernel_rfl)) (by unfold Func.isWrapper;first|(rw[if_pos (by decide +kernel)];kernel_rfl)|(rw[if_neg (by decide +kernel)];exact⟨rfl, rfl⟩))
    (λos started H enc _=>lifted os started H enc)

theorem proved:Rows.SpvBytesCardSaid :=
  Claim7.holds_tied_plain_at .later [] [.data] true Rows.spvBytesCard.stood.harness false
    holds (λ_ h=>by cases h) (by kernel_rfl) (λ_ h=>by cases h) spvBytes_row_tie rfl ⟨rfl, rfl⟩ (by kernel_rfl) rfl
    (λf fn hf hfn=>by
      obtain rfl : f = 3 := Option.some.inj ((show Tryz.prog.funcNamed "pontage/pontagelaw14.SpvBytes" = some 3 by kernel_rfl).symm.trans hf) |>.symm
      obtain rfl:fn=Tryz.f3:=(Option.some.inj (Tryz.func3.symm.trans hfn)).symm
      exact⟨by kernel_rfl, λj t ht=>by
        rw[Tryz.params3]at ht
        have hm:t ∈ [28, 22]:=by simpa using Array.mem_of_getElem? ht
        have hall:([28, 22].all λu => !Tryz.prog.wantsStandIn u)=true:=by kernel_rfl
        exact(show Tryz.prog.wantsStandIn t=false by simpa using List.all_eq_true.1 hall t hm)⟩)
    (by kernel_rfl)
#print axioms proved
end Go.Proofs.YtjlelckefiannaaGreatDoor.spvBytes
