/- For every hash and every text: where the table of the cube roots reads as the program's text lays it (the card ties that), the law DigestTexts of layer 2 (digest) returns true, and both read behind the call as they read before. -/
import Derived.Test.YtkppakhjfagdnaaDoorLd
import Derived.Test.YtkppakhjfagdnaaDoorCubs
import Derived.Test.YtkppakhjfagdnaaDoorOpen
import Derived.Test.YtkppakhjfagdnaaDoorCards
import Derived.Test.YtkppakhjfagdnaaDoorTie
import Derived.SevenTiedAt
import Derived.Below
namespace Go.Proofs.YtkppakhjfagdnaaDoor.digestTexts
set_option linter.unusedVariables false
set_option linter.unusedSimpArgs false
open Go.RowKit Go.ChangeShapes Go.WideShapes Go.ChangeAt Go.Proofs.YtkppakhjfagdnaaDoor

section
variable {H : Type} {enc : TypeId × Value → H} {W : World} {base : Nat} {sp : Nat → Bool} {held : Bool}

theorem bytes_of (cs : List Value) (n : Nat) (hl : cs.length = n) (h : ∀ i, i < n → ∃ z : Int, (cs.drop i).take 1 = [.int .u8 z] ∧ (Lit.int .u8 z).wf = true) : ∃ l : List UInt8, l.length = n ∧ cs = l.map B8 := by
  induction n generalizing cs with
  | zero => exact ⟨[], rfl, List.eq_nil_of_length_eq_zero hl⟩
  | succ n ih =>
    match cs, hl with
    | c :: cs, hl =>
      obtain ⟨z, e, wf⟩ := h 0 (by omega)
      obtain ⟨l, h1, h2⟩ := ih cs (by simpa using hl) (fun i hi => by simpa using h (i + 1) (by omega))
      simp at e
      have hb : 0 ≤ z ∧ z ≤ 255 := bounds_u8 wf
      refine ⟨UInt8.ofNat z.toNat :: l, by simp [h1], ?_⟩
      rw [List.map_cons, ← h2, e]
      congr 1
      simp only [B8, UInt8.toNat_ofNat']
      congr 1
      omega

theorem open_hash {r : Reach} {b0 : Nat} {v : Value} {d : DataW H} {ps : List MemPlace} (hd : DataW.Trod enc Tryd.prog W base sp held 23 v d ps) (hv : Value.okWide Tryd.prog W r b0 23 v) :
    ∃ l : List UInt8, l.length = 32 ∧ v = .agg (l.map B8).toArray := by
  simp only [Value.okWide, Tryd.underlying23] at hv
  obtain ⟨cs, rfl, hs, _⟩ := hv
  obtain ⟨fuel, hf⟩ := hd
  obtain ⟨xs, m, rfl, hx, hlen, hn, hel⟩ := DataW.trod_array Tryd.underlying23 hf
  have hc32 : Tryd.prog.cellsOf 23 = 32 := by kernel_rfl
  have c1 : Tryd.prog.cellsOf 5 = 1 := by kernel_rfl
  rw [hc32] at hlen
  obtain ⟨l, hl, e⟩ := bytes_of cs.toList 32 (by simpa [Value.cells] using hlen) (fun i hi => by
    have h := hel i hi
    rw [c1, Nat.mul_one] at h
    rw [List.getElem?_eq_getElem (show i < xs.length by omega)] at h
    obtain ⟨z, e, _, wf⟩ := DataW.trod_int Tryd.underlying5 h
    exact ⟨z, by simpa [Value.cells] using e, wf⟩)
  exact ⟨l, hl, by rw [← e]⟩

theorem open_text {r : Reach} {b0 : Nat} {v : Value} {d : DataW H} {ps : List MemPlace} (hd : DataW.Trod enc Tryd.prog W base sp held 9 v d ps) (hv : Value.okWide Tryd.prog W r b0 9 v) :
    ∃ s : List UInt8, v = .string (strOf s) := by
  simp only [Value.okWide, Tryd.underlying9, Cell.okWide] at hv
  obtain ⟨fuel, hf⟩ := hd
  obtain ⟨s, e, _, _⟩ := DataW.trod_string Tryd.underlying9 hf
  refine ⟨s.data.toList, ?_⟩
  cases v <;> simp_all [Value.cells, strOf, Cell.ok]
end

set_option maxRecDepth 100000 in
theorem lifted (os : Os) (started : os.Started) (H : Type) (enc : TypeId × Value → H) :
    ReturnsInHanded {} Tryd.checked os 3 .any (fun w args => (Rows.digestTextsSpec.pre enc Tryd.prog Tryd.f3 [] false w args ∧ laidMetH Tryd.prog laidC w) ∧ sizedMet enc Tryd.prog Tryd.f3 (OpenSpec.ofChange Rows.digestTextsSpec) false w args)
      (Rows.digestTextsSpec.post enc Tryd.prog Tryd.f3 false true false false) := by
  refine returnsInHanded_of_change_and (C := Tryd.checked) (X := fun w _ => laidMetH Tryd.prog laidC w) (fun _ _ _ hh h => h.of_heap hh) own started (by kernel_rfl) Tryd.func3
    (ChangeSpec.witness_shaped (enc := enc) (C := Tryd.checked) (os := os) (X := fun w _ => laidMetH Tryd.prog laidC w) false (World.doorLaid Tryd.prog 400 os) #[.agg #[.int .u8 0, .int .u8 0, .int .u8 0, .int .u8 0, .int .u8 0, .int .u8 0, .int .u8 0, .int .u8 0, .int .u8 0, .int .u8 0, .int .u8 0, .int .u8 0, .int .u8 0, .int .u8 0, .int .u8 0, .int .u8 0, .int .u8 0, .int .u8 0, .int .u8 0, .int .u8 0, .int .u8 0, .int .u8 0, .int .u8 0, .int .u8 0, .int .u8 0, .int .u8 0, .int .u8 0, .int .u8 0, .int .u8 0, .int .u8 0, .int .u8 0, .int .u8 0], .string ⟨#[]⟩] 8 rfl (World.shaped_of_RefB (by kernel_rfl) (by kernel_rfl)) (by kernel_rfl) (by kernel_rfl) (by kernel_rfl) (door_met os _)) ?_
  intro W base args ds gs before hval0 hW _ _ hL _
  have hval : ∀ (j : Nat) t v, Tryd.f3.params[j]? = some t → args[j]? = some v → Value.okWide Tryd.prog W .any base t v := hval0
  have hW' := hW
  obtain ⟨p, q, hA0, hV, rfl, hfz, hnd⟩ := hW
  have hA : DataW.TrodAll enc Tryd.prog W 0 (fun _ => true) true Tryd.f3.params.toList args.toList ds p := hA0
  rw [Tryd.params3] at hA hval
  obtain ⟨v0, vs0, d0, ds0, p0, q0, hargs, rfl, rfl, h0, r0⟩ := trodAll_cons hA
  obtain ⟨v1, vs1, d1, ds1, p1, q1, rfl, rfl, rfl, h1, r1⟩ := trodAll_cons r0
  obtain ⟨rfl, rfl, rfl⟩ := trodAll_nil r1
  obtain rfl : args = #[v0, v1] := by cases args; simp_all
  obtain ⟨rfl, rfl⟩ := trodVars_none hV
  have lt0 : ∀ x ∈ p0, x.block < W.heap.size := by obtain ⟨m, hm⟩ := h0; exact DataW.trod_lt m _ _ _ hm
  have lt1 : ∀ x ∈ p1, x.block < W.heap.size := by obtain ⟨m, hm⟩ := h1; exact DataW.trod_lt m _ _ _ hm
  obtain ⟨l, hl, rfl⟩ := open_hash h0 (hval 0 23 v0 rfl rfl)
  obtain ⟨s, rfl⟩ := open_text h1 (hval 1 9 v1 rfl rfl)
  clear hA0 hval0
  refine (digestTexts_any l hl s W (Cub.of_laid hL)).mono fun e W' ⟨he, hfr⟩ => ?_
  subst he
  have bel : Below W.heap.size W W' := hfr.below (Nat.le_refl _) fun _ _ f => f
  exact ⟨_, rfl, _, _, _, [], _, [], hW', trodAll_mk1 (shut_bool Tryd.underlying4 _), trodAll_cons_mk (Below.trod laidOut (by kernel_rfl) (of_decide_eq_true (by kernel_rfl)) h0 bel lt0) (trodAll_cons_mk (Below.trod laidOut (by kernel_rfl) (of_decide_eq_true (by kernel_rfl)) h1 bel lt1) trodAll_mk0), rfl, bel.frame _, fun h => by cases h⟩

theorem holds : Rows.DigestTextsSaid :=
  OpenClaim.holds_of_wide 3 Tryd.f3 rfl rfl rfl rfl rfl rfl rfl ⟨rfl, rfl, rfl, rfl, rfl⟩ rfl rfl rfl rfl rfl (by kernel_rfl) Tryd.func3 (by kernel_rfl)
    (of_decide_eq_true (by kernel_rfl)) (by unfold Func.isWrapper; first | (rw [if_pos (by decide +kernel)]; kernel_rfl) | (rw [if_neg (by decide +kernel)]; exact ⟨rfl, rfl⟩))
    (fun os started H enc _ => lifted os started H enc)

theorem proved : Rows.DigestTextsCardSaid :=
  Claim7.holds_tied_plain_at .later [] [.data] true Rows.digestTextsCard.stood.harness false
    holds (fun _ h => by cases h) (by kernel_rfl) (fun _ h => by cases h) digestTexts_row_tie rfl ⟨rfl, rfl⟩ (by kernel_rfl) rfl
    (fun f fn hf hfn => by
      obtain rfl : f = 3 := Option.some.inj ((show Tryd.prog.funcNamed "pontage/pontagelaw02.DigestTexts" = some 3 by kernel_rfl).symm.trans hf) |>.symm
      obtain rfl : fn = Tryd.f3 := (Option.some.inj (Tryd.func3.symm.trans hfn)).symm
      exact ⟨by kernel_rfl, fun j t ht => by
        rw [Tryd.params3] at ht
        have hm : t ∈ [23, 9] := by simpa using Array.mem_of_getElem? ht
        have hall : ([23, 9].all fun u => !Tryd.prog.wantsStandIn u) = true := by kernel_rfl
        exact (show Tryd.prog.wantsStandIn t = false by simpa using List.all_eq_true.1 hall t hm)⟩)
    (by kernel_rfl)
#print axioms proved
end Go.Proofs.YtkppakhjfagdnaaDoor.digestTexts
