/- The document's answer 03 (wide): the walks of Add, Sub. -/
import Derived.Test.YtgdnmmobnfjegaaRa
import Derived.Test.YtgdnmmobnfjegaaRm
namespace Go.Proofs.Ytgdnmmobnfjegaa
set_option linter.unusedVariables false
set_option linter.unusedSimpArgs false
open Go.RowKit

/-- The row so far: made since w. -/
def Row (w : World) (l : List Nat) (v : Value) (wr : World) : Prop := ∃ a c, v = .slice a l.length c ∧ OwnU wr (.slice a l.length c) l ∧ ∀ g, ablk a = some g → w.heap.size ≤ g

theorem Row.nil (w : World) (T : TypeId) : Row w [] (.slice (some ⟨w.heap.size, 0, none⟩) 0 0) (w.alloc (.cells #[] 22)) :=
  ⟨_, _, rfl, World.ownsRow_made w #[] 0 (Nat.zero_le _) (Nat.zero_le _) rfl, fun g e => by cases e; exact Nat.le_refl _⟩

theorem Row.app {w : World} {l : List Nat} {a : Option Addr} {n c x : Nat} {wr : World} {a3 : Option Addr} {c3 : Nat} {w3 : World} (hb : ∀ g, ablk a = some g → w.heap.size ≤ g) (f : Fr F0 w wr)
    (ho : OwnU w3 (.slice a3 (l.length + 1) c3) (l ++ [x])) (h : ∀ k, ablk a3 = some k → (Value.slice a n c).ownBlock = some k ∨ (wr.alloc (.cells #[.int .u64 (x : Int)] 22)).heap.size ≤ k) :
    Row w (l ++ [x]) (.slice a3 (l.length + 1) c3) w3 := by
  refine ⟨a3, c3, by simp, by simpa using ho, fun g hg' => ?_⟩
  rcases h g hg' with h | h
  · exact hb g (by rw [← ablk_own]; exact h)
  · have := f.size; simp only [World.size_alloc] at h; omega

theorem Row.frame {w wr w3 : World} {a : Option Addr} {n c : Nat} {o : Obj} (hb : ∀ g, ablk a = some g → w.heap.size ≤ g) (f : Fr F0 w wr) (hg : (wr.alloc o).grownBy w3 (Value.slice a n c).ownBlock) : Fr F0 w w3 :=
  (f.alloc o).grown hg fun g e hl => by
    have := hb g (by rw [← ablk_own]; exact e)
    omega

set_option maxRecDepth 100000 in
set_option maxHeartbeats 8000000 in
theorem r3Add_any (x y : Nat) (a1 : Option Addr) (c1 : Nat) (a2 : Option Addr) (c2 : Nat) (hlx : lg x ≤ 10000) (hly : lg y ≤ 10000) (w : World) (hx : Ns w a1 c1 x) (hy : Ns w a2 c2 y) :
    Calls Try.prog 20 #[.slice a1 (lg x) c1, .slice a2 (lg y) c2] w fun e w' => NN (x + y) w e w' := by
  have HX := Lib.hid hx
  have HY := Lib.hid hy
  have HLX := Lib.hid (show x < pw (lg x) from lg_lt x)
  have HLY := Lib.hid (show y < pw (lg y) from lg_lt y)
  clear hx hy
  generalize hnx : lg x = nx at *
  generalize hny : lg y = ny at *
  have HNX := Lib.hid hnx
  have HNY := Lib.hid hny
  clear hnx hny
  go_enter Try.func20, Try.ntmps20
  go_wp2_with fail
  go_loopw [5, 6, 7] (fun v cv iv wr => ∃ i : Nat, i ≤ nx + ny + 1 ∧ iv = .int .i64 i ∧ cv = .int .u64 (caC x y i : Nat) ∧ Row w (ds i (x + y)) v wr ∧ Fr F0 w wr) (fun _ _ iv _ => nx + ny + 2 - (intOf iv).toNat)
  case atStart => exact ⟨0, Nat.zero_le _, rfl, by rw [caC_zero]; rfl, Row.nil w 0, (Fr.refl F0 w).alloc _⟩
  case round =>
    obtain ⟨i, hi, rfl, rfl, ⟨a, c, rfl, hown, hblk⟩, hf⟩ := hrel
    rw [ds_length] at hown ⊢
    have HB := Lib.hid hblk
    have HF := Lib.hid hf
    have HI := Lib.hid hi
    have hcl := caC_le x y i
    have dx := d16_lt x i
    have dy := d16_lt y i
    obtain ⟨hs1, hs2⟩ := ca_step x y i
    have hend : ¬ i < nx → ¬ i < ny → caC x y i = 0 → x + y < pw i := fun h1 h2 h3 => ca_end (Nat.lt_of_lt_of_le HLX.out (pw_le (by omega))) (Nat.lt_of_lt_of_le HLY.out (pw_le (by omega))) h3
    have hpos : ¬ i < nx → ¬ i < ny → 0 < caC x y i → i ≤ nx + ny := fun h1 h2 h3 => by
      refine Nat.le_of_not_lt fun h => ?_
      have e1 := Nat.lt_of_lt_of_le HLX.out (pw_le (show nx ≤ nx + ny by omega))
      have e2 := Nat.lt_of_lt_of_le HLY.out (pw_le (show ny ≤ nx + ny by omega))
      have e3 := pw_succ (nx + ny)
      have e4 := pw_le (show nx + ny + 1 ≤ i by omega)
      have e5 : x + y < pw i := by have := pw_pos (nx + ny); omega
      have e6 : caC x y i = 0 := by
        unfold caC
        rw [Nat.mod_eq_of_lt (by omega), Nat.mod_eq_of_lt (by omega), Nat.div_eq_of_lt e5]
      omega
    generalize hcv : caC x y i = cv at *
    generalize hd1 : dgt 16 x i = d1 at *
    generalize hd2 : dgt 16 y i = d2 at *
    have q1 := digitN a1 nx c1 x i HNX.out.symm wr (HX.out.fr HF.out)
    have q2 := digitN a2 ny c2 y i HNY.out.symm wr (HY.out.fr HF.out)
    rw [hd1] at q1
    rw [hd2] at q2
    have HQ1 := Lib.hid q1
    have HQ2 := Lib.hid q2
    clear q1 q2
    have HD1 := Lib.hid hd1
    have HD2 := Lib.hid hd2
    have HCV := Lib.hid hcv
    have HE := Lib.hid hend
    have HP := Lib.hid hpos
    clear hblk hf hi hcv hd1 hd2 hend hpos
    have hi' : i ≤ 20001 := by have := HI.out; omega
    have hc : ((i < nx) ∨ (¬ i < nx ∧ i < ny) ∨ (¬ i < nx ∧ ¬ i < ny ∧ 0 < cv)) ∨ (¬ i < nx ∧ ¬ i < ny ∧ cv = 0) := by omega
    rcases hc with hc | ⟨h1, h2, h3⟩
    · have hroom : i ≤ nx + ny := by
        rcases hc with h | ⟨_, h⟩ | ⟨h1, h2, h3⟩
        · omega
        · omega
        · exact HP.out h1 h2 h3
      have HR := Lib.hid hroom
      obtain ⟨s1, hs1'⟩ : ∃ s1, cv + d1 = s1 := ⟨_, rfl⟩
      obtain ⟨sm, hsm⟩ : ∃ sm, s1 + d2 = sm := ⟨_, rfl⟩
      obtain ⟨r, hr⟩ : ∃ r, sm % 65536 = r := ⟨_, rfl⟩
      obtain ⟨z, hz⟩ : ∃ z, sm / 65536 = z := ⟨_, rfl⟩
      have m1 : IntKind.u64.wrap ((cv : Int) + d1) = (s1 : Int) := by rw [IntWalk.u64_in _ (by omega)]; omega
      have m2 : IntKind.u64.wrap ((s1 : Int) + d2) = (sm : Int) := by rw [IntWalk.u64_in _ (by omega)]; omega
      have mr : (sm : Int) % 65536 = (r : Int) := by omega
      have mz : (sm : Int) / 65536 = (z : Int) := by omega
      rw [hs1', hsm, hr] at hs1
      rw [hs1', hsm, hz] at hs2
      have wz : IntKind.u64.wrap (z : Int) = (z : Int) := IntWalk.u64_in _ (by omega)
      have HS1 := Lib.hid hs1
      have HS2 := Lib.hid hs2
      clear hs1 hs2 hs1' hsm hr hz hroom hcl dx dy
      rcases hc with h1 | ⟨h1, h2⟩ | ⟨h1, h2, h3⟩
      case' inl => have l1 : (i : Int) < (nx : Int) := by omega
      case' inr.inl => have l1 : ¬ (i : Int) < (nx : Int) := by omega
      case' inr.inl => have l2 : (i : Int) < (ny : Int) := by omega
      case' inr.inr => have l1 : ¬ (i : Int) < (nx : Int) := by omega
      case' inr.inr => have l2 : ¬ (i : Int) < (ny : Int) := by omega
      case' inr.inr => have l3 : (0 : Int) < (cv : Int) := by omega
      all_goals
        go_wp2_with (first | ((with_reducible refine HQ1.out.mono ?_); rintro e w' ⟨rfl, hw⟩; have hw := hw.symm; subst hw) | ((with_reducible refine HQ2.out.mono ?_); rintro e w' ⟨rfl, hw⟩; have hw := hw.symm; subst hw) | (at_builtin; refine wpList_appN rfl _ _ rfl _ (ds i (x + y)) rfl (hown.fr ((Fr.refl F0 wr).alloc _) (fun _ _ f => f)) _ _ _ [r] rfl (Us.of_new wr r) rfl (by rw [ds_length]; simp; omega) ?_; intro a3 c3 w3 ho hg hb) | fail)
        go_roundw
        case rel =>
          rw [ds_length] at *
          refine ⟨i + 1, by have := HR.out; omega, by go_num, by rw [HS2.out], ?_, Row.frame HB.out HF.out hg⟩
          rw [ds_succ, ← HS1.out]
          have := Row.app (l := ds i (x + y)) HB.out HF.out (by rw [ds_length]; exact ho) hb
          rwa [ds_length] at this
        case measure => have := HR.out; simp [intOf]; omega
    · have l1 : ¬ (i : Int) < (nx : Int) := by omega
      have l2 : ¬ (i : Int) < (ny : Int) := by omega
      have HT := Lib.hid (HE.out h1 h2 h3)
      clear HE HP hs1 hs2 hcl
      subst h3
      have HQ3 := Lib.hid (trim_any i (x + y) a c HT.out (by omega) wr hown.us.2)
      go_wp2_with ((with_reducible refine HQ3.out.mono ?_); rintro e w' ⟨⟨a5, c5, rfl, hn⟩, hw⟩; have hw := hw.symm; subst hw)
      go_ret
      exact ⟨a5, c5, rfl, hn, HF.out⟩

set_option maxRecDepth 100000 in
set_option maxHeartbeats 8000000 in
theorem r3Sub_new (x y : Nat) (a1 : Option Addr) (c1 : Nat) (a2 : Option Addr) (c2 : Nat) (hlx : lg x ≤ 10000) (hle : y ≤ x) (w : World) (hx : Ns w a1 c1 x) (hy : Ns w a2 c2 y) :
    Calls Try.prog 42 #[.slice a1 (lg x) c1, .slice a2 (lg y) c2] w fun e w' => ∃ a c, e = .returned (.slice a (lg (x - y)) c) ∧ Ns w' a c (x - y) ∧ (∀ g, ablk a = some g → w.heap.size ≤ g) ∧ Fr F0 w w' := by
  have HX := Lib.hid hx
  have HY := Lib.hid hy
  have HLX := Lib.hid (show x < pw (lg x) from lg_lt x)
  have HLE := Lib.hid hle
  clear hx hy hle
  generalize hnx : lg x = nx at *
  generalize hny : lg y = ny at *
  have HNX := Lib.hid hnx
  have HNY := Lib.hid hny
  clear hnx hny
  go_enter Try.func42, Try.ntmps42
  go_wp2_with fail
  go_loopw [5, 6, 12] (fun v cv iv wr => ∃ i : Nat, i ≤ nx ∧ iv = .int .i64 i ∧ cv = .int .u64 (bwC x y i : Nat) ∧ Row w (ds i (x - y)) v wr ∧ Fr F0 w wr) (fun _ _ iv _ => nx - (intOf iv).toNat)
  case atStart => exact ⟨0, Nat.zero_le _, rfl, by rw [bwC_zero]; rfl, Row.nil w 0, (Fr.refl F0 w).alloc _⟩
  case round =>
    obtain ⟨i, hi, rfl, rfl, ⟨a, c, rfl, hown, hblk⟩, hf⟩ := hrel
    rw [ds_length] at hown ⊢
    have HB := Lib.hid hblk
    have HF := Lib.hid hf
    have HI := Lib.hid hi
    have hcl := bwC_le x y i
    have dx := d16_lt x i
    have dy := d16_lt y i
    obtain ⟨hs1, hs2⟩ := bw_step x y i HLE.out
    generalize hcv : bwC x y i = cv at *
    generalize hd1 : dgt 16 x i = d1 at *
    generalize hd2 : dgt 16 y i = d2 at *
    have q1 := digitN a1 nx c1 x i HNX.out.symm wr (HX.out.fr HF.out)
    have q2 := digitN a2 ny c2 y i HNY.out.symm wr (HY.out.fr HF.out)
    rw [hd1] at q1
    rw [hd2] at q2
    have HQ1 := Lib.hid q1
    have HQ2 := Lib.hid q2
    clear q1 q2
    clear hblk hf hi hcv hd1 hd2
    have hi' : i ≤ 10000 := by have := HI.out; omega
    by_cases h1 : i < nx
    · have HR := Lib.hid h1
      obtain ⟨s1, hs1'⟩ : ∃ s1, 65536 + d1 = s1 := ⟨_, rfl⟩
      obtain ⟨s2, hs2'⟩ : ∃ s2, s1 - d2 = s2 := ⟨_, rfl⟩
      obtain ⟨sm, hsm⟩ : ∃ sm, s2 - cv = sm := ⟨_, rfl⟩
      obtain ⟨r, hr⟩ : ∃ r, sm % 65536 = r := ⟨_, rfl⟩
      obtain ⟨z, hz⟩ : ∃ z, sm / 65536 = z := ⟨_, rfl⟩
      obtain ⟨b, hb'⟩ : ∃ b, 1 - z = b := ⟨_, rfl⟩
      have m1 : IntKind.u64.wrap (65536 + (d1 : Int)) = (s1 : Int) := by rw [IntWalk.u64_in _ (by omega)]; omega
      have m2 : IntKind.u64.wrap ((s1 : Int) - d2) = (s2 : Int) := by rw [IntWalk.u64_in _ (by omega)]; omega
      have m3 : IntKind.u64.wrap ((s2 : Int) - cv) = (sm : Int) := by rw [IntWalk.u64_in _ (by omega)]; omega
      have m4 : IntKind.u64.wrap (1 - (z : Int)) = (b : Int) := by rw [IntWalk.u64_in _ (by omega)]; omega
      have mr : (sm : Int) % 65536 = (r : Int) := by omega
      have mz : (sm : Int) / 65536 = (z : Int) := by omega
      have wz : IntKind.u64.wrap (z : Int) = (z : Int) := IntWalk.u64_in _ (by omega)
      rw [hs1', hs2', hsm, hr] at hs1
      rw [hs1', hs2', hsm, hz, hb'] at hs2
      have HS1 := Lib.hid hs1
      have HS2 := Lib.hid hs2
      clear hs1 hs2 hs1' hs2' hsm hr hz hb' hcl dx dy
      have l1 : (i : Int) < (nx : Int) := by omega
      go_wp2_with (first | ((with_reducible refine HQ1.out.mono ?_); rintro e w' ⟨rfl, hw⟩; have hw := hw.symm; subst hw) | ((with_reducible refine HQ2.out.mono ?_); rintro e w' ⟨rfl, hw⟩; have hw := hw.symm; subst hw) | (at_builtin; refine wpList_appN rfl _ _ rfl _ (ds i (x - y)) rfl (hown.fr ((Fr.refl F0 wr).alloc _) (fun _ _ f => f)) _ _ _ [r] rfl (Us.of_new wr r) rfl (by rw [ds_length]; simp; omega) ?_; intro a3 c3 w3 ho hg hb) | fail)
      go_roundw
      case rel =>
        rw [ds_length] at *
        refine ⟨i + 1, by have := HR.out; omega, by go_num, by rw [HS2.out], ?_, Row.frame HB.out HF.out hg⟩
        rw [ds_succ, ← HS1.out]
        have := Row.app (l := ds i (x - y)) HB.out HF.out (by rw [ds_length]; exact ho) hb
        rwa [ds_length] at this
      case measure => have := HR.out; simp [intOf]; omega
    · have l1 : ¬ (i : Int) < (nx : Int) := by omega
      have HT := Lib.hid (show x - y < pw i from Nat.lt_of_le_of_lt (Nat.sub_le _ _) (Nat.lt_of_lt_of_le HLX.out (pw_le (by omega))))
      clear hs1 hs2 hcl
      have HQ3 := Lib.hid (trim_same i (x - y) a c HT.out (by omega) wr hown.us.2)
      go_wp2_with ((with_reducible refine HQ3.out.mono ?_); rintro e w' ⟨⟨c5, rfl, hn⟩, hw⟩; have hw := hw.symm; subst hw)
      go_ret
      exact ⟨a, c5, rfl, hn, HB.out, HF.out⟩
theorem r3Sub_any (x y : Nat) (a1 : Option Addr) (c1 : Nat) (a2 : Option Addr) (c2 : Nat) (hlx : lg x ≤ 10000) (hle : y ≤ x) (w : World) (hx : Ns w a1 c1 x) (hy : Ns w a2 c2 y) :
    Calls Try.prog 42 #[.slice a1 (lg x) c1, .slice a2 (lg y) c2] w fun e w' => NN (x - y) w e w' :=
  (r3Sub_new x y a1 c1 a2 c2 hlx hle w hx hy).mono fun e w' ⟨a, c, h1, h2, _, h4⟩ => ⟨a, c, h1, h2, h4⟩
end Go.Proofs.Ytgdnmmobnfjegaa
