import Derived.Test.YtohckefafbhooaaGreatR10
import Derived.Test.YtohckefafbhooaaGreatR1
import Derived.Deep.Cut
set_option maxRecDepth 100000
set_option maxHeartbeats 64000000
namespace Go.Proofs.YtohckefafbhooaaGreat
set_option linter.unusedVariables false
set_option linter.unusedSimpArgs false
open Go.RowKit
attribute [-go_sem] gq
structure RB (B : Nat) (w : World) (m : Nat) (R : Nat → Nat) (M : Bok) (sv : Value) : Prop where
 blk : BF w m (ahx R M sv)
 vs : uj 111 27 aao B w sv M.vs
 base : B ≤ m
section
variable {B : Nat} {w w' : World} {m : Nat} {R : Nat → Nat} {M : Bok} {sv : Value}
theorem RB.off (h : RB B w m R M sv) : sv.ownBlock ≠ some m := by
 obtain ⟨cs,h1,_⟩ := h.blk
 exact h.vs.other h1 (by decide)
theorem RB.fr {S : Nat → Prop} (h : RB B w m R M sv) (f : Fr S w w') (h1 : ¬ S m) (h2 : ∀ k,sv.ownBlock = some k → ¬ S k) : RB B w' m R M sv := ⟨h.blk.fr f h1,h.vs.frS f h2,h.base⟩
theorem RB.fr0 (h : RB B w m R M sv) (f : Fr F0 w w') : RB B w' m R M sv := h.fr f (fun x => x) fun _ _ x => x
theorem RB.lt (h : RB B w m R M sv) : m < w.heap.size := h.blk.lt
theorem RB.mono {B' : Nat} (h : RB B w m R M sv) (hb : B' ≤ B) : RB B' w m R M sv := ⟨h.blk,h.vs.mono hb,Nat.le_trans hb h.base⟩
theorem RB.rule (h : RB B w m R M sv) {k : Nat} (hk : k < 11) : w.cell? ⟨m,k,none⟩ = some (.int .u64 (R k : Nat)) := by rw [h.blk.cell (by omega),aey R M sv hk]
theorem RB.now (h : RB B w m R M sv) : w.cell? ⟨m,11,none⟩ = some (.int .u64 (M.now : Nat)) := h.blk.cell (by omega)
theorem RB.price (h : RB B w m R M sv) : w.cell? ⟨m,12,none⟩ = some (.int .u64 (M.price : Nat)) := h.blk.cell (by omega)
theorem RB.told (h : RB B w m R M sv) : w.cell? ⟨m,13,none⟩ = some (.int .u64 (M.told : Nat)) := h.blk.cell (by omega)
theorem RB.tok (h : RB B w m R M sv) {k : Nat} (hk : k < 256) : w.cell? ⟨m,14 + k,none⟩ = some (.int .u64 (M.tok k : Nat)) := by rw [h.blk.cell (by omega),agf R M sv hk]
theorem RB.free (h : RB B w m R M sv) {k : Nat} (hk : k < 256) : w.cell? ⟨m,270 + k,none⟩ = some (.int .u64 (M.free k : Nat)) := by rw [h.blk.cell (by omega),aez R M sv hk]
theorem RB.held (h : RB B w m R M sv) : w.cell? ⟨m,526,none⟩ = some (.int .u64 (M.held : Nat)) := h.blk.cell (by omega)
theorem RB.inn (h : RB B w m R M sv) : w.cell? ⟨m,527,none⟩ = some (.int .u64 (M.inn : Nat)) := h.blk.cell (by omega)
theorem RB.out (h : RB B w m R M sv) : w.cell? ⟨m,528,none⟩ = some (.int .u64 (M.out : Nat)) := h.blk.cell (by omega)
theorem RB.pc (h : RB B w m R M sv) : w.cell? ⟨m,529,none⟩ = some (.int .u64 (M.pc : Nat)) := h.blk.cell (by omega)
theorem RB.pn (h : RB B w m R M sv) : w.cell? ⟨m,530,none⟩ = some (.int .u64 (M.pn : Nat)) := h.blk.cell (by omega)
theorem RB.svc (h : RB B w m R M sv) : w.cell? ⟨m,531,none⟩ = some sv := h.blk.cell (by omega)
theorem RB.dep (h : RB B w m R M sv) : w.cell? ⟨m,532,none⟩ = some (.int .u64 (M.dep : Nat)) := h.blk.cell (by omega)
theorem aD0 (a x t now : Nat) : (x = 0 ∧ prE a x t now = 12 ∧ prV a x t now = 0) ∨ (¬ x = 0 ∧ now < t ∧ prE a x t now = 11 ∧ prV a x t now = 0) ∨ (¬ x = 0 ∧ ¬ now < t ∧ a < now - t ∧ prE a x t now = 18 ∧ prV a x t now = 0) ∨ (¬ x = 0 ∧ ¬ now < t ∧ ¬ a < now - t ∧ prE a x t now = 0 ∧ prV a x t now = x) := by
 by_cases h : x = 0
 ·subst h; exact .inl ⟨rfl,(aju a t now).1,(aju a t now).2⟩
 ·by_cases h1 : now < t
  ·obtain ⟨e1,e2⟩ := akd (a := a) (show 0 < x by omega) h1
   exact .inr (.inl ⟨h,h1,e1,e2⟩)
  ·by_cases h2 : a < now - t
   ·obtain ⟨e1,e2⟩ := ara (show 0 < x by omega) h1 h2
    exact .inr (.inr (.inl ⟨h,h1,h2,e1,e2⟩))
   ·obtain ⟨e1,e2⟩ := avy (show 0 < x by omega) h1 h2
    exact .inr (.inr (.inr ⟨h,h1,h2,e1,e2⟩))
theorem ahf (h : RB B w m R M sv) (hn : M.now ≤ 1099511627776) :
  Calls Tryz.prog 66 #[.pointer (some ⟨m,0,none⟩)] w fun e w' => e = .returned (.tuple #[.int .u64 (prV (R 4) M.price M.told M.now : Nat),.int .i64 (prE (R 4) M.price M.told M.now)]) ∧ Fr F0 w w' := by
 have c4 := h.rule (k := 4) (by omega)
 have c11 := h.now
 have c12 := h.price
 have c13 := h.told
 have F := Lib.hid (Fr.refl F0 w)
 generalize R 4 = a at *
 generalize M.price = x at *
 generalize M.told = t at *
 generalize M.now = now at *
 clear h
 rcases aD0 a x t now with ⟨rfl,e1,e2⟩ | ⟨h0,h1,e1,e2⟩ | ⟨h0,h1,h2,e1,e2⟩ | ⟨h0,h1,h2,e1,e2⟩
 all_goals rw [e1,e2]; clear e1 e2
 ·go_enter Tryz.func66,Tryz.ntmps66
  go_wp2_with fail
  go_ret2
  exact ⟨rfl,F.out⟩
 ·have b0 : ((x : Int) == 0) = false := beq_eq_false_iff_ne.2 (by omega)
  have d1 : decide ((now : Int) < (t : Int)) = true := decide_eq_true (by omega)
  have d1' : decide (now < t) = true := decide_eq_true h1
  clear h0 h1 hn
  go_enter Tryz.func66,Tryz.ntmps66
  go_upto_region 3 with fail
  go_region
  go_wp2_with fail
  go_ret2
  first | exact ⟨rfl,F.out.drew⟩ | exact ⟨rfl,F.out.drew.drew⟩
 ·have b0 : ((x : Int) == 0) = false := beq_eq_false_iff_ne.2 (by omega)
  have d1 : decide ((now : Int) < (t : Int)) = false := decide_eq_false (by omega)
  have d1' : decide (now < t) = false := decide_eq_false h1
  have m1 : IntKind.u64.wrap ((now : Int) - (t : Int)) = ((now - t : Nat) : Int) := by rw [IntWalk.u64_in _ (by omega)]; omega
  obtain ⟨g,hg⟩ : ∃ g,now - t = g := ⟨_,rfl⟩
  rw [hg] at m1 h2
  have d2 : decide ((a : Int) < (g : Int)) = true := decide_eq_true (by omega)
  have d2' : decide (a < g) = true := decide_eq_true h2
  clear h0 h1 h2 hg hn
  go_enter Tryz.func66,Tryz.ntmps66
  go_upto_region 3 with fail
  go_region
  go_upto_region 5 with fail
  go_region
  go_wp2_with fail
  go_ret2
  first | exact ⟨rfl,F.out.drew⟩ | exact ⟨rfl,F.out.drew.drew⟩
 ·have b0 : ((x : Int) == 0) = false := beq_eq_false_iff_ne.2 (by omega)
  have d1 : decide ((now : Int) < (t : Int)) = false := decide_eq_false (by omega)
  have d1' : decide (now < t) = false := decide_eq_false h1
  have m1 : IntKind.u64.wrap ((now : Int) - (t : Int)) = ((now - t : Nat) : Int) := by rw [IntWalk.u64_in _ (by omega)]; omega
  obtain ⟨g,hg⟩ : ∃ g,now - t = g := ⟨_,rfl⟩
  rw [hg] at m1 h2
  have d2 : decide ((a : Int) < (g : Int)) = false := decide_eq_false (by omega)
  have d2' : decide (a < g) = false := decide_eq_false h2
  clear h0 h1 h2 hg hn
  go_enter Tryz.func66,Tryz.ntmps66
  go_upto_region 3 with fail
  go_region
  go_upto_region 5 with fail
  go_region
  go_wp2_with fail
  go_ret2
  first | exact ⟨rfl,F.out.drew⟩ | exact ⟨rfl,F.out.drew.drew⟩
end
end Go.Proofs.YtohckefafbhooaaGreat
namespace Go.Proofs.YtohckefafbhooaaGreat
set_option linter.unusedVariables false
set_option linter.unusedSimpArgs false
open Go.RowKit
attribute [-go_sem] gq
theorem awv (f : Nat → Nat) {k n : Nat} (h : k ≤ n) : uy f k ≤ uy f n := by
 induction n with
 |zero =>
  obtain rfl : k = 0 := by omega
  exact Nat.le_refl _
 |succ n ih =>
  by_cases e : k = n + 1
  ·subst e; exact Nat.le_refl _
  ·exact Nat.le_trans (ih (by omega)) (Nat.le_add_right _ _)
theorem aml {l : List Vlt} {w k : Nat} {y : Vlt} (h : ∀ i,i < k → ∀ x,l[i]? = some x → x.who ≠ w) (hy : l[k]? = some y) (hw : y.who = w) : atV l w = k := by
 obtain ⟨hk,e⟩ := List.getElem?_eq_some_iff.1 hy
 refine (List.findIdx_eq (p := fun x : Vlt => x.who == w) hk).2 ⟨by rw [e]; exact beq_iff_eq.2 hw,fun j hj => ?_⟩
 exact beq_eq_false_iff_ne.2 (h j hj _ (List.getElem?_eq_getElem (by omega)))
theorem aBj {l : List Vlt} {w : Nat} (h : ∀ i,i < l.length → ∀ x,l[i]? = some x → x.who ≠ w) : atV l w = l.length := by
 refine List.findIdx_eq_length.2 fun x hx => ?_
 obtain ⟨i,hi,e⟩ := List.mem_iff_getElem.1 hx
 exact beq_eq_false_iff_ne.2 (h i hi x (by rw [List.getElem?_eq_getElem hi,e]))
section
variable {B : Nat} {w w' : World} {m : Nat} {R : Nat → Nat} {M : Bok} {sv : Value}
theorem RB.toks (h : RB B w m R M sv) : ∃ A : Array Value,(∀ k,k < 256 → A[k]? = some (.int .u64 (M.tok k : Nat))) ∧ (gu 44 (.pointer (some ⟨m,14,none⟩))).run Tryz.prog w = .ok (.agg A) w := by
 refine ⟨((List.range 256).map fun k => Value.int .u64 (M.tok k : Nat)).toArray,fun k hk => by simp [List.getElem?_range hk],?_⟩
 refine run_loadAt_mid (P := Tryz.prog) w m 14 44 ((List.range 256).map fun k => Value.int .u64 (M.tok k : Nat)) _ (fun j u hj => ?_) Tryz.underlying44 rfl (by rw [Tryz.szU256]; simp)
 have hj' : j < 256 := by have := (List.getElem?_eq_some_iff.1 hj).1; simpa using this
 rw [List.getElem?_map,List.getElem?_range hj'] at hj
 simp only [Option.map_some,Option.some.injEq] at hj
 rw [← hj]
 exact h.tok hj'
theorem ad6 (h : RB B w m R M sv) (ht : uy M.tok 256 ≤ 4611686018427387904) : Calls Tryz.prog 62 #[.pointer (some ⟨m,0,none⟩)] w fun e w' => e = .returned (.int .u64 (uy M.tok 256 : Nat)) ∧ w' = w := by
 obtain ⟨A,hA,lds⟩ := h.toks
 have HA := Lib.hid hA
 have HT := Lib.hid ht
 clear h hA ht
 go_enter Tryz.func62,Tryz.ntmps62
 go_wp2_with fail
 go_loopw [3,10] (fun s iv wr => wr = w ∧ ∃ k : Nat,k ≤ 256 ∧ iv = .int .i64 (k : Int) ∧ s = .int .u64 (uy M.tok k : Nat)) (fun _ iv _ => 256 - (intOf iv).toNat)
 case atStart => exact ⟨rfl,0,by omega,rfl,rfl⟩
 case round =>
  obtain ⟨rfl,k,hk,rfl,rfl⟩ := hrel
  by_cases h1 : k < 256
  ·have l1 : (k : Int) < 256 := by omega
   have hi := fun W => ach (P := Tryz.prog) W 44 23 256 A .i64 k _ Tryz.underlying44 Tryz.underlying23 rfl (by kernel_rfl) _ h1 (HA.out k h1)
   have hs : uy M.tok (k + 1) ≤ 4611686018427387904 := Nat.le_trans (awv M.tok (show k + 1 ≤ 256 by omega)) HT.out
   have k0 : IntKind.u64.wrap ((uy M.tok k : Int) + (M.tok k : Int)) = ((uy M.tok (k + 1) : Nat) : Int) := by
    have e : uy M.tok (k + 1) = uy M.tok k + M.tok k := rfl
    rw [IntWalk.u64_in _ (by omega),e]; omega
   have k1 : IntKind.i64.wrap ((k : Int) + 1) = ((k + 1 : Nat) : Int) := by rw [IntWalk.i64_in _ (by omega)]; omega
   generalize M.tok k = x at *
   generalize hS : uy M.tok k = s at *
   generalize hS1 : uy M.tok (k + 1) = s1 at *
   have HS := Lib.hid hS1
   clear hs hS hS1
   go_wp2_with fail
   go_roundw
   case rel => exact ⟨trivial,k + 1,by omega,rfl,by rw [HS.out]⟩
   case measure => simp [intOf]; omega
  ·obtain rfl : k = 256 := by omega
   go_wp2_with fail
   go_ret
   exact ⟨rfl,rfl⟩
def fzN (l : List Vlt) (p : Nat) : Int := if atV l p < l.length then (atV l p : Int) else -1
theorem aj1 {W : World} {b : Nat} {x : Vlt} (h : W.heap[b]? = some (.cells (aao x).toArray 111 (0,0))) : W.cell? ⟨b,0,none⟩ = some (.int .i64 (x.who : Int)) := by
 rw [gq,h,jg]
 rfl
theorem af9 (x : Vlt) : yg (aao x).toArray := by
 unfold yg
 rw [Array.all_eq_true_iff_forall_mem]
 intro u hu
 exact aru x u (by simpa using hu)
theorem aiz (h : RB B w m R M sv) (hl : M.vs.length ≤ 1000) (p : Nat) : Calls Tryz.prog 155 #[.pointer (some ⟨m,0,none⟩),.int .i64 (p : Int)] w fun e w' => e = .returned (.int .i64 (fzN M.vs p)) ∧ Fr F0 w w' := by
 obtain ⟨a,c,rfl,-⟩ := h.vs.is
 obtain ⟨n,hn⟩ : ∃ n,M.vs.length = n := ⟨_,rfl⟩
 rw [hn] at h hl
 have c31 := h.svc
 have HV := Lib.hid h.vs
 have HN := Lib.hid hn
 have F := Lib.hid (Fr.refl F0 w)
 clear h hn
 go_enter Tryz.func155,Tryz.ntmps155
 go_wp2_with fail
 go_loopw [12] (fun iv wr => ∃ k : Nat,k ≤ n ∧ iv = .int .i64 (k : Int) ∧ (∀ i,i < k → ∀ x,M.vs[i]? = some x → x.who ≠ p) ∧ Fr F0 w wr) (fun iv _ => n - (intOf iv).toNat)
 case atStart => exact ⟨0,by omega,rfl,fun i hi => absurd hi (Nat.not_lt_zero _),F.out⟩
 case round =>
  obtain ⟨k,hk,rfl,hno,f⟩ := hrel
  clear c31
  by_cases h1 : k < n
  ·have l1 : (k : Int) < (n : Int) := by omega
   obtain ⟨g,rfl⟩ := uj.agk HV.out h1
   have hr := List.getElem?_eq_getElem (show k < M.vs.length by have := HN.out; omega)
   obtain ⟨x,hx⟩ : ∃ x,M.vs[k]'(by have := HN.out; omega) = x := ⟨_,rfl⟩
   rw [hx] at hr
   have lds := uj.ar5 qo Tryz.underlying111 rfl Tryz.szRVault (HV.out.fr0 f) k x hr
   have oS := af9 x
   have k1 : IntKind.i64.wrap ((k : Int) + 1) = ((k + 1 : Nat) : Int) := by rw [IntWalk.i64_in _ (by omega)]; omega
   have HR := Lib.hid (And.intro hr (And.intro hno f))
   have sz := qo x
   clear hr hx hno f
   go_upto_region 4 with fail
   refine jc fun W3 N => ?_
   have c0 := aj1 N.new
   have F3 := Lib.hid (HR.out.2.2.trans' N.fr)
   clear N lds oS sz
   obtain ⟨b,hb⟩ : ∃ g,wr.heap.size = g := ⟨_,rfl⟩
   rw [hb] at c0 ⊢
   clear hb
   by_cases he : x.who = p
   ·have e1 : ((x.who : Int) == (p : Int)) = true := beq_iff_eq.2 (by omega)
    have HE := Lib.hid (show fzN M.vs p = (k : Int) by
     have e := aml HR.out.2.1 HR.out.1 he
     unfold fzN
     rw [e,if_pos (by have := HN.out; omega)])
    generalize x.who = q at *
    clear he
    go_wp2_with fail
    go_ret
    exact ⟨by rw [HE.out]; rfl,F3.out⟩
   ·have e1 : ((x.who : Int) == (p : Int)) = false := beq_eq_false_iff_ne.2 (by omega)
    have HE := Lib.hid he
    generalize hq : x.who = q at *
    clear he
    go_wp2_with fail
    go_roundw
    case rel =>
     refine ⟨k + 1,by omega,rfl,fun i hi z hz => ?_,F3.out⟩
     by_cases e : i = k
     ·subst e
      have := HR.out.1
      rw [hz] at this
      cases this
      rw [hq]
      exact HE.out
     ·exact HR.out.2.1 i (by omega) z hz
    case measure => simp [intOf]; omega
  ·obtain rfl : k = n := by omega
   have l1 : ¬ (k : Int) < (k : Int) := by omega
   have HE := Lib.hid (show fzN M.vs p = -1 by
    have e := aBj (l := M.vs) (w := p) (fun i hi => hno i (by have := HN.out; omega))
    unfold fzN
    rw [e,if_neg (Nat.lt_irrefl _)])
   have F3 := Lib.hid f
   clear hno f
   go_wp2_with fail
   go_ret
   exact ⟨by rw [HE.out]; rfl,F3.out⟩
end
end Go.Proofs.YtohckefafbhooaaGreat
namespace Go.Proofs.YtohckefafbhooaaGreat
set_option linter.unusedVariables false
set_option linter.unusedSimpArgs false
open Go.RowKit
attribute [-go_sem] gq
theorem aox (M : Bok) (p a : Nat) (fo : Bool) :
  (a = 0 ∧ opE M p a fo = 1) ∨ (a ≠ 0 ∧ 4611686018427387904 < a ∧ opE M p a fo = 1) ∨ (a ≠ 0 ∧ a ≤ 4611686018427387904 ∧ atV M.vs p = M.vs.length ∧ opE M p a fo = 12) ∨
  (∃ x,a ≠ 0 ∧ a ≤ 4611686018427387904 ∧ M.vs[atV M.vs p]? = some x ∧ x.fal = true ∧ fo = false ∧ opE M p a fo = 20) ∨
  (∃ x,a ≠ 0 ∧ a ≤ 4611686018427387904 ∧ M.vs[atV M.vs p]? = some x ∧ (x.fal = false ∨ (x.fal = true ∧ fo = true)) ∧ opE M p a fo = 0) := by
 unfold opE
 by_cases h0 : a = 0
 ·exact .inl ⟨h0,if_pos (.inl h0)⟩
 by_cases h1 : 4611686018427387904 < a
 ·exact .inr (.inl ⟨h0,h1,if_pos (.inr h1)⟩)
 rw [if_neg (by omega)]
 cases hx : M.vs[atV M.vs p]? with
 |none =>
  have hle : atV M.vs p ≤ M.vs.length := List.findIdx_le_length
  have := List.getElem?_eq_none_iff.1 hx
  exact .inr (.inr (.inl ⟨h0,by omega,by omega,rfl⟩))
 |some x =>
  dsimp only
  cases hf : x.fal with
  |false => exact .inr (.inr (.inr (.inr ⟨x,h0,by omega,rfl,.inl hf,by simp⟩)))
  |true =>
   cases fo with
   |false => exact .inr (.inr (.inr (.inl ⟨x,h0,by omega,rfl,hf,rfl,by simp⟩)))
   |true => exact .inr (.inr (.inr (.inr ⟨x,h0,by omega,rfl,.inr ⟨hf,rfl⟩,by simp⟩)))
section
variable {B : Nat} {w w' : World} {m : Nat} {R : Nat → Nat} {M : Bok} {sv : Value}
theorem awe {l : List Vlt} {p : Nat} {x : Vlt} (h : l[atV l p]? = some x) : fzN l p = (atV l p : Int) := if_pos (List.getElem?_eq_some_iff.1 h).1
theorem aEs {l : List Vlt} {p : Nat} (h : atV l p = l.length) : fzN l p = -1 := if_neg (by rw [h]; exact Nat.lt_irrefl _)
theorem RB.field {g n c j : Nat} {x : Vlt} (h : uj 111 27 aao B w (.slice (some ⟨g,0,none⟩) n c) M.vs) (hx : M.vs[j]? = some x) (k : Nat) {u : Value} (hu : [Value.int .u64 (x.coll : Int),.int .u64 (x.iss : Int),.int .u64 (x.com : Int),.int .u64 (x.goi : Int),.int .u64 (x.lea : Int),.bool x.fal][k]? = some u) :
  w.cell? ⟨g,j * 27 + (21 + k),none⟩ = some u := by
 rw [gq]
 exact uj.aDc qo h j (21 + k) x u hx (by rw [amg]; exact hu)
theorem xu (h : RB B w m R M sv) (hl : M.vs.length ≤ 1000) (p a : Nat) (fo : Bool) (he : opE M p a fo ≠ 0) :
  Calls Tryz.prog 136 #[.pointer (some ⟨m,0,none⟩),.int .i64 (p : Int),.int .u64 (a : Int),.bool fo] w fun e w' => e = .returned (.tuple #[.pointer none,.int .i64 (opE M p a fo)]) ∧ Fr F0 w w' := by
 have HF := Lib.hid (aiz h hl p)
 have F := Lib.hid (Fr.refl F0 w)
 rcases aox M p a fo with ⟨h0,e⟩ | ⟨h0,h1,e⟩ | ⟨h0,h1,h2,e⟩ | ⟨x,h0,h1,h2,h3,rfl,e⟩ | ⟨x,h0,h1,h2,h3,e⟩
 ·rw [e]
  subst h0
  clear he e h hl HF
  go_enter Tryz.func136,Tryz.ntmps136
  go_wp2_with fail
  go_ret2
  exact ⟨rfl,F.out⟩
 ·rw [e]
  have b0 : ((a : Int) == 0) = false := beq_eq_false_iff_ne.2 (by omega)
  have l1 : (4611686018427387904 : Int) < (a : Int) := by omega
  clear he e h hl HF h0 h1
  go_enter Tryz.func136,Tryz.ntmps136
  go_wp2_with fail
  go_ret2
  exact ⟨rfl,F.out⟩
 ·rw [e]
  rw [aEs h2] at HF
  have b0 : ((a : Int) == 0) = false := beq_eq_false_iff_ne.2 (by omega)
  have l1 : ¬ (4611686018427387904 : Int) < (a : Int) := by omega
  clear he e h hl h0 h1 h2
  go_enter Tryz.func136,Tryz.ntmps136
  go_wp2_with fail
  (with_reducible refine HF.out.mono ?_); rintro e w1 ⟨rfl,f1⟩
  have F1 := Lib.hid f1
  clear f1
  go_wp2_with fail
  go_ret2
  exact ⟨rfl,F1.out⟩
 ·rw [e]
  rw [awe h2] at HF
  have HW := Lib.hid (fun (W : World) (f : Fr F0 w W) => (h.fr0 f).svc)
  have hj := (List.getElem?_eq_some_iff.1 h2).1
  obtain ⟨a',c,rfl,-⟩ := h.vs.is
  obtain ⟨g,rfl⟩ := uj.agk h.vs hj
  have H26 := Lib.hid (fun (W : World) (f : Fr F0 w W) => RB.field (h.vs.fr0 f) h2 5 rfl)
  rw [h3] at H26
  obtain ⟨n,hn⟩ : ∃ n,M.vs.length = n := ⟨_,rfl⟩
  obtain ⟨j,hj'⟩ : ∃ j,atV M.vs p = j := ⟨_,rfl⟩
  rw [hn,hj'] at hj
  rw [hj'] at H26 HF
  rw [hn] at HW
  have b0 : ((a : Int) == 0) = false := beq_eq_false_iff_ne.2 (by omega)
  have l1 : ¬ (4611686018427387904 : Int) < (a : Int) := by omega
  have l2 : ¬ (j : Int) < 0 := by omega
  have l3 : (j : Int) < (n : Int) := by omega
  clear he e h hl h0 h1 h2 h3 hn hj'
  go_enter Tryz.func136,Tryz.ntmps136
  go_wp2_with fail
  (with_reducible refine HF.out.mono ?_); rintro e w1 ⟨rfl,f1⟩
  have c31 := HW.out w1 f1
  have c26 := H26.out w1 f1
  have F1 := Lib.hid f1
  clear f1
  go_wp2_with fail
  go_ret2
  exact ⟨rfl,F1.out⟩
 ·exact absurd e he
theorem xk {g n c : Nat} (h : RB B w m R M (.slice (some ⟨g,0,none⟩) n c)) (hl : M.vs.length ≤ 1000) (p a : Nat) (fo : Bool) {x : Vlt} (hx : M.vs[atV M.vs p]? = some x) (he : opE M p a fo = 0) :
  Calls Tryz.prog 136 #[.pointer (some ⟨m,0,none⟩),.int .i64 (p : Int),.int .u64 (a : Int),.bool fo] w fun e w' => e = .returned (.tuple #[.pointer (some ⟨g,atV M.vs p * 27,none⟩),.int .i64 0]) ∧ Fr F0 w w' := by
 have HF := Lib.hid (aiz h hl p)
 rw [awe hx] at HF
 have hf : a ≠ 0 ∧ a ≤ 4611686018427387904 ∧ (x.fal = false ∨ (x.fal = true ∧ fo = true)) := by
  rcases aox M p a fo with ⟨h0,e⟩ | ⟨h0,h1,e⟩ | ⟨h0,h1,h2,e⟩ | ⟨x,h0,h1,h2,h3,rfl,e⟩ | ⟨y,h0,h1,h2,h3,e⟩
  ·rw [he] at e; cases e
  ·rw [he] at e; cases e
  ·rw [he] at e; cases e
  ·rw [he] at e; cases e
  ·rw [hx] at h2; cases h2; exact ⟨h0,h1,h3⟩
 obtain ⟨h0,h1,h3⟩ := hf
 have HW := Lib.hid (fun (W : World) (f : Fr F0 w W) => (h.fr0 f).svc)
 have hj := (List.getElem?_eq_some_iff.1 hx).1
 have hn := uj.len h.vs
 have H26 := Lib.hid (fun (W : World) (f : Fr F0 w W) => RB.field (h.vs.fr0 f) hx 5 rfl)
 obtain ⟨j,hj'⟩ : ∃ j,atV M.vs p = j := ⟨_,rfl⟩
 rw [← hn,hj'] at hj
 rw [hj'] at H26 HF ⊢
 have b0 : ((a : Int) == 0) = false := beq_eq_false_iff_ne.2 (by omega)
 have l1 : ¬ (4611686018427387904 : Int) < (a : Int) := by omega
 have l2 : ¬ (j : Int) < 0 := by omega
 have l3 : (j : Int) < (n : Int) := by omega
 clear he h hl h0 h1 hn hj' hx
 rcases h3 with h3 | ⟨h3,rfl⟩
 all_goals
  rw [h3] at H26
  clear h3
  go_enter Tryz.func136,Tryz.ntmps136
  go_wp2_with fail
  (with_reducible refine HF.out.mono ?_); rintro e w1 ⟨rfl,f1⟩
  have c31 := HW.out w1 f1
  have c26 := H26.out w1 f1
  have F1 := Lib.hid f1
  clear f1
  go_wp2_with fail
  go_ret2
  exact ⟨rfl,F1.out⟩
theorem aff (a u b : Nat) (more : Bool) (ha : a ≤ 4611686018427387904) (hu : u < 18446744073709551616) (hb : b < 18446744073709551616) (hb0 : 0 < b) (q : Nat) (hq : rdQ (a * u) b more = q) (hq2 : q ≤ 4611686018427387904) (w : World) :
  Calls Tryz.prog 135 #[.int .u64 (a : Int),.int .u64 (u : Int),.int .u64 (b : Int),.bool more] w fun e w' => e = .returned (.int .u64 (q : Int)) ∧ Fr F0 w w' := by
 have HA := Lib.hid (fun p w h => aat [a,u] p 2 2 rfl (by simp) (by simp; omega) (a * u) (by simp [prd]) w h)
 have HN := Lib.hid (ags b hb)
 have HDv := Lib.hid (fun p1 c1 p2 c2 w h1 h2 => anw (a * u) b more p1 c1 p2 c2 q q true hb0 (al1 a u (by omega) hu) (acw b hb) hq (if_pos hq2) (decide_eq_true hq2) w h1 h2)
 clear ha hu hb hb0 hq hq2
 generalize a * u = A at *
 go_enter Tryz.func135,Tryz.ntmps135
 go_wp2_with fail
 obtain ⟨W1,hW1⟩ : ∃ W,W = w.alloc (.cells #[.int .u64 (a : Int),.int .u64 (u : Int)] 23) := ⟨_,rfl⟩
 refine Calls.abt W1 hW1 ?_
 have u1 : Us W1 (some ⟨w.heap.size,0,none⟩) 2 [a,u] := by rw [hW1]; exact Us.of2 _ a u _
 have F1 : Fr F0 w W1 := by rw [hW1]; exact (Fr.refl _ _).alloc _
 clear hW1
 (with_reducible refine (HA.out _ _ u1).mono ?_); rintro e w3 ⟨p3,c3,rfl,n3,f⟩
 have F3 := Lib.hid (F1.trans' f)
 clear f u1 F1
 go_wp2_with fail
 (with_reducible refine (HN.out _).mono ?_); rintro e w4 ⟨p4,c4,rfl,n4,f⟩
 replace n3 := Us.fr n3 f
 have F4 := Lib.hid (F3.out.trans' f)
 clear f F3
 go_wp2_with fail
 (with_reducible refine (HDv.out _ _ _ _ _ n3 n4).mono ?_); rintro e w5 ⟨rfl,f⟩
 have F5 := Lib.hid (F4.out.trans' f)
 clear f F4 n3 n4
 go_wp2_with fail
 go_ret
 exact ⟨rfl,F5.out⟩
end
end Go.Proofs.YtohckefafbhooaaGreat
namespace Go.Proofs.YtohckefafbhooaaGreat
set_option linter.unusedVariables false
set_option linter.unusedSimpArgs false
open Go.RowKit
attribute [-go_sem] gq
theorem xw {R : Nat → Nat} {M M' : Bok} {sv sv' : Value} (k : Nat) (h11 : k = 11 → M'.now = M.now) (h12 : k = 12 → M'.price = M.price) (h13 : k = 13 → M'.told = M.told) (ht : ∀ j,k = 14 + j → j < 256 → M'.tok j = M.tok j) (hf : ∀ j,k = 270 + j → j < 256 → M'.free j = M.free j)
  (h26 : k = 526 → M'.held = M.held) (h27 : k = 527 → M'.inn = M.inn) (h28 : k = 528 → M'.out = M.out) (h29 : k = 529 → M'.pc = M.pc) (h30 : k = 530 → M'.pn = M.pn) (h31 : k = 531 → sv' = sv) (h32 : k = 532 → M'.dep = M.dep) (hk : k < 533) :
  ahx R M' sv' k = ahx R M sv k := by
 by_cases a0 : k < 11
 ·rw [aey _ _ _ a0,aey _ _ _ a0]
 by_cases a1 : k = 11
 ·subst a1; show Value.int .u64 (M'.now : Nat) = .int .u64 (M.now : Nat); rw [h11 rfl]
 by_cases a2 : k = 12
 ·subst a2; show Value.int .u64 (M'.price : Nat) = .int .u64 (M.price : Nat); rw [h12 rfl]
 by_cases a3 : k = 13
 ·subst a3; show Value.int .u64 (M'.told : Nat) = .int .u64 (M.told : Nat); rw [h13 rfl]
 by_cases a4 : k < 270
 ·obtain ⟨j,rfl⟩ : ∃ j,k = 14 + j := ⟨k - 14,by omega⟩
  rw [agf _ _ _ (by omega),agf _ _ _ (by omega),ht j rfl (by omega)]
 by_cases a5 : k < 526
 ·obtain ⟨j,rfl⟩ : ∃ j,k = 270 + j := ⟨k - 270,by omega⟩
  rw [aez _ _ _ (by omega),aez _ _ _ (by omega),hf j rfl (by omega)]
 have h : k = 526 ∨ k = 527 ∨ k = 528 ∨ k = 529 ∨ k = 530 ∨ k = 531 ∨ k = 532 := by omega
 rcases h with rfl | rfl | rfl | rfl | rfl | rfl | rfl
 ·show Value.int .u64 (M'.held : Nat) = .int .u64 (M.held : Nat); rw [h26 rfl]
 ·show Value.int .u64 (M'.inn : Nat) = .int .u64 (M.inn : Nat); rw [h27 rfl]
 ·show Value.int .u64 (M'.out : Nat) = .int .u64 (M.out : Nat); rw [h28 rfl]
 ·show Value.int .u64 (M'.pc : Nat) = .int .u64 (M.pc : Nat); rw [h29 rfl]
 ·show Value.int .u64 (M'.pn : Nat) = .int .u64 (M.pn : Nat); rw [h30 rfl]
 ·show sv' = sv; rw [h31 rfl]
 ·show Value.int .u64 (M'.dep : Nat) = .int .u64 (M.dep : Nat); rw [h32 rfl]
theorem BF.congr {w : World} {m : Nat} {F G : Nat → Value} (d : BF w m F) (h : ∀ k,k < 533 → F k = G k) : BF w m G := by
 obtain ⟨cs,h1,h2,h3⟩ := d
 exact ⟨cs,h1,h2,fun k hk => by rw [h3 k hk,h k hk]⟩
section
variable {B : Nat} {w w' : World} {m : Nat} {R : Nat → Nat} {M : Bok} {sv : Value}
theorem RB.setAt (h : RB B w m R M sv) {x : Nat} (hx : x < 533) {v : Value} {M' : Bok} (hv : ahx R M' sv x = v) (hk : ∀ k,k < 533 → k ≠ x → ahx R M' sv k = ahx R M sv k) (he : M'.vs = M.vs) : RB B (w.setCell ⟨m,x,none⟩ v) m R M' sv :=
 ⟨(h.blk.set hx v).congr (updM R M sv hv hk),by rw [he]; exact h.vs.frS BF.put fun k hk e => h.off (by rw [hk]; exact congrArg some e),h.base⟩
theorem RB.alh (h : RB B w m R M sv) {j : Nat} (hj : j < 256) (x : Nat) : RB B (w.setCell ⟨m,14 + j,none⟩ (.int .u64 (x : Nat))) m R { M with tok := upd M.tok j x } sv := by
 refine h.setAt (by omega) ?_ (fun k hk hne => ?_) rfl
 ·rw [agf _ _ _ hj]; dsimp only; rw [upd_same]
 ·refine xw k ?_ ?_ ?_ ?_ ?_ ?_ ?_ ?_ ?_ ?_ ?_ ?_ hk <;> first | exact fun _ => rfl | exact fun i e _ => rfl | exact fun i e _ => aaf (by omega)
theorem RB.ab7 (h : RB B w m R M sv) {j : Nat} (hj : j < 256) (x : Nat) : RB B (w.setCell ⟨m,270 + j,none⟩ (.int .u64 (x : Nat))) m R { M with free := upd M.free j x } sv := by
 refine h.setAt (by omega) ?_ (fun k hk hne => ?_) rfl
 ·rw [aez _ _ _ hj]; dsimp only; rw [upd_same]
 ·refine xw k ?_ ?_ ?_ ?_ ?_ ?_ ?_ ?_ ?_ ?_ ?_ ?_ hk <;> first | exact fun _ => rfl | exact fun i e _ => rfl | exact fun i e _ => aaf (by omega)
theorem RB.adx (h : RB B w m R M sv) (x : Nat) : RB B (w.setCell ⟨m,526,none⟩ (.int .u64 (x : Nat))) m R { M with held := x } sv := by
 refine h.setAt (by omega) rfl (fun k hk hne => ?_) rfl
 refine xw k ?_ ?_ ?_ ?_ ?_ ?_ ?_ ?_ ?_ ?_ ?_ ?_ hk <;> first | exact fun _ => rfl | exact fun i e _ => rfl | exact fun e => absurd e hne
theorem RB.aJe (h : RB B w m R M sv) (x : Nat) : RB B (w.setCell ⟨m,527,none⟩ (.int .u64 (x : Nat))) m R { M with inn := x } sv := by
 refine h.setAt (by omega) rfl (fun k hk hne => ?_) rfl
 refine xw k ?_ ?_ ?_ ?_ ?_ ?_ ?_ ?_ ?_ ?_ ?_ ?_ hk <;> first | exact fun _ => rfl | exact fun i e _ => rfl | exact fun e => absurd e hne
theorem RB.aJd (h : RB B w m R M sv) (x : Nat) : RB B (w.setCell ⟨m,528,none⟩ (.int .u64 (x : Nat))) m R { M with out := x } sv := by
 refine h.setAt (by omega) rfl (fun k hk hne => ?_) rfl
 refine xw k ?_ ?_ ?_ ?_ ?_ ?_ ?_ ?_ ?_ ?_ ?_ ?_ hk <;> first | exact fun _ => rfl | exact fun i e _ => rfl | exact fun e => absurd e hne
theorem RB.aom (h : RB B w m R M sv) (x : Nat) : RB B (w.setCell ⟨m,529,none⟩ (.int .u64 (x : Nat))) m R { M with pc := x } sv := by
 refine h.setAt (by omega) rfl (fun k hk hne => ?_) rfl
 refine xw k ?_ ?_ ?_ ?_ ?_ ?_ ?_ ?_ ?_ ?_ ?_ ?_ hk <;> first | exact fun _ => rfl | exact fun i e _ => rfl | exact fun e => absurd e hne
theorem RB.ale (h : RB B w m R M sv) (x : Nat) : RB B (w.setCell ⟨m,530,none⟩ (.int .u64 (x : Nat))) m R { M with pn := x } sv := by
 refine h.setAt (by omega) rfl (fun k hk hne => ?_) rfl
 refine xw k ?_ ?_ ?_ ?_ ?_ ?_ ?_ ?_ ?_ ?_ ?_ ?_ hk <;> first | exact fun _ => rfl | exact fun i e _ => rfl | exact fun e => absurd e hne
theorem RB.ali (h : RB B w m R M sv) (x : Nat) : RB B (w.setCell ⟨m,532,none⟩ (.int .u64 (x : Nat))) m R { M with dep := x } sv := by
 refine h.setAt (by omega) rfl (fun k hk hne => ?_) rfl
 refine xw k ?_ ?_ ?_ ?_ ?_ ?_ ?_ ?_ ?_ ?_ ?_ ?_ hk <;> first | exact fun _ => rfl | exact fun i e _ => rfl | exact fun e => absurd e hne
theorem RB.avd (h : RB B w m R M sv) (x : Nat) : RB B (w.setCell ⟨m,11,none⟩ (.int .u64 (x : Nat))) m R { M with now := x } sv := by
 refine h.setAt (by omega) rfl (fun k hk hne => ?_) rfl
 refine xw k ?_ ?_ ?_ ?_ ?_ ?_ ?_ ?_ ?_ ?_ ?_ ?_ hk <;> first | exact fun _ => rfl | exact fun i e _ => rfl | exact fun e => absurd e hne
theorem RB.azw (h : RB B w m R M sv) (x : Nat) : RB B (w.setCell ⟨m,12,none⟩ (.int .u64 (x : Nat))) m R { M with price := x } sv := by
 refine h.setAt (by omega) rfl (fun k hk hne => ?_) rfl
 refine xw k ?_ ?_ ?_ ?_ ?_ ?_ ?_ ?_ ?_ ?_ ?_ ?_ hk <;> first | exact fun _ => rfl | exact fun i e _ => rfl | exact fun e => absurd e hne
theorem RB.aDn (h : RB B w m R M sv) (x : Nat) : RB B (w.setCell ⟨m,13,none⟩ (.int .u64 (x : Nat))) m R { M with told := x } sv := by
 refine h.setAt (by omega) rfl (fun k hk hne => ?_) rfl
 refine xw k ?_ ?_ ?_ ?_ ?_ ?_ ?_ ?_ ?_ ?_ ?_ ?_ hk <;> first | exact fun _ => rfl | exact fun i e _ => rfl | exact fun e => absurd e hne
theorem RB.drew (h : RB B w m R M sv) : RB B w.drew m R M sv := h.fr0 (Fr.refl F0 w).drew
theorem RB.aC7 (h : RB B w m R M sv) {sv' : Value} {l : List Vlt} (hv : uj 111 27 aao B w sv' l) : RB B (w.setCell ⟨m,531,none⟩ sv') m R { M with vs := l } sv' := by
 refine ⟨(h.blk.set (by omega) sv').congr (updM R M sv rfl fun k hk hne => ?_),hv.frS BF.put fun k hk e => ?_,h.base⟩
 ·refine xw k ?_ ?_ ?_ ?_ ?_ ?_ ?_ ?_ ?_ ?_ ?_ ?_ hk <;> first | exact fun _ => rfl | exact fun i e _ => rfl | exact fun e => absurd e hne
 ·obtain ⟨cs,h1,_⟩ := h.blk
  exact hv.other h1 (by decide) (by rw [hk]; exact congrArg some e)
theorem RB.ac8 {g n c j : Nat} {x y : Vlt} (h : RB B w m R M (.slice (some ⟨g,0,none⟩) n c)) (hx : M.vs[j]? = some x) (k : Nat) (hk : k < 6) {u : Value} (hy : (aao x).set (21 + k) u = aao y) :
  RB B (w.setCell ⟨g,j * 27 + (21 + k),none⟩ u) m R (M.uh j y) (.slice (some ⟨g,0,none⟩) n c) := by
 have hv := uj.setC qo h.vs j (21 + k) y u (List.getElem?_eq_some_iff.1 hx).1 (by omega) (fun z hz => by rw [hx] at hz; cases hz; exact hy)
 refine ⟨?_,hv,h.base⟩
 have hb : BF (w.setCell ⟨g,j * 27 + (21 + k),none⟩ u) m (ahx R M (.slice (some ⟨g,0,none⟩) n c)) := h.blk.fr ((Fr.refl (fun i => i = g) w).setCell (p := ⟨g,j * 27 + (21 + k),none⟩) (fun _ => rfl) u) (fun e => h.off (by rw [e]; rfl))
 exact hb.congr fun i hi => by
  refine xw i ?_ ?_ ?_ ?_ ?_ ?_ ?_ ?_ ?_ ?_ ?_ ?_ hi <;> first | exact fun _ => rfl | exact fun i e _ => rfl
theorem RB.og {g n c : Nat} (h : RB B w m R M (.slice (some ⟨g,0,none⟩) n c)) (j : Nat) : Obj.frozenAt j w.heap[g]? = false := by
 obtain ⟨cur,hc⟩ := h.vs.kind (k := g) rfl
 rw [hc]; rfl
theorem aby (h : RB B w m R M sv) (hn : M.now ≤ 1099511627776) (hp : M.price ≤ 1099511627776) (hR : R 0 < 18446744073709551616) (c q : Nat) (hc : c < 18446744073709551616) (hq : q < 18446744073709551616) :
  Calls Tryz.prog 137 #[.pointer (some ⟨m,0,none⟩),.int .u64 (c : Int),.int .u64 (q : Int)] w fun e w' => e = .returned (.int .i64 (ahw R M c q)) ∧ Fr F0 w w' := by
 have HA := Lib.hid (ahf h hn)
 have H0 := Lib.hid (fun (W : World) (f : Fr F0 w W) => (h.fr0 f).rule (k := 0) (by omega))
 have HE := Lib.hid (fun o ho W => anv c q M.price (R 0) hc hq (by omega) hR o ho W)
 have hs : (prE (R 4) M.price M.told M.now ≠ 0 ∧ ahw R M c q = prE (R 4) M.price M.told M.now) ∨ (prE (R 4) M.price M.told M.now = 0 ∧ prV (R 4) M.price M.told M.now = M.price ∧ ((4611686018427387904 < q ∧ ahw R M c q = 4) ∨ (¬ 4611686018427387904 < q ∧ ∃ o,decide (enP c q M.price (R 0)) = o ∧ ahw R M c q = if o = true then 0 else 19))) := by
  unfold ahw
  by_cases h0 : prE (R 4) M.price M.told M.now = 0
  ·refine .inr ⟨h0,by unfold prV; rw [if_pos h0],?_⟩
   rw [if_pos h0]
   by_cases h1 : 4611686018427387904 < q
   ·exact .inl ⟨h1,if_pos h1⟩
   ·refine .inr ⟨h1,_,rfl,?_⟩
    rw [if_neg h1]
    by_cases h2 : enP c q M.price (R 0)
    ·rw [if_pos h2,if_pos (decide_eq_true h2)]
    ·rw [if_neg h2,decide_eq_false h2]; rfl
  ·exact .inl ⟨h0,if_neg h0⟩
 generalize ahw R M c q = E at *
 generalize prE (R 4) M.price M.told M.now = e0 at *
 generalize prV (R 4) M.price M.told M.now = v0 at *
 generalize M.price = p at *
 generalize R 0 = t at *
 clear h hn hp hR hc hq
 rcases hs with ⟨h0,rfl⟩ | ⟨rfl,rfl,⟨h1,rfl⟩ | ⟨h1,o,ho,hE⟩⟩
 ·have b0 : (E != 0) = true := bne_iff_ne.2 h0
  clear h0
  go_enter Tryz.func137,Tryz.ntmps137
  go_wp2_with fail
  (with_reducible refine HA.out.mono ?_); rintro e w1 ⟨rfl,f1⟩
  have F1 := Lib.hid f1
  clear f1
  go_wp2_with fail
  go_ret
  exact ⟨rfl,F1.out⟩
 ·have l1 : (4611686018427387904 : Int) < (q : Int) := by omega
  clear h1
  go_enter Tryz.func137,Tryz.ntmps137
  go_wp2_with fail
  (with_reducible refine HA.out.mono ?_); rintro e w1 ⟨rfl,f1⟩
  have F1 := Lib.hid f1
  clear f1
  go_wp2_with fail
  go_ret
  exact ⟨rfl,F1.out⟩
 ·have l1 : ¬ (4611686018427387904 : Int) < (q : Int) := by omega
  have HE1 := Lib.hid (HE.out o ho)
  clear h1 ho HE
  go_enter Tryz.func137,Tryz.ntmps137
  go_wp2_with fail
  (with_reducible refine HA.out.mono ?_); rintro e w1 ⟨rfl,f1⟩
  have c0 := H0.out w1 f1
  have F1 := Lib.hid f1
  clear f1
  go_wp2_with fail
  (with_reducible refine (HE1.out _).mono ?_); rintro e w2 ⟨rfl,f2⟩
  have F2 := Lib.hid (F1.out.trans' f2)
  clear f2 c0
  cases o
  ·replace hE := Lib.hid hE
   go_wp2_with fail
   go_ret
   exact ⟨by rw [hE.out]; rfl,F2.out⟩
  ·replace hE := Lib.hid hE
   go_wp2_with fail
   go_ret
   exact ⟨by rw [hE.out]; rfl,F2.out⟩
theorem ag1 (h : RB B w m R M sv) (ht : uy M.tok 256 ≤ 4611686018427387904) (v a : Nat) (ha : a ≤ 4611686018427387904) (hs : 4611686018427387904 < uy M.tok 256 + a) :
  Calls Tryz.prog 138 #[.pointer (some ⟨m,0,none⟩),.int .i64 (v : Int),.int .u64 (a : Int)] w fun e w' => e = .returned (.int .i64 4) ∧ Fr F0 w w' := by
 have HT := Lib.hid (ad6 h ht)
 have m1 : IntKind.u64.wrap (4611686018427387904 - (a : Int)) = ((4611686018427387904 - a : Nat) : Int) := by rw [IntWalk.u64_in _ (by omega)]; omega
 generalize uy M.tok 256 = t at *
 obtain ⟨z,hz⟩ : ∃ z,4611686018427387904 - a = z := ⟨_,rfl⟩
 rw [hz] at m1
 have l1 : (z : Int) < (t : Int) := by omega
 clear h ht ha hs hz
 go_enter Tryz.func138,Tryz.ntmps138
 go_wp2_with fail
 (with_reducible refine HT.out.mono ?_); rintro e w1 ⟨rfl,hw⟩; replace hw := hw.symm; subst hw
 go_wp2_with fail
 go_ret
 exact ⟨rfl,Fr.refl _ _⟩
theorem ag0 (h : RB B w m R M sv) (ht : uy M.tok 256 ≤ 4611686018427387904) (v a : Nat) (hv : v < 256) (ha : a ≤ 4611686018427387904) (hs : ¬ 4611686018427387904 < uy M.tok 256 + a) :
  Calls Tryz.prog 138 #[.pointer (some ⟨m,0,none⟩),.int .i64 (v : Int),.int .u64 (a : Int)] w fun e w' => e = .returned (.int .i64 0) ∧ RB B w' m R { M with tok := upd M.tok v (M.tok v + a) } sv ∧ Fr (fun k => k = m) w w' := by
 have HT := Lib.hid (ad6 h ht)
 have HH := Lib.hid h
 have m1 : IntKind.u64.wrap (4611686018427387904 - (a : Int)) = ((4611686018427387904 - a : Nat) : Int) := by rw [IntWalk.u64_in _ (by omega)]; omega
 have hle := agq M.tok 256 v hv
 have m2 : IntKind.u64.wrap ((M.tok v : Int) + (a : Int)) = ((M.tok v + a : Nat) : Int) := by rw [IntWalk.u64_in _ (by omega)]; omega
 have c := h.tok hv
 have z7 := h.blk.frozen (14 + v)
 obtain ⟨tv,htv⟩ : ∃ t,M.tok v = t := ⟨_,rfl⟩
 rw [htv] at m2 hle c ⊢
 generalize uy M.tok 256 = t at *
 obtain ⟨z,hz⟩ : ∃ z,4611686018427387904 - a = z := ⟨_,rfl⟩
 obtain ⟨y,hy⟩ : ∃ z,tv + a = z := ⟨_,rfl⟩
 rw [hz] at m1
 rw [hy] at m2 ⊢
 have l1 : ¬ (z : Int) < (t : Int) := by omega
 have l2 : (v : Int) < 256 := by omega
 have HV := Lib.hid hv
 clear h ht ha hs hz hle hy htv hv
 go_enter Tryz.func138,Tryz.ntmps138
 go_wp2_with fail
 (with_reducible refine HT.out.mono ?_); rintro e w1 ⟨rfl,hw⟩; replace hw := hw.symm; subst hw
 go_upto_region 3 with fail
 go_region
 go_wp2_with fail
 go_ret
 exact ⟨rfl,(HH.out.alh HV.out y).drew,BF.put.drew⟩
end
end Go.Proofs.YtohckefafbhooaaGreat
namespace Go.Proofs.YtohckefafbhooaaGreat
set_option linter.unusedVariables false
set_option linter.unusedSimpArgs false
open Go.RowKit
attribute [-go_sem] gq
section
variable {B : Nat} {w w' : World} {m : Nat} {R : Nat → Nat} {M : Bok} {sv : Value}
theorem aq7 (a b : Nat) : rdQ a b false = a / b := by unfold rdQ; rw [if_neg fun h => by cases h.1]
theorem RB.putRow {g j k : Nat} {u : Value} : Fr (fun i => i = m ∨ i = g) w (w.setCell ⟨g,j * 27 + (21 + k),none⟩ u) := (Fr.refl (fun i => i = m ∨ i = g) w).setCell (p := ⟨g,j * 27 + (21 + k),none⟩) (fun _ => .inr rfl) u
theorem RB.aJm {g x : Nat} {u : Value} : Fr (fun i => i = m ∨ i = g) w (w.setCell ⟨m,x,none⟩ u) := (Fr.refl (fun i => i = m ∨ i = g) w).setCell (p := ⟨m,x,none⟩) (fun _ => .inl rfl) u
theorem ac4 {g n c j : Nat} {x : Vlt} (h : RB B w m R M (.slice (some ⟨g,0,none⟩) n c)) (hM : M.Ok) (hx : M.vs[j]? = some x) (a : Nat) (ha : a ≤ x.goi) (h0 : 0 < a) :
  Calls Tryz.prog 139 #[.pointer (some ⟨m,0,none⟩),.pointer (some ⟨g,j * 27,none⟩),.int .u64 (a : Int)] w fun e w' => e = .returned (.tuple #[]) ∧ RB B w' m R { M.uh j { x with coll := x.coll - x.coll * a / x.goi } with pc := M.pc + x.coll * a / x.goi } (.slice (some ⟨g,0,none⟩) n c) ∧ Fr (fun i => i = m ∨ i = g) w w' := by
 have hxo := hM.vok x (jh hx)
 have hb := hxo.bur
 unfold Vlt.bur at hb
 have hcl := hM.uf hx
 have hhl := hM.yj
 have hpc : M.pc + x.coll ≤ M.held := by
  have := qx Vlt.coll M.vs x (jh hx)
  have := hM.held
  omega
 have hle : x.coll * a / x.goi ≤ x.coll := afd ha
 have HP := Lib.hid (aff x.coll a x.goi false (by omega) (by omega) (by omega) (by omega) _ (aq7 _ _) (by omega))
 have c21 := RB.field h.vs hx 0 rfl
 have c24 := RB.field h.vs hx 3 rfl
 generalize hq : x.coll * a / x.goi = q at *
 have HH := Lib.hid (fun (W : World) (f : Fr F0 w W) => (h.fr0 f).ac8 hx 0 (by omega) (u := .int .u64 ((x.coll - q : Nat) : Int)) (y := { x with coll := x.coll - q }) (by rw [jl]; rfl))
 have HC := Lib.hid (fun (W : World) (f : Fr F0 w W) => RB.field (h.fr0 f).vs hx 0 rfl)
 have HZ := Lib.hid (fun (W : World) (f : Fr F0 w W) => (h.fr0 f).og (j * 27 + (21 + 0)))
 have m1 : IntKind.u64.wrap ((x.coll : Int) - (q : Int)) = ((x.coll - q : Nat) : Int) := by rw [IntWalk.u64_in _ (by omega)]; omega
 have m2 : IntKind.u64.wrap ((M.pc : Int) + (q : Int)) = ((M.pc + q : Nat) : Int) := by rw [IntWalk.u64_in _ (by omega)]; omega
 clear h hM hx hxo hb hcl hhl hpc hle hq ha h0
 obtain ⟨y,hy⟩ : ∃ y,M.pc + q = y := ⟨_,rfl⟩
 rw [hy] at m2 ⊢
 clear hy
 generalize hM' : ({ M.uh j { x with coll := x.coll - q } with pc := y } : Bok) = M'
 have HM' := Lib.hid hM'
 clear hM'
 go_enter Tryz.func139,Tryz.ntmps139
 go_upto_region 0 with fail
 refine zn (S := (fun w' => (w'.cell? ⟨g,j * 27 + (21 + 0),none⟩ = some (.int .u64 (x.coll : Int)) ∧ w'.cell? ⟨g,j * 27 + (21 + 3),none⟩ = some (.int .u64 (x.goi : Int))) ∧ Fr F0 w w')) ?_ fun aj => ?_
 ·exact(by ((try dsimp only) <;> (exact ⟨⟨c21,c24⟩,(Fr.refl F0 w).drew⟩)))
 refine au 0 ?_
 refine au 1 ?_
 refine au 2 ?_
 refine au 3 ?_
 refine au 4 ?_
 refine au 5 ?_
 refine au 6 ?_
 refine au 7 ?_
 refine au 8 ?_
 refine zi 9 fun K hK => ?_
 go_simp
 ((with_reducible refine (HP.out _).mono ?_); rintro e w5 ⟨rfl,f5⟩)
 refine rpu hK (by ((try dsimp only) <;> (first | exact aj | exact ⟨⟨f5.cell (fun e => e) aj.1.1,f5.cell (fun e => e) aj.1.2⟩,aj.2.trans' f5⟩))) fun aj => ?_
 clear hK K
 refine au 10 ?_
 refine aap ?_
 obtain ⟨⟨d21,-⟩,F5⟩ := aj
 have z7 := HZ.out w5 F5
 have F5' := Lib.hid F5
 clear c21 c24 f5 F5
 go_upto_region 2 with fail
 have H6 := Lib.hid (And.intro (HH.out w5 F5'.out) (F5'.out.of0.trans' (RB.putRow (m := m) (w := w5) (g := g) (j := j) (k := 0) (u := .int .u64 ((x.coll - q : Nat) : Int)))))
 clear d21 z7 HH HC HZ
 replace H6 : Hid (RB B (w5.setCell ⟨g,j * 27 + 21,none⟩ (.int .u64 ((x.coll - q : Nat) : Int))) m R _ _ ∧ Fr (fun i => i = m ∨ i = g) w (w5.setCell ⟨g,j * 27 + 21,none⟩ (.int .u64 ((x.coll - q : Nat) : Int)))) := H6
 generalize w5.setCell ⟨g,j * 27 + 21,none⟩ (.int .u64 ((x.coll - q : Nat) : Int)) = w6 at *
 have c29 : w6.cell? ⟨m,529,none⟩ = some (.int .u64 (M.pc : Int)) := H6.out.1.pc
 have z8 := H6.out.1.blk.frozen 529
 go_wp2_with fail
 go_end0
 exact ⟨rfl,by rw [← HM'.out]; exact H6.out.1.aom y,H6.out.2.trans' RB.aJm⟩
end
end Go.Proofs.YtohckefafbhooaaGreat
namespace Go.Proofs.YtohckefafbhooaaGreat
set_option linter.unusedVariables false
set_option linter.unusedSimpArgs false
open Go.RowKit
attribute [-go_sem] gq
theorem avr (w : World) (x y a b : Nat) (t t' : TypeId) : Us ((w.alloc (.cells #[.int .u64 (x : Int),.int .u64 (y : Int)] t)).alloc (.cells #[.int .u64 (a : Int),.int .u64 (b : Int)] t')).drew (some ⟨w.heap.size,0,none⟩) 2 [x,y] := Us.fr (Us.of2 w x y t) ((Fr.refl F0 _).alloc _).drew
theorem avq (w : World) (x y a b : Nat) (t t' : TypeId) : Us ((w.alloc (.cells #[.int .u64 (x : Int),.int .u64 (y : Int)] t)).alloc (.cells #[.int .u64 (a : Int),.int .u64 (b : Int)] t')).drew (some ⟨w.heap.size + 1,0,none⟩) 2 [a,b] := by
 have := Us.of2 (w.alloc (.cells #[.int .u64 (x : Int),.int .u64 (y : Int)] t)) a b t'
 rw [World.size_alloc] at this
 exact Us.fr this (Fr.refl F0 _).drew
theorem ajs (w : World) (x y : Nat) (t : TypeId) : Us (w.alloc (.cells #[.int .u64 (x : Int),.int .u64 (y : Int)] t)).drew (some ⟨w.heap.size,0,none⟩) 2 [x,y] := Us.fr (Us.of2 w x y t) (Fr.refl F0 _).drew
theorem aC5 (w : World) (d : Nat) (t : TypeId) : Us (w.alloc (.cells #[.int .u64 (d : Int),.int .u64 1000] t)).drew (some ⟨w.heap.size,0,none⟩) 2 [d,1000] := ajs w d 1000 t
theorem aC4 (w : World) (d a b : Nat) (t t' : TypeId) : Us ((w.alloc (.cells #[.int .u64 (d : Int),.int .u64 1000] t)).alloc (.cells #[.int .u64 (a : Int),.int .u64 (b : Int)] t')).drew (some ⟨w.heap.size,0,none⟩) 2 [d,1000] := avr w d 1000 a b t t'
theorem aC3 (w : World) (d a b : Nat) (t t' : TypeId) : Us ((w.alloc (.cells #[.int .u64 (a : Int),.int .u64 (b : Int)] t)).alloc (.cells #[.int .u64 (d : Int),.int .u64 1000] t')).drew (some ⟨w.heap.size + 1,0,none⟩) 2 [d,1000] := avq w a b d 1000 t t'
theorem aC2 (w : World) (d a b : Nat) (t t' : TypeId) : Us ((w.alloc (.cells #[.int .u64 (d : Int),.int .u64 1000] t)).alloc (.cells #[.int .u64 (a : Int),.int .u64 (b : Int)] t')).drew (some ⟨w.heap.size + 1,0,none⟩) 2 [a,b] := avq w d 1000 a b t t'
theorem aC1 (w : World) (d a b : Nat) (t t' : TypeId) : Us ((w.alloc (.cells #[.int .u64 (a : Int),.int .u64 (b : Int)] t)).alloc (.cells #[.int .u64 (d : Int),.int .u64 1000] t')).drew (some ⟨w.heap.size,0,none⟩) 2 [a,b] := avr w a b d 1000 t t'
theorem aFd {A D : Nat} {o : Bool} (ho : decide (A ≤ D) = o) : decide (0 < aea A D) = !o := by
 unfold aea
 rw [← ho]
 by_cases h : A ≤ D
 ·rw [decide_eq_true h]
  by_cases h2 : A < D
  ·rw [if_pos h2]; rfl
  ·rw [if_neg h2,if_neg (by omega)]; rfl
 ·rw [decide_eq_false h,if_neg (by omega),if_pos (by omega)]; rfl
theorem sv7 {s1 s2 s3 s4 s6 s7 s8 s9 s10 s11 s12 s13 s14 s15 s16 s17 s18 s19 s20 s21 s22 s23 s24 s25 s26 s27 s28 s29 s30 s31 s32 s33 s34 s35 s36 s37 s38 s39 s40 s41 s42 s43 s44 s45 s46 s47 s48 s49 s50 s51 s52 s53 s54 s55 s56 s57 s58 s59 s60 s61 s62 s63 s64 s65 s66 s67 s68 s69 s70 s71 s72 s73 s74 s75 : Value} {K : Act → World → Prop} {Q : Exit → Act → World → Prop} (m d x mv : Nat) (o : Bool) (hd : d < 18446744073709551616) (hx : x < 18446744073709551616) (hm : mv < 18446744073709551616) (ho : decide (d * 1000 ≤ x * mv) = o) (w : World) (c12 : w.cell? ⟨m,12,none⟩ = some (.int .u64 (x : Int))) (c3 : w.cell? ⟨m,3,none⟩ = some (.int .u64 (mv : Int)))
  (hK : RowKit.Hid (∀ {u49 u50 u51 u52 u53 u54 u55 u56 u57 u58 u59 u60 u61 u62 u63 u64 : Value} {w' : World},(u64 = .bool (!o) ∧ Fr F0 w w') → K ⟨#[.pointer (some ⟨m,0,none⟩),s1,s2,s3,s4,.int .u64 (d : Int),s6,s7,s8,s9,s10,s11,s12,s13,s14,s15,s16,s17,s18,s19,s20,s21,s22,s23,s24,s25,s26,s27,s28,s29,s30,s31,s32,s33,s34,s35,s36,s37,s38,s39,s40,s41,s42,s43,s44,s45,s46,s47,s48,u49,u50,u51,u52,u53,u54,u55,u56,u57,u58,u59,u60,u61,u62,u63,u64,s65,s66,s67,s68,s69,s70,s71,s72,s73,s74,s75],[]⟩ w')) :
  Code.wp Tryz.prog ((((Tryz.f104.body.bind (qc 7)).getD .skip))) (Exit.then K Q) ⟨#[.pointer (some ⟨m,0,none⟩),s1,s2,s3,s4,.int .u64 (d : Int),s6,s7,s8,s9,s10,s11,s12,s13,s14,s15,s16,s17,s18,s19,s20,s21,s22,s23,s24,s25,s26,s27,s28,s29,s30,s31,s32,s33,s34,s35,s36,s37,s38,s39,s40,s41,s42,s43,s44,s45,s46,s47,s48,s49,s50,s51,s52,s53,s54,s55,s56,s57,s58,s59,s60,s61,s62,s63,s64,s65,s66,s67,s68,s69,s70,s71,s72,s73,s74,s75],[]⟩ w := by
 conv => arg 2; whnf
 have wA : d * 1000 < oz := ac0 d 1000 (by omega) (by omega)
 have wB : x * mv < oz := ac0 x mv (by omega) (by omega)
 have HA := Lib.hid (fun a w h => aat [d,1000] a 2 2 rfl (by simp) (by simp; omega) (d * 1000) (by simp [prd]) w h)
 have HB := Lib.hid (fun a w h => aat [x,mv] a 2 2 rfl (by simp) (by simp; omega) (x * mv) (by simp [prd]) w h)
 have HC := Lib.hid (fun p1 c1 p2 c2 w h1 h2 => acz (d * 1000) (x * mv) p1 c1 p2 c2 (Nat.le_trans (ab1 wA) (by omega)) (Nat.le_trans (ab1 wB) (by omega)) w h1 h2)
 have hz2 := aFd ho
 clear ho hd hx hm wA wB
 generalize aea (d * 1000) (x * mv) = z at *
 generalize d * 1000 = A at *
 generalize x * mv = D at *
 have F9 := Fr.refl F0 w
 refine zn (S := (fun w' => (w'.cell? ⟨m,12,none⟩ = some (.int .u64 (x : Int)) ∧ w'.cell? ⟨m,3,none⟩ = some (.int .u64 (mv : Int))) ∧ Fr F0 w w')) ?_ fun aj => ?_
 ·exact(by ((try dsimp only) <;> (exact ⟨⟨c12,c3⟩,F9.drew⟩)))
 refine au 0 ?_
 refine au 3 ?_
 refine au 4 ?_
 refine au 5 ?_
 refine au 6 ?_
 refine au 7 ?_
 refine au 8 ?_
 refine au 9 ?_
 refine au 10 ?_
 refine au 11 ?_
 refine rdy [1,12] ?_
 refine rco (fun K hK => ?_) (rco (fun K hK => ?_) AllReadyH.nil)
 go_simp
 refine rpu hK (by ((try dsimp only) <;> (first | exact aj | exact ⟨⟨f5.cell (fun e => e) aj.1.1,f5.cell (fun e => e) aj.1.2⟩,aj.2.trans' f5⟩ | exact ⟨⟨((Fr.refl F0 _).alloc _).cell (fun e => e) aj.1.1,((Fr.refl F0 _).alloc _).cell (fun e => e) aj.1.2⟩,aj.2.alloc _⟩))) fun aj => ?_
 clear hK K
 refine rdy [2,12] ?_
 refine rco (fun K hK => ?_) (rco (fun K hK => ?_) AllReadyH.nil)
 go_simp
 ((with_reducible refine (HA.out _ _ (by first | exact aC5 w d _ | exact aC4 w d x mv _ _ | exact aC3 w d x mv _ _)).mono ?_); rintro e w5 ⟨p3,c3',rfl,n3,f5⟩; have g3 := f5)
 refine rpu hK (by ((try dsimp only) <;> (first | exact aj | exact ⟨⟨f5.cell (fun e => e) aj.1.1,f5.cell (fun e => e) aj.1.2⟩,aj.2.trans' f5⟩ | exact ⟨⟨((Fr.refl F0 _).alloc _).cell (fun e => e) aj.1.1,((Fr.refl F0 _).alloc _).cell (fun e => e) aj.1.2⟩,aj.2.alloc _⟩))) fun aj => ?_
 clear hK K
 refine zi 12 fun K hK => ?_
 go_simp
 refine rpu hK (by ((try dsimp only) <;> (first | exact aj | exact ⟨⟨f5.cell (fun e => e) aj.1.1,f5.cell (fun e => e) aj.1.2⟩,aj.2.trans' f5⟩ | exact ⟨⟨((Fr.refl F0 _).alloc _).cell (fun e => e) aj.1.1,((Fr.refl F0 _).alloc _).cell (fun e => e) aj.1.2⟩,aj.2.alloc _⟩))) fun aj => ?_
 clear hK K
 refine zi 13 fun K hK => ?_
 go_simp
 ((with_reducible refine (HB.out _ _ (by first | exact Us.of2 _ x mv _ | exact ajs _ x mv _ | exact Us.fr (aC2 w d x mv _ _) g3 | exact Us.fr (aC1 w d x mv _ _) g3)).mono ?_); rintro e w6 ⟨p4,c4,rfl,n4,f5⟩; have n5 := Us.fr (w' := w6) n3 (by first | exact f5 | exact ((Fr.refl F0 _).alloc _).trans' f5))
 refine rpu hK (by ((try dsimp only) <;> (first | exact aj | exact ⟨⟨f5.cell (fun e => e) aj.1.1,f5.cell (fun e => e) aj.1.2⟩,aj.2.trans' f5⟩ | exact ⟨⟨((Fr.refl F0 _).alloc _).cell (fun e => e) aj.1.1,((Fr.refl F0 _).alloc _).cell (fun e => e) aj.1.2⟩,aj.2.alloc _⟩))) fun aj => ?_
 clear hK K
 refine zi 14 fun K hK => ?_
 go_simp
 ((with_reducible refine (HC.out _ _ _ _ _ n5 n4).mono ?_); rintro e w7 ⟨rfl,hw⟩; subst hw)
 refine rpu hK (by ((try dsimp only) <;> (first | exact aj | exact ⟨⟨f5.cell (fun e => e) aj.1.1,f5.cell (fun e => e) aj.1.2⟩,aj.2.trans' f5⟩ | exact ⟨⟨((Fr.refl F0 _).alloc _).cell (fun e => e) aj.1.1,((Fr.refl F0 _).alloc _).cell (fun e => e) aj.1.2⟩,aj.2.alloc _⟩))) fun aj => ?_
 clear hK K
 refine au 15 ?_
 refine aap ?_
 rotate_left
 go_simp
 refine rpu hK (by ((try dsimp only) <;> (first | exact aj | exact ⟨⟨f5.cell (fun e => e) aj.1.1,f5.cell (fun e => e) aj.1.2⟩,aj.2.trans' f5⟩ | exact ⟨⟨((Fr.refl F0 _).alloc _).cell (fun e => e) aj.1.1,((Fr.refl F0 _).alloc _).cell (fun e => e) aj.1.2⟩,aj.2.alloc _⟩))) fun aj => ?_
 clear hK K
 refine zi 2 fun K hK => ?_
 go_simp
 ((with_reducible refine (HA.out _ _ (by first | exact aC5 w d _ | exact aC4 w d x mv _ _ | exact aC3 w d x mv _ _)).mono ?_); rintro e w5 ⟨p3,c3',rfl,n3,f5⟩; have g3 := f5)
 refine rpu hK (by ((try dsimp only) <;> (first | exact aj | exact ⟨⟨f5.cell (fun e => e) aj.1.1,f5.cell (fun e => e) aj.1.2⟩,aj.2.trans' f5⟩ | exact ⟨⟨((Fr.refl F0 _).alloc _).cell (fun e => e) aj.1.1,((Fr.refl F0 _).alloc _).cell (fun e => e) aj.1.2⟩,aj.2.alloc _⟩))) fun aj => ?_
 clear hK K
 refine zi 13 fun K hK => ?_
 go_simp
 ((with_reducible refine (HB.out _ _ (by first | exact Us.of2 _ x mv _ | exact ajs _ x mv _ | exact Us.fr (aC2 w d x mv _ _) g3 | exact Us.fr (aC1 w d x mv _ _) g3)).mono ?_); rintro e w6 ⟨p4,c4,rfl,n4,f5⟩; have n5 := Us.fr (w' := w6) n3 (by first | exact f5 | exact ((Fr.refl F0 _).alloc _).trans' f5))
 refine rpu hK (by ((try dsimp only) <;> (first | exact aj | exact ⟨⟨f5.cell (fun e => e) aj.1.1,f5.cell (fun e => e) aj.1.2⟩,aj.2.trans' f5⟩ | exact ⟨⟨((Fr.refl F0 _).alloc _).cell (fun e => e) aj.1.1,((Fr.refl F0 _).alloc _).cell (fun e => e) aj.1.2⟩,aj.2.alloc _⟩))) fun aj => ?_
 clear hK K
 refine zi 14 fun K hK => ?_
 go_simp
 ((with_reducible refine (HC.out _ _ _ _ _ n5 n4).mono ?_); rintro e w7 ⟨rfl,hw⟩; subst hw)
 refine rpu hK (by ((try dsimp only) <;> (first | exact aj | exact ⟨⟨f5.cell (fun e => e) aj.1.1,f5.cell (fun e => e) aj.1.2⟩,aj.2.trans' f5⟩ | exact ⟨⟨((Fr.refl F0 _).alloc _).cell (fun e => e) aj.1.1,((Fr.refl F0 _).alloc _).cell (fun e => e) aj.1.2⟩,aj.2.alloc _⟩))) fun aj => ?_
 clear hK K
 refine au 15 ?_
 refine aap ?_
 rotate_left
 go_simp
 refine rpu hK (by ((try dsimp only) <;> (first | exact aj | exact ⟨⟨f5.cell (fun e => e) aj.1.1,f5.cell (fun e => e) aj.1.2⟩,aj.2.trans' f5⟩ | exact ⟨⟨((Fr.refl F0 _).alloc _).cell (fun e => e) aj.1.1,((Fr.refl F0 _).alloc _).cell (fun e => e) aj.1.2⟩,aj.2.alloc _⟩))) fun aj => ?_
 clear hK K
 refine zi 1 fun K hK => ?_
 go_simp
 refine rpu hK (by ((try dsimp only) <;> (first | exact aj | exact ⟨⟨f5.cell (fun e => e) aj.1.1,f5.cell (fun e => e) aj.1.2⟩,aj.2.trans' f5⟩ | exact ⟨⟨((Fr.refl F0 _).alloc _).cell (fun e => e) aj.1.1,((Fr.refl F0 _).alloc _).cell (fun e => e) aj.1.2⟩,aj.2.alloc _⟩))) fun aj => ?_
 clear hK K
 refine zi 2 fun K hK => ?_
 go_simp
 ((with_reducible refine (HA.out _ _ (by first | exact aC5 w d _ | exact aC4 w d x mv _ _ | exact aC3 w d x mv _ _)).mono ?_); rintro e w5 ⟨p3,c3',rfl,n3,f5⟩; have g3 := f5)
 refine rpu hK (by ((try dsimp only) <;> (first | exact aj | exact ⟨⟨f5.cell (fun e => e) aj.1.1,f5.cell (fun e => e) aj.1.2⟩,aj.2.trans' f5⟩ | exact ⟨⟨((Fr.refl F0 _).alloc _).cell (fun e => e) aj.1.1,((Fr.refl F0 _).alloc _).cell (fun e => e) aj.1.2⟩,aj.2.alloc _⟩))) fun aj => ?_
 clear hK K
 refine zi 13 fun K hK => ?_
 go_simp
 ((with_reducible refine (HB.out _ _ (by first | exact Us.of2 _ x mv _ | exact ajs _ x mv _ | exact Us.fr (aC2 w d x mv _ _) g3 | exact Us.fr (aC1 w d x mv _ _) g3)).mono ?_); rintro e w6 ⟨p4,c4,rfl,n4,f5⟩; have n5 := Us.fr (w' := w6) n3 (by first | exact f5 | exact ((Fr.refl F0 _).alloc _).trans' f5))
 refine rpu hK (by ((try dsimp only) <;> (first | exact aj | exact ⟨⟨f5.cell (fun e => e) aj.1.1,f5.cell (fun e => e) aj.1.2⟩,aj.2.trans' f5⟩ | exact ⟨⟨((Fr.refl F0 _).alloc _).cell (fun e => e) aj.1.1,((Fr.refl F0 _).alloc _).cell (fun e => e) aj.1.2⟩,aj.2.alloc _⟩))) fun aj => ?_
 clear hK K
 refine zi 14 fun K hK => ?_
 go_simp
 ((with_reducible refine (HC.out _ _ _ _ _ n5 n4).mono ?_); rintro e w7 ⟨rfl,hw⟩; subst hw)
 refine rpu hK (by ((try dsimp only) <;> (first | exact aj | exact ⟨⟨f5.cell (fun e => e) aj.1.1,f5.cell (fun e => e) aj.1.2⟩,aj.2.trans' f5⟩ | exact ⟨⟨((Fr.refl F0 _).alloc _).cell (fun e => e) aj.1.1,((Fr.refl F0 _).alloc _).cell (fun e => e) aj.1.2⟩,aj.2.alloc _⟩))) fun aj => ?_
 clear hK K
 refine au 15 ?_
 refine aap ?_
 rotate_left
 all_goals exact hK.out ⟨rfl,aj.2⟩
end Go.Proofs.YtohckefafbhooaaGreat
namespace Go.Proofs.YtohckefafbhooaaGreat
set_option linter.unusedVariables false
set_option linter.unusedSimpArgs false
open Go.RowKit
attribute [-go_sem] gq
def qg (E : Int) (P : Prop) : Prop := E = 0 → P
theorem qg.no {E : Int} {P : Prop} (h : E ≠ 0) : qg E P := fun e => absurd e h
theorem qg.yes {E : Int} {P : Prop} (h : P) : qg E P := fun _ => h
section
variable {B : Nat} {w w' : World} {m : Nat} {R : Nat → Nat} {M : Bok} {sv : Value}
theorem aAf (R : Nat → Nat) (M : Bok) (p : Nat) : (yh R M p).2.2 = seE (R 3) M.price M.told p M.now := by
 unfold yh
 split
 ·rename_i h; rw [h]
 ·rfl
theorem aAe {R : Nat → Nat} {M : Bok} {p : Nat} (h : seE (R 3) M.price M.told p M.now = 0) : (yh R M p).1 = { M with price := p,told := M.now } := by
 unfold yh
 rw [if_pos h]
theorem aw6 (h : RB B w m R M sv) (hM : M.Ok) (hR : R 3 < 18446744073709551616) (p : Nat) (hp : p < 18446744073709551616) :
  Calls Tryz.prog 104 #[.pointer (some ⟨m,0,none⟩),.int .u64 (p : Int)] w fun e w' => e = .returned (.int .i64 (yh R M p).2.2) ∧ qg (yh R M p).2.2 (RB B w' m R (yh R M p).1 sv) ∧ Fr (fun k => k = m) w w' := by
 rw [aAf]
 have HPM := Lib.hid (@aAe R M p)
 obtain ⟨o,ho,hc⟩ := awq (R 3) M.price M.told p M.now
 have aaj := hM.now
 have hpr := hM.price
 have HS := Lib.hid (fun (W : World) (f : Fr F0 w W) => (h.fr0 f).azw p)
 have H1 := Lib.hid (fun (W : World) (f : Fr F0 w W) => h.fr0 f)
 have H2 := Lib.hid (fun (W : World) (RBW : RB B W m R { M with price := p } sv) => RBW.aDn M.now)
 have c12 := h.price
 have c11 := h.now
 have c13 := h.told
 have c3 := h.rule (k := 3) (by omega)
 generalize (yh R M p).1 = N at *
 generalize seE (R 3) M.price M.told p M.now = E at *
 obtain ⟨x,hx⟩ : ∃ x,M.price = x := ⟨_,rfl⟩
 obtain ⟨t,ht⟩ : ∃ x,M.told = x := ⟨_,rfl⟩
 obtain ⟨now,hn⟩ : ∃ x,M.now = x := ⟨_,rfl⟩
 obtain ⟨mv,hmv⟩ : ∃ x,R 3 = x := ⟨_,rfl⟩
 rw [hx] at c12 ho hc hpr
 rw [ht] at c13 hc
 rw [hn] at c11 hc aaj
 rw [hmv] at c3 ho hR
 have HN := Lib.hid hn
 clear h hM hx ht hn hmv
 rcases hc with ⟨h1,rfl⟩ | ⟨h1,h2,rfl⟩ | ⟨h1,h2,h3,rfl⟩ | ⟨h1,h2,h3,h4,rfl⟩ | ⟨h1,h2,h3,h4,h5,rfl⟩ | ⟨h1,h2,h3,h4,h5,rfl,rfl⟩ | ⟨h1,h2,h3,h4,h5,rfl,rfl⟩
 ·have l1 : (p : Int) < 1 := by omega
  clear h1 ho aaj hpr hR hp
  go_enter Tryz.func104,Tryz.ntmps104
  go_wp2_with fail
  go_ret
  exact ⟨rfl,qg.no (by decide),Fr.refl _ _⟩
 ·have l1 : ¬ (p : Int) < 1 := by omega
  have l2 : (1099511627776 : Int) < (p : Int) := by omega
  clear h1 h2 ho aaj hpr hR hp
  go_enter Tryz.func104,Tryz.ntmps104
  go_wp2_with fail
  go_ret
  exact ⟨rfl,qg.no (by decide),Fr.refl _ _⟩
 ·omega
 ·have l1 : ¬ (p : Int) < 1 := by omega
  have l2 : ¬ (1099511627776 : Int) < (p : Int) := by omega
  obtain rfl : x = 0 := by omega
  clear h1 h2 h3 h4 ho aaj hpr hR hp
  go_enter Tryz.func104,Tryz.ntmps104
  go_upto_region 3 with fail
  go_region
  go_upto_region 9 with fail
  obtain ⟨W,hW⟩ : ∃ W,W = w.drew := ⟨_,rfl⟩
  refine bg W hW ?_
  have f9 : Fr F0 w W := by rw [hW]; exact (Fr.refl F0 w).drew
  have HB := Lib.hid (And.intro (HS.out W f9) (f9.of0.trans' (BF.put (m := m) (x := 12) (v := .int .u64 (p : Int)))))
  have z12 := (H1.out W f9).blk.frozen 12
  have e12 := (H1.out W f9).price
  clear c11 c12 c13 c3 hW f9 HS H1
  go_upto_region 10 with fail
  generalize W.setCell ⟨m,12,none⟩ (.int .u64 (p : Int)) = W2 at *
  have e11 : W2.cell? ⟨m,11,none⟩ = some (.int .u64 (now : Int)) := by
   have := HB.out.1.now
   dsimp only at this
   rwa [HN.out] at this
  have z13 := HB.out.1.blk.frozen 13
  have e13 := HB.out.1.told
  dsimp only at e13
  have HT := Lib.hid (H2.out W2 HB.out.1)
  rw [HN.out] at HT
  have HE := Lib.hid (HPM.out (by first | rfl | trivial))
  rw [HN.out] at HE
  clear z12 e12 HPM H2
  go_wp2_with fail
  go_ret
  exact ⟨rfl,qg.yes (by rw [HE.out]; exact HT.out),HB.out.2.trans' BF.put⟩
 ·have l1 : ¬ (p : Int) < 1 := by omega
  have l2 : ¬ (1099511627776 : Int) < (p : Int) := by omega
  have d1 : decide ((0 : Int) < (x : Int)) = true := decide_eq_true (by omega)
  have d1' : decide (0 < x) = true := decide_eq_true h4
  have d2 : decide ((now : Int) ≤ (t : Int)) = true := decide_eq_true (by omega)
  have d2' : decide (now ≤ t) = true := decide_eq_true h5
  clear h1 h2 h3 h4 h5 ho aaj hpr hR hp
  go_enter Tryz.func104,Tryz.ntmps104
  go_upto_region 3 with fail
  go_region
  go_wp2_with fail
  go_ret
  exact ⟨rfl,qg.no (by decide),(Fr.refl _ _).drew⟩
 ·have l1 : ¬ (p : Int) < 1 := by omega
  have l2 : ¬ (1099511627776 : Int) < (p : Int) := by omega
  have d1 : decide ((0 : Int) < (x : Int)) = true := decide_eq_true (by omega)
  have d1' : decide (0 < x) = true := decide_eq_true h4
  have d2 : decide ((now : Int) ≤ (t : Int)) = false := decide_eq_false (by omega)
  have d2' : decide (now ≤ t) = false := decide_eq_false h5
  obtain ⟨hi,g1⟩ : ∃ n,max x p = n := ⟨_,rfl⟩
  obtain ⟨lo,g2⟩ : ∃ n,min x p = n := ⟨_,rfl⟩
  rw [g1,g2] at ho
  have q1 := fun ts t w => aj7 ts t p x hi (by rw [Nat.max_comm]; exact g1) w
  have q2 := fun ts t w => aeh ts t p x lo (by rw [Nat.min_comm]; exact g2) w
  have m1 : IntKind.u64.wrap ((hi : Int) - (lo : Int)) = ((hi - lo : Nat) : Int) := by rw [IntWalk.u64_in _ (by omega)]; omega
  obtain ⟨d,hd⟩ : ∃ n,hi - lo = n := ⟨_,rfl⟩
  rw [hd] at m1 ho
  have HD := Lib.hid (And.intro (show d < 18446744073709551616 by omega) (And.intro (show x < 18446744073709551616 by omega) (And.intro hR ho)))
  clear h1 h2 h3 h4 h5 ho aaj hpr hR hp g1 g2 hd
  go_enter Tryz.func104,Tryz.ntmps104
  go_upto_region 3 with fail
  go_region
  go_upto_region 6 with fail
  go_region
  go_upto_region 7 with fail
  obtain ⟨W1,hW1⟩ : ∃ W,W = w.drew.drew := ⟨_,rfl⟩
  refine bg W1 hW1 ?_
  have f1 : Fr F0 w W1 := by rw [hW1]; exact (Fr.refl F0 w).drew.drew
  clear hW1
  refine sv7 m d x mv false HD.out.1 HD.out.2.1 HD.out.2.2.1 HD.out.2.2.2 W1 (f1.cell (fun e => e) c12) (f1.cell (fun e => e) c3) (Lib.hid ?_)
  rename_i W3
  rintro ⟨rfl,f3⟩
  have f13 := f1.trans' f3
  clear f1 f3 HD
  have F13 := Lib.hid f13
  clear f13 c11 c12 c13 c3
  go_wp2_with fail
  go_ret
  exact ⟨rfl,qg.no (by decide),F13.out.of0⟩
 ·have l1 : ¬ (p : Int) < 1 := by omega
  have l2 : ¬ (1099511627776 : Int) < (p : Int) := by omega
  have d1 : decide ((0 : Int) < (x : Int)) = true := decide_eq_true (by omega)
  have d1' : decide (0 < x) = true := decide_eq_true h4
  have d2 : decide ((now : Int) ≤ (t : Int)) = false := decide_eq_false (by omega)
  have d2' : decide (now ≤ t) = false := decide_eq_false h5
  obtain ⟨hi,g1⟩ : ∃ n,max x p = n := ⟨_,rfl⟩
  obtain ⟨lo,g2⟩ : ∃ n,min x p = n := ⟨_,rfl⟩
  rw [g1,g2] at ho
  have q1 := fun ts t w => aj7 ts t p x hi (by rw [Nat.max_comm]; exact g1) w
  have q2 := fun ts t w => aeh ts t p x lo (by rw [Nat.min_comm]; exact g2) w
  have m1 : IntKind.u64.wrap ((hi : Int) - (lo : Int)) = ((hi - lo : Nat) : Int) := by rw [IntWalk.u64_in _ (by omega)]; omega
  obtain ⟨d,hd⟩ : ∃ n,hi - lo = n := ⟨_,rfl⟩
  rw [hd] at m1 ho
  have HD := Lib.hid (And.intro (show d < 18446744073709551616 by omega) (And.intro (show x < 18446744073709551616 by omega) (And.intro hR ho)))
  clear h1 h2 h3 h4 h5 ho aaj hpr hR hp g1 g2 hd
  go_enter Tryz.func104,Tryz.ntmps104
  go_upto_region 3 with fail
  go_region
  go_upto_region 6 with fail
  go_region
  go_upto_region 7 with fail
  obtain ⟨W1,hW1⟩ : ∃ W,W = w.drew.drew := ⟨_,rfl⟩
  refine bg W1 hW1 ?_
  have f1 : Fr F0 w W1 := by rw [hW1]; exact (Fr.refl F0 w).drew.drew
  clear hW1
  refine sv7 m d x mv true HD.out.1 HD.out.2.1 HD.out.2.2.1 HD.out.2.2.2 W1 (f1.cell (fun e => e) c12) (f1.cell (fun e => e) c3) (Lib.hid ?_)
  rename_i W3
  rintro ⟨rfl,f3⟩
  have f13 := f1.trans' f3
  clear f1 f3 HD
  have F13 := Lib.hid f13
  clear f13
  go_upto_region 9 with fail
  obtain ⟨W,hW⟩ : ∃ W,W = W3 := ⟨_,rfl⟩
  refine bg W hW ?_
  have f9 : Fr F0 w W := by rw [hW]; exact F13.out
  have HB := Lib.hid (And.intro (HS.out W f9) (f9.of0.trans' (BF.put (m := m) (x := 12) (v := .int .u64 (p : Int)))))
  have z12 := (H1.out W f9).blk.frozen 12
  have e12 := (H1.out W f9).price
  clear c11 c12 c13 c3 hW f9 HS H1
  go_upto_region 10 with fail
  generalize W.setCell ⟨m,12,none⟩ (.int .u64 (p : Int)) = W2 at *
  have e11 : W2.cell? ⟨m,11,none⟩ = some (.int .u64 (now : Int)) := by
   have := HB.out.1.now
   dsimp only at this
   rwa [HN.out] at this
  have z13 := HB.out.1.blk.frozen 13
  have e13 := HB.out.1.told
  dsimp only at e13
  have HT := Lib.hid (H2.out W2 HB.out.1)
  rw [HN.out] at HT
  have HE := Lib.hid (HPM.out (by first | rfl | trivial))
  rw [HN.out] at HE
  clear z12 e12 HPM H2
  go_wp2_with fail
  go_ret
  exact ⟨rfl,qg.yes (by rw [HE.out]; exact HT.out),HB.out.2.trans' BF.put⟩
end
end Go.Proofs.YtohckefafbhooaaGreat
namespace Go.Proofs.YtohckefafbhooaaGreat
set_option linter.unusedVariables false
set_option linter.unusedSimpArgs false
open Go.RowKit
attribute [-go_sem] gq
theorem Tryz.infoRVault : (Tryz.prog.info? 111).map (fun i => (i.zero.isSome,i.size,i.bytes)) = some (true,27,80) := by kernel_rfl
theorem Tryz.zeroRVault : ((Tryz.prog.info? 111).bind (·.zero)).map (·.cells.size) = some 27 := by kernel_rfl
def ava (ty : TypeId) (args : Array Value) : Sem Value := Builtin.append_ #[45,45] ty args
@[go_sem ↓ high] theorem app_RV (ty : TypeId) (args : Array Value) : Builtin.append_ #[45,45] ty args = ava ty args := rfl
def akj (parts : Array (Nat × Value)) : Sem Value := Instr.buildSlice 45 0 parts
@[go_sem ↓ high] theorem aKw (p : Array (Nat × Value)) : Instr.buildSlice 45 0 p = akj p := rfl
theorem ax1 (l : List Vlt) : ∀ u ∈ l.flatMap aao,u.oneCell' = true := fun u hu => by
 simp only [List.mem_flatMap] at hu
 obtain ⟨r,_,hr⟩ := hu
 exact aru r u hr
theorem aow : ∃ i z,Tryz.prog.info? 111 = some i ∧ i.zero = some z ∧ i.size = 27 ∧ i.bytes = 80 ∧ z.cells.size = 27 := by
 have h1 := Tryz.infoRVault
 have h2 := Tryz.zeroRVault
 cases hi : Tryz.prog.info? 111 with
 |none => rw [hi] at h1; cases h1
 |some i =>
  rw [hi] at h1 h2
  simp only [Option.map_some,Option.some.injEq,Prod.mk.injEq] at h1
  obtain ⟨a,b,c⟩ := h1
  cases hz : i.zero with
  |none => rw [hz] at a; cases a
  |some z =>
   simp only [Option.bind_some,hz,Option.map_some,Option.some.injEq] at h2
   exact ⟨i,z,rfl,hz,b,c,h2⟩
theorem abw (w : World) : (akj #[]).run Tryz.prog w = .ok (.slice (some ⟨w.heap.size,0,none⟩) 0 0) (w.alloc (.cells #[] 111)) := by
 obtain ⟨i,z,hi,hz,-,-,-⟩ := aow
 unfold akj
 simp [Instr.buildSlice,run_underlying Tryz.underlying45,sizeOf,typeInfo,zeroValue,hi,hz,newRow,Instr.fill,Array.range_zero']
theorem acd {B : Nat} {w : World} {v : Value} {l m : List Vlt} (h : uj 111 27 aao B w v l) (hB : B ≤ w.heap.size) (hl : l.length + m.length ≤ 100000) (a : Option Addr) (n c : Nat) (hn : n = m.length) (hs : Sl w 27 a c n (m.flatMap aao)) (ty : TypeId) :
  ∃ a' n' c' w',(ava ty #[v,.slice a n c]).run Tryz.prog w = .ok (.slice a' n' c') w' ∧ n' = l.length + m.length ∧ uj 111 27 aao B w' (.slice a' n' c') (l ++ m) ∧ Fr (fun k => v.ownBlock = some k) w w' := by
 obtain ⟨i,z,hi,hz,hsz,hb,hzs⟩ := aow
 exact uj.appL Tryz.underlying45 hi hz hsz hb hzs (by decide) (by decide) h qo (ax1 m) hB hl a n c hn hs
section
variable {B : Nat} {w w' : World} {m : Nat} {R : Nat → Nat} {M : Bok} {sv : Value}
theorem aEo {p : Prop} [Decidable p] {a b : Value} (ha : a.oneCell' = true) (hb : b.oneCell' = true) : (if p then a else b).oneCell' = true := by split <;> assumption
theorem BF.one {F : Nat → Value} {cs : Array Value} (h : cs.size = 533) (hF : ∀ k,k < 533 → cs[k]? = some (F k)) (h1 : ∀ k,k < 533 → (F k).oneCell' = true) : yg cs := by
 unfold yg
 rw [Array.all_eq_true]
 intro j hj
 have e : cs[j]? = some cs[j] := Array.getElem?_eq_getElem hj
 rw [hF j (by omega)] at e
 rw [← Option.some.inj e]
 exact h1 j (by omega)
theorem aA3 (R : Nat → Nat) (M : Bok) (a : Option Addr) (n c : Nat) (k : Nat) : (ahx R M (.slice a n c) k).oneCell' = true := by
 unfold ahx
 repeat (refine aEo rfl ?_)
 rfl
theorem as3 (h : RB B w m R M sv) (hl : M.vs.length ≤ 1000) : Calls Tryz.prog 41 #[.pointer (some ⟨m,0,none⟩)] w fun e w' => ∃ q sv',e = .returned (.pointer (some ⟨q,0,none⟩)) ∧ RB w.heap.size w' q R M sv' ∧ Fr F0 w w' := by
 obtain ⟨C,hC,sC,fC⟩ := h.blk
 obtain ⟨a,c,rfl,hs⟩ := h.vs.is
 have oC : yg C := BF.one sC fC (fun k _ => aA3 R M _ _ _ k)
 obtain ⟨n,hn⟩ : ∃ n,M.vs.length = n := ⟨_,rfl⟩
 have HS := Lib.hid (fun (W : World) (f : Fr F0 w W) => (h.fr0 f).svc)
 have HV := Lib.hid (fun (W : World) (f : Fr F0 w W) => (Sl.aef (h.vs.fr0 f).own).2)
 have HF := Lib.hid fC
 have HN := Lib.hid hn
 rw [hn] at HS HV HF
 have HL := Lib.hid (show n ≤ 1000 by omega)
 have HC := Lib.hid sC
 clear h hl fC hn hs
 go_enter Tryz.func41,Tryz.ntmps41
 go_upto_region 2 with fail
 refine jc fun W1 N => ?_
 have n1 := N.new
 have f1 := N.fr
 clear N hC sC oC
 obtain ⟨q,hq⟩ : ∃ q,w.heap.size = q := ⟨_,rfl⟩
 rw [hq] at n1 ⊢
 have hq1 : q < W1.heap.size := (Array.getElem?_eq_some_iff.1 n1).1
 have f2 : Fr F0 w (W1.alloc (.cells #[] 111)) := f1.alloc _
 have c31 := HS.out _ f2
 have hb := abw W1
 have o0 : uj 111 27 aao W1.heap.size (W1.alloc (.cells #[] 111)) (.slice (some ⟨W1.heap.size,0,none⟩) 0 0) [] := uj.made W1
 obtain ⟨a',n',c',W3,happ,hn',hown,f3⟩ := acd (o0.mono (B' := q) (by omega)) (show q ≤ (W1.alloc (.cells #[] 111)).heap.size by have := f2.size; omega) (m := M.vs) (by have := HL.out; have := HN.out; simp only [List.length_nil]; omega) a n c HN.out.symm (HV.out _ f2) 45
 have n3 : W3.heap[q]? = some (.cells C 47 (0,0)) := f3.keeps (fun e => by have := o0.blk q e; omega) (oh n1)
 have b3 : BF W3 q (ahx R M (.slice a n c)) := ⟨C,n3,HC.out,HF.out⟩
 have e31 : W3.cell? ⟨q,531,none⟩ = some (.slice a n c) := b3.cell (by omega)
 have z31 := b3.frozen 531
 rw [List.nil_append] at hown
 have F3 : Fr F0 w W3 := f2.trans f3 fun i hi e => absurd (o0.blk i e) (by omega)
 have HR := Lib.hid (And.intro b3 (And.intro hown F3))
 clear o0 hown F3 b3 n3 f3 f1 f2 n1 hn'
 replace hq := Lib.hid hq
 replace hq1 := Lib.hid hq1
 go_wp2_with fail
 go_ret
 refine ⟨q,.slice a' n' c',rfl,⟨?_,?_,Nat.le_of_eq hq.out⟩,?_⟩
 ·refine (HR.out.1.set (x := 531) (by omega) (.slice a' n' c')).congr (updM R M (.slice a n c) rfl fun k hk hne => ?_)
  refine xw k ?_ ?_ ?_ ?_ ?_ ?_ ?_ ?_ ?_ ?_ ?_ ?_ hk <;> first | exact fun _ => rfl | exact fun i e _ => rfl | exact fun e => absurd e hne
 ·obtain ⟨cs,h1,_⟩ := HR.out.1
  exact (HR.out.2.1.mono (B' := w.heap.size) (Nat.le_of_eq hq.out)).frS BF.put fun k hk e => HR.out.2.1.other h1 (by decide) (by rw [hk]; exact congrArg some e)
 ·exact HR.out.2.2.trans BF.put fun i hi e => absurd (show i = q from e) (by have := hq.out; omega)
end
end Go.Proofs.YtohckefafbhooaaGreat
namespace Go.Proofs.YtohckefafbhooaaGreat
set_option linter.unusedVariables false
set_option linter.unusedSimpArgs false
open Go.RowKit
attribute [-go_sem] gq
def S20 (m : Nat) (sv : Value) (k : Nat) : Prop := k = m ∨ sv.ownBlock = some k
def aGa (B : Nat) (w : World) (m : Nat) (R : Nat → Nat) (sv : Value) (r : acp) : Ending → World → Prop := fun e w' => e = .returned (.int .i64 r.2.2) ∧ qg r.2.2 (RB B w' m R r.1 sv) ∧ Fr (S20 m sv) w w'
def aaq (B : Nat) (w : World) (m : Nat) (R : Nat → Nat) (sv : Value) (r : acp) : Ending → World → Prop := fun e w' => e = .returned (.tuple #[.int .u64 (r.2.1 : Nat),.int .i64 r.2.2]) ∧ qg r.2.2 (RB B w' m R r.1 sv) ∧ Fr (S20 m sv) w w'
theorem ak {c : Option Value} {x y : Nat} (h : c = some (.int .u64 (x : Nat))) (e : x = y) : c = some (.int .u64 (y : Int)) := by rw [h,e]
structure je (B : Nat) (w : World) (m g : Nat) (R : Nat → Nat) (d : Dd) (sv : Value) (W : World) (M : Bok) : Prop where
 rb : RB B W m R M sv
 box : W.heap[g]? = some (.cells (dC d) 26 (0,0))
 ne : ¬ S20 m sv g
 fr : Fr (S20 m sv) w W
theorem je.start {B : Nat} {w W : World} {m g : Nat} {R : Nat → Nat} {d : Dd} {sv : Value} {M : Bok} (h : RB B w m R M sv) (N : air w W g (dC d) 26) (hg : g = w.heap.size) : je B w m g R d sv W M :=
 ⟨h.fr0 N.fr,N.new,fun e => by
  rcases e with e | e
  ·have := h.lt; omega
  ·have := h.vs.lt g e; omega,N.fr.of0⟩
section
variable {B : Nat} {w W W' : World} {m g : Nat} {R : Nat → Nat} {d : Dd} {sv : Value} {M M' : Bok}
theorem je.set (s : je B w m g R d sv W M) (rb : RB B W' m R M' sv) (f : Fr (S20 m sv) W W') : je B w m g R d sv W' M' := ⟨rb,f.keeps s.ne s.box,s.ne,s.fr.trans' f⟩
theorem je.put (s : je B w m g R d sv W M) {x : Nat} {v : Value} (rb : RB B (W.setCell ⟨m,x,none⟩ v) m R M' sv) : je B w m g R d sv (W.setCell ⟨m,x,none⟩ v) M' := s.set rb (BF.put.mono fun k _ e => .inl e)
theorem je.fr0 (s : je B w m g R d sv W M) (f : Fr F0 W W') : je B w m g R d sv W' M := s.set (s.rb.fr0 f) f.of0
theorem je.drew (s : je B w m g R d sv W M) : je B w m g R d sv W.drew M := s.fr0 (Fr.refl F0 W).drew
end
section
variable {B : Nat} {w w' : World} {m : Nat} {R : Nat → Nat} {M : Bok} {sv : Value}
theorem as2 (h : RB B w m R M sv) (hM : M.Ok) (d : Dd) (hk : d.kind = 2) (hw : d.w < 256) (ha : d.a < 18446744073709551616) :
  Calls Tryz.prog 105 #[.pointer (some ⟨m,0,none⟩),.agg (dC d)] w (aGa B w m R sv (inD M d.w d.a)) := by
 have HB := Lib.hid (fun (W : World) (f : Fr F0 w W) => h.fr0 f)
 have t4 := hM.inn
 have t5 := hM.paid
 have hf := hM.jy hw
 have HL := Lib.hid h.lt
 unfold aGa
 by_cases h1 : 4611686018427387904 < d.a
 ·rw [show inD M d.w d.a = M.no 1 from if_pos h1]
  have l1 : (4611686018427387904 : Int) < (d.a : Int) := by omega
  clear h hM t4 t5 hf hw ha h1
  go_enter Tryz.func105,Tryz.ntmps105
  go_upto_region 1 with fail
  refine eu fun W1 N1 => ?_
  obtain ⟨c0,c1,c2,c3⟩ := ah N1.new
  have F1 := Lib.hid N1.fr
  rw [hk] at c0
  clear N1
  go_wp2_with fail
  go_ret
  exact ⟨rfl,qg.no (show (1 : Int) ≠ 0 by decide),F1.out.of0⟩
 ·have l1 : ¬ (4611686018427387904 : Int) < (d.a : Int) := by omega
  have m1 : IntKind.u64.wrap (4611686018427387904 - (d.a : Int)) = ((4611686018427387904 - d.a : Nat) : Int) := by rw [IntWalk.u64_in _ (by omega)]; omega
  obtain ⟨z,hz⟩ : ∃ z,4611686018427387904 - d.a = z := ⟨_,rfl⟩
  rw [hz] at m1
  by_cases h2 : 4611686018427387904 < M.inn + d.a
  ·rw [show inD M d.w d.a = M.no 4 from by unfold inD; rw [if_neg h1,if_pos (.inl h2)]]
   have q2 : decide ((z : Int) < (M.inn : Int)) = true := decide_eq_true (by omega)
   have q2' : decide (z < M.inn) = true := decide_eq_true (by omega)
   have HC := Lib.hid (fun (W : World) (f : Fr F0 w W) => (h.fr0 f).inn)
   clear h hM t4 t5 hf hw ha h1 h2 hz HB
   go_enter Tryz.func105,Tryz.ntmps105
   go_upto_region 1 with fail
   refine eu fun W1 N1 => ?_
   obtain ⟨c0,c1,c2,c3⟩ := ah N1.new
   have F1 := Lib.hid N1.fr
   have c27 := HC.out W1 N1.fr
   rw [hk] at c0
   clear N1 HC
   go_upto_region 5 with fail
   go_region
   go_wp2_with fail
   go_ret
   exact ⟨rfl,qg.no (show (4 : Int) ≠ 0 by decide),F1.out.drew.of0⟩
  ·obtain ⟨y,hy⟩ : ∃ y,M.inn + d.a = y := ⟨_,rfl⟩
   obtain ⟨v,hv⟩ : ∃ y,M.free d.w + d.a = y := ⟨_,rfl⟩
   rw [show inD M d.w d.a = ({ M with inn := y,free := upd M.free d.w v },0,0) from by unfold inD; rw [if_neg h1,if_neg (by omega),hy,hv]]
   have q2 : decide ((z : Int) < (M.inn : Int)) = false := decide_eq_false (by omega)
   have q2' : decide (z < M.inn) = false := decide_eq_false (by omega)
   have m2 : IntKind.u64.wrap ((M.inn : Int) - (M.out : Int)) = ((M.inn - M.out : Nat) : Int) := by rw [IntWalk.u64_in _ (by omega)]; omega
   obtain ⟨u,hu⟩ : ∃ u,M.inn - M.out = u := ⟨_,rfl⟩
   rw [hu] at m2
   have q3 : decide ((z : Int) < (u : Int)) = false := decide_eq_false (by omega)
   have q3' : decide (z < u) = false := decide_eq_false (by omega)
   have m3 : IntKind.u64.wrap ((M.inn : Int) + (d.a : Int)) = (y : Int) := by rw [IntWalk.u64_in _ (by omega)]; omega
   have m4 : IntKind.u64.wrap ((M.free d.w : Int) + (d.a : Int)) = (v : Int) := by rw [IntWalk.u64_in _ (by omega)]; omega
   have HC := Lib.hid (fun (W : World) (f : Fr F0 w W) => And.intro (h.fr0 f).inn (And.intro (h.fr0 f).out ((h.fr0 f).free hw)))
   have HS := Lib.hid (fun (W : World) (f : Fr F0 w W) => ((h.fr0 f).aJe y).drew)
   have HW := Lib.hid hw
   have l2 : (d.w : Int) < 256 := by omega
   generalize hin : M.inn = xin at *
   generalize M.out = xout at *
   generalize hfr : M.free d.w = xf at *
   have HX := Lib.hid hfr
   clear h hM t4 t5 hf hw ha h1 h2 hz hy hv hu hfr
   go_enter Tryz.func105,Tryz.ntmps105
   go_upto_region 1 with fail
   refine eu fun W1 N1 => ?_
   have n1 := N1.new
   have f1 := N1.fr
   obtain ⟨g,hg⟩ : ∃ g,g = w.heap.size := ⟨_,rfl⟩
   rw [← hg] at n1 ⊢
   have ng : g ≠ m := by have := HL.out; omega
   obtain ⟨c0,c1,c2,c3⟩ := ah n1
   obtain ⟨c27,c28,cf⟩ := HC.out W1 f1
   rw [hk] at c0
   have H1 := Lib.hid (And.intro n1 (And.intro f1 ng))
   clear N1 HC hg n1 f1 ng
   go_upto_region 5 with fail
   go_region
   go_upto_region 7 with fail
   obtain ⟨W2,hW2⟩ : ∃ W,W = W1.drew := ⟨_,rfl⟩
   refine bg W2 hW2 ?_
   have f2 : Fr F0 W1 W2 := by rw [hW2]; exact (Fr.refl F0 W1).drew
   clear hW2 c0 c1 c2 c3 c27 c28 cf
   obtain ⟨c0,c1,c2,c3⟩ := ah (f2.keeps (fun x => x) H1.out.1)
   have H2 := Lib.hid (And.intro (f2.keeps (fun x => x) H1.out.1) (H1.out.2.1.trans' f2))
   have c27 := (HB.out W2 H2.out.2).inn
   rw [hin] at c27
   have z27 := (HB.out W2 H2.out.2).blk.frozen 527
   clear f2
   go_region
   go_upto_region 8 with fail
   have R3 := HS.out W2 H2.out.2
   have f3 : Fr (fun k => k = m) W2 (W2.setCell ⟨m,527,none⟩ (.int .u64 (y : Nat))).drew := BF.put.drew
   generalize (W2.setCell ⟨m,527,none⟩ (.int .u64 (y : Nat))).drew = W3 at *
   clear c0 c1 c2 c3 c27 z27
   obtain ⟨c0,c1,c2,c3⟩ := ah (f3.keeps H1.out.2.2 H2.out.1)
   have cf := R3.free HW.out
   dsimp only at cf
   rw [HX.out] at cf
   have zf := R3.blk.frozen (270 + d.w)
   have H3 := Lib.hid (And.intro R3 (H2.out.2.of0.trans' f3))
   clear R3 f3
   go_region
   go_wp2_with fail
   go_ret
   exact ⟨rfl,qg.yes (H3.out.1.ab7 HW.out v).drew,(H3.out.2.trans' BF.put.drew).mono fun k _ e => .inl e⟩
end
end Go.Proofs.YtohckefafbhooaaGreat
