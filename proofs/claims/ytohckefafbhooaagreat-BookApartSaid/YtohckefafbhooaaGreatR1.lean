import Derived.Test.YtohckefafbhooaaGreatRows
import Derived.WalkKit
import Derived.Lib.Hide
import Derived.Deep.RegionHeld
import Derived.Deep.RegionHeld3
import Derived.Deep.Draws
import Derived.WalkSpells
import Derived.WalkLawsBesides
import Derived.Shelf.SlLaysF0
import Derived.Test.YtohckefafbhooaaGreatProg
import Derived.Test.YtohckefafbhooaaGreatChecked
import Derived.ProofKit
import Derived.OpenShut
namespace Go.Proofs.YtohckefafbhooaaGreat
set_option maxRecDepth 100000
set_option linter.unusedVariables false
section
variable {P : Program} {md : Region.Mode} {ops : Array Oper} {Q : Exit → Act → World → Prop} {S : World → Prop} {fuel : Nat} {listed : Array Bool} {a : Act} {w : World}
theorem au (i : Nat) {d : Option Tmp} {op : Op} {ty : TypeId} {pos : String} {af : Array Edge} {gd : Option (Nat × Bool)} {v : Value} {a' : Act} (h : wpAnyH P md ops Q S fuel (listed.setIfInBounds i true) a' w)
  (hi : ops[i]? = some ⟨d,op,ty,pos,af,gd⟩ := by rfl) (hs : Region.noSelect ops = true := by kernel_rfl) (hf : Region.free md ops listed i = true := by kernel_rfl)
  (hr : (Region.ready md ops listed).contains i = true := by kernel_rfl) (hQ : ∀ c a w,Q (.panic c) (a.put (d) v) w → Q (.panic c) a w := by exact fun _ _ _ h => h)
  (hw : Region.wanted ⟨d,op,ty,pos,af,gd⟩ (yielded ops a.tmps) = true := by rfl)
  (hy : ∀ w,S w → (execOp a.eval ⟨d,op,ty,pos,af,gd⟩).run P w = .ok (.value v) w := by (intro w hSw; (try dsimp only at hSw); go_simp; (try (with_reducible rfl)); done))
  (ha : a.put (d) v = a' := by (conv => lhs; (simp only [Act.put,List.setIfInBounds_toArray]; dsimp only [List.set_cons_zero,List.set_cons_succ])))
  (hS : S w := by assumption) : wpAnyH P md ops Q S (fuel + 1) listed a w :=
 wpAnyH_take hi hs hf hr hQ (Or.inl ⟨hw,hy⟩) hS (ha ▸ h)
theorem zi (i : Nat) {d : Option Tmp} {op : Op} {ty : TypeId} {pos : String} {af : Array Edge} {gd : Option (Nat × Bool)}
  (h : ∀ K' : Act → World → Prop,Shut (∀ a w,S w → (S w → wpAnyH P md ops Q S fuel (listed.setIfInBounds i true) a w) → K' a w) → if Region.wanted ⟨d,op,ty,pos,af,gd⟩ (yielded ops a.tmps) = true then Oper.wp P ⟨d,op,ty,pos,af,gd⟩ a w K' Q else K' (a.put d undef) w)
  (hr : Region.ready md ops listed = [i] := by kernel_rfl) (ho : ops[i]? = some ⟨d,op,ty,pos,af,gd⟩ := by rfl) : wpAnyH P md ops Q S (fuel + 1) listed a w :=
 wpAnyH_ready hr (by simp) (AllReadyH.cons ho h AllReadyH.nil)
theorem aap (h : Q .normal a w) (hr : Region.ready md ops listed = [] := by kernel_rfl) : wpAnyH P md ops (NoPanic Q) S fuel listed a w := wpAnyH_done hr (NoPanic.normal h) _
theorem zn {id : Nat} (hS : S w.drew) (h : S w.drew → wpAnyH P .any ops (NoPanic Q) S ops.size (Array.replicate ops.size false) a w.drew) (hm : P.follows .mixedOrders = true := by kernel_rfl) : (Code.region id ops true).wp P Q a w :=
 wp_region_noPanic (wp_region_held_drew hm hS h)
end
theorem aST {α : Type} (l : List α) (i : Nat) (x : α) : l.toArray.setIfInBounds i x = (l.set i x).toArray := by simp
theorem aS0 {α : Type} (y : α) (l : List α) (x : α) : (y :: l).set 0 x = x :: l := rfl
theorem aS1 {α : Type} (y : α) (l : List α) (i : Nat) (x : α) : (y :: l).set (i + 1) x = y :: l.set i x := rfl
theorem rpu {P : Program} {md : Region.Mode} {ops : Array Oper} {Q : Exit → Act → World → Prop} {S : World → Prop} {fuel : Nat} {listed : Array Bool} {a a' : Act} {w : World} {K : Act → World → Prop} (hK : Shut (∀ a w,S w → (S w → wpAnyH P md ops Q S fuel listed a w) → K a w)) (hS : S w) (h : S w → wpAnyH P md ops Q S fuel listed a' w) (ha : a = a' := by (conv => lhs; (try (simp only [Act.put,aST]; dsimp only [aS0,aS1])))) : K a w :=
 hK.out a w hS (ha ▸ h)
section
variable {P : Program} {md : Region.Mode} {ops : Array Oper} {Q : Exit → Act → World → Prop} {S : World → Prop} {fuel : Nat} {listed : Array Bool} {a : Act} {w : World}
theorem rdy (rs : List Nat) (h : AllReadyH P md ops Q S fuel listed a w rs) (hr : Region.ready md ops listed = rs := by kernel_rfl) (hne : rs ≠ [] := by simp) : wpAnyH P md ops Q S (fuel + 1) listed a w := wpAnyH_ready hr hne h
theorem rco {i : Nat} {d : Option Tmp} {op : Op} {ty : TypeId} {pos : String} {af : Array Edge} {gd : Option (Nat × Bool)} {rs : List Nat}
  (h : ∀ K' : Act → World → Prop,Shut (∀ a w,S w → (S w → wpAnyH P md ops Q S fuel (listed.setIfInBounds i true) a w) → K' a w) → if Region.wanted ⟨d,op,ty,pos,af,gd⟩ (yielded ops a.tmps) = true then Oper.wp P ⟨d,op,ty,pos,af,gd⟩ a w K' Q else K' (a.put d undef) w)
  (hs : AllReadyH P md ops Q S fuel listed a w rs) (ho : ops[i]? = some ⟨d,op,ty,pos,af,gd⟩ := by rfl) : AllReadyH P md ops Q S fuel listed a w (i :: rs) := AllReadyH.cons ho h hs
end

end Go.Proofs.YtohckefafbhooaaGreat
namespace Go.Proofs.YtohckefafbhooaaGreat
set_option maxRecDepth 100000
set_option linter.unusedVariables false
def qc (n : Nat) : Code → Option Code
 |.region i ops d => if i = n then some (.region i ops d) else none
 |.seq a b => match qc n a with
  |some c => some c
  |none => qc n b
 |.cond _ a b => match qc n a with
  |some c => some c
  |none => qc n b
 |.rangeFunc _ _ a b => match qc n a with
  |some c => some c
  |none => qc n b
 |.block _ c => qc n c
 |.loop c => qc n c
 |.scope c => qc n c
 |_ => none
end Go.Proofs.YtohckefafbhooaaGreat
namespace Go.Proofs.YtohckefafbhooaaGreat
set_option maxRecDepth 100000
set_option linter.unusedVariables false
end Go.Proofs.YtohckefafbhooaaGreat
namespace Go.Proofs.YtohckefafbhooaaGreat
set_option maxRecDepth 100000
set_option linter.unusedVariables false
def ala (P : Program) (md : Region.Mode) (ops : Array Oper) (Q : Exit → Act → World → Prop) (z : Nat) (F : World → Prop) : Nat → Array Bool → Act → World → Prop
 |0,l,a,w => Region.ready md ops l = [] ∧ Q .normal a w
 |n + 1,l,a,w => (Region.ready md ops l = [] → Q .normal a w) ∧ ∀ i,i ∈ Region.ready md ops l → wpOp P ops Q i (fun b v => ala P md ops Q z F n (l.setIfInBounds i true) b v ∧ (i ≠ z → F v)) a w
section
variable {P : Program} {md : Region.Mode} {ops : Array Oper} {Q : Exit → Act → World → Prop} {z : Nat} {F : World → Prop}
theorem ala.any {n : Nat} : ∀ {l : Array Bool} {a : Act} {w : World},ala P md ops Q z F n l a w → wpAny P md ops Q n l a w := by
 induction n with
 |zero => exact fun h => h
 |succ n ih => exact fun h => ⟨h.1,fun i hi => wpOp_mono (fun _ _ k => ih k.1) (h.2 i hi)⟩
def aqo (md : Region.Mode) (ops : Array Oper) (z i : Nat) : Bool := match ops[z]? with
 |some o => o.after.any fun e => Region.binds md e && e.on == i
 |none => false
theorem azg {i : Nat} {l : Array Bool} (h : aqo md ops z i = true) (hi : i ∈ Region.ready md ops l) : z ∉ Region.ready md ops l := fun hz => by
 obtain ⟨_,o,ho,ha⟩ := mem_ready.1 hz
 have h0 := (mem_ready.1 hi).1
 unfold aqo at h
 rw [ho] at h
 obtain ⟨e,he,hb⟩ : ∃ e,e ∈ o.after ∧ (Region.binds md e && e.on == i) = true := by
  dsimp only at h
  rw [← Array.any_toList,List.any_eq_true] at h
  obtain ⟨e,he,hb⟩ := h
  exact ⟨e,Array.mem_toList_iff.1 he,hb⟩
 rw [Bool.and_eq_true,beq_iff_eq] at hb
 have h1 := ha e he hb.1
 rw [hb.2] at h1
 by_cases hl : i < l.size
 ·simp [hl] at h0 h1
  rw [h0] at h1
  cases h1
 ·simp [Array.getElem?_eq_none (Nat.le_of_not_lt hl)] at h1
theorem takeZ {i : Nat} {o : Oper} {v : Value} (hi : ops[i]? = some o) (hs : Region.noSelect ops = true) (hQ : ∀ c a w,Q (.panic c) (a.put o.dst v) w → Q (.panic c) a w) (hz : aqo md ops z i = true) : ∀ (n : Nat) {l : Array Bool} {a : Act} {w : World},
  (∀ k ok,ops[k]? = some ok → k ≠ i → l.getD k true = false → (∀ e ∈ ok.after,Region.binds md e = true → e.on ≠ i) → o.apart ops ok = true) → i ∈ Region.ready md ops l → YieldsIf P ops F o v a → F w → i ≠ z →
  ala P md ops Q z F n (l.setIfInBounds i true) (a.put o.dst v) w → ala P md ops Q z F (n + 1) l a w := by
 intro n
 induction n with
 |zero =>
  intro l a w _ hr hy hF hne H
  refine ⟨fun e => absurd hr (by rw [e]; simp),fun k hk => ?_⟩
  rcases Decidable.em (k = i) with rfl | hki
  ·exact hy.wpOp hi hF ⟨H,fun _ => hF⟩
  ·exact absurd (ready_mono hk hki) (by rw [H.1]; simp)
 |succ n ih =>
  intro l a w hfree hr hy hF hne H
  refine ⟨fun e => absurd hr (by rw [e]; simp),fun k hk => ?_⟩
  rcases Decidable.em (k = i) with rfl | hki
  ·exact hy.wpOp hi hF ⟨H,fun _ => hF⟩
  have hkz : k ≠ z := fun e => azg hz hr (e ▸ hk)
  obtain ⟨hun,ok,hok,hall⟩ := mem_ready.1 hk
  have hir := (mem_ready.1 hr).1
  have apart : o.apart ops ok = true := hfree k ok hok hki hun fun e he hb h => by
   have h1 := hall e he hb
   rw [h] at h1
   by_cases hl : i < l.size
   ·simp [hl] at hir h1
    rw [hir] at h1
    cases h1
   ·simp [Array.getElem?_eq_none (Nat.le_of_not_lt hl)] at h1
  have step := wpOp_putIf hok apart (fun cs b => Region.noSelect_spec hs i o cs b hi) (fun cs b => Region.noSelect_spec hs k ok cs b hok) hQ hy (H.2 k (ready_mono hk hki))
  refine wpOp_mono (fun b u s => ⟨?_,s.2.2⟩) step
  refine ih (fun j oj hj hji hu hno => hfree j oj hj hji ?_ hno) (ready_mono hr (Ne.symm hki)) s.1 (s.2.2 hkz) hne (by rw [Array.setIfInBounds_comm _ _ hki]; exact s.2.1)
  rcases Decidable.em (k = j) with rfl | hkj
  ·exact hun
  ·rwa [getD_set_ne true hkj] at hu
theorem tu (i : Nat) {fuel : Nat} {listed : Array Bool} {a a' : Act} {w : World} {d : Option Tmp} {op : Op} {ty : TypeId} {pos : String} {af : Array Edge} {gd : Option (Nat × Bool)} {v : Value} (h : ala P md ops Q z F fuel (listed.setIfInBounds i true) a' w)
  (hi : ops[i]? = some ⟨d,op,ty,pos,af,gd⟩ := by rfl) (hs : Region.noSelect ops = true := by kernel_rfl) (hf : Region.free md ops listed i = true := by kernel_rfl)
  (hr : (Region.ready md ops listed).contains i = true := by kernel_rfl) (hQ : ∀ c a w,Q (.panic c) (a.put (d) v) w → Q (.panic c) a w := by exact fun _ _ _ h => h)
  (hw : Region.wanted ⟨d,op,ty,pos,af,gd⟩ (yielded ops a.tmps) = true := by rfl)
  (hy : ∀ w,F w → (execOp a.eval ⟨d,op,ty,pos,af,gd⟩).run P w = .ok (.value v) w := by (intro w hSw; (try dsimp only at hSw); go_simp; (try (with_reducible rfl)); done))
  (ha : a.put (d) v = a' := by (conv => lhs; (simp only [Act.put,List.setIfInBounds_toArray]; dsimp only [List.set_cons_zero,List.set_cons_succ])))
  (hz : aqo md ops z i = true := by kernel_rfl) (hne : (i == z) = false := by rfl) (hF : F w := by assumption) : ala P md ops Q z F (fuel + 1) listed a w :=
 takeZ hi hs hQ hz fuel (Region.free_spec hi hf) (by simpa using hr) (Or.inl ⟨hw,hy⟩) hF (beq_eq_false_iff_ne.1 hne) (ha ▸ h)
theorem zone (i : Nat) {fuel : Nat} {listed : Array Bool} {a : Act} {w : World} {d : Option Tmp} {op : Op} {ty : TypeId} {pos : String} {af : Array Edge} {gd : Option (Nat × Bool)}
  (h : ∀ K' : Act → World → Prop,Shut (∀ a w,F w → (F w → ala P md ops Q z F fuel (listed.setIfInBounds i true) a w) → K' a w) → if Region.wanted ⟨d,op,ty,pos,af,gd⟩ (yielded ops a.tmps) = true then Oper.wp P ⟨d,op,ty,pos,af,gd⟩ a w K' Q else K' (a.put d undef) w)
  (hr : Region.ready md ops listed = [i] := by kernel_rfl) (ho : ops[i]? = some ⟨d,op,ty,pos,af,gd⟩ := by rfl) : ala P md ops Q z F (fuel + 1) listed a w :=
 ⟨fun e => absurd (hr ▸ e) (by simp),fun j hj => by
  rw [hr,List.mem_singleton] at hj
  subst hj
  exact wpOp_step ho fun K' hK => h K' fun a w f k => hK a w ⟨k f,fun _ => f⟩⟩
theorem ajn {fuel : Nat} {listed : Array Bool} {a : Act} {w : World} {d : Option Tmp} {op : Op} {ty : TypeId} {pos : String} {af : Array Edge} {gd : Option (Nat × Bool)}
  (h : ∀ K' : Act → World → Prop,Shut (∀ a w,ala P md ops Q z F fuel (listed.setIfInBounds z true) a w → K' a w) → if Region.wanted ⟨d,op,ty,pos,af,gd⟩ (yielded ops a.tmps) = true then Oper.wp P ⟨d,op,ty,pos,af,gd⟩ a w K' Q else K' (a.put d undef) w)
  (hr : Region.ready md ops listed = [z] := by kernel_rfl) (ho : ops[z]? = some ⟨d,op,ty,pos,af,gd⟩ := by rfl) : ala P md ops Q z F (fuel + 1) listed a w :=
 ⟨fun e => absurd (hr ▸ e) (by simp),fun j hj => by
  rw [hr,List.mem_singleton] at hj
  subst hj
  exact wpOp_step ho fun K' hK => h K' fun a w k => hK a w ⟨k,fun e => absurd rfl e⟩⟩
def af5 (P : Program) (md : Region.Mode) (ops : Array Oper) (Q : Exit → Act → World → Prop) (z : Nat) (F : World → Prop) (fuel : Nat) (listed : Array Bool) (a : Act) (w : World) (rs : List Nat) : Prop :=
 ∀ i ∈ rs,wpOp P ops Q i (fun b v => ala P md ops Q z F fuel (listed.setIfInBounds i true) b v ∧ (i ≠ z → F v)) a w
theorem af5.nil {fuel : Nat} {listed : Array Bool} {a : Act} {w : World} : af5 P md ops Q z F fuel listed a w [] := fun _ h => by cases h
theorem af5.cons {fuel : Nat} {listed : Array Bool} {a : Act} {w : World} {i : Nat} {o : Oper} {rs : List Nat} (ho : ops[i]? = some o)
  (h : ∀ K' : Act → World → Prop,Shut (∀ a w,F w → (F w → ala P md ops Q z F fuel (listed.setIfInBounds i true) a w) → K' a w) → if Region.wanted o (yielded ops a.tmps) = true then Oper.wp P o a w K' Q else K' (a.put o.dst undef) w)
  (t : af5 P md ops Q z F fuel listed a w rs) : af5 P md ops Q z F fuel listed a w (i :: rs) := fun j hj => by
 rcases List.mem_cons.1 hj with rfl | hj
 ·exact wpOp_step ho fun K' hK => h K' fun a w f k => hK a w ⟨k f,fun _ => f⟩
 ·exact t j hj
theorem aik {fuel : Nat} {listed : Array Bool} {a : Act} {w : World} {rs : List Nat} (hr : Region.ready md ops listed = rs) (hne : rs ≠ []) (h : af5 P md ops Q z F fuel listed a w rs) : ala P md ops Q z F (fuel + 1) listed a w :=
 ⟨fun e => absurd (hr ▸ e) hne,fun i hi => h i (hr ▸ hi)⟩
theorem ajo {fuel : Nat} {listed : Array Bool} {a : Act} {w : World} (h : Q .normal a w) (hr : Region.ready md ops listed = [] := by kernel_rfl) : ala P md ops (NoPanic Q) z F fuel listed a w := by
 cases fuel with
 |zero => exact ⟨hr,NoPanic.normal h⟩
 |succ n => exact ⟨fun _ => NoPanic.normal h,fun i hi => by rw [hr] at hi; cases hi⟩
theorem avb (z : Nat) {id : Nat} {a : Act} {w : World} (hF : F w.drew) (h : F w.drew → ala P .any ops (NoPanic Q) z F ops.size (Array.replicate ops.size false) a w.drew) (hm : P.follows .mixedOrders = true := by kernel_rfl) : (Code.region id ops true).wp P Q a w :=
 wp_region_noPanic (wp_region_any hm (ala.any (h hF)))
end
end Go.Proofs.YtohckefafbhooaaGreat
namespace Go.Proofs.YtohckefafbhooaaGreat
set_option maxRecDepth 100000
set_option linter.unusedVariables false
set_option linter.unusedSimpArgs false
open Go.RowKit
end Go.Proofs.YtohckefafbhooaaGreat
namespace Go.Proofs.YtohckefafbhooaaGreat
set_option maxRecDepth 100000
open Go.Shelf
def Tryz.laysbkSortFunc_ren : Go.Shelf.Ren := ⟨fun | 6 => 131 | 15 => 150 | 14 => 149 | 28 => 170 | 29 => 171 | 20 => 162 | 21 => 163 | 22 => 164 | 23 => 165 | 24 => 166 | 25 => 167 | 26 => 168 | 27 => 169 | 46 => 181 | 47 => 182 | 48 => 183 | 49 => 184 | 50 => 185 | 57 => 189 | n => n,fun | 22 => 84 | 24 => 72 | 25 => 146 | 3 => 3 | 39 => 98 | 0 => 0 | 53 => 215 | 55 => 23 | 4 => 4 | 46 => 208 | 45 => 207 | 50 => 212 | 5 => 5 | 9 => 9 | 66 => 226 | 70 => 229 | 76 => 233 | 77 => 234 | n => n,fun | n => n⟩
theorem Tryz.laysbkSortFunc : Go.Proofs.SlLaysF0.n6 Tryz.prog Tryz.laysbkSortFunc_ren := {
 mixed := by kernel_rfl,
 f6 := ⟨Tryz.f131.name,by decide,Tryz.func131.trans (congrArg some (by kernel_rfl))⟩,
 f14 := ⟨Tryz.f149.name,by decide,Tryz.func149.trans (congrArg some (by kernel_rfl))⟩,
 f15 := Tryz.func150.trans (congrArg some (by kernel_rfl)),
 f20 := ⟨Tryz.f162.name,by decide,Tryz.func162.trans (congrArg some (by kernel_rfl))⟩,
 f21 := ⟨Tryz.f163.name,by decide,Tryz.func163.trans (congrArg some (by kernel_rfl))⟩,
 f22 := ⟨Tryz.f164.name,by decide,Tryz.func164.trans (congrArg some (by kernel_rfl))⟩,
 f23 := ⟨Tryz.f165.name,by decide,Tryz.func165.trans (congrArg some (by kernel_rfl))⟩,
 f24 := ⟨Tryz.f166.name,by decide,Tryz.func166.trans (congrArg some (by kernel_rfl))⟩,
 f25 := ⟨Tryz.f167.name,by decide,Tryz.func167.trans (congrArg some (by kernel_rfl))⟩,
 f26 := ⟨Tryz.f168.name,by decide,Tryz.func168.trans (congrArg some (by kernel_rfl))⟩,
 f27 := ⟨Tryz.f169.name,by decide,Tryz.func169.trans (congrArg some (by kernel_rfl))⟩,
 f28 := Tryz.func170.trans (congrArg some (by kernel_rfl)),
 f29 := Tryz.func171.trans (congrArg some (by kernel_rfl)),
 f46 := ⟨Tryz.f181.name,by decide,Tryz.func181.trans (congrArg some (by kernel_rfl))⟩,
 f47 := Tryz.func182.trans (congrArg some (by kernel_rfl)),
 f48 := Tryz.func183.trans (congrArg some (by kernel_rfl)),
 f49 := ⟨Tryz.f184.name,by decide,Tryz.func184.trans (congrArg some (by kernel_rfl))⟩,
 f50 := ⟨Tryz.f185.name,by decide,Tryz.func185.trans (congrArg some (by kernel_rfl))⟩,
 f57 := ⟨Tryz.f189.name,by decide,Tryz.func189.trans (congrArg some (by kernel_rfl))⟩,
 t0 := Tryz.underlying0,
 a0 := Tryz.isAgg0,
 z0 := Tryz.sizeOf0,
 v0 := Tryz.zeroValue0,
 t3 := Tryz.underlying3,
 a3 := Tryz.isAgg3,
 z3 := Tryz.sizeOf3,
 v3 := Tryz.zeroValue3,
 t4 := Tryz.underlying4,
 a4 := Tryz.isAgg4,
 z4 := Tryz.sizeOf4,
 v4 := Tryz.zeroValue4,
 t5 := Tryz.underlying5,
 a5 := Tryz.isAgg5,
 z5 := Tryz.sizeOf5,
 v5 := Tryz.zeroValue5,
 t9 := Tryz.underlying9,
 a9 := Tryz.isAgg9,
 z9 := Tryz.sizeOf9,
 v9 := Tryz.zeroValue9,
 t22 := Tryz.underlying84,
 a22 := Tryz.isAgg84,
 z22 := Tryz.sizeOf84,
 v22 := Tryz.zeroValue84,
 t25 := Tryz.underlying146,
 a25 := Tryz.isAgg146,
 z25 := Tryz.sizeOf146,
 v25 := Tryz.zeroValue146,
 t39 := Tryz.underlying98,
 a39 := Tryz.isAgg98,
 z39 := Tryz.sizeOf98,
 v39 := Tryz.zeroValue98,
 t45 := Tryz.underlying207,
 a45 := Tryz.isAgg207,
 z45 := Tryz.sizeOf207,
 v45 := Tryz.zeroValue207,
 t46 := Tryz.underlying208,
 a46 := Tryz.isAgg208,
 z46 := Tryz.sizeOf208,
 v46 := Tryz.zeroValue208,
 t50 := Tryz.underlying212,
 a50 := Tryz.isAgg212,
 z50 := Tryz.sizeOf212,
 v50 := Tryz.zeroValue212,
 t53 := Tryz.underlying215,
 a53 := Tryz.isAgg215,
 z53 := Tryz.sizeOf215,
 v53 := Tryz.zeroValue215,
 t55 := Tryz.underlying23,
 a55 := Tryz.isAgg23,
 z55 := Tryz.sizeOf23,
 v55 := Tryz.zeroValue23,
 t66 := Tryz.underlying226,
 a66 := Tryz.isAgg226,
 z66 := Tryz.sizeOf226,
 v66 := Tryz.zeroValue226,
 t70 := Tryz.underlying229,
 a70 := Tryz.isAgg229,
 z70 := Tryz.sizeOf229,
 v70 := Tryz.zeroValue229,
 t76 := Tryz.underlying233,
 a76 := Tryz.isAgg233,
 z76 := Tryz.sizeOf233,
 v76 := Tryz.zeroValue233,
 t77 := Tryz.underlying234,
 a77 := Tryz.isAgg234,
 z77 := Tryz.sizeOf234,
 v77 := Tryz.zeroValue234 }
end Go.Proofs.YtohckefafbhooaaGreat
namespace Go.Proofs.YtohckefafbhooaaGreat
set_option maxRecDepth 100000
set_option linter.unusedVariables false
set_option linter.unusedSimpArgs false
open Go.RowKit
theorem own : ownKnob Tryz.prog.godebug = none := by kernel_rfl
theorem laidOut : laidOutB Tryz.prog = true := by kernel_rfl
end Go.Proofs.YtohckefafbhooaaGreat
