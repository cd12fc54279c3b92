import Derived.Test.YtohckefafbhooaaGreatR8
import Derived.Test.YtohckefafbhooaaGreatR3
import Derived.Shelf.SlMaps.Clone
set_option maxRecDepth 100000
set_option maxHeartbeats 64000000
namespace Go.Proofs.YtohckefafbhooaaGreat
set_option linter.unusedVariables false
set_option linter.unusedSimpArgs false
open Go.RowKit Go.Maps
def MZ (w : World) (B n : Nat) (f : Nat → Nat) : Prop :=
 ∃ D : DataW Unit,w.ownsMap Tryz.prog 66 (plainElem Tryz.prog 36) B n D ∧ (∀ k,k < 256 → D.atKey (kW k) (.lit (.int .u64 0)) = .lit (.int .u64 (f k : Int))) ∧ ∀ k,k < 256 → Maps.has D (kW k) = decide (f k ≠ 0)
theorem MZ.mu {w : World} {B n : Nat} {f : Nat → Nat} (h : MZ w B n f) : MU w B n f := by
 obtain ⟨D,h1,h2,_⟩ := h
 exact ⟨D,h1,h2⟩
theorem MZ.mono {w : World} {B n m : Nat} {f : Nat → Nat} (h : MZ w B n f) (hm : n ≤ m) : MZ w B m f := by
 obtain ⟨D,h1,h2⟩ := h
 exact ⟨D,h1.mono hm,h2⟩
theorem MZ.keep {w w' : World} {B n : Nat} {f : Nat → Nat} (h : MZ w B n f) (he : w'.heap[B]? = w.heap[B]?) : MZ w' B n f := by
 obtain ⟨D,⟨es,clock,hb,r⟩,h2⟩ := h
 exact ⟨D,⟨es,clock,he.trans hb,r⟩,h2⟩
theorem MZ.fr {S : Nat → Prop} {w w' : World} {B n : Nat} {f : Nat → Nat} (h : MZ w B n f) (r : Fr S w w') (hs : ¬ S B) : MZ w' B n f := h.keep (r.block B h.mu.lt hs)
theorem MZ.made (w : World) : MZ (w.alloc (.map #[] 0)) w.heap.size 0 fun _ => 0 := ⟨_,World.ownsMap_made w _ _ _,fun k hk => rfl,fun k hk => rfl⟩
theorem MZ.put {w : World} {B n : Nat} {f : Nat → Nat} (h : MZ w B n f) (hn : n < maxLen) {x v : Nat} (hx : x < 256) (hv : v < 18446744073709551616) (h0 : v ≠ 0) :
  ∃ w',(updA (.map (some B)) (.int .u8 (x : Int)) (.int .u64 (v : Int))).run Tryz.prog w = .ok () w' ∧ MZ w' B (n + 1) (upd f x v) ∧ Fr (fun k => k = B) w w' ∧ w'.heap.size = w.heap.size := by
 obtain ⟨D,h1,h2,h3⟩ := h
 obtain ⟨w',hr,ho,ht⟩ := h1.store ado Tryz.underlying150 hn (keyOf_int_mk Tryz.underlying66 (au7 hx)) (plainElem_int Tryz.underlying36 (aKn hv))
 refine ⟨w',hr,⟨_,ho,fun k hk => ?_,fun k hk => ?_⟩,agx ht⟩
 ·by_cases e : k = x
  ·subst e
   rw [upd_same]
   exact atKey_put_same h1.isMap (show WideAt.IsKeyLit (kW k) from trivial) _ _
  ·rw [aaf e,← h2 k hk]
   exact atKey_put_other (ajp e) _ _
 ·by_cases e : k = x
  ·subst e
   rw [upd_same,decide_eq_true h0]
   exact has_put_same h1.isMap (show WideAt.IsKeyLit (kW k) from trivial) _
  ·rw [aaf e,← h3 k hk]
   exact has_put_other (ajp e) _
theorem MZ.del {w : World} {B n : Nat} {f : Nat → Nat} (h : MZ w B n f) (ty : TypeId) {x : Nat} (hx : x < 256) :
  ∃ w',(Builtin.delete_ #[150,66] ty #[.map (some B),.int .u8 (x : Int)]).run Tryz.prog w = .ok (.tuple #[]) w' ∧ MZ w' B n (upd f x 0) ∧ Fr (fun k => k = B) w w' ∧ w'.heap.size = w.heap.size := by
 obtain ⟨D,h1,h2,h3⟩ := h
 obtain ⟨w',hr,ho,ht⟩ := h1.drop ado Tryz.underlying150 (keyOf_int_mk Tryz.underlying66 (au7 hx)) ty
 refine ⟨w',hr,⟨_,ho,fun k hk => ?_,fun k hk => ?_⟩,agx ht⟩
 ·by_cases e : k = x
  ·subst e
   rw [upd_same]
   exact atKey_del_same _
  ·rw [aaf e,← h2 k hk]
   exact atKey_del_other (ajp e) _
 ·by_cases e : k = x
  ·subst e
   rw [upd_same]
   exact has_del_same
  ·rw [aaf e,← h3 k hk]
   exact has_del_other (ajp e)
theorem MZ.range {w : World} {B n : Nat} {f : Nat → Nat} (h : MZ w B n f) :
  ∃ w' cnt,(Instr.range 150 (.map (some B))).run Tryz.prog w = .ok (.pointer (some ⟨w.heap.size,0,none⟩)) w' ∧ MR w' B w.heap.size n f (fun k => decide (f k ≠ 0)) cnt ∧ cnt ≤ n ∧ Fr F0 w w' ∧ w'.heap.size = w.heap.size + 1 := by
 obtain ⟨D,h1,h2,h3⟩ := h
 obtain ⟨w',hr,hg,hgr,hsz⟩ := h1.range ado Tryz.underlying150
 refine ⟨w',_,hr,⟨D,_,hg,h2,fun k hk => h3 k hk⟩,?_,ame hgr,hsz⟩
 obtain ⟨es,clock,hb,F,hs,rfl⟩ := h1
 simp only [Maps.size]
 rw [Go.DataW.length_sorted]
 simpa using hs
def MO (w : World) (ob : Option Nat) (n : Nat) (f : Nat → Nat) : Prop := match ob with
 |none => ∀ k,k < 256 → f k = 0
 |some B => MZ w B n f
theorem MO.fr {S : Nat → Prop} {w w' : World} {ob : Option Nat} {n : Nat} {f : Nat → Nat} (h : MO w ob n f) (r : Fr S w w') (hs : ∀ B,ob = some B → ¬ S B) : MO w' ob n f := by
 cases ob with
 |none => exact h
 |some B => exact MZ.fr h r (hs B rfl)
theorem MO.mono {w : World} {ob : Option Nat} {n m : Nat} {f : Nat → Nat} (h : MO w ob n f) (hm : n ≤ m) : MO w ob m f := by
 cases ob with
 |none => exact h
 |some B => exact MZ.mono h hm
theorem MO.lt {w : World} {ob : Option Nat} {n : Nat} {f : Nat → Nat} (h : MO w ob n f) {B : Nat} (e : ob = some B) : B < w.heap.size := by
 subst e
 exact (MZ.mu h).lt
theorem axu (x : Nat) (w : World) : (lookA (.map none) (.int .u8 (x : Int)) false).run Tryz.prog w = .ok (.int .u64 0) w := by kernel_rfl
theorem MO.look {w : World} {ob : Option Nat} {n : Nat} {f : Nat → Nat} (h : MO w ob n f) {x : Nat} (hx : x < 256) : (lookA (.map ob) (.int .u8 (x : Int)) false).run Tryz.prog w = .ok (.int .u64 (f x : Int)) w := by
 cases ob with
 |none => rw [h x hx]; exact axu x w
 |some B => exact (MZ.mu h).look hx
theorem anx {w : World} {B n : Nat} {f : Nat → Nat} (h : MZ w B n f) : Calls Tryz.prog 118 #[.map (some B)] w fun e w' => e = .returned (.map (some w.heap.size)) ∧ MZ w' w.heap.size n f ∧ Fr F0 w w' ∧ w'.heap.size = w.heap.size + 1 := by
 obtain ⟨D,⟨es,clock,hb,F,hs,hD⟩,h2⟩ := h
 have hq := fun w => run_eql_map_nil_sl (P := Tryz.prog) w 150 _ _ (some B) Tryz.underlying150
 have hc := run_callFunc_extern Tryz.func119 (by kernel_rfl) (by kernel_rfl) (by kernel_rfl) (e := Extern.MapsClone.clone) (by kernel_rfl) (P := Tryz.prog)
 have HM := Lib.hid (And.intro F (And.intro hs (And.intro hD h2)))
 clear F hs hD h2
 go_enter Tryz.func118,Tryz.ntmps118
 go_wp2
 rw [run_maps_clone_sl w 150 hb]
 simp only [Result.andThen]
 rw [Oper.upon_value]
 go_wp2
 rw [run_typeAssert_map_sl _ 150 _ _ _ _ Tryz.underlying150]
 simp only [Result.andThen]
 rw [Oper.upon_value]
 go_wp2
 go_ret
 exact ⟨rfl,⟨D,⟨es,clock,(MapKept.heap_alloc w _).1,HM.out.1,HM.out.2.1,HM.out.2.2.1⟩,HM.out.2.2.2⟩,(Fr.refl F0 w).alloc _,by simp⟩
theorem apy (w : World) : Calls Tryz.prog 118 #[.map none] w fun e w' => e = .returned (.map none) ∧ w' = w := by
 have hq := fun w => run_eql_map_nil_sl (P := Tryz.prog) w 150 _ _ none Tryz.underlying150
 go_enter Tryz.func118,Tryz.ntmps118
 go_wp2
 go_ret
 exact ⟨rfl,rfl⟩
end Go.Proofs.YtohckefafbhooaaGreat
