import Derived.Test.YtedffdlkmpmdlaaGreatDoorQ34
import Derived.Test.YtedffdlkmpmdlaaGreatDoorQ17
import Derived.Test.YtedffdlkmpmdlaaGreatDoorQ24
import Derived.Test.YtedffdlkmpmdlaaGreatDoorQ7
import Derived.Test.YtedffdlkmpmdlaaGreatDoorQ1
import Derived.Test.YtedffdlkmpmdlaaGreatDoorQ22
import Derived.Test.YtedffdlkmpmdlaaGreatDoorQ30
import Derived.Test.YtedffdlkmpmdlaaGreatDoorQ14
import Derived.Test.YtedffdlkmpmdlaaGreatDoorQ21
import Derived.Test.YtedffdlkmpmdlaaGreatDoorQ33
namespace Go.Proofs.YtedffdlkmpmdlaaGreatDoor
set_option maxRecDepth 100000
set_option linter.unusedVariables false
set_option linter.unusedSimpArgs false
open Go.RowKit
theorem own_appK {st et sz nb : Nat} (hu : Tryz.prog.underlying st = some (.slice et)) {z : Value} (hi3 : (Tryz.prog.info? et).map (fun i => (i.zero,i.size,i.bytes)) = some (some z,sz,nb)) (hzc : z.cells.size = sz) (h0 : 0 < sz) (hnb : nb ≤ 1000)
  {w : World} {v : Value} {n : Nat} {xs : List Value} (h : w.ownsRow 0 et sz v n xs) (X : Array Value) (hX : X.size = sz) (oX : rowOne X) (hl : n ≤ 100000) (ty : TypeId) :
  ∃ a c w',(Builtin.append_ #[st,st] ty #[v,.slice (some ⟨w.heap.size,0,none⟩) 1 1]).run Tryz.prog (w.alloc (.cells X et)) = .ok (.slice a (n + 1) c) w' ∧ w'.ownsRow 0 et sz (.slice a (n + 1) c) (n + 1) (xs ++ X.toList) ∧
   Fr (fun k => v.ownBlock = some k) w w' ∧ ∀ k,ablk a = some k → v.ownBlock = some k ∨ w.heap.size ≤ k := by
 obtain ⟨i0,hi,hz,hs,hb⟩ := info_parts hi3
 obtain ⟨W,hW⟩ : ∃ W,W = w.alloc (.cells X et) := ⟨_,rfl⟩
 have hnew := heap_alloc_new w (.cells X et)
 have fW : Fr F0 w W := by rw [hW]; exact (Fr.refl F0 w).alloc _
 have sW : W.heap.size = w.heap.size + 1 := by rw [hW]; simp
 rw [← hW] at hnew ⊢
 have hsl : Sl W sz (some ⟨w.heap.size,0,none⟩) 1 1 X.toList := ⟨by rw [Array.length_toList,hX,Nat.one_mul],Nat.le_refl _,by unfold maxLen; omega,(fun e => by cases e),fun j u hj => ⟨_,_,rfl,by rw [cell_at,hnew,cellAt_cells,Nat.zero_add]; simpa using hj⟩⟩
 have hone : ∀ u ∈ X.toList,u.oneCell' = true := fun u hu => by
  unfold rowOne at oX
  rw [Array.all_eq_true_iff_forall_mem] at oX
  exact oX u (by simpa using hu)
 obtain ⟨v',w',hrun,hown,hg,hnw⟩ := run_app (P := Tryz.prog) (w := W) st ty et i0 _ sz nb hu hi hz hs hb hzc h0 v n _ (own_frJ h fW fun _ _ f => f) (some ⟨w.heap.size,0,none⟩) 1 1 X.toList hsl
  hone (by unfold maxLen; omega) (by have := Nat.mul_le_mul (show n + 1 ≤ 100001 by omega) hnb; omega)
 obtain ⟨a,c,rfl⟩ := own_slice hown
 have F : Fr (fun k => v.ownBlock = some k) w w' := (fW.of0).grown hg fun k hk hl => hk
 refine ⟨a,c,w',hrun,hown,F,fun k hk => ?_⟩
 rcases hnw k (by rw [ablk_own]; exact hk) with e | e
 ·exact .inl e
 ·exact .inr (by omega)
theorem Tryz.infoHeader : (Tryz.prog.info? 27).map (fun i => (i.zero,i.size,i.bytes)) = some (some (.agg (Value.int .u32 0 :: (z32.map B8 ++ (z32.map B8 ++ [Value.int .u32 0,.int .u32 0,.int .u32 0]))).toArray),68,80) := by kernel_rfl
def appR (t ty : TypeId) (args : Array Value) : Sem Value := Builtin.append_ #[t,t] ty args
@[go_sem ↓ high] theorem app_R2 (ty : TypeId) (args : Array Value) : Builtin.append_ #[35,35] ty args = appR 35 ty args := rfl
structure OwnHd (w : World) (v : Value) (l : List Hd) : Prop where
 own : w.ownsRow 0 27 68 v l.length (l.flatMap fun h => h.cells.toList)
 ok : ∀ h ∈ l,h.Ok
theorem OwnHd.frS {S : Nat → Prop} {w w' : World} {v : Value} {l : List Hd} (h : OwnHd w v l) (f : Fr S w w') (h1 : ∀ k,v.ownBlock = some k → ¬ S k) : OwnHd w' v l := ⟨own_frJ h.own f h1,h.ok⟩
theorem OwnHd.fr {w w' : World} {v : Value} {l : List Hd} (h : OwnHd w v l) (f : Fr F0 w w') : OwnHd w' v l := h.frS f fun _ _ e => e
theorem OwnHd.block {w : World} {v : Value} {l : List Hd} (h : OwnHd w v l) {k : Nat} (hk : v.ownBlock = some k) : ∃ cur,w.heap[k]? = some (.cells cur 27 (0,0)) := by
 rcases h.own.2 with ⟨rfl,_⟩ | ⟨g,cap,cur,rfl,_,hg,_⟩
 ·cases hk
 ·cases hk
  exact ⟨cur,hg⟩
theorem OwnHd.app {w : World} {v : Value} {l : List Hd} (h : OwnHd w v l) (b : Hd) (o : b.Ok) (hl : l.length ≤ 100000) (ty : TypeId) :
  ∃ a c w',(appR 35 ty #[v,.slice (some ⟨w.heap.size,0,none⟩) 1 1]).run Tryz.prog (w.alloc (.cells b.cells 27)) = .ok (.slice a (l.length + 1) c) w' ∧ OwnHd w' (.slice a (l.length + 1) c) (l ++ [b]) ∧
   Fr (fun k => v.ownBlock = some k) w w' ∧ ∀ k,ablk a = some k → v.ownBlock = some k ∨ w.heap.size ≤ k := by
 obtain ⟨a,c,w',h1,h2,h3,h4⟩ := own_appK Tryz.underlying35 Tryz.infoHeader rfl (by omega) (by omega) h.own b.cells (Hd.cells_size o) Hd.one hl ty
 refine ⟨a,c,w',h1,⟨?_,fun x hx => ?_⟩,h3,h4⟩
 ·rw [List.length_append,List.flatMap_append]
  simpa using h2
 ·rw [List.mem_append,List.mem_singleton] at hx
  rcases hx with hx | rfl
  ·exact h.ok x hx
  ·exact o
theorem flatHd_at : ∀ (l : List Hd),(∀ h ∈ l,h.Ok) → ∀ k,k < l.length → ∀ j,j < 68 → (l.flatMap fun h => h.cells.toList)[k * 68 + j]? = (hdT l k).cells[j]?
 |[],_,k,h,j,_ => absurd h (by simp)
 |x :: l,hl,0,_,j,hj => by
  rw [List.flatMap_cons,Nat.zero_mul,Nat.zero_add,List.getElem?_append_left (by rw [Array.length_toList,Hd.cells_size (hl x (by simp))]; exact hj),Array.getElem?_toList]
  rfl
 |x :: l,hl,k + 1,h,j,hj => by
  have e : x.cells.toList.length = 68 := by rw [Array.length_toList,Hd.cells_size (hl x (by simp))]
  rw [List.flatMap_cons,List.getElem?_append_right (by rw [e]; omega),e,show (k + 1) * 68 + j - 68 = k * 68 + j by omega,flatHd_at l (fun y hy => hl y (by simp [hy])) k (by simpa using h) j hj]
  rfl
theorem hdT_mem {l : List Hd} {k : Nat} (hk : k < l.length) : hdT l k ∈ l := by
 unfold hdT
 rw [List.getD_eq_getElem?_getD,List.getElem?_eq_getElem hk]
 exact List.getElem_mem hk
theorem OwnHd.load {w : World} {v : Value} {l : List Hd} (h : OwnHd w v l) {k : Nat} (hk : k < l.length) :
  ∃ b c,v = .slice (some ⟨b,0,none⟩) l.length c ∧ l.length ≤ c ∧ ∀ W,Fr F0 w W → (loadRowAt 27 (.pointer (some ⟨b,k * 68,none⟩))).run Tryz.prog W = .ok (.agg (hdT l k).cells) W := by
 obtain ⟨a,c,rfl⟩ := own_slice h.own
 have hs := (Sl.of_own h.own).2
 have o := h.ok _ (hdT_mem hk)
 obtain ⟨b,off,e,_⟩ := hs.cell (k * 68 + 0) _ ((flatHd_at l h.ok k hk 0 (by omega)).trans (Array.getElem?_eq_getElem (by rw [Hd.cells_size o]; omega)))
 subst e
 have hoff : off = 0 := by
  rcases h.own.2 with ⟨e,_⟩ | ⟨g,cap,cur,e,_⟩
  ·cases e
  ·cases e; rfl
 subst hoff
 refine ⟨b,c,rfl,hs.room,fun W f => ?_⟩
 have hs' := (Sl.of_own (h.fr f).own).2
 have := run_loadAt_mid (P := Tryz.prog) W b (k * 68) 27 (hdT l k).cells.toList _ (fun j u hj => by
  have hj' : j < 68 := by have := (List.getElem?_eq_some_iff.1 hj).1; rw [Array.length_toList,Hd.cells_size o] at this; exact this
  obtain ⟨b',off',e',hc⟩ := hs'.cell (k * 68 + j) u ((flatHd_at l h.ok k hk j hj').trans (by simpa using hj))
  cases e'
  rw [Nat.zero_add] at hc
  exact hc) Tryz.underlying27 rfl (by rw [Tryz.szHeader,Array.length_toList,Hd.cells_size o])
 rw [Array.toArray_toList] at this
 exact this
def buildLR (t : TypeId) (parts : Array (Nat × Value)) : Sem Value := Instr.buildSlice t 1 parts
@[go_sem ↓ high] theorem build_LR2 (p : Array (Nat × Value)) : Instr.buildSlice 35 1 p = buildLR 35 p := rfl
theorem run_buildLHd (w : World) (X : Array Value) (h : X.size = 68) : (buildLR 35 #[(0,.agg X)]).run Tryz.prog w = .ok (.slice (some ⟨w.heap.size,0,none⟩) 1 1) (w.alloc (.cells X 27)) := by
 obtain ⟨i0,hi,hz,hs,_⟩ := info_parts Tryz.infoHeader
 exact run_slice1J w 35 27 X 68 i0 _ Tryz.underlying35 hi hz hs (by omega) (by omega) h
theorem OwnHd.new1 {w : World} {g : Nat} (b : Hd) (o : b.Ok) (h : w.heap[g]? = some (.cells b.cells 27 (0,0))) : OwnHd w (.slice (some ⟨g,0,none⟩) 1 1) [b] :=
 ⟨⟨by simp [Hd.cells_size o],.inr ⟨g,1,_,rfl,Nat.zero_le _,h,Nat.le_refl _,by unfold maxLen; omega,by rw [Hd.cells_size o],by
  simp only [List.length_singleton,Nat.one_mul,List.flatMap_cons,List.flatMap_nil,List.append_nil]
  rw [List.take_of_length_le (by rw [Array.length_toList,Hd.cells_size o]; exact Nat.le_refl _)]⟩⟩,fun x hx => by rw [List.mem_singleton] at hx; rw [hx]; exact o⟩
end Go.Proofs.YtedffdlkmpmdlaaGreatDoor
namespace Go.Proofs.YtedffdlkmpmdlaaGreatDoor
set_option maxRecDepth 100000
set_option linter.unusedVariables false
set_option linter.unusedSimpArgs false
open Go.RowKit
end Go.Proofs.YtedffdlkmpmdlaaGreatDoor
namespace Go.Proofs.YtedffdlkmpmdlaaGreatDoor
set_option maxRecDepth 100000
set_option linter.unusedVariables false
set_option linter.unusedSimpArgs false
open Go.RowKit
theorem TM.apart {w : World} {p : Nat} {R : Array Value} {bm : Nat} {H : List Hd} {L : List Bk} {ps : List Nat} {v : Value} {ch : List (List UInt8)} (T : TM w p R bm H L ps v ch) (hp : ps.length = L.length) {k : Nat} {A : Array Value} {t : TypeId} {f : Nat × Nat} (h : w.heap[k]? = some (.cells A t f))
  (h1 : t ≠ 80) (h2 : t ≠ 77) (h3 : t ≠ 25) : ¬ TS p bm ps v k := by
 rintro (rfl | rfl | hk | hk)
 ·exact cells_apart T.top h (fun e => h1 e.symm) rfl
 ·exact map_apart h T.map rfl
 ·obtain ⟨j,hj,rfl⟩ := List.getElem_of_mem hk
  have := T.blk j (by omega)
  rw [List.getD_eq_getElem?_getD,List.getElem?_eq_getElem hj] at this
  exact cells_apart this h (fun e => h2 e.symm) rfl
 ·obtain ⟨cur,hc⟩ := own_block T.own hk
  exact cells_apart hc h (fun e => h3 e.symm) rfl
theorem TM.keepS {S : Nat → Prop} {w w' : World} {p : Nat} {R : Array Value} {bm : Nat} {H : List Hd} {L : List Bk} {ps : List Nat} {v : Value} {ch : List (List UInt8)} (T : TM w p R bm H L ps v ch) (hp : ps.length = L.length) (f : Fr S w w') (hs : ∀ k,TS p bm ps v k → ¬ S k) : TM w' p R bm H L ps v ch :=
 ⟨f.keeps (hs p (.inl rfl)) T.top,T.map.keep (f.block _ T.map.lt (hs bm (.inr (.inl rfl)))),fun i hi => f.keeps (hs _ (.inr (.inr (.inl (getD_mem (by omega)))))) (T.blk i hi),T.own.frS f fun k hk => hs k (.inr (.inr (.inr hk)))⟩
section
variable {w W W' : World} {R : Array Value} {e span p bm p2 : Nat} {H : List Hd} {L : List Bk} {ps : List Nat} {v : Value} {lv : Value} {LD : List Bk} {tv : Value} {tl : List Hd}
end
def mkH (tl : List Hd) (B : List UInt8 → Nat) (kind : Int) (late : Int) (rt : UInt8) (j n : Nat) : Hd := (mkM (mkK kind (mk0 (hdT tl j) late rt (B (sha2 (hdT tl j).bytes))))).with n
theorem mkH_ok {tl : List Hd} {B : List UInt8 → Nat} {kind late : Int} {rt : UInt8} {j n : Nat} (hB : B (sha2 (hdT tl j).bytes) < 4294967296) (hn : n < 4294967296) (o : (hdT tl j).Ok) : (mkH tl B kind late rt j n).Ok := by
 have o0 := mk0_ok (h := hdT tl j) late rt hB
 have o1 := mkK_ok (kind := kind) o0
 have o2 := mkM_ok o1
 exact ⟨o2.ver,o2.ahead,o2.root,o2.time,o2.bits,hn⟩
end Go.Proofs.YtedffdlkmpmdlaaGreatDoor
namespace Go.Proofs.YtedffdlkmpmdlaaGreatDoor
set_option maxRecDepth 100000
set_option linter.unusedVariables false
set_option linter.unusedSimpArgs false
open Go.RowKit
end Go.Proofs.YtedffdlkmpmdlaaGreatDoor
