import Derived.Test.YtedffdlkmpmdlaaGreatDoorFz41
import Derived.Test.YtedffdlkmpmdlaaGreatDoorFz39
import Derived.Test.YtedffdlkmpmdlaaGreatDoorFz5
import Derived.Test.YtedffdlkmpmdlaaGreatDoorFz40
import Derived.Test.YtedffdlkmpmdlaaGreatDoorFz26
import Derived.Test.YtedffdlkmpmdlaaGreatDoorFz16
namespace Go.Proofs.YtedffdlkmpmdlaaGreatDoor
set_option maxRecDepth 100000
set_option linter.unusedVariables false
set_option linter.unusedSimpArgs false
open Go.RowKit
@[go_sem ↓ high] theorem load_step12 (p : Value) : Instr.loadAt 38 p = loadRowAt 38 p := rfl
@[go_sem ↓ high] theorem store_step12 (p v : Value) : Instr.storeAt 38 p v = storeRowAt 38 p v := rfl
end Go.Proofs.YtedffdlkmpmdlaaGreatDoor
namespace Go.Proofs.YtedffdlkmpmdlaaGreatDoor
set_option maxRecDepth 100000
set_option linter.unusedVariables false
set_option linter.unusedSimpArgs false
open Go.RowKit
structure Stp (w : World) (a : Option Addr) (n c : Nat) : Prop where
 at_ : ∀ k,k < n → ∃ b off kind ah late rt,a = some ⟨b,off,none⟩ ∧ ∀ W,Fr F0 w W → (loadRowAt 38 (.pointer (some ⟨b,off + k * 4,none⟩))).run Tryz.prog W = .ok (.agg #[.int .i64 kind,.int .i64 ah,.int .i32 late,B8 rt]) W
theorem bits_lt12 {L : List Bk} (hw : WFt L) {e s i : Nat} (hi : i < L.length) : bitsM L e s lim0 i < 4294967296 := by
 unfold bitsM
 split
 ·exact enB_lt (Nat.lt_of_le_of_lt (sc_top lim0_P.2.1).1 lim0_P.2.2)
 ·exact (hw.at hi).bits
theorem bitA_lt {L : List Bk} (hw : WFt L) {e s : Nat} (A : List UInt8) : bitA L e s lim0 A < 4294967296 := by
 unfold bitA
 split
 ·omega
 ·rcases findM_lt A L with h | ⟨i,h,hi⟩
  ·omega
  ·rw [h,Int.toNat_natCast]
   exact bits_lt12 hw hi
structure Cts (w wr : World) (R : Array Value) (E s p bm p2 : Nat) (L : List Bk) : Prop where
 made : ∀ W,Fr F0 wr W → ∀ (h : Hd),h.Ok → ∀ (kind ah late : Int) (rt : UInt8),Calls Tryz.prog 11 #[.pointer (some ⟨p,0,none⟩),.agg h.cells,.agg #[.int .i64 kind,.int .i64 ah,.int .i32 late,B8 rt]] W fun e w' => (∃ n : Nat,n < 4294967296 ∧ e = .returned (.agg ((mkM (mkK kind (mk0 h late rt (bitA L E s lim0 (sha2 h.bytes))))).with n).cells)) ∧ Fr F0 W w'
 best : ∀ W,Fr F0 wr W → Calls Tryz.prog 24 #[.pointer (some ⟨p,0,none⟩)] W fun e w' => e = .returned (.agg (hc (bkT L (bestM L)).hash)) ∧ Fr F0 W w'
 work : ∀ W,Fr F0 wr W → Calls Tryz.prog 64 #[.pointer (some ⟨p,0,none⟩),.agg (hc (bkT L (bestM L)).hash)] W fun e w' => e = .returned (.agg (rowN .u64 64 4 (workM L (bestM L)))) ∧ Fr F0 W w'
end Go.Proofs.YtedffdlkmpmdlaaGreatDoor
namespace Go.Proofs.YtedffdlkmpmdlaaGreatDoor
set_option maxRecDepth 100000
set_option linter.unusedVariables false
set_option linter.unusedSimpArgs false
open Go.RowKit
def EQ (L : List Bk) : Prop := ∀ i,i < L.length → (bkT L i).bits = lim0
theorem EQ.work {L : List Bk} (e : EQ L) (h : WFt L) {i : Nat} (hi : i < L.length) : workM L i = (heightM L i + 1) * wkN (btT lim0) := by
 have h1 := anc_len h i hi
 have h2 : (anc L i).map (fun k => wkN (btT (bkT L k).bits)) = List.replicate (anc L i).length (wkN (btT lim0)) := by
  rw [List.eq_replicate_iff]
  refine ⟨List.length_map _,fun x hx => ?_⟩
  obtain ⟨k,hk,rfl⟩ := List.mem_map.1 hx
  rw [e k (Nat.lt_of_le_of_lt (anc_lt h i hi k hk) hi)]
 unfold workM heightM
 rw [h2,List.sum_replicate_nat]
 congr 1
 omega
end Go.Proofs.YtedffdlkmpmdlaaGreatDoor
