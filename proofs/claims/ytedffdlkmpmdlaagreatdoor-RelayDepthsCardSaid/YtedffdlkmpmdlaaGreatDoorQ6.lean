import Derived.Test.YtedffdlkmpmdlaaGreatDoorQ5
import Derived.Test.YtedffdlkmpmdlaaGreatDoorQ1
import Derived.ProofKit
import Derived.OpenShut
import Derived.WideKeyArr2
import Derived.Below
import Derived.Test.YtedffdlkmpmdlaaGreatDoorQ2
import Derived.Test.YtedffdlkmpmdlaaGreatDoorQ3
set_option maxRecDepth 100000
set_option maxHeartbeats 64000000
namespace Go.Proofs.YtedffdlkmpmdlaaGreatDoor
set_option maxRecDepth 100000
set_option linter.unusedVariables false
set_option linter.unusedSimpArgs false
open Go.RowKit
@[simp high] theorem rowEq_self (m x : Nat) : rowEq m x x = true := decide_eq_true rfl
theorem rowN_nil4 (x : Nat) : (rowN .u64 64 4 x = #[]) = False := by
 apply eq_false
 intro h
 have := congrArg Array.size h
 rw [rowN_size] at this
 simp at this
end Go.Proofs.YtedffdlkmpmdlaaGreatDoor
namespace Go.Proofs.YtedffdlkmpmdlaaGreatDoor
set_option maxRecDepth 100000
set_option linter.unusedVariables false
set_option linter.unusedSimpArgs false
open Go.RowKit Go.ChangeShapes Go.WideShapes
section
variable {H : Type} {enc : TypeId × Value → H} {W : World} {base : Nat} {sp : Nat → Bool} {held : Bool}
end
end Go.Proofs.YtedffdlkmpmdlaaGreatDoor
namespace Go.Proofs.YtedffdlkmpmdlaaGreatDoor
set_option maxRecDepth 100000
set_option linter.unusedVariables false
set_option linter.unusedSimpArgs false
open Go.RowKit Go.ChangeShapes Go.WideShapes
section
variable {H : Type} {enc : TypeId × Value → H} {W : World} {base : Nat} {sp : Nat → Bool} {held : Bool}
theorem open_u32 {r : Reach} {b0 : Nat} {v : Value} {d : DataW H} {ps : List MemPlace} (hd : DataW.Trod enc Tryz.prog W base sp held 23 v d ps) (hv : Value.okWide Tryz.prog W r b0 23 v) :
  ∃ x : Nat,x < 4294967296 ∧ v = .int .u32 (x : Int) := by
 obtain ⟨n,rfl⟩ := okWide_int Tryz.underlying23 hv
 obtain ⟨fuel,hf⟩ := hd
 obtain ⟨z,e,_,wf⟩ := DataW.trod_int Tryz.underlying23 (by simpa [Value.cells] using hf)
 have hb := bounds_u32 wf
 simp at e
 subst e
 obtain ⟨x,rfl⟩ := Int.eq_ofNat_of_zero_le hb.1
 exact ⟨x,by omega,rfl⟩
end
end Go.Proofs.YtedffdlkmpmdlaaGreatDoor
namespace Go.Proofs.YtedffdlkmpmdlaaGreatDoor
set_option maxRecDepth 100000
set_option linter.unusedVariables false
set_option linter.unusedSimpArgs false
open Go.RowKit Go.ChangeShapes Go.WideShapes
theorem bytes_of7 (cs : List Value) (n : Nat) (hl : cs.length = n) (h : ∀ i,i < n → ∃ z : Int,(cs.drop i).take 1 = [.int .u8 z] ∧ (Lit.int .u8 z).wf = true) : ∃ l : List UInt8,l.length = n ∧ cs = l.map B8 := by
 induction n generalizing cs with
 |zero => exact ⟨[],rfl,List.eq_nil_of_length_eq_zero hl⟩
 |succ n ih =>
  match cs,hl with
  |c :: cs,hl =>
   obtain ⟨z,e,wf⟩ := h 0 (by omega)
   obtain ⟨l,h1,h2⟩ := ih cs (by simpa using hl) (fun i hi => by simpa using h (i + 1) (by omega))
   simp at e
   have hb : 0 ≤ z ∧ z ≤ 255 := bounds_u8 wf
   refine ⟨UInt8.ofNat z.toNat :: l,by simp [h1],?_⟩
   rw [List.map_cons,← h2,e]
   congr 1
   simp only [B8,UInt8.toNat_ofNat']
   congr 1
   omega
section
variable {H : Type} {enc : TypeId × Value → H} {W : World} {base : Nat} {sp : Nat → Bool} {held : Bool}
theorem cells_hash {fuel : Nat} {cs : List Value} {y : DataW H × List MemPlace} (hf : DataW.trod enc Tryz.prog W base sp held fuel 25 cs = some y) (hl : cs.length = 32) : ∃ l : List UInt8,l.length = 32 ∧ cs = l.map B8 := by
 obtain ⟨xs,m,rfl,hx,hlen,hn,hel⟩ := DataW.trod_array Tryz.underlying25 hf
 have c1 : Tryz.prog.cellsOf 5 = 1 := by kernel_rfl
 refine bytes_of7 cs 32 hl (fun i hi => ?_)
 have h := hel i hi
 rw [c1,Nat.mul_one] at h
 rw [List.getElem?_eq_getElem (show i < xs.length by omega)] at h
 obtain ⟨z,e,_,wf⟩ := DataW.trod_int Tryz.underlying5 h
 exact ⟨z,e,wf⟩
theorem cells_u32 {fuel : Nat} {cs : List Value} {y : DataW H × List MemPlace} (hf : DataW.trod enc Tryz.prog W base sp held fuel 23 cs = some y) : ∃ x : Nat,x < 4294967296 ∧ cs = [.int .u32 (x : Int)] := by
 obtain ⟨z,e,_,wf⟩ := DataW.trod_int Tryz.underlying23 hf
 have hb := bounds_u32 wf
 obtain ⟨x,rfl⟩ := Int.eq_ofNat_of_zero_le hb.1
 exact ⟨x,by omega,e⟩
theorem split68 (cs : List Value) (h : cs.length = 68) : cs = (cs.drop 0).take 1 ++ ((cs.drop 1).take 32 ++ ((cs.drop 33).take 32 ++ ((cs.drop 65).take 1 ++ ((cs.drop 66).take 1 ++ (cs.drop 67).take 1)))) := by
 have e : ∀ (a b : Nat) (l : List Value),(l.drop a).take b ++ l.drop (a + b) = l.drop a := fun a b l => by
  rw [← List.drop_drop,List.take_append_drop]
 have e67 : (cs.drop 67).take 1 = cs.drop 67 := List.take_of_length_le (by simp; omega)
 rw [e67,e 66 1 cs,e 65 1 cs,e 33 32 cs,e 1 32 cs,e 0 1 cs]
 rfl
theorem cells_header {fuel : Nat} {cs : List Value} {y : DataW H × List MemPlace} (hf : DataW.trod enc Tryz.prog W base sp held fuel 27 cs = some y) : ∃ h : Hd,h.Ok ∧ cs = h.cells.toList := by
 obtain ⟨xs,n,_,_,hl,hlen,hc⟩ := DataW.trod_struct Tryz.underlying27 hf
 have h68 : Tryz.prog.cellsOf 27 = 68 := by kernel_rfl
 have h32 : Tryz.prog.cellsOf 25 = 32 := by kernel_rfl
 have h1 : Tryz.prog.cellsOf 23 = 1 := by kernel_rfl
 match xs,hlen with
 |[y0,y1,y2,y3,y4,y5],_ =>
  have k0 : DataW.trod enc Tryz.prog W base sp held n 23 ((cs.drop 0).take (Tryz.prog.cellsOf 23)) = some y0 := hc 0 _ rfl
  have k1 : DataW.trod enc Tryz.prog W base sp held n 25 ((cs.drop 1).take (Tryz.prog.cellsOf 25)) = some y1 := hc 1 _ rfl
  have k2 : DataW.trod enc Tryz.prog W base sp held n 25 ((cs.drop 33).take (Tryz.prog.cellsOf 25)) = some y2 := hc 2 _ rfl
  have k3 : DataW.trod enc Tryz.prog W base sp held n 23 ((cs.drop 65).take (Tryz.prog.cellsOf 23)) = some y3 := hc 3 _ rfl
  have k4 : DataW.trod enc Tryz.prog W base sp held n 23 ((cs.drop 66).take (Tryz.prog.cellsOf 23)) = some y4 := hc 4 _ rfl
  have k5 : DataW.trod enc Tryz.prog W base sp held n 23 ((cs.drop 67).take (Tryz.prog.cellsOf 23)) = some y5 := hc 5 _ rfl
  rw [h1] at k0 k3 k4 k5
  rw [h32] at k1 k2
  have hl' : cs.length = 68 := by rw [← h68,← hl]
  obtain ⟨x0,b0,e0⟩ := cells_u32 k0
  obtain ⟨l1,b1,e1⟩ := cells_hash k1 (by simp only [List.length_take,List.length_drop]; omega)
  obtain ⟨l2,b2,e2⟩ := cells_hash k2 (by simp only [List.length_take,List.length_drop]; omega)
  obtain ⟨x3,b3,e3⟩ := cells_u32 k3
  obtain ⟨x4,b4,e4⟩ := cells_u32 k4
  obtain ⟨x5,b5,e5⟩ := cells_u32 k5
  refine ⟨⟨x0,l1,l2,x3,x4,x5⟩,⟨b0,b1,b2,b3,b4,b5⟩,?_⟩
  have := split68 cs hl'
  rw [e0,e1,e2,e3,e4,e5] at this
  rw [this]
  simp [Hd.cells]
end
end Go.Proofs.YtedffdlkmpmdlaaGreatDoor
namespace Go.Proofs.YtedffdlkmpmdlaaGreatDoor
set_option maxRecDepth 100000
set_option linter.unusedVariables false
set_option linter.unusedSimpArgs false
open Go.RowKit
end Go.Proofs.YtedffdlkmpmdlaaGreatDoor
namespace Go.Proofs.YtedffdlkmpmdlaaGreatDoor
set_option maxRecDepth 100000
set_option linter.unusedVariables false
set_option linter.unusedSimpArgs false
open Go.RowKit
theorem word_w {x : Nat} (h : x < 18446744073709551616) : x < W256 := Nat.lt_of_lt_of_le (show x < 2 ^ 64 by omega) (Nat.pow_le_pow_right (by omega) (by omega))
theorem W256_two : W256 = 2 ^ 256 := rfl
def wkN (t : Nat) : Nat := if t = 0 then W256 - 1 else W256 / (t + 1)
def scN (t up by' most : Nat) : Nat := if most < t * up / by' then most else if t * up / by' = 0 then 1 else t * up / by'
end Go.Proofs.YtedffdlkmpmdlaaGreatDoor
namespace Go.Proofs.YtedffdlkmpmdlaaGreatDoor
set_option maxRecDepth 100000
set_option linter.unusedVariables false
set_option linter.unusedSimpArgs false
open Go.RowKit
def btE (b : Nat) : Nat := b / 16777216
def btM (b : Nat) : Nat := b % 8388608
def btS (b : Nat) : Nat := b / 8388608 % 2
def btT (b : Nat) : Nat := tgt (btE b) (btM b)
def btP (b : Nat) : Prop := ¬ (btS b = 1 ∧ 0 < btM b) ∧ 0 < btT b ∧ btT b < W256
instance (b : Nat) : Decidable (btP b) := by unfold btP; infer_instance
end Go.Proofs.YtedffdlkmpmdlaaGreatDoor
namespace Go.Proofs.YtedffdlkmpmdlaaGreatDoor
set_option maxRecDepth 100000
set_option linter.unusedVariables false
set_option linter.unusedSimpArgs false
open Go.RowKit
def enB (t : Nat) : Nat := enM t + enE t * 16777216
theorem nby_32 {t : Nat} (h : t < W256) : nby t ≤ 32 := by
 rw [nby_le,by2_two]
 exact h
theorem enE_33 {t : Nat} (h : t < W256) : enE t ≤ 33 := by
 have := nby_32 h
 unfold enE
 split <;> omega
end Go.Proofs.YtedffdlkmpmdlaaGreatDoor
