import Derived.Test.YtedffdlkmpmdlaaGreatDoorFz12
import Derived.Test.YtedffdlkmpmdlaaGreatDoorFz13
import Derived.Test.YtedffdlkmpmdlaaGreatDoorFz9
import Derived.Test.YtedffdlkmpmdlaaGreatDoorFz3
import Derived.Test.YtedffdlkmpmdlaaGreatDoorFz2
import Derived.Test.YtedffdlkmpmdlaaGreatDoorFz1
import Derived.Test.YtedffdlkmpmdlaaGreatDoorFz15
import Derived.Laws.Small
set_option maxRecDepth 100000
set_option maxHeartbeats 64000000
namespace Go.Proofs.YtedffdlkmpmdlaaGreatDoor
set_option maxRecDepth 100000
set_option linter.unusedVariables false
set_option linter.unusedSimpArgs false
open Go.RowKit
theorem le4 (x : Nat) : (le 4 x).length = 4 := le_length 4 x
theorem Hd.cellH {h : Hd} (o : h.Ok) : h.cells.extract 1 33 = (h.ahead.map B8).toArray := by
 apply Array.toList_inj.1
 rw [Hd.range1 o]
theorem Hd.cellR {h : Hd} (o : h.Ok) : h.cells.extract 33 65 = (h.root.map B8).toArray := by
 apply Array.toList_inj.1
 rw [Hd.range33 o]
end Go.Proofs.YtedffdlkmpmdlaaGreatDoor
namespace Go.Proofs.YtedffdlkmpmdlaaGreatDoor
set_option maxRecDepth 100000
set_option linter.unusedVariables false
set_option linter.unusedSimpArgs false
open Go.RowKit
theorem Tryz.szHeader : (Tryz.prog.info? 27).map (·.size) = some 68 := by kernel_rfl
@[go_sem ↓ high] theorem load_header (p : Value) : Instr.loadAt 27 p = loadRowAt 27 p := rfl
@[go_sem ↓ high] theorem store_header (p v : Value) : Instr.storeAt 27 p v = storeRowAt 27 p v := rfl
@[go_sem] theorem run_load_header (w : World) (g : Nat) : (loadRowAt 27 (.pointer (some ⟨g,0,none⟩))).run Tryz.prog w = rowOut Tryz.prog 27 (.pointer (some ⟨g,0,none⟩)) w 68 w.heap[g]? :=
 run_loadRowAt w _ g 68 _ Tryz.underlying27 rfl Tryz.szHeader
@[go_sem] theorem run_store_header (w : World) (g : Nat) (cells : Array Value) : (storeRowAt 27 (.pointer (some ⟨g,0,none⟩)) (.agg cells)).run Tryz.prog w = rowIn Tryz.prog 27 (.pointer (some ⟨g,0,none⟩)) cells g w 68 w.heap[g]? :=
 run_storeRowAt w _ g 68 cells Tryz.szHeader
@[go_sem ↓ high] theorem store_hash (p v : Value) : Instr.storeAt 25 p v = storeRowAt 25 p v := rfl
@[go_sem] theorem run_store_hash (w : World) (g : Nat) (cells : Array Value) : (storeRowAt 25 (.pointer (some ⟨g,0,none⟩)) (.agg cells)).run Tryz.prog w = rowIn Tryz.prog 25 (.pointer (some ⟨g,0,none⟩)) cells g w 32 w.heap[g]? :=
 run_storeRowAt w _ g 32 cells Tryz.szHash
def buildHd (parts : Array (Nat × Value)) : Sem Value := Instr.build 27 parts
@[go_sem ↓ high] theorem build_header (p : Array (Nat × Value)) : Instr.build 27 p = buildHd p := rfl
theorem run_buildHd (w : World) (parts : Array (Nat × Value)) (cells : Array Value) (h : Tryz.prog.built 27 parts.toList = some cells) : (buildHd parts).run Tryz.prog w = .ok (.agg cells) w := run_build w _ parts cells h
@[go_sem] theorem run_load_hash1 (w : World) (g : Nat) : (loadRowAt 25 (.pointer (some ⟨g,1,none⟩))).run Tryz.prog w = midOut Tryz.prog 25 (.pointer (some ⟨g,1,none⟩)) w 32 1 68 w.heap[g]? :=
 run_loadMid w _ g 1 32 68 _ (by omega) Tryz.underlying25 rfl Tryz.szHash
structure CellsOf (h : Hd) (C : Array Value) : Prop where
 size : C.size = 68
 c0 : C[0]? = some (.int .u32 (h.ver : Int))
 c65 : C[65]? = some (.int .u32 (h.time : Int))
 c66 : C[66]? = some (.int .u32 (h.bits : Int))
 c67 : C[67]? = some (.int .u32 (h.nonce : Int))
 x1 : C.extract 1 33 = (h.ahead.map B8).toArray
 x33 : C.extract 33 65 = (h.root.map B8).toArray
 one : rowOne C
theorem Hd.of {h : Hd} (o : h.Ok) : CellsOf h h.cells := ⟨Hd.cells_size o,Hd.cell0 o,Hd.cell65 o,Hd.cell66 o,Hd.cell67 o,Hd.cellH o,Hd.cellR o,Hd.one⟩
end Go.Proofs.YtedffdlkmpmdlaaGreatDoor
namespace Go.Proofs.YtedffdlkmpmdlaaGreatDoor
set_option maxRecDepth 100000
set_option linter.unusedVariables false
set_option linter.unusedSimpArgs false
open Go.RowKit
end Go.Proofs.YtedffdlkmpmdlaaGreatDoor
namespace Go.Proofs.YtedffdlkmpmdlaaGreatDoor
set_option maxRecDepth 100000
set_option linter.unusedVariables false
set_option linter.unusedSimpArgs false
open Go.RowKit
theorem row_ofLE : ∀ (l : List UInt8),(rowN .u8 8 l.length (ofLE l)).toList = l.map B8 := by
 intro l
 apply List.ext_getElem?
 intro i
 by_cases hi : i < l.length
 ·rw [Array.getElem?_toList,rowN_get _ _ _ _ _ hi,List.getElem?_map,List.getElem?_eq_getElem hi]
  simp only [Option.map_some,B8,Option.some.injEq,Value.int.injEq,true_and]
  congr 1
  have key : ∀ (l : List UInt8) (i : Nat) (hi : i < l.length),dgt 8 (ofLE l) i = l[i].toNat := by
   intro l
   induction l with
   |nil => intro i hi; simp at hi
   |cons x l ih =>
    intro i hi
    have hx := x.toNat_lt
    cases i with
    |zero => simp only [dgt,ofLE,List.getElem_cons_zero]; omega
    |succ i =>
     have h2 := ih i (by simpa using hi)
     simp only [List.getElem_cons_succ]
     rw [← h2]
     simp only [dgt,ofLE]
     rw [show 8 * (i + 1) = 8 + 8 * i by omega,Nat.pow_add,← Nat.div_div_eq_div_mul]
     congr 2
     omega
  exact key l i hi
 ·rw [List.getElem?_eq_none (by simp; omega),List.getElem?_eq_none (by simp; omega)]
theorem hash_row (l : List UInt8) (h : l.length = 32) : (l.map B8).toArray = rowN .u8 8 32 (ofLE l) := by
 have := row_ofLE l
 rw [h] at this
 apply Array.toList_inj.1
 rw [this]
theorem hash_lt (l : List UInt8) (h : l.length = 32) : ofLE l < W256 := by
 have := ofLE_lt l
 rw [h] at this
 exact this
def hsh (h : Hd) : Nat := ofLE (sha2 h.bytes)
def mtH (h : Hd) : Bool := decide (btP h.bits ∧ hsh h ≤ btT h.bits)
end Go.Proofs.YtedffdlkmpmdlaaGreatDoor
namespace Go.Proofs.YtedffdlkmpmdlaaGreatDoor
set_option maxRecDepth 100000
set_option linter.unusedVariables false
set_option linter.unusedSimpArgs false
open Go.RowKit
def zero7 : List UInt8 := List.replicate 32 0
def HBytesC : Prop := ∀ (h : Hd),h.Ok → ∀ w,Calls Tryz.prog 19 #[.agg h.cells] w (NewBytes h.bytes w)
def zeroHd : Hd := { ver := 0,ahead := zero7,root := zero7,time := 0,bits := 0,nonce := 0 }
theorem zeroHd.ok : zeroHd.Ok := ⟨by decide,rfl,rfl,by decide,by decide,by decide⟩
def HHashC : Prop := ∀ (h : Hd),h.Ok → ∀ w,Cub w → Calls Tryz.prog 22 #[.agg h.cells] w fun e w' => e = .returned (.agg ((sha2 h.bytes).map B8).toArray) ∧ Fr F0 w w'
def ckE (h : Hd) (l : Nat) : Int := if btP h.bits ∧ btT h.bits ≤ l then (if hsh h ≤ btT h.bits then 0 else 7) else 6
def HCheckC : Prop := ∀ (h : Hd),h.Ok → ∀ (l : Nat),l < W256 → ∀ E,ckE h l = E → ∀ w,Cub w → Calls Tryz.prog 35 #[.agg h.cells,.agg (rowN .u64 64 4 l)] w fun e w' => e = .returned (.int .i64 E) ∧ Fr F0 w w'
def Hd.with (h : Hd) (n : Nat) : Hd := { h with nonce := n }
def mineN (h : Hd) : Nat → Nat → Option Nat
 |0,n => if mtH (h.with n) then some n else none
 |k + 1,n => if mtH (h.with n) then some n else if n = 4294967295 then none else mineN h k (n + 1)
def mineH (h : Hd) (m : Nat) : Hd := match mineN h m h.nonce with | some n => h.with n | none => zeroHd
def mineO (h : Hd) (m : Nat) : Bool := (mineN h m h.nonce).isSome
def HMineC : Prop := ∀ (h : Hd),h.Ok → ∀ (m : Nat),m < 4294967296 → ∀ w,Cub w → Calls Tryz.prog 31 #[.agg h.cells,.int .u32 (m : Int)] w fun e w' => e = .returned (.tuple #[.agg (mineH h m).cells,.bool (mineO h m)]) ∧ Fr F0 w w'
end Go.Proofs.YtedffdlkmpmdlaaGreatDoor
namespace Go.Proofs.YtedffdlkmpmdlaaGreatDoor
set_option maxRecDepth 100000
set_option linter.unusedVariables false
set_option linter.unusedSimpArgs false
section
variable {σ : Type}
theorem cmV_is (l : List σ) {st : σ → List Nat} (h8 : ∀ s,(st s).length = 8) (h32 : ∀ s,∀ x ∈ st s,x < 2 ^ 32) (b : σ → List UInt8) {ws : List Nat} (hw : ∀ j,j < 16 → ws.getD j 0 = pf l fun s => wdN (b s) j) :
  cmV (mk32 l) (pf l fun _ => 1) ws (vec l st) = vec l fun s => cmN (b s) (st s) := by
 have hb : ∀ j,B32 fun s => (st s).getD j 0 := fun j s => by
  show (st s).getD j 0 < 2 ^ 32
  rw [List.getD_eq_getElem?_getD]
  cases h : (st s)[j]? with
  |none => exact (by decide : 0 < 2 ^ 32)
  |some x => exact h32 s x (List.mem_of_getElem? h)
 have hwb : ∀ j,B32 fun s => wdN (b s) j := fun j s => wdN_lt _ _
 have key := goV_is l cubesN (by decide) (hb 0) (hb 1) (hb 2) (hb 3) (hb 4) (hb 5) (hb 6) (hb 7) (hwb 0) (hwb 1) (hwb 2) (hwb 3) (hwb 4) (hwb 5) (hwb 6) (hwb 7) (hwb 8) (hwb 9) (hwb 10) (hwb 11) (hwb 12) (hwb 13) (hwb 14) (hwb 15)
 unfold vec at key ⊢
 simp only [List.map_cons,List.map_nil] at key ⊢
 rw [cmV,hw 0 (by omega),hw 1 (by omega),hw 2 (by omega),hw 3 (by omega),hw 4 (by omega),hw 5 (by omega),hw 6 (by omega),hw 7 (by omega),hw 8 (by omega),hw 9 (by omega),hw 10 (by omega),hw 11 (by omega),hw 12 (by omega),hw 13 (by omega),hw 14 (by omega),hw 15 (by omega),key]
 have one : ∀ j,j < 8 → Nat.land (Nat.add (pf l fun s => (st s).getD j 0) (pf l fun s => (goN cubesN ((st s).getD 0 0) ((st s).getD 1 0) ((st s).getD 2 0) ((st s).getD 3 0) ((st s).getD 4 0) ((st s).getD 5 0) ((st s).getD 6 0) ((st s).getD 7 0) (wdN (b s) 0) (wdN (b s) 1) (wdN (b s) 2) (wdN (b s) 3) (wdN (b s) 4) (wdN (b s) 5) (wdN (b s) 6) (wdN (b s) 7) (wdN (b s) 8) (wdN (b s) 9) (wdN (b s) 10) (wdN (b s) 11) (wdN (b s) 12) (wdN (b s) 13) (wdN (b s) 14) (wdN (b s) 15)).getD j 0)) (mk32 l)
   = pf l fun s => (cmN (b s) (st s)).getD j 0 := by
  intro j hj
  rw [pf_add,pf_mod]
  ·congr 1
   funext s
   obtain ⟨A,B,C,D,E,F,G,H,e⟩ := eightN (h8 s)
   rw [e]
   obtain ⟨a',b',c',d',e',f',g',i',e2⟩ := eightN (goN_len cubesN A B C D E F G H (wdN (b s) 0) (wdN (b s) 1) (wdN (b s) 2) (wdN (b s) 3) (wdN (b s) 4) (wdN (b s) 5) (wdN (b s) 6) (wdN (b s) 7) (wdN (b s) 8) (wdN (b s) 9) (wdN (b s) 10) (wdN (b s) 11) (wdN (b s) 12) (wdN (b s) 13) (wdN (b s) 14) (wdN (b s) 15))
   rw [cmN]
   simp only [List.getD_cons_zero,List.getD_cons_succ,e2]
   match j,hj with
   |0,_ => rfl
   |1,_ => rfl
   |2,_ => rfl
   |3,_ => rfl
   |4,_ => rfl
   |5,_ => rfl
   |6,_ => rfl
   |7,_ => rfl
  ·intro s
   have h1 : (st s).getD j 0 < 2 ^ 32 := hb j s
   have h2 : (goN cubesN ((st s).getD 0 0) ((st s).getD 1 0) ((st s).getD 2 0) ((st s).getD 3 0) ((st s).getD 4 0) ((st s).getD 5 0) ((st s).getD 6 0) ((st s).getD 7 0) (wdN (b s) 0) (wdN (b s) 1) (wdN (b s) 2) (wdN (b s) 3) (wdN (b s) 4) (wdN (b s) 5) (wdN (b s) 6) (wdN (b s) 7) (wdN (b s) 8) (wdN (b s) 9) (wdN (b s) 10) (wdN (b s) 11) (wdN (b s) 12) (wdN (b s) 13) (wdN (b s) 14) (wdN (b s) 15)).getD j 0 < 2 ^ 32 := by
    rw [List.getD_eq_getElem?_getD]
    cases h : (goN cubesN ((st s).getD 0 0) ((st s).getD 1 0) ((st s).getD 2 0) ((st s).getD 3 0) ((st s).getD 4 0) ((st s).getD 5 0) ((st s).getD 6 0) ((st s).getD 7 0) (wdN (b s) 0) (wdN (b s) 1) (wdN (b s) 2) (wdN (b s) 3) (wdN (b s) 4) (wdN (b s) 5) (wdN (b s) 6) (wdN (b s) 7) (wdN (b s) 8) (wdN (b s) 9) (wdN (b s) 10) (wdN (b s) 11) (wdN (b s) 12) (wdN (b s) 13) (wdN (b s) 14) (wdN (b s) 15))[j]? with
    |none => exact (by decide : 0 < 2 ^ 32)
    |some x => exact goN_lt cubesN _ _ _ _ _ _ _ _ _ _ _ _ _ _ _ _ _ _ _ _ _ _ _ _ (hb 0 s) (hb 1 s) (hb 2 s) (hb 3 s) (hb 4 s) (hb 5 s) (hb 6 s) (hb 7 s) x (List.mem_of_getElem? h)
   exact Nat.lt_of_lt_of_le (Nat.add_lt_add h1 h2) (by decide)
 rw [← one 0 (by omega),← one 1 (by omega),← one 2 (by omega),← one 3 (by omega),← one 4 (by omega),← one 5 (by omega),← one 6 (by omega),← one 7 (by omega)]
 rfl
end
end Go.Proofs.YtedffdlkmpmdlaaGreatDoor
namespace Go.Proofs.YtedffdlkmpmdlaaGreatDoor
set_option maxRecDepth 100000
set_option linter.unusedVariables false
set_option linter.unusedSimpArgs false
theorem word_bits (x : Wd) : w8 (lo8 (x >>> 24)) <<< 24 ||| w8 (lo8 (x >>> 16)) <<< 16 ||| w8 (lo8 (x >>> 8)) <<< 8 ||| w8 (lo8 x) = x := by
 unfold w8 lo8
 apply BitVec.eq_of_getLsbD_eq
 intro i hi
 simp only [BitVec.getLsbD_or,BitVec.getLsbD_shiftLeft,BitVec.getLsbD_setWidth,BitVec.getLsbD_ushiftRight,UInt8.toBitVec_ofBitVec]
 by_cases h1 : i < 8
 ·have a1 : i < 24 := by omega
  have a2 : i < 16 := by omega
  simp [h1,hi,a1,a2]
 ·by_cases h2 : i < 16
  ·have a1 : i < 24 := by omega
   have a3 : i - 8 < 32 := by omega
   have a4 : i - 8 < 8 := by omega
   have a5 : 8 + (i - 8) = i := by omega
   simp [h1,h2,hi,a1,a3,a4,a5]
  ·by_cases h3 : i < 24
   ·have a3 : i - 8 < 32 := by omega
    have a4 : ¬ i - 8 < 8 := by omega
    have a6 : i - 16 < 32 := by omega
    have a7 : i - 16 < 8 := by omega
    have a8 : 16 + (i - 16) = i := by omega
    simp [h1,h2,h3,hi,a3,a4,a6,a7,a8]
   ·have a3 : i - 8 < 32 := by omega
    have a4 : ¬ i - 8 < 8 := by omega
    have a6 : i - 16 < 32 := by omega
    have a7 : ¬ i - 16 < 8 := by omega
    have a9 : i - 24 < 32 := by omega
    have b1 : i - 24 < 8 := by omega
    have b2 : 24 + (i - 24) = i := by omega
    simp [h1,h2,h3,hi,a3,a4,a6,a7,a9,b1,b2]
def wd4 (a b c d : UInt8) : Nat := Nat.lor (Nat.lor (Nat.lor (Nat.mod (Nat.shiftLeft a.toNat 24) 4294967296) (Nat.mod (Nat.shiftLeft b.toNat 16) 4294967296)) (Nat.mod (Nat.shiftLeft c.toNat 8) 4294967296)) d.toNat
theorem wd4_by {x : Nat} (h : x < 2 ^ 32) : wd4 (UInt8.ofNat (Nat.shiftRight x 24)) (UInt8.ofNat (Nat.shiftRight x 16)) (UInt8.ofNat (Nat.shiftRight x 8)) (UInt8.ofNat x) = x := by
 have e : (BitVec.ofNat 32 x).toNat = x := by rw [BitVec.toNat_ofNat]; exact Nat.mod_eq_of_lt h
 have h1 : wdN (byN (BitVec.ofNat 32 x).toNat) 0 = (BitVec.ofNat 32 x).toNat := by
  rw [← wdN_is,byN_one]
  show (w8 (lo8 (BitVec.ofNat 32 x >>> 24)) <<< 24 ||| w8 (lo8 (BitVec.ofNat 32 x >>> 16)) <<< 16 ||| w8 (lo8 (BitVec.ofNat 32 x >>> 8)) <<< 8 ||| w8 (lo8 (BitVec.ofNat 32 x))).toNat = _
  rw [word_bits]
 rw [e] at h1
 exact h1
def leW (x : Nat) : Nat := wd4 (UInt8.ofNat (x % 256)) (UInt8.ofNat (x / 256 % 256)) (UInt8.ofNat (x / 256 / 256 % 256)) (UInt8.ofNat (x / 256 / 256 / 256 % 256))
def lh (ah : List Nat) (r : UInt8) (T n : Nat) : Hd := { ver := 2,ahead := ah.flatMap byN,root := r :: List.replicate 31 0,time := T,bits := 545259519,nonce := n }
theorem lh_ok {ah : List Nat} (h8 : ah.length = 8) {r : UInt8} {T n : Nat} (hT : T < 4294967296) (hn : n < 4294967296) : (lh ah r T n).Ok := by
 obtain ⟨a,b,c,d,e,f,g,i,rfl⟩ := eightN h8
 exact ⟨by show 2 < 4294967296; decide,rfl,by simp [lh],hT,by show 545259519 < 4294967296; decide,hn⟩
def lw1 (ah : List Nat) (r : UInt8) : List Nat := 33554432 :: (ah ++ [wd4 r 0 0 0,0,0,0,0,0,0])
def lw2 (T n : Nat) : List Nat := [0,leW T,4294934304,leW n,2147483648,0,0,0,0,0,0,0,0,0,0,640]
def lw3 (st : List Nat) : List Nat := st ++ [2147483648,0,0,0,0,0,0,256]
theorem leW_bits : leW 545259519 = 4294934304 := by decide +kernel
theorem lw1_is {ah : List Nat} (h8 : ah.length = 8) (h32 : ∀ x ∈ ah,x < 2 ^ 32) (r : UInt8) (T n : Nat) : ∀ j,j < 16 → wdN (blk (pad (lh ah r T n).bytes) 0) j = (lw1 ah r).getD j 0 := by
 obtain ⟨a,b,c,d,e,f,g,i,rfl⟩ := eightN h8
 have ha := wd4_by (h32 a (by simp))
 have hb := wd4_by (h32 b (by simp))
 have hc := wd4_by (h32 c (by simp))
 have hd := wd4_by (h32 d (by simp))
 have he := wd4_by (h32 e (by simp))
 have hf := wd4_by (h32 f (by simp))
 have hg := wd4_by (h32 g (by simp))
 have hi := wd4_by (h32 i (by simp))
 have q0 : wdN (blk (pad (lh [a,b,c,d,e,f,g,i] r T n).bytes) 0) 0 = 33554432 := by kernel_rfl
 have q1 : wdN (blk (pad (lh [a,b,c,d,e,f,g,i] r T n).bytes) 0) 1 = a := Eq.trans (b := wd4 (UInt8.ofNat (Nat.shiftRight a 24)) (UInt8.ofNat (Nat.shiftRight a 16)) (UInt8.ofNat (Nat.shiftRight a 8)) (UInt8.ofNat a)) (by kernel_rfl) ha
 have q2 : wdN (blk (pad (lh [a,b,c,d,e,f,g,i] r T n).bytes) 0) 2 = b := Eq.trans (b := wd4 (UInt8.ofNat (Nat.shiftRight b 24)) (UInt8.ofNat (Nat.shiftRight b 16)) (UInt8.ofNat (Nat.shiftRight b 8)) (UInt8.ofNat b)) (by kernel_rfl) hb
 have q3 : wdN (blk (pad (lh [a,b,c,d,e,f,g,i] r T n).bytes) 0) 3 = c := Eq.trans (b := wd4 (UInt8.ofNat (Nat.shiftRight c 24)) (UInt8.ofNat (Nat.shiftRight c 16)) (UInt8.ofNat (Nat.shiftRight c 8)) (UInt8.ofNat c)) (by kernel_rfl) hc
 have q4 : wdN (blk (pad (lh [a,b,c,d,e,f,g,i] r T n).bytes) 0) 4 = d := Eq.trans (b := wd4 (UInt8.ofNat (Nat.shiftRight d 24)) (UInt8.ofNat (Nat.shiftRight d 16)) (UInt8.ofNat (Nat.shiftRight d 8)) (UInt8.ofNat d)) (by kernel_rfl) hd
 have q5 : wdN (blk (pad (lh [a,b,c,d,e,f,g,i] r T n).bytes) 0) 5 = e := Eq.trans (b := wd4 (UInt8.ofNat (Nat.shiftRight e 24)) (UInt8.ofNat (Nat.shiftRight e 16)) (UInt8.ofNat (Nat.shiftRight e 8)) (UInt8.ofNat e)) (by kernel_rfl) he
 have q6 : wdN (blk (pad (lh [a,b,c,d,e,f,g,i] r T n).bytes) 0) 6 = f := Eq.trans (b := wd4 (UInt8.ofNat (Nat.shiftRight f 24)) (UInt8.ofNat (Nat.shiftRight f 16)) (UInt8.ofNat (Nat.shiftRight f 8)) (UInt8.ofNat f)) (by kernel_rfl) hf
 have q7 : wdN (blk (pad (lh [a,b,c,d,e,f,g,i] r T n).bytes) 0) 7 = g := Eq.trans (b := wd4 (UInt8.ofNat (Nat.shiftRight g 24)) (UInt8.ofNat (Nat.shiftRight g 16)) (UInt8.ofNat (Nat.shiftRight g 8)) (UInt8.ofNat g)) (by kernel_rfl) hg
 have q8 : wdN (blk (pad (lh [a,b,c,d,e,f,g,i] r T n).bytes) 0) 8 = i := Eq.trans (b := wd4 (UInt8.ofNat (Nat.shiftRight i 24)) (UInt8.ofNat (Nat.shiftRight i 16)) (UInt8.ofNat (Nat.shiftRight i 8)) (UInt8.ofNat i)) (by kernel_rfl) hi
 have q9 : wdN (blk (pad (lh [a,b,c,d,e,f,g,i] r T n).bytes) 0) 9 = wd4 r 0 0 0 := by kernel_rfl
 have q10 : wdN (blk (pad (lh [a,b,c,d,e,f,g,i] r T n).bytes) 0) 10 = 0 := by kernel_rfl
 have q11 : wdN (blk (pad (lh [a,b,c,d,e,f,g,i] r T n).bytes) 0) 11 = 0 := by kernel_rfl
 have q12 : wdN (blk (pad (lh [a,b,c,d,e,f,g,i] r T n).bytes) 0) 12 = 0 := by kernel_rfl
 have q13 : wdN (blk (pad (lh [a,b,c,d,e,f,g,i] r T n).bytes) 0) 13 = 0 := by kernel_rfl
 have q14 : wdN (blk (pad (lh [a,b,c,d,e,f,g,i] r T n).bytes) 0) 14 = 0 := by kernel_rfl
 have q15 : wdN (blk (pad (lh [a,b,c,d,e,f,g,i] r T n).bytes) 0) 15 = 0 := by kernel_rfl
 intro j hj
 match j,hj with
 |0,_ => exact q0
 |1,_ => exact q1
 |2,_ => exact q2
 |3,_ => exact q3
 |4,_ => exact q4
 |5,_ => exact q5
 |6,_ => exact q6
 |7,_ => exact q7
 |8,_ => exact q8
 |9,_ => exact q9
 |10,_ => exact q10
 |11,_ => exact q11
 |12,_ => exact q12
 |13,_ => exact q13
 |14,_ => exact q14
 |15,_ => exact q15
 |j + 16,h => exact absurd h (by omega)
theorem lw2_is {ah : List Nat} (h8 : ah.length = 8) (r : UInt8) (T n : Nat) : ∀ j,j < 16 → wdN (blk (pad (lh ah r T n).bytes) 1) j = (lw2 T n).getD j 0 := by
 obtain ⟨a,b,c,d,e,f,g,i,rfl⟩ := eightN h8
 have q0 : wdN (blk (pad (lh [a,b,c,d,e,f,g,i] r T n).bytes) 1) 0 = 0 := by kernel_rfl
 have q1 : wdN (blk (pad (lh [a,b,c,d,e,f,g,i] r T n).bytes) 1) 1 = leW T := by kernel_rfl
 have q2 : wdN (blk (pad (lh [a,b,c,d,e,f,g,i] r T n).bytes) 1) 2 = leW 545259519 := by kernel_rfl
 have q3 : wdN (blk (pad (lh [a,b,c,d,e,f,g,i] r T n).bytes) 1) 3 = leW n := by kernel_rfl
 have q4 : wdN (blk (pad (lh [a,b,c,d,e,f,g,i] r T n).bytes) 1) 4 = 2147483648 := by kernel_rfl
 have q5 : wdN (blk (pad (lh [a,b,c,d,e,f,g,i] r T n).bytes) 1) 5 = 0 := by kernel_rfl
 have q6 : wdN (blk (pad (lh [a,b,c,d,e,f,g,i] r T n).bytes) 1) 6 = 0 := by kernel_rfl
 have q7 : wdN (blk (pad (lh [a,b,c,d,e,f,g,i] r T n).bytes) 1) 7 = 0 := by kernel_rfl
 have q8 : wdN (blk (pad (lh [a,b,c,d,e,f,g,i] r T n).bytes) 1) 8 = 0 := by kernel_rfl
 have q9 : wdN (blk (pad (lh [a,b,c,d,e,f,g,i] r T n).bytes) 1) 9 = 0 := by kernel_rfl
 have q10 : wdN (blk (pad (lh [a,b,c,d,e,f,g,i] r T n).bytes) 1) 10 = 0 := by kernel_rfl
 have q11 : wdN (blk (pad (lh [a,b,c,d,e,f,g,i] r T n).bytes) 1) 11 = 0 := by kernel_rfl
 have q12 : wdN (blk (pad (lh [a,b,c,d,e,f,g,i] r T n).bytes) 1) 12 = 0 := by kernel_rfl
 have q13 : wdN (blk (pad (lh [a,b,c,d,e,f,g,i] r T n).bytes) 1) 13 = 0 := by kernel_rfl
 have q14 : wdN (blk (pad (lh [a,b,c,d,e,f,g,i] r T n).bytes) 1) 14 = 0 := by kernel_rfl
 have q15 : wdN (blk (pad (lh [a,b,c,d,e,f,g,i] r T n).bytes) 1) 15 = 640 := by kernel_rfl
 intro j hj
 match j,hj with
 |0,_ => exact q0
 |1,_ => exact q1
 |2,_ => exact q2.trans leW_bits
 |3,_ => exact q3
 |4,_ => exact q4
 |5,_ => exact q5
 |6,_ => exact q6
 |7,_ => exact q7
 |8,_ => exact q8
 |9,_ => exact q9
 |10,_ => exact q10
 |11,_ => exact q11
 |12,_ => exact q12
 |13,_ => exact q13
 |14,_ => exact q14
 |15,_ => exact q15
 |j + 16,h => exact absurd h (by omega)
theorem lw3_is {st : List Nat} (h8 : st.length = 8) (h32 : ∀ x ∈ st,x < 2 ^ 32) : ∀ j,j < 16 → wdN (blk (pad (st.flatMap byN)) 0) j = (lw3 st).getD j 0 := by
 obtain ⟨a,b,c,d,e,f,g,i,rfl⟩ := eightN h8
 have ha := wd4_by (h32 a (by simp))
 have hb := wd4_by (h32 b (by simp))
 have hc := wd4_by (h32 c (by simp))
 have hd := wd4_by (h32 d (by simp))
 have he := wd4_by (h32 e (by simp))
 have hf := wd4_by (h32 f (by simp))
 have hg := wd4_by (h32 g (by simp))
 have hi := wd4_by (h32 i (by simp))
 have q0 : wdN (blk (pad ([a,b,c,d,e,f,g,i].flatMap byN)) 0) 0 = a := Eq.trans (b := wd4 (UInt8.ofNat (Nat.shiftRight a 24)) (UInt8.ofNat (Nat.shiftRight a 16)) (UInt8.ofNat (Nat.shiftRight a 8)) (UInt8.ofNat a)) (by kernel_rfl) ha
 have q1 : wdN (blk (pad ([a,b,c,d,e,f,g,i].flatMap byN)) 0) 1 = b := Eq.trans (b := wd4 (UInt8.ofNat (Nat.shiftRight b 24)) (UInt8.ofNat (Nat.shiftRight b 16)) (UInt8.ofNat (Nat.shiftRight b 8)) (UInt8.ofNat b)) (by kernel_rfl) hb
 have q2 : wdN (blk (pad ([a,b,c,d,e,f,g,i].flatMap byN)) 0) 2 = c := Eq.trans (b := wd4 (UInt8.ofNat (Nat.shiftRight c 24)) (UInt8.ofNat (Nat.shiftRight c 16)) (UInt8.ofNat (Nat.shiftRight c 8)) (UInt8.ofNat c)) (by kernel_rfl) hc
 have q3 : wdN (blk (pad ([a,b,c,d,e,f,g,i].flatMap byN)) 0) 3 = d := Eq.trans (b := wd4 (UInt8.ofNat (Nat.shiftRight d 24)) (UInt8.ofNat (Nat.shiftRight d 16)) (UInt8.ofNat (Nat.shiftRight d 8)) (UInt8.ofNat d)) (by kernel_rfl) hd
 have q4 : wdN (blk (pad ([a,b,c,d,e,f,g,i].flatMap byN)) 0) 4 = e := Eq.trans (b := wd4 (UInt8.ofNat (Nat.shiftRight e 24)) (UInt8.ofNat (Nat.shiftRight e 16)) (UInt8.ofNat (Nat.shiftRight e 8)) (UInt8.ofNat e)) (by kernel_rfl) he
 have q5 : wdN (blk (pad ([a,b,c,d,e,f,g,i].flatMap byN)) 0) 5 = f := Eq.trans (b := wd4 (UInt8.ofNat (Nat.shiftRight f 24)) (UInt8.ofNat (Nat.shiftRight f 16)) (UInt8.ofNat (Nat.shiftRight f 8)) (UInt8.ofNat f)) (by kernel_rfl) hf
 have q6 : wdN (blk (pad ([a,b,c,d,e,f,g,i].flatMap byN)) 0) 6 = g := Eq.trans (b := wd4 (UInt8.ofNat (Nat.shiftRight g 24)) (UInt8.ofNat (Nat.shiftRight g 16)) (UInt8.ofNat (Nat.shiftRight g 8)) (UInt8.ofNat g)) (by kernel_rfl) hg
 have q7 : wdN (blk (pad ([a,b,c,d,e,f,g,i].flatMap byN)) 0) 7 = i := Eq.trans (b := wd4 (UInt8.ofNat (Nat.shiftRight i 24)) (UInt8.ofNat (Nat.shiftRight i 16)) (UInt8.ofNat (Nat.shiftRight i 8)) (UInt8.ofNat i)) (by kernel_rfl) hi
 have q8 : wdN (blk (pad ([a,b,c,d,e,f,g,i].flatMap byN)) 0) 8 = 2147483648 := by kernel_rfl
 have q9 : wdN (blk (pad ([a,b,c,d,e,f,g,i].flatMap byN)) 0) 9 = 0 := by kernel_rfl
 have q10 : wdN (blk (pad ([a,b,c,d,e,f,g,i].flatMap byN)) 0) 10 = 0 := by kernel_rfl
 have q11 : wdN (blk (pad ([a,b,c,d,e,f,g,i].flatMap byN)) 0) 11 = 0 := by kernel_rfl
 have q12 : wdN (blk (pad ([a,b,c,d,e,f,g,i].flatMap byN)) 0) 12 = 0 := by kernel_rfl
 have q13 : wdN (blk (pad ([a,b,c,d,e,f,g,i].flatMap byN)) 0) 13 = 0 := by kernel_rfl
 have q14 : wdN (blk (pad ([a,b,c,d,e,f,g,i].flatMap byN)) 0) 14 = 0 := by kernel_rfl
 have q15 : wdN (blk (pad ([a,b,c,d,e,f,g,i].flatMap byN)) 0) 15 = 256 := by kernel_rfl
 intro j hj
 match j,hj with
 |0,_ => exact q0
 |1,_ => exact q1
 |2,_ => exact q2
 |3,_ => exact q3
 |4,_ => exact q4
 |5,_ => exact q5
 |6,_ => exact q6
 |7,_ => exact q7
 |8,_ => exact q8
 |9,_ => exact q9
 |10,_ => exact q10
 |11,_ => exact q11
 |12,_ => exact q12
 |13,_ => exact q13
 |14,_ => exact q14
 |15,_ => exact q15
 |j + 16,h => exact absurd h (by omega)
end Go.Proofs.YtedffdlkmpmdlaaGreatDoor
namespace Go.Proofs.YtedffdlkmpmdlaaGreatDoor
set_option maxRecDepth 100000
set_option linter.unusedVariables false
set_option linter.unusedSimpArgs false
theorem squares_ok : squaresN.length = 8 ∧ ∀ x ∈ squaresN,x < 2 ^ 32 := by decide
def hs1 (ah : List Nat) (r : UInt8) (T n : Nat) : List Nat := cmN (blk (pad (lh ah r T n).bytes) 0) squaresN
def hs2 (ah : List Nat) (r : UInt8) (T n : Nat) : List Nat := cmN (blk (pad (lh ah r T n).bytes) 1) (hs1 ah r T n)
def hsW (ah : List Nat) (r : UInt8) (T n : Nat) : List Nat := cmN (blk (pad ((hs2 ah r T n).flatMap byN)) 0) squaresN
theorem hs1_ok (ah : List Nat) (r : UInt8) (T n : Nat) : (hs1 ah r T n).length = 8 ∧ ∀ x ∈ hs1 ah r T n,x < 2 ^ 32 := cmN_ok _ squares_ok.1
theorem hs2_ok (ah : List Nat) (r : UInt8) (T n : Nat) : (hs2 ah r T n).length = 8 ∧ ∀ x ∈ hs2 ah r T n,x < 2 ^ 32 := cmN_ok _ (hs1_ok ah r T n).1
theorem hsW_ok (ah : List Nat) (r : UInt8) (T n : Nat) : (hsW ah r T n).length = 8 ∧ ∀ x ∈ hsW ah r T n,x < 2 ^ 32 := cmN_ok _ squares_ok.1
theorem flat_byN : ∀ l : List Nat,(l.flatMap byN).length = 4 * l.length
 |[] => rfl
 |x :: l => by rw [List.flatMap_cons,List.length_append,flat_byN l,List.length_cons]; show 4 + 4 * l.length = _; omega
theorem lh_sum {ah : List Nat} (h8 : ah.length = 8) (r : UInt8) (T n : Nat) : sha2 (lh ah r T n).bytes = (hsW ah r T n).flatMap byN := by
 have h80 : (lh ah r T n).bytes.length = 80 := by
  obtain ⟨a,b,c,d,e,f,g,i,rfl⟩ := eightN h8
  have e : ∀ x,(byN x).length = 4 := fun _ => rfl
  simp [Hd.bytes,lh,le_length,e]
 have h128 : (pad (lh ah r T n).bytes).length / 64 = 2 := by rw [pad_length,h80]; decide
 have e1 : shaN (lh ah r T n).bytes = (hs2 ah r T n).flatMap byN := by rw [shaN,h128]; rfl
 have h32 : ((hs2 ah r T n).flatMap byN).length = 32 := by rw [flat_byN,(hs2_ok ah r T n).1]
 have h64 : (pad ((hs2 ah r T n).flatMap byN)).length / 64 = 1 := by rw [pad_length,h32]; decide
 rw [sha2,sha_is,sha_is,e1,shaN,h64]
 rfl
def sqV (O : Nat) : List Nat := squaresN.map fun c => Nat.mul c O
def vM (M O : Nat) (ah : List Nat) (rv : Nat) : List Nat := cmV M O (Nat.mul 33554432 O :: (ah ++ [rv,0,0,0,0,0,0])) (sqV O)
def vN (M O : Nat) (mid : List Nat) (T nv : Nat) : List Nat :=
 cmV M O (cmV M O [0,Nat.mul (leW T) O,Nat.mul 4294934304 O,nv,Nat.mul 2147483648 O,0,0,0,0,0,0,0,0,0,0,Nat.mul 640 O] mid ++ [Nat.mul 2147483648 O,0,0,0,0,0,0,Nat.mul 256 O]) (sqV O)
section
variable {σ : Type}
theorem pf_zero (l : List σ) : pf l (fun _ => 0) = 0 := by
 rw [pf_const]
 exact Nat.zero_mul _
theorem sqV_is (l : List σ) : sqV (pf l fun _ => 1) = vec l fun _ => squaresN := by
 unfold sqV vec
 simp only [squaresN,List.map_cons,List.map_nil,← pf_const]
 rfl
theorem vec_get (l : List σ) (st : σ → List Nat) : ∀ j,j < 8 → (vec l st).getD j 0 = pf l fun s => (st s).getD j 0 := by
 intro j hj
 match j,hj with
 |0,_ => rfl
 |1,_ => rfl
 |2,_ => rfl
 |3,_ => rfl
 |4,_ => rfl
 |5,_ => rfl
 |6,_ => rfl
 |7,_ => rfl
 |j + 8,h => exact absurd h (by omega)
theorem vec_len (l : List σ) (st : σ → List Nat) : (vec l st).length = 8 := rfl
theorem row7 (l : List σ) (f : σ → Nat) : ∀ i,i < 7 → [pf l f,0,0,0,0,0,0].getD i 0 = pf l fun s => [f s,0,0,0,0,0,0].getD i 0
 |0,_ => by simp only [List.getD_cons_succ,List.getD_cons_zero]
 |1,_ => by simp only [List.getD_cons_succ,List.getD_cons_zero]; exact (pf_zero l).symm
 |2,_ => by simp only [List.getD_cons_succ,List.getD_cons_zero]; exact (pf_zero l).symm
 |3,_ => by simp only [List.getD_cons_succ,List.getD_cons_zero]; exact (pf_zero l).symm
 |4,_ => by simp only [List.getD_cons_succ,List.getD_cons_zero]; exact (pf_zero l).symm
 |5,_ => by simp only [List.getD_cons_succ,List.getD_cons_zero]; exact (pf_zero l).symm
 |6,_ => by simp only [List.getD_cons_succ,List.getD_cons_zero]; exact (pf_zero l).symm
 |i + 7,h => absurd h (by omega)
theorem row8 (l : List σ) (a b : Nat) : ∀ i,i < 8 → [Nat.mul a (pf l fun _ => 1),0,0,0,0,0,0,Nat.mul b (pf l fun _ => 1)].getD i 0 = pf l fun s => [a,0,0,0,0,0,0,b].getD i 0
 |0,_ => by simp only [List.getD_cons_succ,List.getD_cons_zero]; exact (pf_const l _).symm
 |1,_ => by simp only [List.getD_cons_succ,List.getD_cons_zero]; exact (pf_zero l).symm
 |2,_ => by simp only [List.getD_cons_succ,List.getD_cons_zero]; exact (pf_zero l).symm
 |3,_ => by simp only [List.getD_cons_succ,List.getD_cons_zero]; exact (pf_zero l).symm
 |4,_ => by simp only [List.getD_cons_succ,List.getD_cons_zero]; exact (pf_zero l).symm
 |5,_ => by simp only [List.getD_cons_succ,List.getD_cons_zero]; exact (pf_zero l).symm
 |6,_ => by simp only [List.getD_cons_succ,List.getD_cons_zero]; exact (pf_zero l).symm
 |7,_ => by simp only [List.getD_cons_succ,List.getD_cons_zero]; exact (pf_const l _).symm
 |i + 8,h => absurd h (by omega)
theorem row16 (l : List σ) (T : Nat) (n : σ → Nat) : ∀ i,i < 16 → [0,Nat.mul (leW T) (pf l fun _ => 1),Nat.mul 4294934304 (pf l fun _ => 1),pf l fun s => leW (n s),Nat.mul 2147483648 (pf l fun _ => 1),0,0,0,0,0,0,0,0,0,0,Nat.mul 640 (pf l fun _ => 1)].getD i 0 = pf l fun s => (lw2 T (n s)).getD i 0
 |0,_ => by simp only [lw2,List.getD_cons_succ,List.getD_cons_zero]; exact (pf_zero l).symm
 |1,_ => by simp only [lw2,List.getD_cons_succ,List.getD_cons_zero]; exact (pf_const l _).symm
 |2,_ => by simp only [lw2,List.getD_cons_succ,List.getD_cons_zero]; exact (pf_const l _).symm
 |3,_ => by simp only [lw2,List.getD_cons_succ,List.getD_cons_zero]
 |4,_ => by simp only [lw2,List.getD_cons_succ,List.getD_cons_zero]; exact (pf_const l _).symm
 |5,_ => by simp only [lw2,List.getD_cons_succ,List.getD_cons_zero]; exact (pf_zero l).symm
 |6,_ => by simp only [lw2,List.getD_cons_succ,List.getD_cons_zero]; exact (pf_zero l).symm
 |7,_ => by simp only [lw2,List.getD_cons_succ,List.getD_cons_zero]; exact (pf_zero l).symm
 |8,_ => by simp only [lw2,List.getD_cons_succ,List.getD_cons_zero]; exact (pf_zero l).symm
 |9,_ => by simp only [lw2,List.getD_cons_succ,List.getD_cons_zero]; exact (pf_zero l).symm
 |10,_ => by simp only [lw2,List.getD_cons_succ,List.getD_cons_zero]; exact (pf_zero l).symm
 |11,_ => by simp only [lw2,List.getD_cons_succ,List.getD_cons_zero]; exact (pf_zero l).symm
 |12,_ => by simp only [lw2,List.getD_cons_succ,List.getD_cons_zero]; exact (pf_zero l).symm
 |13,_ => by simp only [lw2,List.getD_cons_succ,List.getD_cons_zero]; exact (pf_zero l).symm
 |14,_ => by simp only [lw2,List.getD_cons_succ,List.getD_cons_zero]; exact (pf_zero l).symm
 |15,_ => by simp only [lw2,List.getD_cons_succ,List.getD_cons_zero]; exact (pf_const l _).symm
 |i + 16,h => absurd h (by omega)
theorem vM_is (l : List σ) {ah : σ → List Nat} (h8 : ∀ s,(ah s).length = 8) (h32 : ∀ s,∀ x ∈ ah s,x < 2 ^ 32) (r : σ → UInt8) (T : Nat) (n : σ → Nat) : vM (mk32 l) (pf l fun _ => 1) (vec l ah) (pf l fun s => wd4 (r s) 0 0 0) = vec l fun s => hs1 (ah s) (r s) T (n s) := by
 unfold vM
 rw [sqV_is,cmV_is l (fun _ => squares_ok.1) (fun _ => squares_ok.2) (fun s => blk (pad (lh (ah s) (r s) T (n s)).bytes) 0) (fun j hj => ?_)]
 ·rfl
 ·have e : (fun s => wdN (blk (pad (lh (ah s) (r s) T (n s)).bytes) 0) j) = fun s => (lw1 (ah s) (r s)).getD j 0 := funext fun s => lw1_is (h8 s) (h32 s) (r s) T (n s) j hj
  rw [e,← pf_const]
  have get : ∀ i,i < 8 → (lw1 · · : List Nat → UInt8 → List Nat) = lw1 := fun _ _ => rfl
  by_cases h0 : j = 0
  ·subst h0; rfl
  ·by_cases h9 : j < 9
   ·obtain ⟨i,rfl⟩ : ∃ i,j = i + 1 := ⟨j - 1,by omega⟩
    rw [List.getD_cons_succ,List.getD_eq_getElem?_getD,List.getElem?_append_left (by rw [vec_len]; omega),← List.getD_eq_getElem?_getD,vec_get l ah i (by omega)]
    congr 1
    funext s
    rw [lw1,List.getD_cons_succ,List.getD_eq_getElem?_getD,List.getD_eq_getElem?_getD,List.getElem?_append_left (by rw [h8 s]; omega)]
   ·obtain ⟨i,rfl⟩ : ∃ i,j = i + 9 := ⟨j - 9,by omega⟩
    have er : ∀ s,(lw1 (ah s) (r s)).getD (i + 9) 0 = [wd4 (r s) 0 0 0,0,0,0,0,0,0].getD i 0 := fun s => by
     rw [lw1,List.getD_cons_succ,List.getD_eq_getElem?_getD,List.getElem?_append_right (by rw [h8 s]; omega),h8 s,List.getD_eq_getElem?_getD]
     congr 2
    rw [funext er,List.getD_cons_succ,List.getD_eq_getElem?_getD,List.getElem?_append_right (by rw [vec_len]; omega),vec_len,show i + 8 - 8 = i by omega,← List.getD_eq_getElem?_getD]
    exact row7 l (fun s => wd4 (r s) 0 0 0) i (by omega)
theorem vN_is (l : List σ) {ah : σ → List Nat} (h8 : ∀ s,(ah s).length = 8) (h32 : ∀ s,∀ x ∈ ah s,x < 2 ^ 32) (r : σ → UInt8) (T : Nat) (n : σ → Nat) : vN (mk32 l) (pf l fun _ => 1) (vec l fun s => hs1 (ah s) (r s) T (n s)) T (pf l fun s => leW (n s)) = vec l fun s => hsW (ah s) (r s) T (n s) := by
 unfold vN
 rw [cmV_is l (fun s => (hs1_ok _ _ _ _).1) (fun s => (hs1_ok _ _ _ _).2) (fun s => blk (pad (lh (ah s) (r s) T (n s)).bytes) 1) (fun j hj => ?_),sqV_is,cmV_is l (fun _ => squares_ok.1) (fun _ => squares_ok.2) (fun s => blk (pad ((hs2 (ah s) (r s) T (n s)).flatMap byN)) 0) (fun j hj => ?_)]
 ·rfl
 ·have e : (fun s => wdN (blk (pad ((hs2 (ah s) (r s) T (n s)).flatMap byN)) 0) j) = fun s => (lw3 (hs2 (ah s) (r s) T (n s))).getD j 0 := funext fun s => lw3_is (hs2_ok _ _ _ _).1 (hs2_ok _ _ _ _).2 j hj
  rw [e]
  by_cases h9 : j < 8
  ·rw [List.getD_eq_getElem?_getD,List.getElem?_append_left (by rw [vec_len]; omega),← List.getD_eq_getElem?_getD]
   refine (vec_get l (fun s => hs2 (ah s) (r s) T (n s)) j h9).trans ?_
   congr 1
   funext s
   rw [lw3,List.getD_eq_getElem?_getD,List.getD_eq_getElem?_getD,List.getElem?_append_left (by rw [(hs2_ok _ _ _ _).1]; omega)]
  ·obtain ⟨i,rfl⟩ : ∃ i,j = i + 8 := ⟨j - 8,by omega⟩
   have er : ∀ s,(lw3 (hs2 (ah s) (r s) T (n s))).getD (i + 8) 0 = [2147483648,0,0,0,0,0,0,256].getD i 0 := fun s => by
    rw [lw3,List.getD_eq_getElem?_getD,List.getElem?_append_right (by rw [(hs2_ok _ _ _ _).1]; omega),(hs2_ok _ _ _ _).1,List.getD_eq_getElem?_getD]
    congr 2
   rw [funext er,List.getD_eq_getElem?_getD,List.getElem?_append_right (by rw [vec_len]; omega),vec_len,show i + 8 - 8 = i by omega,← List.getD_eq_getElem?_getD]
   exact row8 l 2147483648 256 i (by omega)
 ·have e : (fun s => wdN (blk (pad (lh (ah s) (r s) T (n s)).bytes) 1) j) = fun s => (lw2 T (n s)).getD j 0 := funext fun s => lw2_is (h8 s) (r s) T (n s) j hj
  rw [e]
  exact row16 l T n j hj
end
end Go.Proofs.YtedffdlkmpmdlaaGreatDoor
namespace Go.Proofs.YtedffdlkmpmdlaaGreatDoor
set_option maxRecDepth 100000
set_option linter.unusedVariables false
set_option linter.unusedSimpArgs false
def t24 (h : Nat) : Nat := Nat.add (Nat.add (Nat.mul (Nat.mod h 256) 65536) (Nat.mul (Nat.mod (Nat.div h 256) 256) 256)) (Nat.mod (Nat.div h 65536) 256)
theorem ofLE_app : ∀ l m : List UInt8,ofLE (l ++ m) = ofLE l + 256 ^ l.length * ofLE m
 |[],m => by simp [ofLE]
 |c :: l,m => by
  rw [List.cons_append,ofLE,ofLE,ofLE_app l m,List.length_cons,Nat.pow_succ,Nat.mul_add,Nat.add_assoc,Nat.mul_comm (256 ^ l.length) 256,Nat.mul_assoc]
theorem ofLE_less : ∀ l : List UInt8,ofLE l < 256 ^ l.length
 |[] => by simp [ofLE]
 |c :: l => by
  have := ofLE_less l
  have := c.toNat_lt
  rw [ofLE,List.length_cons,Nat.pow_succ]
  omega
theorem ofLE_byN (x : Nat) : ofLE (byN x) = x / 16777216 % 256 + 256 * t24 x := by
 have e : ∀ y,(UInt8.ofNat y).toNat = y % 256 := fun y => by rw [UInt8.toNat_ofNat']
 show (UInt8.ofNat (x >>> 24)).toNat + 256 * ((UInt8.ofNat (x >>> 16)).toNat + 256 * ((UInt8.ofNat (x >>> 8)).toNat + 256 * ((UInt8.ofNat x).toNat + 256 * 0))) = x / 16777216 % 256 + 256 * (x % 256 * 65536 + x / 256 % 256 * 256 + x / 65536 % 256)
 rw [e,e,e,e,Nat.shiftRight_eq_div_pow,Nat.shiftRight_eq_div_pow,Nat.shiftRight_eq_div_pow,show (2 : Nat) ^ 24 = 16777216 from rfl,show (2 : Nat) ^ 16 = 65536 from rfl,show (2 : Nat) ^ 8 = 256 from rfl]
 omega
theorem sum_top {w : List Nat} (h8 : w.length = 8) : ∃ A,A < 256 ^ 29 ∧ ofLE (w.flatMap byN) = A + 256 ^ 29 * t24 (w.getD 7 0) := by
 obtain ⟨a,b,c,d,e,f,g,i,rfl⟩ := eightN h8
 have e1 : [a,b,c,d,e,f,g,i].flatMap byN = [a,b,c,d,e,f,g].flatMap byN ++ byN i := rfl
 have h1 := ofLE_less ([a,b,c,d,e,f,g].flatMap byN)
 have h2 := flat_byN [a,b,c,d,e,f,g]
 rw [h2] at h1
 refine ⟨ofLE ([a,b,c,d,e,f,g].flatMap byN) + 256 ^ 28 * (i / 16777216 % 256),?_,?_⟩
 ·have h3 : i / 16777216 % 256 < 256 := Nat.mod_lt _ (by decide)
  have h4 : ofLE ([a,b,c,d,e,f,g].flatMap byN) < 256 ^ 28 := h1
  have h5 : 256 ^ 28 * (i / 16777216 % 256) ≤ 256 ^ 28 * 255 := Nat.mul_le_mul_left _ (by omega)
  have h6 : (256 : Nat) ^ 29 = 256 ^ 28 + 256 ^ 28 * 255 := by decide
  omega
 ·rw [e1,ofLE_app,h2,ofLE_byN]
  show _ + 256 ^ 28 * (i / 16777216 % 256 + 256 * t24 i) = _ + 256 ^ 29 * t24 i
  rw [Nat.mul_add,← Nat.mul_assoc,← Nat.pow_succ,Nat.add_assoc]
theorem lim_is : btT 545259519 = 256 ^ 29 * 8388607 ∧ btP 545259519 := ⟨by decide +kernel,of_decide_eq_true (by decide +kernel : decide (btP 545259519) = true)⟩
theorem mt_lh {ah : List Nat} (h8 : ah.length = 8) (r : UInt8) (T n : Nat) : (t24 ((hsW ah r T n).getD 7 0) < 8388607 → mtH (lh ah r T n) = true) ∧ (8388607 < t24 ((hsW ah r T n).getD 7 0) → mtH (lh ah r T n) = false) := by
 obtain ⟨A,hA,e⟩ := sum_top (hsW_ok ah r T n).1
 have hh : hsh (lh ah r T n) = A + 256 ^ 29 * t24 ((hsW ah r T n).getD 7 0) := by rw [hsh,lh_sum h8,e]
 have hb : (lh ah r T n).bits = 545259519 := rfl
 unfold mtH
 rw [hh,hb,lim_is.1]
 generalize t24 ((hsW ah r T n).getD 7 0) = t at *
 refine ⟨fun h => decide_eq_true ⟨lim_is.2,?_⟩,fun h => decide_eq_false fun ⟨_,hle⟩ => ?_⟩
 ·have : 256 ^ 29 * (t + 1) ≤ 256 ^ 29 * 8388607 := Nat.mul_le_mul_left _ h
  rw [Nat.mul_add,Nat.mul_one] at this
  omega
 ·have : 256 ^ 29 * (8388607 + 1) ≤ 256 ^ 29 * t := Nat.mul_le_mul_left _ h
  rw [Nat.mul_add,Nat.mul_one] at this
  have : 0 < 256 ^ 29 := by decide
  omega
theorem blt_no {a b : Nat} (h : b ≤ a) : Nat.blt a b = false := by
 cases e : Nat.blt a b with
 |false => rfl
 |true => exact absurd (Eq.mp Nat.blt_eq e) (by omega)
theorem beq_no {a b : Nat} (h : a ≠ b) : Nat.beq a b = false := by
 cases e : Nat.beq a b with
 |false => rfl
 |true => exact absurd (Nat.eq_of_beq_eq_true e) h
def lanes (V : Nat) : List Nat → Nat → Bool
 |[],_ => true
 |n :: ns,k => (bif Nat.blt n k then true else bif Nat.beq n k then Nat.blt (t24 (Nat.mod V 18446744073709551616)) 8388607 else Nat.blt 8388607 (t24 (Nat.mod V 18446744073709551616))) && lanes (Nat.shiftRight V 64) ns k
def keys (V : Nat) : List Nat → Bool
 |[] => true
 |c :: cs => Nat.beq (Nat.mod V 18446744073709551616) c && keys (Nat.shiftRight V 64) cs
def chks (M O : Nat) (mid : List Nat) (T : Nat) (ns ks : List Nat) : Bool := ks.all fun k => lanes ((vN M O mid T (Nat.mul (leW k) O)).getD 7 0) ns k
section
variable {σ : Type}
theorem pf_lane (l : List σ) (x : σ) {f : σ → Nat} (h : B64 f) : Nat.mod (pf (x :: l) f) 18446744073709551616 = f x ∧ Nat.shiftRight (pf (x :: l) f) 64 = pf l f := by
 have hx := h x
 constructor
 ·show (2 ^ 64 * pf l f + f x) % 2 ^ 64 = f x
  rw [Nat.mul_add_mod,Nat.mod_eq_of_lt hx]
 ·show (2 ^ 64 * pf l f + f x) >>> 64 = pf l f
  rw [Nat.shiftRight_eq_div_pow,Nat.mul_add_div (by decide),Nat.div_eq_of_lt hx,Nat.add_zero]
theorem lanes_is : ∀ (l : List σ) {f n : σ → Nat} {k : Nat},B64 f → lanes (pf l f) (l.map n) k = true → ∀ s ∈ l,(n s = k → t24 (f s) < 8388607) ∧ (k < n s → 8388607 < t24 (f s))
 |[],_,_,_,_,_,s,hs => by cases hs
 |x :: l,f,n,k,hb,h,s,hs => by
  obtain ⟨h1,h2⟩ := pf_lane l x hb
  rw [List.map_cons,lanes,h1,h2,Bool.and_eq_true] at h
  rcases List.mem_cons.1 hs with rfl | hs
  ·have h3 := h.1
   refine ⟨fun e => ?_,fun e => ?_⟩
   ·subst e
    rw [blt_no (Nat.le_refl (n s)),cond_false,Nat.beq_refl,cond_true] at h3
    exact Eq.mp Nat.blt_eq h3
   ·rw [blt_no (show k ≤ n s by omega),cond_false,beq_no (show n s ≠ k by omega),cond_false] at h3
    exact Eq.mp Nat.blt_eq h3
  ·exact lanes_is l hb h.2 s hs
theorem keys_is : ∀ (l : List σ) {f c : σ → Nat},B64 f → keys (pf l f) (l.map c) = true → ∀ s ∈ l,f s = c s
 |[],_,_,_,_,s,hs => by cases hs
 |x :: l,f,c,hb,h,s,hs => by
  obtain ⟨h1,h2⟩ := pf_lane l x hb
  rw [List.map_cons,keys,h1,h2,Bool.and_eq_true] at h
  rcases List.mem_cons.1 hs with rfl | hs
  ·exact Nat.eq_of_beq_eq_true h.1
  ·exact keys_is l hb h.2 s hs
end
theorem mineN_at (h : Hd) : ∀ (k m n0 : Nat),(∀ i,i < m → mtH (h.with (n0 + i)) = false) → mtH (h.with (n0 + m)) = true → m ≤ k → n0 + k < 4294967295 → mineN h k n0 = some (n0 + m)
 |0,m,n0,_,h2,hm,_ => by
  obtain rfl : m = 0 := by omega
  rw [mineN,if_pos (by simpa using h2)]
  rfl
 |k + 1,0,n0,_,h2,_,_ => by
  rw [mineN,if_pos (by simpa using h2)]
  rfl
 |k + 1,m + 1,n0,h1,h2,hm,hk => by
  have h0 := h1 0 (by omega)
  rw [Nat.add_zero] at h0
  rw [mineN,if_neg (by rw [h0]; decide),if_neg (by omega),mineN_at h k m (n0 + 1) (fun i hi => by have := h1 (i + 1) (by omega); rw [show n0 + 1 + i = n0 + (i + 1) by omega]; exact this) (by rw [show n0 + 1 + m = n0 + (m + 1) by omega]; exact h2) (by omega) (by omega)]
  congr 1
  omega
section
variable {σ : Type}
theorem mined (l : List σ) {ah : σ → List Nat} (h8 : ∀ s,(ah s).length = 8) (h32 : ∀ s,∀ x ∈ ah s,x < 2 ^ 32) (r : σ → UInt8) (T : Nat) (n : σ → Nat) (K : Nat) (hK : K ≤ 400)
  (hc : chks (mk32 l) (pf l fun _ => 1) (vM (mk32 l) (pf l fun _ => 1) (vec l ah) (pf l fun s => wd4 (r s) 0 0 0)) T (l.map n) (List.range K) = true) (hn : ∀ s ∈ l,n s < K) :
  ∀ s ∈ l,mineN (lh (ah s) (r s) T 0) 400 0 = some (n s) := by
 have hk : ∀ k,k < K → ∀ s ∈ l,(n s = k → mtH ((lh (ah s) (r s) T 0).with k) = true) ∧ (k < n s → mtH ((lh (ah s) (r s) T 0).with k) = false) := by
  intro k hk s hs
  unfold chks at hc
  rw [List.all_eq_true] at hc
  have h1 := hc k (List.mem_range.2 hk)
  rw [vM_is l h8 h32 r T (fun _ => k),← pf_const,vN_is l h8 h32 r T (fun _ => k),vec_get l _ 7 (by omega)] at h1
  have h2 := lanes_is l (fun s => by
   show (hsW (ah s) (r s) T k).getD 7 0 < 2 ^ 64
   rw [List.getD_eq_getElem?_getD]
   cases h : (hsW (ah s) (r s) T k)[7]? with
   |none => exact (by decide : 0 < 2 ^ 64)
   |some x => exact Nat.lt_trans ((hsW_ok _ _ _ _).2 x (List.mem_of_getElem? h)) (by decide)) h1 s hs
  have h3 := mt_lh (h8 s) (r s) T k
  exact ⟨fun e => h3.1 (h2.1 e),fun e => h3.2 (h2.2 e)⟩
 intro s hs
 have hns := hn s hs
 have := mineN_at (lh (ah s) (r s) T 0) 400 (n s) 0 (fun i hi => by rw [Nat.zero_add]; exact (hk i (by omega) s hs).2 hi) (by rw [Nat.zero_add]; exact (hk (n s) hns s hs).1 rfl) (by omega) (by omega)
 rw [Nat.zero_add] at this
 exact this
end
end Go.Proofs.YtedffdlkmpmdlaaGreatDoor
namespace Go.Proofs.YtedffdlkmpmdlaaGreatDoor
set_option maxRecDepth 100000
set_option linter.unusedVariables false
set_option linter.unusedSimpArgs false
open Go.RowKit
end Go.Proofs.YtedffdlkmpmdlaaGreatDoor
namespace Go.Proofs.YtedffdlkmpmdlaaGreatDoor
set_option maxRecDepth 100000
set_option linter.unusedVariables false
set_option linter.unusedSimpArgs false
open Go.RowKit
end Go.Proofs.YtedffdlkmpmdlaaGreatDoor
namespace Go.Proofs.YtedffdlkmpmdlaaGreatDoor
set_option maxRecDepth 100000
set_option linter.unusedVariables false
set_option linter.unusedSimpArgs false
open Go.RowKit
end Go.Proofs.YtedffdlkmpmdlaaGreatDoor
namespace Go.Proofs.YtedffdlkmpmdlaaGreatDoor
set_option maxRecDepth 100000
set_option linter.unusedVariables false
set_option linter.unusedSimpArgs false
open Go.RowKit
theorem build_zeroHd (w : World) : (buildHd #[]).run Tryz.prog w = .ok (.agg zeroHd.cells) w := run_buildHd w #[] _ (by kernel_rfl)
end Go.Proofs.YtedffdlkmpmdlaaGreatDoor
namespace Go.Proofs.YtedffdlkmpmdlaaGreatDoor
set_option maxRecDepth 100000
set_option linter.unusedVariables false
set_option linter.unusedSimpArgs false
open Go.RowKit
theorem Hd.with_ok {h : Hd} (o : h.Ok) (n : Nat) (hn : n < 4294967296) : (h.with n).Ok := ⟨o.ver,o.ahead,o.root,o.time,o.bits,hn⟩
theorem Hd.with_set {h : Hd} (o : h.Ok) (n k : Nat) : (h.with n).cells.setIfInBounds 67 (.int .u32 (k : Int)) = (h.with k).cells := by
 have e : ∀ n,(h.with n).cells = ((Value.int .u32 (h.ver : Int) :: (h.ahead.map B8 ++ (h.root.map B8 ++ [Value.int .u32 (h.time : Int),.int .u32 (h.bits : Int)]))) ++ [Value.int .u32 (n : Int)]).toArray := by
  intro n
  simp [Hd.cells,Hd.with]
 rw [e,e]
 simp only [List.setIfInBounds_toArray]
 congr 1
 rw [List.set_append_right _ _ (by simp [o.ahead,o.root])]
 simp [o.ahead,o.root]
theorem mineN_hit {h : Hd} {k n : Nat} (e : mtH (h.with n) = true) : mineN h k n = some n := by
 cases k <;> simp [mineN,e]
theorem mineN_last {h : Hd} {n : Nat} (e : mtH (h.with n) = false) : mineN h 0 n = none := by simp [mineN,e]
theorem mineN_top {h : Hd} {k : Nat} (e : mtH (h.with 4294967295) = false) : mineN h k 4294967295 = none := by cases k <;> simp [mineN,e]
theorem mineN_on {h : Hd} {k n : Nat} (e : mtH (h.with n) = false) (hn : ¬ n = 4294967295) : mineN h (k + 1) n = mineN h k (n + 1) := by simp [mineN,e,hn]
theorem mineN_lt {h : Hd} : ∀ k n,n < 4294967296 → ∀ r,mineN h k n = some r → r < 4294967296
 |0,n,hn,r,e => by
  cases hm : mtH (h.with n) with
  |true => rw [mineN_hit hm] at e; cases e; exact hn
  |false => rw [mineN_last hm] at e; cases e
 |k + 1,n,hn,r,e => by
  cases hm : mtH (h.with n) with
  |true => rw [mineN_hit hm] at e; cases e; exact hn
  |false =>
   by_cases h2 : n = 4294967295
   ·subst h2; rw [mineN_top hm] at e; cases e
   ·rw [mineN_on hm h2] at e
    exact mineN_lt k (n + 1) (by omega) r e
end Go.Proofs.YtedffdlkmpmdlaaGreatDoor
namespace Go.Proofs.YtedffdlkmpmdlaaGreatDoor
set_option maxRecDepth 100000
set_option linter.unusedVariables false
set_option linter.unusedSimpArgs false
open Go.RowKit
theorem hBytesC : HBytesC := by
 intro h o w
 obtain ⟨s0,c0,c65,c66,c67,x1,x33,o0⟩ := Hd.of o
 obtain ⟨v,A,R,t,b,n⟩ := h
 obtain ⟨o1,o2,o3,o4,o5,o6⟩ := o
 simp only at o1 o2 o3 o4 o5 o6 c0 c65 c66 c67 x1 x33
 simp only [Hd.bytes]
 generalize Hd.cells _ = C at *
 have d0 := cell_is c0 (by omega)
 have d65 := cell_is c65 (by omega)
 have d66 := cell_is c66 (by omega)
 have d67 := cell_is c67 (by omega)
 go_enter Tryz.func19,Tryz.ntmps19
 go_upto_region 2 with fail
 refine wp_new fun W2 N2 => ?_
 have r0 := N2.old (heap_alloc_new w (.cells C 27))
 have fW := ((Fr.refl F0 w).alloc (.cells C 27)).trans' N2.fr
 have ne := N2.ne (heap_alloc_new w (.cells C 27))
 have i0 := WI.of N2.new
 rw [World.size_alloc] at i0 ne
 clear N2
 have gw : w.heap.size ≤ w.heap.size + 1 := by omega
 generalize w.heap.size + 1 = g1 at *
 have r0' := Lib.hid r0
 clear r0
 obtain ⟨g0,hg0⟩ : ∃ g,g = w.heap.size := ⟨_,rfl⟩
 rw [← hg0] at r0' ne ⊢
 replace ne := Lib.hid ne
 replace gw := Lib.hid gw
 clear hg0
 have r := i0.keep ne.out r0'.out
 have H := Lib.hid (i0.put v o1 (by simp only [List.length_append,le4,List.length_nil]; omega))
 go_wp2_with fail
 (with_reducible refine H.out.mono ?_); rintro e w3 ⟨rfl,i1⟩
 clear H r
 have r := i1.keep ne.out r0'.out
 have hb := Bs.of_cells (o := 1) (n := 32) r o2 (by omega) x1
 have H := Lib.hid (i1.raw _ 32 32 _ hb o2.symm (by simp only [List.length_append,le4,List.length_nil]; omega))
 go_wp2_with fail
 (with_reducible refine H.out.mono ?_); rintro e w4 ⟨rfl,i2⟩
 clear H r hb
 have r := i2.keep ne.out r0'.out
 have hb := Bs.of_cells (o := 33) (n := 32) r o3 (by omega) x33
 have H := Lib.hid (i2.raw _ 32 32 _ hb o3.symm (by simp only [List.length_append,le4,List.length_nil]; omega))
 go_wp2_with fail
 (with_reducible refine H.out.mono ?_); rintro e w5 ⟨rfl,i3⟩
 clear H r hb
 have r := i3.keep ne.out r0'.out
 have H := Lib.hid (i3.put t o4 (by simp only [List.length_append,le4,List.length_nil]; omega))
 go_wp2_with fail
 (with_reducible refine H.out.mono ?_); rintro e w6 ⟨rfl,i4⟩
 clear H r
 have r := i4.keep ne.out r0'.out
 have H := Lib.hid (i4.put b o5 (by simp only [List.length_append,le4,List.length_nil]; omega))
 go_wp2_with fail
 (with_reducible refine H.out.mono ?_); rintro e w7 ⟨rfl,i5⟩
 clear H r
 have r := i5.keep ne.out r0'.out
 have H := Lib.hid (i5.put n o6 (by simp only [List.length_append,le4,List.length_nil]; omega))
 go_wp2_with fail
 (with_reducible refine H.out.mono ?_); rintro e w8 ⟨rfl,i6⟩
 clear H r
 have H := Lib.hid (i6.bytes fW gw.out (by simp only [List.length_append,le4,List.length_nil]; omega))
 go_wp2_with fail
 refine H.out.mono ?_
 rintro e w9 ⟨a9,c9,rfl,hb9,f9,n9⟩
 have HN := Lib.hid n9
 clear n9 H
 have e : [] ++ le 4 v ++ A ++ R ++ le 4 t ++ le 4 b ++ le 4 n = le 4 v ++ (A ++ (R ++ (le 4 t ++ (le 4 b ++ le 4 n)))) := by simp only [List.append_assoc,List.nil_append]
 rw [e] at hb9 ⊢
 obtain ⟨N,hN⟩ : ∃ N,N = (le 4 v ++ (A ++ (R ++ (le 4 t ++ (le 4 b ++ le 4 n))))).length := ⟨_,rfl⟩
 rw [← hN]
 replace hN := Lib.hid hN
 go_wp2_with fail
 go_ret
 exact ⟨a9,c9,by rw [← hN.out]; rfl,hb9,f9,HN.out⟩
theorem hHashC : HHashC := by
 intro h o w hcub
 have HB := Lib.hid (hBytesC h o)
 have HD := Lib.hid (fun a c w hw hc => Double_any a 80 c h.bytes (Hd.bytes_length o).symm (by have := Hd.bytes_length o; omega) w hw hc)
 have HC := Lib.hid hcub
 have la := Hd.bytes_length o
 have s0 := Hd.cells_size o
 unfold NewBytes at HB
 rw [la] at HB
 have sx : ((sha2 h.bytes).map B8).toArray.size = 32 := by simp [sha2,sha_length]
 have ox : rowOne ((sha2 h.bytes).map B8).toArray := oneB_map _
 generalize (Array.mk ((sha2 h.bytes).map B8)) = X at *
 generalize h.cells = C at *
 generalize h.bytes = S at *
 clear hcub
 go_enter Tryz.func22,Tryz.ntmps22
 go_wp2_with fail
 refine calls_new fun W1 N1 => ?_
 have r1 := N1.new
 have F := ((Fr.refl F0 w).alloc (.cells C 27)).trans' N1.fr
 have hz : (#[.int .u8 0,.int .u8 0,.int .u8 0,.int .u8 0,.int .u8 0,.int .u8 0,.int .u8 0,.int .u8 0,.int .u8 0,.int .u8 0,.int .u8 0,.int .u8 0,.int .u8 0,.int .u8 0,.int .u8 0,.int .u8 0,
  .int .u8 0,.int .u8 0,.int .u8 0,.int .u8 0,.int .u8 0,.int .u8 0,.int .u8 0,.int .u8 0,.int .u8 0,.int .u8 0,.int .u8 0,.int .u8 0,.int .u8 0,.int .u8 0,.int .u8 0,.int .u8 0] : Array Value).size = 32 := rfl
 rw [World.size_alloc] at r1
 have hg : w.heap.size ≤ w.heap.size + 1 := by omega
 try rw [World.size_alloc]
 clear N1
 generalize (#[.int .u8 0,.int .u8 0,.int .u8 0,.int .u8 0,.int .u8 0,.int .u8 0,.int .u8 0,.int .u8 0,.int .u8 0,.int .u8 0,.int .u8 0,.int .u8 0,.int .u8 0,.int .u8 0,.int .u8 0,.int .u8 0,
  .int .u8 0,.int .u8 0,.int .u8 0,.int .u8 0,.int .u8 0,.int .u8 0,.int .u8 0,.int .u8 0,.int .u8 0,.int .u8 0,.int .u8 0,.int .u8 0,.int .u8 0,.int .u8 0,.int .u8 0,.int .u8 0] : Array Value) = Z at *
 generalize w.heap.size + 1 = g1 at *
 replace hg := Lib.hid hg
 (with_reducible refine (HB.out _).mono ?_); rintro e w2 ⟨a2,c2,rfl,hb2,f,n2⟩
 clear n2
 replace r1 := keep_fr f r1
 replace F := F.trans' f
 clear f
 go_wp2_with fail
 (with_reducible refine (HD.out _ _ _ hb2 (HC.out.fr F fun f => f)).mono ?_); rintro e w3 ⟨rfl,f⟩
 replace r1 := keep_fr f r1
 replace F := F.trans' f
 clear f
 go_wp2_with fail
 refine bodyPost_ret (results_cell_row rfl _ _ g1 _ _ _ _ rfl (by rw [heap_setRow_at,r1]; rfl) Tryz.underlying25 rfl (by rw [Tryz.szHash,sx])) rfl ⟨rfl,?_⟩
 exact F.setRow (fun h => by have := hg.out; omega) _
end Go.Proofs.YtedffdlkmpmdlaaGreatDoor
namespace Go.Proofs.YtedffdlkmpmdlaaGreatDoor
set_option maxRecDepth 100000
set_option linter.unusedVariables false
set_option linter.unusedSimpArgs false
open Go.RowKit
theorem hCheckC : HCheckC := by
 intro h o l hl E hE w hcub
 have HC := Lib.hid hcub
 have HH := Lib.hid (hHashC h o)
 rw [hash_row _ (by simp [sha2,sha_length])] at HH
 have hx := hash_lt (sha2 h.bytes) (by simp [sha2,sha_length])
 obtain ⟨sa,c0,c65,c66,c67,x1,x33,oa⟩ := Hd.of o
 clear c0 c65 c67 x1 x33 hcub
 rw [ckE,show hsh h = ofLE (sha2 h.bytes) from rfl] at hE
 generalize ofLE (sha2 h.bytes) = x at *
 by_cases hb : btP h.bits
 ·have HD := Lib.hid ((decC h.bits o.bits).1 hb)
  have hTW := hb.2.2
  generalize btT h.bits = T at *
  have HCm := Lib.hid (wCmp_any T l hTW hl)
  have HM := Lib.hid (fun o ho w => meetsC x T o hx hTW ho w)
  have hE2 : E = if T ≤ l then (if x ≤ T then 0 else 7) else 6 := by
   rw [← hE]
   by_cases h1 : T ≤ l <;> simp [hb,h1]
  clear hE hb
  generalize h.cells = A at *
  have d66 := cell_is c66 (by omega)
  generalize h.bits = b at *
  have hs : (sgn T l ≤ 0) ↔ T ≤ l := sgn_le T l
  generalize sgn T l = s at *
  clear hl hTW hx
  go_enter Tryz.func35,Tryz.ntmps35
  go_wp2_with fail
  refine calls_new fun W1 N1 => ?_
  have r1 := N1.new
  have r0 := N1.old (heap_alloc_new w (.cells A 27))
  have F := ((Fr.refl F0 w).alloc (.cells A 27)).trans' N1.fr
  rw [World.size_alloc] at r1
  clear N1
  generalize w.heap.size + 1 = g1 at *
  generalize w.heap.size = g0 at *
  (with_reducible refine (HD.out _).mono ?_); rintro e w2 ⟨rfl,f⟩
  replace r0 := keep_fr f r0
  replace r1 := keep_fr f r1
  replace F := F.trans' f
  clear f HD c66 d66
  go_upto_region 2 with fail
  refine wp_put fun W3 N3 => ?_
  have r5 := N3.new
  replace r0 := N3.old r0
  replace r1 := N3.old r1
  replace F := F.trans' N3.fr
  clear N3
  generalize w2.heap.size = g5 at *
  go_wp2_with fail
  (with_reducible refine (HCm.out _).mono ?_); rintro e w4 ⟨rfl,f⟩
  replace r0 := keep_fr f r0
  replace r5 := keep_fr f r5
  replace F := F.trans' f
  clear f HCm r1
  by_cases h1 : T ≤ l
  ·have l1 : ¬ 0 < s := by have := hs.2 h1; omega
   rw [if_pos h1] at hE2
   obtain ⟨om,hom⟩ : ∃ om,decide (x ≤ T) = om := ⟨_,rfl⟩
   have HM2 := Lib.hid (HM.out om hom)
   have hE3 : E = if om then 0 else 7 := by
    rw [hE2,← hom]
    by_cases h2 : x ≤ T <;> simp [h2]
   clear hE2 hom hs h1 HM
   go_upto_region 4 with fail
   refine rbegin (S := (fun w' => (w'.heap[g0]? = some (.cells A 27 (0,0)) ∧ w'.heap[g5]? = some (.cells (rowN .u64 64 4 T) 73 (0,0))) ∧ Fr F0 w w')) ?_ fun hHeld => ?_
   ·((try dsimp only) <;> (exact ⟨⟨r0,r5⟩,F.drew⟩))
   refine rtake 0 ?_
   refine rtake 2 ?_
   refine rone 1 fun K hK => ?_
   go_simp
   ((with_reducible refine (HH.out _ (HC.out.fr hHeld.2 fun f => f)).mono ?_); rintro e w6 ⟨rfl,f5⟩)
   refine hK.out _ _ ?_ (fun hHeld => ?_)
   ·((try dsimp only) <;> (first | exact hHeld | exact ⟨⟨keep_fr f5 hHeld.1.1,keep_fr f5 hHeld.1.2⟩,hHeld.2.trans' f5⟩))
   clear hK K
   try (simp only [Act.put,aST]; dsimp only [aS0,aS1])
   refine rone 3 fun K hK => ?_
   go_simp
   ((with_reducible refine (HM2.out _).mono ?_); rintro e w7 ⟨rfl,f5⟩)
   refine hK.out _ _ ?_ (fun hHeld => ?_)
   ·((try dsimp only) <;> (first | exact hHeld | exact ⟨⟨keep_fr f5 hHeld.1.1,keep_fr f5 hHeld.1.2⟩,hHeld.2.trans' f5⟩))
   clear hK K
   try (simp only [Act.put,aST]; dsimp only [aS0,aS1])
   refine rtake 4 ?_
   refine rtake 5 ?_
   refine rdone ?_
   all_goals
    cases om with
    |true =>
     go_wp2
     go_ret
     exact ⟨by first | rfl | (rw [hE3]; rfl),hHeld.2⟩
    |false =>
     go_wp2
     go_ret
     exact ⟨by first | rfl | (rw [hE3]; rfl),hHeld.2⟩
  ·have l1 : 0 < s := by have := hs.1; omega
   rw [if_neg h1] at hE2
   subst hE2
   go_wp2
   go_ret
   exact ⟨rfl,F⟩
 ·have HD := Lib.hid ((decC h.bits o.bits).2 hb)
  rw [if_neg (fun h => hb h.1)] at hE
  subst hE
  clear hb
  generalize h.cells = A at *
  have d66 := cell_is c66 (by omega)
  generalize h.bits = b at *
  clear hl hx
  go_enter Tryz.func35,Tryz.ntmps35
  go_wp2_with fail
  refine calls_new fun W1 N1 => ?_
  have r1 := N1.new
  have r0 := N1.old (heap_alloc_new w (.cells A 27))
  have F := ((Fr.refl F0 w).alloc (.cells A 27)).trans' N1.fr
  rw [World.size_alloc] at r1
  clear N1
  generalize w.heap.size + 1 = g1 at *
  generalize w.heap.size = g0 at *
  (with_reducible refine (HD.out _).mono ?_); rintro e w2 ⟨rfl,f⟩
  replace F := F.trans' f
  clear f HD c66 d66
  go_wp2
  go_ret
  exact ⟨rfl,F.trans' (put_new _ _ _ _).fr⟩
end Go.Proofs.YtedffdlkmpmdlaaGreatDoor
namespace Go.Proofs.YtedffdlkmpmdlaaGreatDoor
set_option maxRecDepth 100000
set_option linter.unusedVariables false
set_option linter.unusedSimpArgs false
open Go.RowKit
theorem mt_with (h : Hd) (hb : btP h.bits) (n : Nat) : mtH (h.with n) = decide (hsh (h.with n) ≤ btT h.bits) := by
 have e : (h.with n).bits = h.bits := rfl
 simp only [mtH,e,hb,true_and]
theorem mt_without (h : Hd) (hb : ¬ btP h.bits) (n : Nat) : mtH (h.with n) = false := by
 have e : (h.with n).bits = h.bits := rfl
 simp only [mtH,e,hb,false_and,decide_false]
theorem mine_without (h : Hd) (hb : ¬ btP h.bits) : ∀ k n,mineN h k n = none
 |0,n => mineN_last (mt_without h hb n)
 |k + 1,n => by
  by_cases e : n = 4294967295
  ·subst e; exact mineN_top (mt_without h hb _)
  ·rw [mineN_on (mt_without h hb n) e]; exact mine_without h hb k (n + 1)
theorem min_is32 (x y z : Nat) (h : min x y = z) : (if (y : Int) < (x : Int) then (y : Int) else (x : Int)) = (z : Int) := by split <;> omega
theorem run_min_32 (ts : Array TypeId) (t : TypeId) (x y z : Nat) (h : min x y = z) (w : World) : (Builtin.min_ ts t #[.int .u32 (x : Int),.int .u32 (y : Int)]).run Tryz.prog w = .ok (.int .u32 (z : Int)) w := by rw [run_min_int2,min_is32 x y z h]
theorem hMine_no (h : Hd) (o : h.Ok) (hb : ¬ btP h.bits) (m : Nat) (w : World) :
  Calls Tryz.prog 31 #[.agg h.cells,.int .u32 (m : Int)] w fun e w' => e = .returned (.tuple #[.agg zeroHd.cells,.bool false]) ∧ Fr F0 w w' := by
 have HD := Lib.hid ((decC h.bits o.bits).2 hb)
 obtain ⟨sa,c0,c65,c66,c67,x1,x33,oa⟩ := Hd.of o
 have hzb := build_zeroHd
 have zz : Tryz.zeroCells27.size = 68 := by kernel_rfl
 have s0 : zeroHd.cells.size = 68 := rfl
 have o0 : rowOne zeroHd.cells := Hd.one
 clear c0 c65 c67 x1 x33 hb o
 generalize Tryz.zeroCells27 = Z at *
 generalize zeroHd.cells = C at *
 generalize h.cells = A at *
 have d66 := cell_is c66 (by omega)
 generalize h.bits = b at *
 go_enter Tryz.func31,Tryz.ntmps31
 go_wp2_with fail
 refine calls_new fun W1 N1 => ?_
 have r4 := N1.new
 have F := ((Fr.refl F0 w).alloc (.cells A 27)).trans' N1.fr
 have hg : w.heap.size ≤ w.heap.size + 1 := by omega
 rw [World.size_alloc] at r4
 clear N1
 generalize w.heap.size + 1 = g4 at *
 replace hg := Lib.hid hg
 (with_reducible refine (HD.out _).mono ?_); rintro e w2 ⟨rfl,f⟩
 replace r4 := keep_fr f r4
 replace F := F.trans' f
 clear f HD c66 d66
 go_upto_region 2 with fail
 refine wp_put fun W3 N3 => ?_
 replace r4 := N3.old r4
 replace F := F.trans' N3.fr
 clear N3
 go_wp2
 refine bodyPost_ret (results_cell_row_tmp rfl _ _ g4 _ _ _ _ rfl (by rw [heap_setRow_at,r4]; rfl) Tryz.underlying27 rfl (by rw [Tryz.szHeader,s0])) rfl ⟨rfl,?_⟩
 exact F.setRow (fun h => by have := hg.out; omega) _
theorem hMine_yes (h : Hd) (o : h.Ok) (hb : btP h.bits) (m : Nat) (hm : m < 4294967296) (w : World) (hcub : Cub w) :
  Calls Tryz.prog 31 #[.agg h.cells,.int .u32 (m : Int)] w fun e w' => e = .returned (.tuple #[.agg (mineH h m).cells,.bool (mineO h m)]) ∧ Fr F0 w w' := by
 have HC := Lib.hid hcub
 have HD := Lib.hid ((decC h.bits o.bits).1 hb)
 have hTW := hb.2.2
 have HH := Lib.hid (fun n (hn : n < 4294967296) w hw => show Calls _ _ _ w fun e w' => e = .returned (.agg (rowN .u8 8 32 (hsh (h.with n)))) ∧ Fr F0 w w' from (hHashC (h.with n) (Hd.with_ok o n hn) w hw).mono fun e w' q => by
  rw [hash_row _ (by simp [sha2,sha_length])] at q
  exact q)
 have HM := Lib.hid (fun n ok (hk : mtH (h.with n) = ok) w => meetsC (hsh (h.with n)) (btT h.bits) ok (hash_lt _ (by simp [sha2,sha_length])) hTW (by rw [← mt_with h hb n]; exact hk) w)
 obtain ⟨sa,c0,c65,c66,c67,x1,x33,oa⟩ := Hd.of o
 have HN := Lib.hid o.nonce
 have HS := Lib.hid (fun n k => Hd.with_set o n k)
 have HOf := Lib.hid (fun n (hn : n < 4294967296) => Hd.of (Hd.with_ok o n hn))
 have HX : ∀ r,mineN h m h.nonce = r → mineH h m = (match r with | some n => h.with n | none => zeroHd) ∧ mineO h m = r.isSome := fun r e => by
  rw [mineH,mineO,e]
  exact ⟨rfl,rfl⟩
 replace HX := Lib.hid HX
 have szX : (mineH h m).cells.size = 68 ∧ rowOne (mineH h m).cells := by
  refine ⟨?_,Hd.one⟩
  unfold mineH
  cases e : mineN h m h.nonce with
  |none => exact Hd.cells_size zeroHd.ok
  |some r => exact Hd.cells_size (Hd.with_ok o r (mineN_lt m _ o.nonce r e))
 obtain ⟨sX,oX⟩ := szX
 obtain ⟨X,hX⟩ : ∃ X,X = (mineH h m).cells := ⟨_,rfl⟩
 obtain ⟨O,hO⟩ : ∃ O,O = mineO h m := ⟨_,rfl⟩
 rw [← hX] at sX oX ⊢
 rw [← hO]
 replace hX := Lib.hid hX
 replace hO := Lib.hid hO
 obtain ⟨k,hk⟩ : ∃ k,k = 4294967295 - h.nonce := ⟨_,rfl⟩
 obtain ⟨D,hD⟩ : ∃ D,min m k = D := ⟨_,rfl⟩
 have ws : IntKind.u32.wrap (4294967295 - (h.nonce : Int)) = (k : Int) := by have := o.nonce; rw [IntWalk.u32_in _ (by omega)]; omega
 have hmin := fun ts t w => run_min_32 ts t m k D hD w
 have wD : (D : Int) % 18446744073709551616 = (D : Int) := by omega
 obtain ⟨E,hE⟩ : ∃ E,E = D + 1 := ⟨_,rfl⟩
 have wE : IntKind.u64.wrap ((D : Int) + 1) = (E : Int) := by rw [IntWalk.u64_in _ (by omega)]; omega
 have HE := Lib.hid (show E = min m k + 1 ∧ k = 4294967295 - h.nonce by omega)
 have hE2 := Lib.hid (show E < 4294967297 by omega)
 have zz : Tryz.zeroCells27.size = 68 := by kernel_rfl
 clear hcub hb c0 c65 x1 x33 hTW o hm hD hE hk
 rw [show h.cells = (h.with h.nonce).cells from rfl] at *
 generalize btT h.bits = T at *
 generalize hA0 : (h.with h.nonce).cells = A0 at *
 replace hA0 := Lib.hid hA0
 have d66 := cell_is c66 (by omega)
 have d67 := cell_is c67 (by omega)
 generalize h.bits = b at *
 obtain ⟨N,hN⟩ : ∃ N,N = h.nonce := ⟨_,rfl⟩
 rw [← hN] at HN HX hA0 HE d67 c67 ws
 replace hN := Lib.hid hN
 go_enter Tryz.func31,Tryz.ntmps31
 go_wp2_with fail
 refine calls_new fun W1 N1 => ?_
 have r4 := N1.new
 have r2 := N1.old (heap_alloc_new w (.cells A0 27))
 have ne := N1.ne (heap_alloc_new w (.cells A0 27))
 have F := ((Fr.refl F0 w).alloc (.cells A0 27)).trans' N1.fr
 have hg : w.heap.size ≤ w.heap.size + 1 := by omega
 rw [World.size_alloc] at r4 ne
 clear N1
 generalize Tryz.zeroCells27 = Z at *
 generalize w.heap.size + 1 = g4 at *
 obtain ⟨g2,hg2⟩ : ∃ g,g = w.heap.size := ⟨_,rfl⟩
 rw [← hg2] at r2 ne hg ⊢
 have hgw := Lib.hid (show w.heap.size ≤ g2 by omega)
 replace hg := Lib.hid (show w.heap.size ≤ g4 by omega)
 replace hg2 := Lib.hid hg2
 (with_reducible refine (HD.out _).mono ?_); rintro e w2 ⟨rfl,f⟩
 replace r4 := keep_fr f r4
 replace r2 := keep_fr f r2
 replace F := F.trans' f
 clear f HD c66 d66
 go_upto_region 2 with fail
 refine wp_put fun W3 N3 => ?_
 have r6 := N3.new
 have ne6 := N3.ne r2
 replace r4 := N3.old r4
 replace r2 := N3.old r2
 replace F := F.trans' N3.fr
 clear N3
 generalize w2.heap.size = g6 at *
 go_wp2_with fail
 go_loopw [26] (fun iv wr => ∃ j n : Nat,j ≤ E ∧ iv = .int .u64 (j : Int) ∧ n < 4294967296 ∧ (wr.heap[g2]? = some (.cells (h.with n).cells 27 (0,0)) ∧ wr.heap[g4]? = some (.cells Z 27 (0,0)) ∧ wr.heap[g6]? = some (.cells (rowN .u64 64 4 T) 73 (0,0))) ∧ Fr F0 w wr ∧ Hid ((j < E → n = N + j ∧ mineN h m N = mineN h (m - j) n) ∧ (j = E → mineN h m N = none))) (fun iv _ => E - (intOf iv).toNat)
 case atStart => exact ⟨0,N,Nat.zero_le _,rfl,HN.out,⟨by rw [hA0.out]; exact r2,r4,r6⟩,F,⟨fun _ => ⟨rfl,rfl⟩,fun e => by have h1 := HE.out; omega⟩⟩
 case round =>
  clear r2 r4 r6 F
  obtain ⟨j,n,hj,rfl,hn,⟨r2,r4,r6⟩,F,HJ⟩ := hrel
  by_cases hjE : j < E
  ·have l1 : (j : Int) < (E : Int) := by omega
   obtain ⟨en,eJ⟩ := HJ.out.1 hjE
   clear HJ
   have HJ := Lib.hid eJ
   have en2 := Lib.hid en
   clear eJ en
   have HHn := Lib.hid (HH.out n hn)
   obtain ⟨mt,hmt⟩ : ∃ mt,mtH (h.with n) = mt := ⟨_,rfl⟩
   have HMn := Lib.hid (HM.out n mt hmt)
   have hset := Lib.hid (fun k => HS.out n k)
   have hof := HOf.out n hn
   have s7 := hof.size
   have o7 := hof.one
   have c7 : (h.with n).cells[67]? = some (.int .u32 (n : Int)) := hof.c67
   clear hof
   generalize hA : (h.with n).cells = A at *
   replace hA := Lib.hid hA
   have d7 := cell_is c7 (by omega)
   replace hmt := Lib.hid hmt
   replace hjE := Lib.hid hjE
   generalize hsh (h.with n) = x at *
   go_upto_region 7 with fail
   refine rbegin (S := (fun w' => (w'.heap[g2]? = some (.cells A 27 (0,0)) ∧ w'.heap[g4]? = some (.cells Z 27 (0,0)) ∧ w'.heap[g6]? = some (.cells (rowN .u64 64 4 T) 73 (0,0))) ∧ Fr F0 w w')) ?_ fun hHeld => ?_
   ·((try dsimp only) <;> (exact ⟨⟨r2,r4,r6⟩,F.drew⟩))
   refine rtake 0 ?_
   refine rtake 2 ?_
   refine rone 1 fun K hK => ?_
   go_simp
   ((with_reducible refine (HHn.out _ (HC.out.fr hHeld.2 fun f => f)).mono ?_); rintro e w6 ⟨rfl,f5⟩)
   refine hK.out _ _ ?_ (fun hHeld => ?_)
   ·((try dsimp only) <;> (first | exact hHeld | exact ⟨⟨keep_fr f5 hHeld.1.1,keep_fr f5 hHeld.1.2.1,keep_fr f5 hHeld.1.2.2⟩,hHeld.2.trans' f5⟩))
   clear hK K
   try (simp only [Act.put,aST]; dsimp only [aS0,aS1])
   refine rone 3 fun K hK => ?_
   go_simp
   ((with_reducible refine (HMn.out _).mono ?_); rintro e w7 ⟨rfl,f5⟩)
   refine hK.out _ _ ?_ (fun hHeld => ?_)
   ·((try dsimp only) <;> (first | exact hHeld | exact ⟨⟨keep_fr f5 hHeld.1.1,keep_fr f5 hHeld.1.2.1,keep_fr f5 hHeld.1.2.2⟩,hHeld.2.trans' f5⟩))
   clear hK K
   try (simp only [Act.put,aST]; dsimp only [aS0,aS1])
   refine rdone ?_
   all_goals
    cases mt with
    |true =>
     obtain ⟨e1,e2⟩ := HX.out (some n) (by rw [HJ.out,mineN_hit hmt.out])
     have eX : X = A := by rw [hX.out,e1,← hA.out]
     have eO : O = true := by rw [hO.out,e2]; rfl
     have q4 := hHeld.1.2.1
     have fq := hHeld.2
     subst eX eO
     clear e1 e2 HJ
     go_wp2
     refine bodyPost_ret (results_cell_row_tmp rfl _ _ g4 _ _ _ _ rfl (by rw [heap_setRow_at,q4]; rfl) Tryz.underlying27 rfl (by rw [Tryz.szHeader,sX])) rfl ⟨rfl,?_⟩
     exact fq.setRow (fun h => by have := hg.out; omega) _
    |false =>
     have q2 := hHeld.1.1
     have q4 := hHeld.1.2.1
     have q6 := hHeld.1.2.2
     have fq := hHeld.2
     obtain ⟨n',hn'⟩ : ∃ n',n' = (n + 1) % 4294967296 := ⟨_,rfl⟩
     have wn : IntKind.u32.wrap ((n : Int) + 1) = (n' : Int) := by rw [hn']; simp [IntKind.wrap,IntKind.signed,IntKind.bits]
     have wj : IntKind.u64.wrap ((j : Int) + 1) = ((j + 1 : Nat) : Int) := by have h1 := hjE.out; have h2 := hE2.out; rw [IntWalk.u64_in _ (by omega)]; rfl
     have hn2 := Lib.hid (show n' < 4294967296 by omega)
     have HJ2 : (j + 1 < E → n' = N + (j + 1) ∧ mineN h m N = mineN h (m - (j + 1)) n') ∧ (j + 1 = E → mineN h m N = none) := by
      have h1 := HE.out
      have h2 := en2.out
      have h3 := HN.out
      have h4 := hmt.out
      refine ⟨fun hj => ?_,fun hj => ?_⟩
      ·have e : n' = n + 1 := by omega
       refine ⟨by omega,?_⟩
       rw [HJ.out,show m - j = m - (j + 1) + 1 by omega,mineN_on h4 (by omega),e]
      ·rw [HJ.out]
       by_cases e : j = m
       ·subst e
        rw [Nat.sub_self,mineN_last h4]
       ·have e : n = 4294967295 := by omega
        subst e
        rw [mineN_top h4]
     replace HJ2 := Lib.hid HJ2
     replace hn' := Lib.hid hn'
     clear HJ
     go_wp2_with fail
     refine ⟨⟨j + 1,n',hjE.out,rfl,hn2.out,⟨?_,?_,?_⟩,?_,HJ2⟩,?_⟩
     ·rw [heap_setCell_at,q2]
      have := hset.out n'
      rw [← this]
      rfl
     ·rw [heap_setCell_ne' _ _ _ _ _ (Ne.symm ne)]
      exact q4
     ·rw [heap_setCell_ne' _ _ _ _ _ (Ne.symm ne6)]
      exact q6
     ·exact fq.setCell (p := ⟨g2,67,none⟩) (fun h => by have := hgw.out; exact absurd h (by simp only; omega)) _
     ·have h1 := hjE.out
      simp only [intOf]
      omega
  ·obtain rfl : j = E := by omega
   obtain ⟨e1,e2⟩ := HX.out none (HJ.out.2 rfl)
   have eX : X = zeroHd.cells := by rw [hX.out,e1]
   have eO : O = false := by rw [hO.out,e2]; rfl
   have hzb := build_zeroHd
   rw [← eX] at hzb
   subst eO
   have l1 : ¬ (j : Int) < (j : Int) := by omega
   clear e1 e2 HJ eX hjE
   go_wp2
   refine bodyPost_ret (results_cell_row_tmp rfl _ _ g4 _ _ _ _ rfl (by rw [heap_setRow_at,r4]; rfl) Tryz.underlying27 rfl (by rw [Tryz.szHeader,sX])) rfl ⟨rfl,?_⟩
   exact F.setRow (fun h => by have := hg.out; omega) _
theorem hMineC : HMineC := by
 intro h o m hm w hcub
 by_cases hb : btP h.bits
 ·exact hMine_yes h o hb m hm w hcub
 ·have e : mineN h m h.nonce = none := mine_without h hb m h.nonce
  have e1 : mineH h m = zeroHd := by rw [mineH,e]
  have e2 : mineO h m = false := by rw [mineO,e]; rfl
  rw [e1,e2]
  exact hMine_no h o hb m w
end Go.Proofs.YtedffdlkmpmdlaaGreatDoor
