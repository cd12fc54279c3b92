import Derived.Test.YtedffdlkmpmdlaaGreatDoorQ23
import Derived.Test.YtedffdlkmpmdlaaGreatDoorQ7
import Derived.Test.YtedffdlkmpmdlaaGreatDoorQ11
import Derived.Test.YtedffdlkmpmdlaaGreatDoorQ16
import Derived.Test.YtedffdlkmpmdlaaGreatDoorQ2
import Derived.Test.YtedffdlkmpmdlaaGreatDoorQ1
import Derived.Laws.Small
set_option maxRecDepth 100000
set_option maxHeartbeats 64000000
namespace Go.Proofs.YtedffdlkmpmdlaaGreatDoor
set_option maxRecDepth 100000
set_option linter.unusedVariables false
set_option linter.unusedSimpArgs false
open Go.RowKit
theorem le4 (x : Nat) : (le 4 x).length = 4 := le_length 4 x
theorem Hd.cellH {h : Hd} (o : h.Ok) : h.cells.extract 1 33 = (h.ahead.map B8).toArray := by
 apply Array.toList_inj.1
 rw [Hd.range1 o]
theorem Hd.cellR {h : Hd} (o : h.Ok) : h.cells.extract 33 65 = (h.root.map B8).toArray := by
 apply Array.toList_inj.1
 rw [Hd.range33 o]
end Go.Proofs.YtedffdlkmpmdlaaGreatDoor
namespace Go.Proofs.YtedffdlkmpmdlaaGreatDoor
set_option maxRecDepth 100000
set_option linter.unusedVariables false
set_option linter.unusedSimpArgs false
open Go.RowKit
theorem Tryz.szHeader : (Tryz.prog.info? 27).map (·.size) = some 68 := by kernel_rfl
@[go_sem ↓ high] theorem load_header (p : Value) : Instr.loadAt 27 p = loadRowAt 27 p := rfl
@[go_sem ↓ high] theorem store_header (p v : Value) : Instr.storeAt 27 p v = storeRowAt 27 p v := rfl
@[go_sem] theorem run_load_header (w : World) (g : Nat) : (loadRowAt 27 (.pointer (some ⟨g,0,none⟩))).run Tryz.prog w = rowOut Tryz.prog 27 (.pointer (some ⟨g,0,none⟩)) w 68 w.heap[g]? :=
 run_loadRowAt w _ g 68 _ Tryz.underlying27 rfl Tryz.szHeader
@[go_sem] theorem run_store_header (w : World) (g : Nat) (cells : Array Value) : (storeRowAt 27 (.pointer (some ⟨g,0,none⟩)) (.agg cells)).run Tryz.prog w = rowIn Tryz.prog 27 (.pointer (some ⟨g,0,none⟩)) cells g w 68 w.heap[g]? :=
 run_storeRowAt w _ g 68 cells Tryz.szHeader
@[go_sem ↓ high] theorem store_hash (p v : Value) : Instr.storeAt 25 p v = storeRowAt 25 p v := rfl
@[go_sem] theorem run_store_hash (w : World) (g : Nat) (cells : Array Value) : (storeRowAt 25 (.pointer (some ⟨g,0,none⟩)) (.agg cells)).run Tryz.prog w = rowIn Tryz.prog 25 (.pointer (some ⟨g,0,none⟩)) cells g w 32 w.heap[g]? :=
 run_storeRowAt w _ g 32 cells Tryz.szHash
def buildHd (parts : Array (Nat × Value)) : Sem Value := Instr.build 27 parts
@[go_sem ↓ high] theorem build_header (p : Array (Nat × Value)) : Instr.build 27 p = buildHd p := rfl
theorem run_buildHd (w : World) (parts : Array (Nat × Value)) (cells : Array Value) (h : Tryz.prog.built 27 parts.toList = some cells) : (buildHd parts).run Tryz.prog w = .ok (.agg cells) w := run_build w _ parts cells h
@[go_sem] theorem run_load_hash1 (w : World) (g : Nat) : (loadRowAt 25 (.pointer (some ⟨g,1,none⟩))).run Tryz.prog w = midOut Tryz.prog 25 (.pointer (some ⟨g,1,none⟩)) w 32 1 68 w.heap[g]? :=
 run_loadMid w _ g 1 32 68 _ (by omega) Tryz.underlying25 rfl Tryz.szHash
structure CellsOf (h : Hd) (C : Array Value) : Prop where
 size : C.size = 68
 c0 : C[0]? = some (.int .u32 (h.ver : Int))
 c65 : C[65]? = some (.int .u32 (h.time : Int))
 c66 : C[66]? = some (.int .u32 (h.bits : Int))
 c67 : C[67]? = some (.int .u32 (h.nonce : Int))
 x1 : C.extract 1 33 = (h.ahead.map B8).toArray
 x33 : C.extract 33 65 = (h.root.map B8).toArray
 one : rowOne C
theorem Hd.of {h : Hd} (o : h.Ok) : CellsOf h h.cells := ⟨Hd.cells_size o,Hd.cell0 o,Hd.cell65 o,Hd.cell66 o,Hd.cell67 o,Hd.cellH o,Hd.cellR o,Hd.one⟩
end Go.Proofs.YtedffdlkmpmdlaaGreatDoor
namespace Go.Proofs.YtedffdlkmpmdlaaGreatDoor
set_option maxRecDepth 100000
set_option linter.unusedVariables false
set_option linter.unusedSimpArgs false
open Go.RowKit
end Go.Proofs.YtedffdlkmpmdlaaGreatDoor
namespace Go.Proofs.YtedffdlkmpmdlaaGreatDoor
set_option maxRecDepth 100000
set_option linter.unusedVariables false
set_option linter.unusedSimpArgs false
open Go.RowKit
theorem ofLE_le7 (n x : Nat) : ofLE (le n x) = x % 256 ^ n := by
 induction n generalizing x with
 |zero => simp [le,ofLE,Nat.mod_one]
 |succ n ih =>
  simp only [le,ofLE,ih,Nat.pow_succ,UInt8.toNat_ofNat',Nat.mod_mod]
  rw [Nat.mul_comm (256 ^ n) 256,Nat.mod_mul]
theorem row_ofLE : ∀ (l : List UInt8),(rowN .u8 8 l.length (ofLE l)).toList = l.map B8 := by
 intro l
 apply List.ext_getElem?
 intro i
 by_cases hi : i < l.length
 ·rw [Array.getElem?_toList,rowN_get _ _ _ _ _ hi,List.getElem?_map,List.getElem?_eq_getElem hi]
  simp only [Option.map_some,B8,Option.some.injEq,Value.int.injEq,true_and]
  congr 1
  have key : ∀ (l : List UInt8) (i : Nat) (hi : i < l.length),dgt 8 (ofLE l) i = l[i].toNat := by
   intro l
   induction l with
   |nil => intro i hi; simp at hi
   |cons x l ih =>
    intro i hi
    have hx := x.toNat_lt
    cases i with
    |zero => simp only [dgt,ofLE,List.getElem_cons_zero]; omega
    |succ i =>
     have h2 := ih i (by simpa using hi)
     simp only [List.getElem_cons_succ]
     rw [← h2]
     simp only [dgt,ofLE]
     rw [show 8 * (i + 1) = 8 + 8 * i by omega,Nat.pow_add,← Nat.div_div_eq_div_mul]
     congr 2
     omega
  exact key l i hi
 ·rw [List.getElem?_eq_none (by simp; omega),List.getElem?_eq_none (by simp; omega)]
theorem hash_row (l : List UInt8) (h : l.length = 32) : (l.map B8).toArray = rowN .u8 8 32 (ofLE l) := by
 have := row_ofLE l
 rw [h] at this
 apply Array.toList_inj.1
 rw [this]
theorem hash_lt (l : List UInt8) (h : l.length = 32) : ofLE l < W256 := by
 have := ofLE_lt l
 rw [h] at this
 exact this
def hsh (h : Hd) : Nat := ofLE (sha2 h.bytes)
def mtH (h : Hd) : Bool := decide (btP h.bits ∧ hsh h ≤ btT h.bits)
end Go.Proofs.YtedffdlkmpmdlaaGreatDoor
namespace Go.Proofs.YtedffdlkmpmdlaaGreatDoor
set_option maxRecDepth 100000
set_option linter.unusedVariables false
set_option linter.unusedSimpArgs false
open Go.RowKit
def zero7 : List UInt8 := List.replicate 32 0
def HBytesC : Prop := ∀ (h : Hd),h.Ok → ∀ w,Calls Tryz.prog 19 #[.agg h.cells] w (NewBytes h.bytes w)
def zeroHd : Hd := { ver := 0,ahead := zero7,root := zero7,time := 0,bits := 0,nonce := 0 }
theorem zeroHd.ok : zeroHd.Ok := ⟨by decide,rfl,rfl,by decide,by decide,by decide⟩
def HParseC : Prop := ∀ (bs : List UInt8) (a : Option Addr) (c : Nat) (w : World),Bs w a c bs → bs.length ≤ 1000 →
 (bs.length = 80 → Calls Tryz.prog 43 #[.slice a 80 c] w fun e w' => ∃ h : Hd,h.Ok ∧ h.bytes = bs ∧ e = .returned (.tuple #[.agg h.cells,.int .i64 0]) ∧ Fr F0 w w') ∧
 (¬ bs.length = 80 → Calls Tryz.prog 43 #[.slice a bs.length c] w fun e w' => e = .returned (.tuple #[.agg zeroHd.cells,.int .i64 2]) ∧ Fr F0 w w')
def HHashC : Prop := ∀ (h : Hd),h.Ok → ∀ w,Cub w → Calls Tryz.prog 22 #[.agg h.cells] w fun e w' => e = .returned (.agg ((sha2 h.bytes).map B8).toArray) ∧ Fr F0 w w'
def ckE (h : Hd) (l : Nat) : Int := if btP h.bits ∧ btT h.bits ≤ l then (if hsh h ≤ btT h.bits then 0 else 7) else 6
def HCheckC : Prop := ∀ (h : Hd),h.Ok → ∀ (l : Nat),l < W256 → ∀ E,ckE h l = E → ∀ w,Cub w → Calls Tryz.prog 35 #[.agg h.cells,.agg (rowN .u64 64 4 l)] w fun e w' => e = .returned (.int .i64 E) ∧ Fr F0 w w'
def Hd.with (h : Hd) (n : Nat) : Hd := { h with nonce := n }
def mineN (h : Hd) : Nat → Nat → Option Nat
 |0,n => if mtH (h.with n) then some n else none
 |k + 1,n => if mtH (h.with n) then some n else if n = 4294967295 then none else mineN h k (n + 1)
def mineH (h : Hd) (m : Nat) : Hd := match mineN h m h.nonce with | some n => h.with n | none => zeroHd
def mineO (h : Hd) (m : Nat) : Bool := (mineN h m h.nonce).isSome
def HMineC : Prop := ∀ (h : Hd),h.Ok → ∀ (m : Nat),m < 4294967296 → ∀ w,Cub w → Calls Tryz.prog 31 #[.agg h.cells,.int .u32 (m : Int)] w fun e w' => e = .returned (.tuple #[.agg (mineH h m).cells,.bool (mineO h m)]) ∧ Fr F0 w w'
end Go.Proofs.YtedffdlkmpmdlaaGreatDoor
namespace Go.Proofs.YtedffdlkmpmdlaaGreatDoor
set_option maxRecDepth 100000
set_option linter.unusedVariables false
set_option linter.unusedSimpArgs false
open Go.RowKit
theorem Hd.ext' {a b : Hd} (h1 : a.ver = b.ver) (h2 : a.ahead = b.ahead) (h3 : a.root = b.root) (h4 : a.time = b.time) (h5 : a.bits = b.bits) (h6 : a.nonce = b.nonce) : a = b := by
 cases a; cases b; simp_all
end Go.Proofs.YtedffdlkmpmdlaaGreatDoor
namespace Go.Proofs.YtedffdlkmpmdlaaGreatDoor
set_option maxRecDepth 100000
set_option linter.unusedVariables false
set_option linter.unusedSimpArgs false
open Go.RowKit
end Go.Proofs.YtedffdlkmpmdlaaGreatDoor
namespace Go.Proofs.YtedffdlkmpmdlaaGreatDoor
set_option maxRecDepth 100000
set_option linter.unusedVariables false
set_option linter.unusedSimpArgs false
open Go.RowKit
theorem le_inj (x y : Nat) (hx : x < 4294967296) (hy : y < 4294967296) (h : le 4 x = le 4 y) : x = y := by
 have := congrArg ofLE h
 rw [ofLE_le7,ofLE_le7,Nat.mod_eq_of_lt (by omega),Nat.mod_eq_of_lt (by omega)] at this
 exact this
theorem Hd.inj {a b : Hd} (oa : a.Ok) (ob : b.Ok) (h : a.bytes = b.bytes) : a = b := by
 unfold Hd.bytes at h
 obtain ⟨h1,h⟩ := List.append_inj h (by rw [le4,le4])
 obtain ⟨h2,h⟩ := List.append_inj h (by rw [oa.ahead,ob.ahead])
 obtain ⟨h3,h⟩ := List.append_inj h (by rw [oa.root,ob.root])
 obtain ⟨h4,h⟩ := List.append_inj h (by rw [le4,le4])
 obtain ⟨h5,h6⟩ := List.append_inj h (by rw [le4,le4])
 exact Hd.ext' (le_inj _ _ oa.ver ob.ver h1) h2 h3 (le_inj _ _ oa.time ob.time h4) (le_inj _ _ oa.bits ob.bits h5) (le_inj _ _ oa.nonce ob.nonce h6)
end Go.Proofs.YtedffdlkmpmdlaaGreatDoor
namespace Go.Proofs.YtedffdlkmpmdlaaGreatDoor
set_option maxRecDepth 100000
set_option linter.unusedVariables false
set_option linter.unusedSimpArgs false
open Go.RowKit
theorem build_zeroHd (w : World) : (buildHd #[]).run Tryz.prog w = .ok (.agg zeroHd.cells) w := run_buildHd w #[] _ (by kernel_rfl)
end Go.Proofs.YtedffdlkmpmdlaaGreatDoor
namespace Go.Proofs.YtedffdlkmpmdlaaGreatDoor
set_option maxRecDepth 100000
set_option linter.unusedVariables false
set_option linter.unusedSimpArgs false
open Go.RowKit
theorem Hd.with_ok {h : Hd} (o : h.Ok) (n : Nat) (hn : n < 4294967296) : (h.with n).Ok := ⟨o.ver,o.ahead,o.root,o.time,o.bits,hn⟩
theorem Hd.with_set {h : Hd} (o : h.Ok) (n k : Nat) : (h.with n).cells.setIfInBounds 67 (.int .u32 (k : Int)) = (h.with k).cells := by
 have e : ∀ n,(h.with n).cells = ((Value.int .u32 (h.ver : Int) :: (h.ahead.map B8 ++ (h.root.map B8 ++ [Value.int .u32 (h.time : Int),.int .u32 (h.bits : Int)]))) ++ [Value.int .u32 (n : Int)]).toArray := by
  intro n
  simp [Hd.cells,Hd.with]
 rw [e,e]
 simp only [List.setIfInBounds_toArray]
 congr 1
 rw [List.set_append_right _ _ (by simp [o.ahead,o.root])]
 simp [o.ahead,o.root]
theorem mineN_hit {h : Hd} {k n : Nat} (e : mtH (h.with n) = true) : mineN h k n = some n := by
 cases k <;> simp [mineN,e]
theorem mineN_last {h : Hd} {n : Nat} (e : mtH (h.with n) = false) : mineN h 0 n = none := by simp [mineN,e]
theorem mineN_top {h : Hd} {k : Nat} (e : mtH (h.with 4294967295) = false) : mineN h k 4294967295 = none := by cases k <;> simp [mineN,e]
theorem mineN_on {h : Hd} {k n : Nat} (e : mtH (h.with n) = false) (hn : ¬ n = 4294967295) : mineN h (k + 1) n = mineN h k (n + 1) := by simp [mineN,e,hn]
theorem mineN_lt {h : Hd} : ∀ k n,n < 4294967296 → ∀ r,mineN h k n = some r → r < 4294967296
 |0,n,hn,r,e => by
  cases hm : mtH (h.with n) with
  |true => rw [mineN_hit hm] at e; cases e; exact hn
  |false => rw [mineN_last hm] at e; cases e
 |k + 1,n,hn,r,e => by
  cases hm : mtH (h.with n) with
  |true => rw [mineN_hit hm] at e; cases e; exact hn
  |false =>
   by_cases h2 : n = 4294967295
   ·subst h2; rw [mineN_top hm] at e; cases e
   ·rw [mineN_on hm h2] at e
    exact mineN_lt k (n + 1) (by omega) r e
end Go.Proofs.YtedffdlkmpmdlaaGreatDoor
namespace Go.Proofs.YtedffdlkmpmdlaaGreatDoor
set_option maxRecDepth 100000
set_option linter.unusedVariables false
set_option linter.unusedSimpArgs false
open Go.RowKit
theorem hBytesC : HBytesC := by
 intro h o w
 obtain ⟨s0,c0,c65,c66,c67,x1,x33,o0⟩ := Hd.of o
 obtain ⟨v,A,R,t,b,n⟩ := h
 obtain ⟨o1,o2,o3,o4,o5,o6⟩ := o
 simp only at o1 o2 o3 o4 o5 o6 c0 c65 c66 c67 x1 x33
 simp only [Hd.bytes]
 generalize Hd.cells _ = C at *
 have d0 := cell_is c0 (by omega)
 have d65 := cell_is c65 (by omega)
 have d66 := cell_is c66 (by omega)
 have d67 := cell_is c67 (by omega)
 go_enter Tryz.func19,Tryz.ntmps19
 go_upto_region 2 with fail
 refine wp_new fun W2 N2 => ?_
 have r0 := N2.old (heap_alloc_new w (.cells C 27))
 have fW := ((Fr.refl F0 w).alloc (.cells C 27)).trans' N2.fr
 have ne := N2.ne (heap_alloc_new w (.cells C 27))
 have i0 := WI.of N2.new
 rw [World.size_alloc] at i0 ne
 clear N2
 have gw : w.heap.size ≤ w.heap.size + 1 := by omega
 generalize w.heap.size + 1 = g1 at *
 have r0' := Lib.hid r0
 clear r0
 obtain ⟨g0,hg0⟩ : ∃ g,g = w.heap.size := ⟨_,rfl⟩
 rw [← hg0] at r0' ne ⊢
 replace ne := Lib.hid ne
 replace gw := Lib.hid gw
 clear hg0
 have r := i0.keep ne.out r0'.out
 have H := Lib.hid (i0.put v o1 (by simp only [List.length_append,le4,List.length_nil]; omega))
 go_wp2_with fail
 (with_reducible refine H.out.mono ?_); rintro e w3 ⟨rfl,i1⟩
 clear H r
 have r := i1.keep ne.out r0'.out
 have hb := Bs.of_cells (o := 1) (n := 32) r o2 (by omega) x1
 have H := Lib.hid (i1.raw _ 32 32 _ hb o2.symm (by simp only [List.length_append,le4,List.length_nil]; omega))
 go_wp2_with fail
 (with_reducible refine H.out.mono ?_); rintro e w4 ⟨rfl,i2⟩
 clear H r hb
 have r := i2.keep ne.out r0'.out
 have hb := Bs.of_cells (o := 33) (n := 32) r o3 (by omega) x33
 have H := Lib.hid (i2.raw _ 32 32 _ hb o3.symm (by simp only [List.length_append,le4,List.length_nil]; omega))
 go_wp2_with fail
 (with_reducible refine H.out.mono ?_); rintro e w5 ⟨rfl,i3⟩
 clear H r hb
 have r := i3.keep ne.out r0'.out
 have H := Lib.hid (i3.put t o4 (by simp only [List.length_append,le4,List.length_nil]; omega))
 go_wp2_with fail
 (with_reducible refine H.out.mono ?_); rintro e w6 ⟨rfl,i4⟩
 clear H r
 have r := i4.keep ne.out r0'.out
 have H := Lib.hid (i4.put b o5 (by simp only [List.length_append,le4,List.length_nil]; omega))
 go_wp2_with fail
 (with_reducible refine H.out.mono ?_); rintro e w7 ⟨rfl,i5⟩
 clear H r
 have r := i5.keep ne.out r0'.out
 have H := Lib.hid (i5.put n o6 (by simp only [List.length_append,le4,List.length_nil]; omega))
 go_wp2_with fail
 (with_reducible refine H.out.mono ?_); rintro e w8 ⟨rfl,i6⟩
 clear H r
 have H := Lib.hid (i6.bytes fW gw.out (by simp only [List.length_append,le4,List.length_nil]; omega))
 go_wp2_with fail
 refine H.out.mono ?_
 rintro e w9 ⟨a9,c9,rfl,hb9,f9,n9⟩
 have HN := Lib.hid n9
 clear n9 H
 have e : [] ++ le 4 v ++ A ++ R ++ le 4 t ++ le 4 b ++ le 4 n = le 4 v ++ (A ++ (R ++ (le 4 t ++ (le 4 b ++ le 4 n)))) := by simp only [List.append_assoc,List.nil_append]
 rw [e] at hb9 ⊢
 obtain ⟨N,hN⟩ : ∃ N,N = (le 4 v ++ (A ++ (R ++ (le 4 t ++ (le 4 b ++ le 4 n))))).length := ⟨_,rfl⟩
 rw [← hN]
 replace hN := Lib.hid hN
 go_wp2_with fail
 go_ret
 exact ⟨a9,c9,by rw [← hN.out]; rfl,hb9,f9,HN.out⟩
theorem hHashC : HHashC := by
 intro h o w hcub
 have HB := Lib.hid (hBytesC h o)
 have HD := Lib.hid (fun a c w hw hc => Double_any a 80 c h.bytes (Hd.bytes_length o).symm (by have := Hd.bytes_length o; omega) w hw hc)
 have HC := Lib.hid hcub
 have la := Hd.bytes_length o
 have s0 := Hd.cells_size o
 unfold NewBytes at HB
 rw [la] at HB
 have sx : ((sha2 h.bytes).map B8).toArray.size = 32 := by simp [sha2,sha_length]
 have ox : rowOne ((sha2 h.bytes).map B8).toArray := oneB_map _
 generalize (Array.mk ((sha2 h.bytes).map B8)) = X at *
 generalize h.cells = C at *
 generalize h.bytes = S at *
 clear hcub
 go_enter Tryz.func22,Tryz.ntmps22
 go_wp2_with fail
 refine calls_new fun W1 N1 => ?_
 have r1 := N1.new
 have F := ((Fr.refl F0 w).alloc (.cells C 27)).trans' N1.fr
 have hz : (#[.int .u8 0,.int .u8 0,.int .u8 0,.int .u8 0,.int .u8 0,.int .u8 0,.int .u8 0,.int .u8 0,.int .u8 0,.int .u8 0,.int .u8 0,.int .u8 0,.int .u8 0,.int .u8 0,.int .u8 0,.int .u8 0,
  .int .u8 0,.int .u8 0,.int .u8 0,.int .u8 0,.int .u8 0,.int .u8 0,.int .u8 0,.int .u8 0,.int .u8 0,.int .u8 0,.int .u8 0,.int .u8 0,.int .u8 0,.int .u8 0,.int .u8 0,.int .u8 0] : Array Value).size = 32 := rfl
 rw [World.size_alloc] at r1
 have hg : w.heap.size ≤ w.heap.size + 1 := by omega
 try rw [World.size_alloc]
 clear N1
 generalize (#[.int .u8 0,.int .u8 0,.int .u8 0,.int .u8 0,.int .u8 0,.int .u8 0,.int .u8 0,.int .u8 0,.int .u8 0,.int .u8 0,.int .u8 0,.int .u8 0,.int .u8 0,.int .u8 0,.int .u8 0,.int .u8 0,
  .int .u8 0,.int .u8 0,.int .u8 0,.int .u8 0,.int .u8 0,.int .u8 0,.int .u8 0,.int .u8 0,.int .u8 0,.int .u8 0,.int .u8 0,.int .u8 0,.int .u8 0,.int .u8 0,.int .u8 0,.int .u8 0] : Array Value) = Z at *
 generalize w.heap.size + 1 = g1 at *
 replace hg := Lib.hid hg
 (with_reducible refine (HB.out _).mono ?_); rintro e w2 ⟨a2,c2,rfl,hb2,f,n2⟩
 clear n2
 replace r1 := keep_fr f r1
 replace F := F.trans' f
 clear f
 go_wp2_with fail
 (with_reducible refine (HD.out _ _ _ hb2 (HC.out.fr F fun f => f)).mono ?_); rintro e w3 ⟨rfl,f⟩
 replace r1 := keep_fr f r1
 replace F := F.trans' f
 clear f
 go_wp2_with fail
 refine bodyPost_ret (results_cell_row rfl _ _ g1 _ _ _ _ rfl (by rw [heap_setRow_at,r1]; rfl) Tryz.underlying25 rfl (by rw [Tryz.szHash,sx])) rfl ⟨rfl,?_⟩
 exact F.setRow (fun h => by have := hg.out; omega) _
end Go.Proofs.YtedffdlkmpmdlaaGreatDoor
namespace Go.Proofs.YtedffdlkmpmdlaaGreatDoor
set_option maxRecDepth 100000
set_option linter.unusedVariables false
set_option linter.unusedSimpArgs false
open Go.RowKit
theorem hCheckC : HCheckC := by
 intro h o l hl E hE w hcub
 have HC := Lib.hid hcub
 have HH := Lib.hid (hHashC h o)
 rw [hash_row _ (by simp [sha2,sha_length])] at HH
 have hx := hash_lt (sha2 h.bytes) (by simp [sha2,sha_length])
 obtain ⟨sa,c0,c65,c66,c67,x1,x33,oa⟩ := Hd.of o
 clear c0 c65 c67 x1 x33 hcub
 rw [ckE,show hsh h = ofLE (sha2 h.bytes) from rfl] at hE
 generalize ofLE (sha2 h.bytes) = x at *
 by_cases hb : btP h.bits
 ·have HD := Lib.hid ((decC h.bits o.bits).1 hb)
  have hTW := hb.2.2
  generalize btT h.bits = T at *
  have HCm := Lib.hid (wCmp_any T l hTW hl)
  have HM := Lib.hid (fun o ho w => meetsC x T o hx hTW ho w)
  have hE2 : E = if T ≤ l then (if x ≤ T then 0 else 7) else 6 := by
   rw [← hE]
   by_cases h1 : T ≤ l <;> simp [hb,h1]
  clear hE hb
  generalize h.cells = A at *
  have d66 := cell_is c66 (by omega)
  generalize h.bits = b at *
  have hs : (sgn T l ≤ 0) ↔ T ≤ l := sgn_le T l
  generalize sgn T l = s at *
  clear hl hTW hx
  go_enter Tryz.func35,Tryz.ntmps35
  go_wp2_with fail
  refine calls_new fun W1 N1 => ?_
  have r1 := N1.new
  have r0 := N1.old (heap_alloc_new w (.cells A 27))
  have F := ((Fr.refl F0 w).alloc (.cells A 27)).trans' N1.fr
  rw [World.size_alloc] at r1
  clear N1
  generalize w.heap.size + 1 = g1 at *
  generalize w.heap.size = g0 at *
  (with_reducible refine (HD.out _).mono ?_); rintro e w2 ⟨rfl,f⟩
  replace r0 := keep_fr f r0
  replace r1 := keep_fr f r1
  replace F := F.trans' f
  clear f HD c66 d66
  go_upto_region 2 with fail
  refine wp_put fun W3 N3 => ?_
  have r5 := N3.new
  replace r0 := N3.old r0
  replace r1 := N3.old r1
  replace F := F.trans' N3.fr
  clear N3
  generalize w2.heap.size = g5 at *
  go_wp2_with fail
  (with_reducible refine (HCm.out _).mono ?_); rintro e w4 ⟨rfl,f⟩
  replace r0 := keep_fr f r0
  replace r5 := keep_fr f r5
  replace F := F.trans' f
  clear f HCm r1
  by_cases h1 : T ≤ l
  ·have l1 : ¬ 0 < s := by have := hs.2 h1; omega
   rw [if_pos h1] at hE2
   obtain ⟨om,hom⟩ : ∃ om,decide (x ≤ T) = om := ⟨_,rfl⟩
   have HM2 := Lib.hid (HM.out om hom)
   have hE3 : E = if om then 0 else 7 := by
    rw [hE2,← hom]
    by_cases h2 : x ≤ T <;> simp [h2]
   clear hE2 hom hs h1 HM
   go_upto_region 4 with fail
   refine rbegin (S := (fun w' => (w'.heap[g0]? = some (.cells A 27 (0,0)) ∧ w'.heap[g5]? = some (.cells (rowN .u64 64 4 T) 73 (0,0))) ∧ Fr F0 w w')) ?_ fun hHeld => ?_
   ·((try dsimp only) <;> (exact ⟨⟨r0,r5⟩,F.drew⟩))
   refine rtake 0 ?_
   refine rtake 2 ?_
   refine rone 1 fun K hK => ?_
   go_simp
   ((with_reducible refine (HH.out _ (HC.out.fr hHeld.2 fun f => f)).mono ?_); rintro e w6 ⟨rfl,f5⟩)
   refine hK.out _ _ ?_ (fun hHeld => ?_)
   ·((try dsimp only) <;> (first | exact hHeld | exact ⟨⟨keep_fr f5 hHeld.1.1,keep_fr f5 hHeld.1.2⟩,hHeld.2.trans' f5⟩))
   clear hK K
   try (simp only [Act.put,aST]; dsimp only [aS0,aS1])
   refine rone 3 fun K hK => ?_
   go_simp
   ((with_reducible refine (HM2.out _).mono ?_); rintro e w7 ⟨rfl,f5⟩)
   refine hK.out _ _ ?_ (fun hHeld => ?_)
   ·((try dsimp only) <;> (first | exact hHeld | exact ⟨⟨keep_fr f5 hHeld.1.1,keep_fr f5 hHeld.1.2⟩,hHeld.2.trans' f5⟩))
   clear hK K
   try (simp only [Act.put,aST]; dsimp only [aS0,aS1])
   refine rtake 4 ?_
   refine rtake 5 ?_
   refine rdone ?_
   all_goals
    cases om with
    |true =>
     go_wp2
     go_ret
     exact ⟨by first | rfl | (rw [hE3]; rfl),hHeld.2⟩
    |false =>
     go_wp2
     go_ret
     exact ⟨by first | rfl | (rw [hE3]; rfl),hHeld.2⟩
  ·have l1 : 0 < s := by have := hs.1; omega
   rw [if_neg h1] at hE2
   subst hE2
   go_wp2
   go_ret
   exact ⟨rfl,F⟩
 ·have HD := Lib.hid ((decC h.bits o.bits).2 hb)
  rw [if_neg (fun h => hb h.1)] at hE
  subst hE
  clear hb
  generalize h.cells = A at *
  have d66 := cell_is c66 (by omega)
  generalize h.bits = b at *
  clear hl hx
  go_enter Tryz.func35,Tryz.ntmps35
  go_wp2_with fail
  refine calls_new fun W1 N1 => ?_
  have r1 := N1.new
  have r0 := N1.old (heap_alloc_new w (.cells A 27))
  have F := ((Fr.refl F0 w).alloc (.cells A 27)).trans' N1.fr
  rw [World.size_alloc] at r1
  clear N1
  generalize w.heap.size + 1 = g1 at *
  generalize w.heap.size = g0 at *
  (with_reducible refine (HD.out _).mono ?_); rintro e w2 ⟨rfl,f⟩
  replace F := F.trans' f
  clear f HD c66 d66
  go_wp2
  go_ret
  exact ⟨rfl,F.trans' (put_new _ _ _ _).fr⟩
end Go.Proofs.YtedffdlkmpmdlaaGreatDoor
namespace Go.Proofs.YtedffdlkmpmdlaaGreatDoor
set_option maxRecDepth 100000
set_option linter.unusedVariables false
set_option linter.unusedSimpArgs false
open Go.RowKit
theorem mt_with (h : Hd) (hb : btP h.bits) (n : Nat) : mtH (h.with n) = decide (hsh (h.with n) ≤ btT h.bits) := by
 have e : (h.with n).bits = h.bits := rfl
 simp only [mtH,e,hb,true_and]
theorem mt_without (h : Hd) (hb : ¬ btP h.bits) (n : Nat) : mtH (h.with n) = false := by
 have e : (h.with n).bits = h.bits := rfl
 simp only [mtH,e,hb,false_and,decide_false]
theorem mine_without (h : Hd) (hb : ¬ btP h.bits) : ∀ k n,mineN h k n = none
 |0,n => mineN_last (mt_without h hb n)
 |k + 1,n => by
  by_cases e : n = 4294967295
  ·subst e; exact mineN_top (mt_without h hb _)
  ·rw [mineN_on (mt_without h hb n) e]; exact mine_without h hb k (n + 1)
theorem min_is32 (x y z : Nat) (h : min x y = z) : (if (y : Int) < (x : Int) then (y : Int) else (x : Int)) = (z : Int) := by split <;> omega
theorem run_min_32 (ts : Array TypeId) (t : TypeId) (x y z : Nat) (h : min x y = z) (w : World) : (Builtin.min_ ts t #[.int .u32 (x : Int),.int .u32 (y : Int)]).run Tryz.prog w = .ok (.int .u32 (z : Int)) w := by rw [run_min_int2,min_is32 x y z h]
theorem hMine_no (h : Hd) (o : h.Ok) (hb : ¬ btP h.bits) (m : Nat) (w : World) :
  Calls Tryz.prog 31 #[.agg h.cells,.int .u32 (m : Int)] w fun e w' => e = .returned (.tuple #[.agg zeroHd.cells,.bool false]) ∧ Fr F0 w w' := by
 have HD := Lib.hid ((decC h.bits o.bits).2 hb)
 obtain ⟨sa,c0,c65,c66,c67,x1,x33,oa⟩ := Hd.of o
 have hzb := build_zeroHd
 have zz : Tryz.zeroCells27.size = 68 := by kernel_rfl
 have s0 : zeroHd.cells.size = 68 := rfl
 have o0 : rowOne zeroHd.cells := Hd.one
 clear c0 c65 c67 x1 x33 hb o
 generalize Tryz.zeroCells27 = Z at *
 generalize zeroHd.cells = C at *
 generalize h.cells = A at *
 have d66 := cell_is c66 (by omega)
 generalize h.bits = b at *
 go_enter Tryz.func31,Tryz.ntmps31
 go_wp2_with fail
 refine calls_new fun W1 N1 => ?_
 have r4 := N1.new
 have F := ((Fr.refl F0 w).alloc (.cells A 27)).trans' N1.fr
 have hg : w.heap.size ≤ w.heap.size + 1 := by omega
 rw [World.size_alloc] at r4
 clear N1
 generalize w.heap.size + 1 = g4 at *
 replace hg := Lib.hid hg
 (with_reducible refine (HD.out _).mono ?_); rintro e w2 ⟨rfl,f⟩
 replace r4 := keep_fr f r4
 replace F := F.trans' f
 clear f HD c66 d66
 go_upto_region 2 with fail
 refine wp_put fun W3 N3 => ?_
 replace r4 := N3.old r4
 replace F := F.trans' N3.fr
 clear N3
 go_wp2
 refine bodyPost_ret (results_cell_row_tmp rfl _ _ g4 _ _ _ _ rfl (by rw [heap_setRow_at,r4]; rfl) Tryz.underlying27 rfl (by rw [Tryz.szHeader,s0])) rfl ⟨rfl,?_⟩
 exact F.setRow (fun h => by have := hg.out; omega) _
theorem hMine_yes (h : Hd) (o : h.Ok) (hb : btP h.bits) (m : Nat) (hm : m < 4294967296) (w : World) (hcub : Cub w) :
  Calls Tryz.prog 31 #[.agg h.cells,.int .u32 (m : Int)] w fun e w' => e = .returned (.tuple #[.agg (mineH h m).cells,.bool (mineO h m)]) ∧ Fr F0 w w' := by
 have HC := Lib.hid hcub
 have HD := Lib.hid ((decC h.bits o.bits).1 hb)
 have hTW := hb.2.2
 have HH := Lib.hid (fun n (hn : n < 4294967296) w hw => show Calls _ _ _ w fun e w' => e = .returned (.agg (rowN .u8 8 32 (hsh (h.with n)))) ∧ Fr F0 w w' from (hHashC (h.with n) (Hd.with_ok o n hn) w hw).mono fun e w' q => by
  rw [hash_row _ (by simp [sha2,sha_length])] at q
  exact q)
 have HM := Lib.hid (fun n ok (hk : mtH (h.with n) = ok) w => meetsC (hsh (h.with n)) (btT h.bits) ok (hash_lt _ (by simp [sha2,sha_length])) hTW (by rw [← mt_with h hb n]; exact hk) w)
 obtain ⟨sa,c0,c65,c66,c67,x1,x33,oa⟩ := Hd.of o
 have HN := Lib.hid o.nonce
 have HS := Lib.hid (fun n k => Hd.with_set o n k)
 have HOf := Lib.hid (fun n (hn : n < 4294967296) => Hd.of (Hd.with_ok o n hn))
 have HX : ∀ r,mineN h m h.nonce = r → mineH h m = (match r with | some n => h.with n | none => zeroHd) ∧ mineO h m = r.isSome := fun r e => by
  rw [mineH,mineO,e]
  exact ⟨rfl,rfl⟩
 replace HX := Lib.hid HX
 have szX : (mineH h m).cells.size = 68 ∧ rowOne (mineH h m).cells := by
  refine ⟨?_,Hd.one⟩
  unfold mineH
  cases e : mineN h m h.nonce with
  |none => exact Hd.cells_size zeroHd.ok
  |some r => exact Hd.cells_size (Hd.with_ok o r (mineN_lt m _ o.nonce r e))
 obtain ⟨sX,oX⟩ := szX
 obtain ⟨X,hX⟩ : ∃ X,X = (mineH h m).cells := ⟨_,rfl⟩
 obtain ⟨O,hO⟩ : ∃ O,O = mineO h m := ⟨_,rfl⟩
 rw [← hX] at sX oX ⊢
 rw [← hO]
 replace hX := Lib.hid hX
 replace hO := Lib.hid hO
 obtain ⟨k,hk⟩ : ∃ k,k = 4294967295 - h.nonce := ⟨_,rfl⟩
 obtain ⟨D,hD⟩ : ∃ D,min m k = D := ⟨_,rfl⟩
 have ws : IntKind.u32.wrap (4294967295 - (h.nonce : Int)) = (k : Int) := by have := o.nonce; rw [IntWalk.u32_in _ (by omega)]; omega
 have hmin := fun ts t w => run_min_32 ts t m k D hD w
 have wD : (D : Int) % 18446744073709551616 = (D : Int) := by omega
 obtain ⟨E,hE⟩ : ∃ E,E = D + 1 := ⟨_,rfl⟩
 have wE : IntKind.u64.wrap ((D : Int) + 1) = (E : Int) := by rw [IntWalk.u64_in _ (by omega)]; omega
 have HE := Lib.hid (show E = min m k + 1 ∧ k = 4294967295 - h.nonce by omega)
 have hE2 := Lib.hid (show E < 4294967297 by omega)
 have zz : Tryz.zeroCells27.size = 68 := by kernel_rfl
 clear hcub hb c0 c65 x1 x33 hTW o hm hD hE hk
 rw [show h.cells = (h.with h.nonce).cells from rfl] at *
 generalize btT h.bits = T at *
 generalize hA0 : (h.with h.nonce).cells = A0 at *
 replace hA0 := Lib.hid hA0
 have d66 := cell_is c66 (by omega)
 have d67 := cell_is c67 (by omega)
 generalize h.bits = b at *
 obtain ⟨N,hN⟩ : ∃ N,N = h.nonce := ⟨_,rfl⟩
 rw [← hN] at HN HX hA0 HE d67 c67 ws
 replace hN := Lib.hid hN
 go_enter Tryz.func31,Tryz.ntmps31
 go_wp2_with fail
 refine calls_new fun W1 N1 => ?_
 have r4 := N1.new
 have r2 := N1.old (heap_alloc_new w (.cells A0 27))
 have ne := N1.ne (heap_alloc_new w (.cells A0 27))
 have F := ((Fr.refl F0 w).alloc (.cells A0 27)).trans' N1.fr
 have hg : w.heap.size ≤ w.heap.size + 1 := by omega
 rw [World.size_alloc] at r4 ne
 clear N1
 generalize Tryz.zeroCells27 = Z at *
 generalize w.heap.size + 1 = g4 at *
 obtain ⟨g2,hg2⟩ : ∃ g,g = w.heap.size := ⟨_,rfl⟩
 rw [← hg2] at r2 ne hg ⊢
 have hgw := Lib.hid (show w.heap.size ≤ g2 by omega)
 replace hg := Lib.hid (show w.heap.size ≤ g4 by omega)
 replace hg2 := Lib.hid hg2
 (with_reducible refine (HD.out _).mono ?_); rintro e w2 ⟨rfl,f⟩
 replace r4 := keep_fr f r4
 replace r2 := keep_fr f r2
 replace F := F.trans' f
 clear f HD c66 d66
 go_upto_region 2 with fail
 refine wp_put fun W3 N3 => ?_
 have r6 := N3.new
 have ne6 := N3.ne r2
 replace r4 := N3.old r4
 replace r2 := N3.old r2
 replace F := F.trans' N3.fr
 clear N3
 generalize w2.heap.size = g6 at *
 go_wp2_with fail
 go_loopw [26] (fun iv wr => ∃ j n : Nat,j ≤ E ∧ iv = .int .u64 (j : Int) ∧ n < 4294967296 ∧ (wr.heap[g2]? = some (.cells (h.with n).cells 27 (0,0)) ∧ wr.heap[g4]? = some (.cells Z 27 (0,0)) ∧ wr.heap[g6]? = some (.cells (rowN .u64 64 4 T) 73 (0,0))) ∧ Fr F0 w wr ∧ Hid ((j < E → n = N + j ∧ mineN h m N = mineN h (m - j) n) ∧ (j = E → mineN h m N = none))) (fun iv _ => E - (intOf iv).toNat)
 case atStart => exact ⟨0,N,Nat.zero_le _,rfl,HN.out,⟨by rw [hA0.out]; exact r2,r4,r6⟩,F,⟨fun _ => ⟨rfl,rfl⟩,fun e => by have h1 := HE.out; omega⟩⟩
 case round =>
  clear r2 r4 r6 F
  obtain ⟨j,n,hj,rfl,hn,⟨r2,r4,r6⟩,F,HJ⟩ := hrel
  by_cases hjE : j < E
  ·have l1 : (j : Int) < (E : Int) := by omega
   obtain ⟨en,eJ⟩ := HJ.out.1 hjE
   clear HJ
   have HJ := Lib.hid eJ
   have en2 := Lib.hid en
   clear eJ en
   have HHn := Lib.hid (HH.out n hn)
   obtain ⟨mt,hmt⟩ : ∃ mt,mtH (h.with n) = mt := ⟨_,rfl⟩
   have HMn := Lib.hid (HM.out n mt hmt)
   have hset := Lib.hid (fun k => HS.out n k)
   have hof := HOf.out n hn
   have s7 := hof.size
   have o7 := hof.one
   have c7 : (h.with n).cells[67]? = some (.int .u32 (n : Int)) := hof.c67
   clear hof
   generalize hA : (h.with n).cells = A at *
   replace hA := Lib.hid hA
   have d7 := cell_is c7 (by omega)
   replace hmt := Lib.hid hmt
   replace hjE := Lib.hid hjE
   generalize hsh (h.with n) = x at *
   go_upto_region 7 with fail
   refine rbegin (S := (fun w' => (w'.heap[g2]? = some (.cells A 27 (0,0)) ∧ w'.heap[g4]? = some (.cells Z 27 (0,0)) ∧ w'.heap[g6]? = some (.cells (rowN .u64 64 4 T) 73 (0,0))) ∧ Fr F0 w w')) ?_ fun hHeld => ?_
   ·((try dsimp only) <;> (exact ⟨⟨r2,r4,r6⟩,F.drew⟩))
   refine rtake 0 ?_
   refine rtake 2 ?_
   refine rone 1 fun K hK => ?_
   go_simp
   ((with_reducible refine (HHn.out _ (HC.out.fr hHeld.2 fun f => f)).mono ?_); rintro e w6 ⟨rfl,f5⟩)
   refine hK.out _ _ ?_ (fun hHeld => ?_)
   ·((try dsimp only) <;> (first | exact hHeld | exact ⟨⟨keep_fr f5 hHeld.1.1,keep_fr f5 hHeld.1.2.1,keep_fr f5 hHeld.1.2.2⟩,hHeld.2.trans' f5⟩))
   clear hK K
   try (simp only [Act.put,aST]; dsimp only [aS0,aS1])
   refine rone 3 fun K hK => ?_
   go_simp
   ((with_reducible refine (HMn.out _).mono ?_); rintro e w7 ⟨rfl,f5⟩)
   refine hK.out _ _ ?_ (fun hHeld => ?_)
   ·((try dsimp only) <;> (first | exact hHeld | exact ⟨⟨keep_fr f5 hHeld.1.1,keep_fr f5 hHeld.1.2.1,keep_fr f5 hHeld.1.2.2⟩,hHeld.2.trans' f5⟩))
   clear hK K
   try (simp only [Act.put,aST]; dsimp only [aS0,aS1])
   refine rdone ?_
   all_goals
    cases mt with
    |true =>
     obtain ⟨e1,e2⟩ := HX.out (some n) (by rw [HJ.out,mineN_hit hmt.out])
     have eX : X = A := by rw [hX.out,e1,← hA.out]
     have eO : O = true := by rw [hO.out,e2]; rfl
     have q4 := hHeld.1.2.1
     have fq := hHeld.2
     subst eX eO
     clear e1 e2 HJ
     go_wp2
     refine bodyPost_ret (results_cell_row_tmp rfl _ _ g4 _ _ _ _ rfl (by rw [heap_setRow_at,q4]; rfl) Tryz.underlying27 rfl (by rw [Tryz.szHeader,sX])) rfl ⟨rfl,?_⟩
     exact fq.setRow (fun h => by have := hg.out; omega) _
    |false =>
     have q2 := hHeld.1.1
     have q4 := hHeld.1.2.1
     have q6 := hHeld.1.2.2
     have fq := hHeld.2
     obtain ⟨n',hn'⟩ : ∃ n',n' = (n + 1) % 4294967296 := ⟨_,rfl⟩
     have wn : IntKind.u32.wrap ((n : Int) + 1) = (n' : Int) := by rw [hn']; simp [IntKind.wrap,IntKind.signed,IntKind.bits]
     have wj : IntKind.u64.wrap ((j : Int) + 1) = ((j + 1 : Nat) : Int) := by have h1 := hjE.out; have h2 := hE2.out; rw [IntWalk.u64_in _ (by omega)]; rfl
     have hn2 := Lib.hid (show n' < 4294967296 by omega)
     have HJ2 : (j + 1 < E → n' = N + (j + 1) ∧ mineN h m N = mineN h (m - (j + 1)) n') ∧ (j + 1 = E → mineN h m N = none) := by
      have h1 := HE.out
      have h2 := en2.out
      have h3 := HN.out
      have h4 := hmt.out
      refine ⟨fun hj => ?_,fun hj => ?_⟩
      ·have e : n' = n + 1 := by omega
       refine ⟨by omega,?_⟩
       rw [HJ.out,show m - j = m - (j + 1) + 1 by omega,mineN_on h4 (by omega),e]
      ·rw [HJ.out]
       by_cases e : j = m
       ·subst e
        rw [Nat.sub_self,mineN_last h4]
       ·have e : n = 4294967295 := by omega
        subst e
        rw [mineN_top h4]
     replace HJ2 := Lib.hid HJ2
     replace hn' := Lib.hid hn'
     clear HJ
     go_wp2_with fail
     refine ⟨⟨j + 1,n',hjE.out,rfl,hn2.out,⟨?_,?_,?_⟩,?_,HJ2⟩,?_⟩
     ·rw [heap_setCell_at,q2]
      have := hset.out n'
      rw [← this]
      rfl
     ·rw [heap_setCell_ne' _ _ _ _ _ (Ne.symm ne)]
      exact q4
     ·rw [heap_setCell_ne' _ _ _ _ _ (Ne.symm ne6)]
      exact q6
     ·exact fq.setCell (p := ⟨g2,67,none⟩) (fun h => by have := hgw.out; exact absurd h (by simp only; omega)) _
     ·have h1 := hjE.out
      simp only [intOf]
      omega
  ·obtain rfl : j = E := by omega
   obtain ⟨e1,e2⟩ := HX.out none (HJ.out.2 rfl)
   have eX : X = zeroHd.cells := by rw [hX.out,e1]
   have eO : O = false := by rw [hO.out,e2]; rfl
   have hzb := build_zeroHd
   rw [← eX] at hzb
   subst eO
   have l1 : ¬ (j : Int) < (j : Int) := by omega
   clear e1 e2 HJ eX hjE
   go_wp2
   refine bodyPost_ret (results_cell_row_tmp rfl _ _ g4 _ _ _ _ rfl (by rw [heap_setRow_at,r4]; rfl) Tryz.underlying27 rfl (by rw [Tryz.szHeader,sX])) rfl ⟨rfl,?_⟩
   exact F.setRow (fun h => by have := hg.out; omega) _
theorem hMineC : HMineC := by
 intro h o m hm w hcub
 by_cases hb : btP h.bits
 ·exact hMine_yes h o hb m hm w hcub
 ·have e : mineN h m h.nonce = none := mine_without h hb m h.nonce
  have e1 : mineH h m = zeroHd := by rw [mineH,e]
  have e2 : mineO h m = false := by rw [mineO,e]; rfl
  rw [e1,e2]
  exact hMine_no h o hb m w
end Go.Proofs.YtedffdlkmpmdlaaGreatDoor
