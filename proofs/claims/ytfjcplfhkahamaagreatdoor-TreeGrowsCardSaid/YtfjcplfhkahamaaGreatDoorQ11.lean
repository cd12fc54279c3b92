import Derived.Test.YtfjcplfhkahamaaGreatDoorQ2
import Derived.RangeFuncNested
import Derived.RangeFuncBound
import Derived.RangeFuncCalls
import Derived.RangeFuncLeaves
import Derived.Shelf.Abstract
import Derived.Shelf.RegionOpen
import Derived.OwnWalkIn
import Derived.TacticsInMore
import Derived.LoopNIn
import Derived.LoopIn
import Derived.RangeFuncBox
import Derived.Laws.BitsAllLaws
set_option maxRecDepth 100000
set_option maxHeartbeats 64000000
namespace Go.Proofs.YtfjcplfhkahamaaGreatDoor
set_option linter.unusedVariables false
set_option linter.unusedSimpArgs false
open Go.RowKit
def cutA (a : Option Addr) (cap l s : Nat) : Option Addr := if cap = l then a else a.map (·.add (l * s))
@[go_sem high] theorem run_slice_from_g {P : Program} (w : World) (t : TypeId) (ht : P.underlying t = some (.slice (P.elem t))) (a : Option Addr) (len cap : Nat) (kl : IntKind) (l : Int) (h0 : 0 ≤ l) (h1 : l ≤ len) :
  (Instr.slice t (.slice a len cap) (some (.int kl l)) none none).run P w = ((sizeOf (P.elem t)).run P w).andThen fun s w => .ok (.slice (cutA a cap l.toNat s) (len - l.toNat) (cap - l.toNat)) w := by
 rw [run_slice_l w t a len cap ht kl l h0 h1]
 rfl
@[go_sem high] theorem run_slice_to_g {P : Program} (w : World) (t : TypeId) (ht : P.underlying t = some (.slice (P.elem t))) (a : Option Addr) (len cap : Nat) (kh : IntKind) (h : Int) (h0 : 0 ≤ h) (h2 : h ≤ cap) :
  (Instr.slice t (.slice a len cap) none (some (.int kh h)) none).run P w = ((sizeOf (P.elem t)).run P w).andThen fun _ w => .ok (.slice a h.toNat cap) w := by
 rw [run_slice_h w t a len cap ht kh h h0 h2]
 congr 1
 funext s w
 simp only [sliced,Nat.zero_mul,Nat.sub_zero]
 congr 2
 split
 ·rfl
 ·cases a <;> simp [Addr.add]
theorem Bs.take {w : World} {a : Option Addr} {c : Nat} {bs : List UInt8} (h : Bs w a c bs) (n : Nat) : Bs w a c (bs.take n) := by
 refine ⟨by simp,by have := h.room; simp; omega,h.most,h.nil,fun j u hj => ?_⟩
 rw [List.map_take,List.getElem?_take] at hj
 split at hj
 ·exact h.cell j u hj
 ·cases hj
theorem Bs.drop {w : World} {a : Option Addr} {c : Nat} {bs : List UInt8} (h : Bs w a c bs) (n : Nat) (_hn : n ≤ bs.length) : Bs w (cutA a c n 1) (c - n) (bs.drop n) := by
 have hr := h.room
 have hm := h.most
 refine ⟨by simp,by simp; omega,by omega,fun e => ?_,fun j u hj => ?_⟩
 ·have : a = none := by
   unfold cutA at e
   split at e
   ·exact e
   ·simpa using e
  have := h.nil this
  omega
 ·rw [List.map_drop,List.getElem?_drop] at hj
  obtain ⟨b,off,rfl,hc⟩ := h.cell (n + j) u hj
  have hlt : n + j < bs.length := by
   have := (List.getElem?_eq_some_iff.1 hj).1
   simpa using this
  refine ⟨b,off + n,?_,by rw [Nat.add_assoc]; exact hc⟩
  unfold cutA
  rw [if_neg (by omega)]
  simp [Addr.add_lit]
def tk (n : Int) (st : Option (List UInt8)) : List UInt8 × Option (List UInt8) :=
 match st with
 |none => ([],none)
 |some bs => if 0 ≤ n ∧ n ≤ bs.length then (bs.take n.toNat,some (bs.drop n.toNat)) else ([],none)
end Go.Proofs.YtfjcplfhkahamaaGreatDoor
namespace Go.Proofs.YtfjcplfhkahamaaGreatDoor
set_option linter.unusedVariables false
set_option linter.unusedSimpArgs false
open Go.RowKit Go.Shelf
attribute [local go_sem] Oper.semAt_some
def ofLE : List UInt8 → Nat
 |[] => 0
 |c :: r => c.toNat + 256 * ofLE r
def gt (n : Int) (st : Option (List UInt8)) : Nat × Option (List UInt8) := if szB n then (ofLE (tk n st).1,(tk n st).2) else (0,none)
end Go.Proofs.YtfjcplfhkahamaaGreatDoor
namespace Go.Proofs.YtfjcplfhkahamaaGreatDoor
set_option linter.unusedVariables false
set_option linter.unusedSimpArgs false
open Go.RowKit Go.Shelf
attribute [local go_sem] Oper.semAt_some
theorem ofLE_lt (bs : List UInt8) : ofLE bs < 256 ^ bs.length := by
 induction bs with
 |nil => simp [ofLE]
 |cons c r ih =>
  have := c.toNat_lt
  simp only [ofLE,List.length_cons,Nat.pow_succ]
  omega
end Go.Proofs.YtfjcplfhkahamaaGreatDoor
namespace Go.Proofs.YtfjcplfhkahamaaGreatDoor
set_option linter.unusedVariables false
set_option linter.unusedSimpArgs false
open Go.RowKit
theorem made_own (w : World) (cur : Array Value) (bs : List UInt8) (h : cur.toList = bs.map B8) (hl : bs.length ≤ maxLen) :
  OwnB (w.alloc (.cells cur 5)) (.slice (some ⟨w.heap.size,0,none⟩) bs.length bs.length) bs := by
 have hc : cur.size = bs.length := by
  have := congrArg List.length h
  simpa using this
 refine ⟨by simp,.inr ⟨w.heap.size,bs.length,cur,rfl,Nat.zero_le _,heap_alloc_new w _,Nat.le_refl _,hl,by omega,?_⟩⟩
 rw [h]
 exact List.take_of_length_le (by simp)
def NewOwn (bs : List UInt8) (w : World) (e : Ending) (w' : World) : Prop :=
 ∃ a c,e = .returned (.slice a bs.length c) ∧ OwnB w' (.slice a bs.length c) bs ∧ Fr F0 w w' ∧ ∀ k,ablk a = some k → w.heap.size ≤ k
theorem NewOwn.mk' {w w' : World} {a : Option Addr} {n c : Nat} {bs : List UInt8} (h : OwnB w' (.slice a n c) bs) (hf : Fr F0 w w') (hb : ∀ k,ablk a = some k → w.heap.size ≤ k) : NewOwn bs w (.returned (.slice a n c)) w' := by
 obtain ⟨rfl,hs⟩ := h.bs
 exact ⟨a,c,rfl,h,hf,hb⟩
theorem refPut_own (x n : Nat) (w : World) (hx : x < 18446744073709551616) (hn : n ≤ 8) :
  Calls Tryz.prog 92 #[.int .u64 x,.int .i64 n] w (NewOwn (le n x) w) := by
 go_enter Tryz.func92,Tryz.ntmps92
 go_wp2
 go_loopw [0,5,6] (fun xv ov iv wr => ∃ (k X : Nat) (a : Option Addr) (m c : Nat),k ≤ n ∧ iv = .int .i64 k ∧ xv = .int .u64 X ∧ X < 2 ^ 64 ∧ Hid (X = x / 256 ^ k) ∧ ov = .slice a m c ∧ OwnB wr (.slice a m c) (le k x) ∧ Fr F0 w wr ∧ Hid (∀ i,ablk a = some i → w.heap.size ≤ i)) (fun _ _ iv _ => n - (intOf iv).toNat)
 case atStart => exact ⟨0,x,_,0,0,Nat.zero_le _,rfl,rfl,hx,by simp [Hid],rfl,made_own w #[] [] rfl (by simp),(Fr.refl _ _).alloc _,fun i e => by cases e; exact Nat.le_refl _⟩
 case round =>
  obtain ⟨k,X,a,m,c,hk,rfl,rfl,hX,HX,rfl,ho,hf,HA⟩ := hrel
  by_cases hkn : k < n
  ·have A1 : Fr F0 wr (wr.alloc (.cells #[.int .u8 ((X : Int) % 256)] 5)) := (Fr.refl _ _).alloc _
   have O1 := ho.fr A1 fun _ _ => id
   have hll := le_length k x
   have E1 := Lib.hid hll
   clear hll
   go_wp2_with (at_builtin; refine wpList_appB rfl _ _ rfl (.slice a m c) _ rfl O1 _ _ _ _ rfl (one_byte wr X) rfl (by have := E1.out; simp; omega) ?_; intro a' c' w1 ho1 hg hb; have HB := Lib.hid hb; clear hb)
   have hf1 : Fr F0 w w1 := by
    refine (hf.trans' A1).grown hg fun i hi hl => ?_
    rw [ablk_own] at hi
    have := HA.out i hi
    omega
   have hs1 := hf.size
   simp only [List.length_append,List.length_cons,List.length_nil,Nat.zero_add] at ho1
   go_roundw
   case rel =>
    refine ⟨k + 1,X / 256,a',(le k x).length + 1,c',by omega,by go_num,by go_num,by omega,?_,rfl,?_,hf1,fun i hi => ?_⟩
    ·rw [HX.out]; simp [Hid,Nat.div_div_eq_div_mul,Nat.pow_succ]
    ·rw [le_snoc,← HX.out]
     exact ho1
    ·rcases HB.out i hi with h | h
     ·rw [ablk_own] at h
      exact HA.out i h
     ·simp at h
      omega
   case measure => simp [intOf]; omega
  ·go_wp2
   go_ret
   have : k = n := by omega
   subst this
   exact NewOwn.mk' ho hf HA.out
theorem ofLE_drop (bs : List UInt8) (k : Nat) (hk : k < bs.length) : ofLE (bs.drop k) = ofLE (bs.drop (k + 1)) * 256 + bs[k].toNat := by
 rw [List.drop_eq_getElem_cons hk,ofLE]
 omega
theorem refGet_any (a : Option Addr) (n c : Nat) (bs : List UInt8) (w : World) (h : Bs w a c bs) (hn : n = bs.length) (hl : bs.length ≤ 8) :
  Calls Tryz.prog 75 #[.slice a n c] w fun e w' => e = .returned (.int .u64 (ofLE bs)) ∧ w = w' := by
 subst hn
 go_enter Tryz.func75,Tryz.ntmps75
 go_wp2
 go_loop [3,4] (fun xv iv => ∃ (k X : Nat),k ≤ bs.length ∧ iv = .int .i64 ((k : Int) - 1) ∧ xv = .int .u64 X ∧ X < 256 ^ (bs.length - k) ∧ Hid (X = ofLE (bs.drop k))) (fun _ iv => (intOf iv + 1).toNat)
 case atStart => exact ⟨bs.length,0,Nat.le_refl _,rfl,rfl,by simp,by simp [Hid,ofLE]⟩
 case round =>
  obtain ⟨k,X,hk,rfl,rfl,hX,HX⟩ := hrel
  by_cases hk0 : 0 < k
  ·obtain ⟨b,off,rfl,hc⟩ := h.at (k - 1) (by omega)
   have hlt : X < 72057594037927936 := by
    have : 256 ^ (bs.length - k) ≤ 256 ^ 7 := Nat.pow_le_pow_right (by omega) (by omega)
    omega
   have hx8 := (bs[k - 1]'(by omega)).toNat_lt
   have HS := Lib.hid (ofLE_drop bs (k - 1) (by omega))
   have HP : Hid (256 ^ (bs.length - (k - 1)) = 256 ^ (bs.length - k) * 256) := by
    rw [show bs.length - (k - 1) = (bs.length - k) + 1 from by omega,Nat.pow_succ]
    rfl
   have HX' := Lib.hid hX
   generalize hbv : (bs[k - 1]'(by omega)).toNat = v at *
   clear hX
   have hv : ((k : Int) - 1).toNat = k - 1 := by omega
   go_wp2
   have hX := HX'.out
   have hp := HP.out
   go_round
   case rel =>
    refine ⟨k - 1,X * 256 + v,by omega,by go_num,by go_num,by rw [hp]; omega,?_⟩
    rw [Hid,HS.out,show k - 1 + 1 = k from by omega,HX.out]
   case measure => simp [intOf]; omega
  ·go_wp2
   go_ret
   obtain rfl : k = 0 := by omega
   refine ⟨?_,rfl⟩
   rw [HX.out]
   rfl
def Hd.bytes (h : Hd) : List UInt8 := le 4 h.ver ++ (h.ahead ++ (h.root ++ (le 4 h.time ++ (le 4 h.bits ++ le 4 h.nonce))))
theorem Hd.bytes_length {h : Hd} (o : h.Ok) : h.bytes.length = 80 := by simp [Hd.bytes,o.ahead,o.root,le_length]
end Go.Proofs.YtfjcplfhkahamaaGreatDoor
