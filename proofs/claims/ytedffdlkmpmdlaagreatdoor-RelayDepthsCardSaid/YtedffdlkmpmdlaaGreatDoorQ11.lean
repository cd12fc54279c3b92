import Derived.Test.YtedffdlkmpmdlaaGreatDoorQ2
import Derived.RangeFuncNested
import Derived.RangeFuncBound
import Derived.RangeFuncCalls
import Derived.RangeFuncLeaves
import Derived.Shelf.Abstract
import Derived.Shelf.RegionOpen
import Derived.OwnWalkIn
import Derived.TacticsInMore
import Derived.LoopNIn
import Derived.LoopIn
import Derived.RangeFuncBox
import Derived.Laws.BitsAllLaws
set_option maxRecDepth 100000
set_option maxHeartbeats 64000000
namespace Go.Proofs.YtedffdlkmpmdlaaGreatDoor
set_option maxRecDepth 100000
set_option linter.unusedVariables false
set_option linter.unusedSimpArgs false
open Go.RowKit
def cutA (a : Option Addr) (cap l s : Nat) : Option Addr := if cap = l then a else a.map (·.add (l * s))
@[go_sem high] theorem run_slice_from_g {P : Program} (w : World) (t : TypeId) (ht : P.underlying t = some (.slice (P.elem t))) (a : Option Addr) (len cap : Nat) (kl : IntKind) (l : Int) (h0 : 0 ≤ l) (h1 : l ≤ len) :
  (Instr.slice t (.slice a len cap) (some (.int kl l)) none none).run P w = ((sizeOf (P.elem t)).run P w).andThen fun s w => .ok (.slice (cutA a cap l.toNat s) (len - l.toNat) (cap - l.toNat)) w := by
 rw [run_slice_l w t a len cap ht kl l h0 h1]
 rfl
@[go_sem high] theorem run_slice_to_g {P : Program} (w : World) (t : TypeId) (ht : P.underlying t = some (.slice (P.elem t))) (a : Option Addr) (len cap : Nat) (kh : IntKind) (h : Int) (h0 : 0 ≤ h) (h2 : h ≤ cap) :
  (Instr.slice t (.slice a len cap) none (some (.int kh h)) none).run P w = ((sizeOf (P.elem t)).run P w).andThen fun _ w => .ok (.slice a h.toNat cap) w := by
 rw [run_slice_h w t a len cap ht kh h h0 h2]
 congr 1
 funext s w
 simp only [sliced,Nat.zero_mul,Nat.sub_zero]
 congr 2
 split
 ·rfl
 ·cases a <;> simp [Addr.add]
theorem Bs.take {w : World} {a : Option Addr} {c : Nat} {bs : List UInt8} (h : Bs w a c bs) (n : Nat) : Bs w a c (bs.take n) := by
 refine ⟨by simp,by have := h.room; simp; omega,h.most,h.nil,fun j u hj => ?_⟩
 rw [List.map_take,List.getElem?_take] at hj
 split at hj
 ·exact h.cell j u hj
 ·cases hj
theorem Bs.drop {w : World} {a : Option Addr} {c : Nat} {bs : List UInt8} (h : Bs w a c bs) (n : Nat) (_hn : n ≤ bs.length) : Bs w (cutA a c n 1) (c - n) (bs.drop n) := by
 have hr := h.room
 have hm := h.most
 refine ⟨by simp,by simp; omega,by omega,fun e => ?_,fun j u hj => ?_⟩
 ·have : a = none := by
   unfold cutA at e
   split at e
   ·exact e
   ·simpa using e
  have := h.nil this
  omega
 ·rw [List.map_drop,List.getElem?_drop] at hj
  obtain ⟨b,off,rfl,hc⟩ := h.cell (n + j) u hj
  have hlt : n + j < bs.length := by
   have := (List.getElem?_eq_some_iff.1 hj).1
   simpa using this
  refine ⟨b,off + n,?_,by rw [Nat.add_assoc]; exact hc⟩
  unfold cutA
  rw [if_neg (by omega)]
  simp [Addr.add_lit]
theorem cutA_blk (a : Option Addr) (c l s : Nat) : ablk (cutA a c l s) = ablk a := by
 unfold cutA
 split
 ·rfl
 ·cases a with
  |none => rfl
  |some a => simp [ablk,Addr.add]; split <;> rfl
end Go.Proofs.YtedffdlkmpmdlaaGreatDoor
namespace Go.Proofs.YtedffdlkmpmdlaaGreatDoor
set_option maxRecDepth 100000
set_option linter.unusedVariables false
set_option linter.unusedSimpArgs false
open Go.RowKit
structure IsR (w : World) (b : Nat) (a : Option Addr) (st : Option (List UInt8)) : Prop where
 at_ : ∃ c,w.heap[b]? = some (.cells #[.slice a (st.getD []).length c,.bool st.isNone] 148 (0,0)) ∧ Bs w a c (st.getD [])
 blk : ∀ k,ablk a = some k → k < w.heap.size
theorem IsR.lt {w : World} {b : Nat} {a : Option Addr} {st : Option (List UInt8)} (h : IsR w b a st) : b < w.heap.size := by
 obtain ⟨c,h,_⟩ := h.at_
 exact (Array.getElem?_eq_some_iff.1 h).1
theorem IsR.fr {S : Nat → Prop} {w w' : World} {b : Nat} {a : Option Addr} {st : Option (List UInt8)} (h : IsR w b a st) (hf : Fr S w w') (hb : ¬ S b) (ha : ∀ k,ablk a = some k → ¬ S k) : IsR w' b a st := by
 obtain ⟨c,h1,h2⟩ := h.at_
 exact ⟨⟨c,hf.keeps hb h1,Sl.fr h2 hf ha⟩,fun k hk => hf.lt (h.blk k hk)⟩
theorem IsR.below {w w' : World} {b n : Nat} {a : Option Addr} {st : Option (List UInt8)} (h : IsR w b a st) (hf : Below n w w') (hb : b < n) (ha : ∀ k,ablk a = some k → k < n) : IsR w' b a st := by
 obtain ⟨c,h1,h2⟩ := h.at_
 exact ⟨⟨c,(hf.block b hb).trans h1,h2.kept fun k hk _ => hf.block k (ha k hk)⟩,fun k hk => Nat.lt_of_lt_of_le (h.blk k hk) hf.size⟩
theorem pair_cell {w : World} {b : Nat} {u v : Value} {t : TypeId} (h : w.heap[b]? = some (.cells #[u,v] t (0,0))) : w.cell? ⟨b,0,none⟩ = some u ∧ w.cell? ⟨b,1,none⟩ = some v ∧ (∀ o,w.frozen? ⟨b,o,none⟩ = false) := by
 simp [World.cell?,World.frozen?,h]
theorem pair_set0 {w : World} {b : Nat} {u v x : Value} {t : TypeId} (h : w.heap[b]? = some (.cells #[u,v] t (0,0))) : (w.setCell ⟨b,0,none⟩ x).heap[b]? = some (.cells #[x,v] t (0,0)) := by
 simp only [World.setCell,Array.getElem?_modify,if_true,h,Option.map_some]
 rfl
theorem pair_set1 {w : World} {b : Nat} {u v x : Value} {t : TypeId} (h : w.heap[b]? = some (.cells #[u,v] t (0,0))) : (w.setCell ⟨b,1,none⟩ x).heap[b]? = some (.cells #[u,x] t (0,0)) := by
 simp only [World.setCell,Array.getElem?_modify,if_true,h,Option.map_some]
 rfl
theorem Bs.pair {w w' : World} {b : Nat} {u v : Value} {t : TypeId} (hu : ∀ n,u ≠ .int .u8 n) (hv : ∀ n,v ≠ .int .u8 n) (h : w.heap[b]? = some (.cells #[u,v] t (0,0))) (hf : Fr (fun k => k = b) w w') {a : Option Addr} {c : Nat} {bs : List UInt8} (hb : Bs w a c bs) : Bs w' a c bs := by
 refine ⟨hb.len,hb.room,hb.most,hb.nil,fun j x hj => ?_⟩
 obtain ⟨b',off,rfl,hc⟩ := hb.cell j x hj
 have hx : ∃ n,x = .int .u8 n := by
  simp only [List.getElem?_map,Option.map_eq_some_iff] at hj
  obtain ⟨y,_,rfl⟩ := hj
  exact ⟨_,rfl⟩
 obtain ⟨n,rfl⟩ := hx
 by_cases e : b' = b
 ·subst e
  simp only [World.cell?,h,Option.isSome_none,Bool.false_eq_true,if_false] at hc
  match h' : off + j,hc with
  |0,hc => simp at hc; exact absurd hc (hu n)
  |1,hc => simp at hc; exact absurd hc (hv n)
  |k + 2,hc => simp at hc
 ·exact ⟨b',off,rfl,hf.cell (p := ⟨b',off + j,none⟩) e hc⟩
def RPost (w : World) (b : Nat) (a : Option Addr) (st : Option (List UInt8)) (w' : World) : Prop :=
 ∃ a',IsR w' b a' st ∧ Fr (fun k => k = b) w w' ∧ ∀ k,ablk a' = some k → ablk a = some k
theorem RPost.refl {w : World} {b : Nat} {a : Option Addr} {st : Option (List UInt8)} (h : IsR w b a st) : RPost w b a st w := ⟨a,h,Fr.refl _ _,fun _ => id⟩
theorem rfail_any (b : Nat) (a : Option Addr) (st : Option (List UInt8)) (w : World) (h : IsR w b a st) :
  Calls Tryz.prog 109 #[.pointer (some ⟨b,0,none⟩)] w fun e w' => e = .returned (.tuple #[]) ∧ RPost w b a none w' := by
 obtain ⟨c,h1,h2⟩ := h.at_
 obtain ⟨c0,c1,z⟩ := pair_cell h1
 have z0 := z 0
 have z1 := z 1
 have p0 := pair_set0 (x := .slice none 0 0) h1
 have P := Lib.hid (pair_set1 (x := .bool true) p0)
 clear h1 z p0 h2 h
 go_enter Tryz.func109,Tryz.ntmps109
 go_wp2
 go_end0
 exact ⟨rfl,none,⟨⟨0,P.out,Bs.nothing _⟩,fun k e => by cases e⟩,(Fr.setCell (S := fun k => k = b) (Fr.refl _ _) (p := ⟨b,0,none⟩) (fun _ => rfl) _).setCell (p := ⟨b,1,none⟩) (fun _ => rfl) _,fun k e => by cases e⟩
def lft (st : Option (List UInt8)) : Nat := (st.getD []).length
theorem RLeft_any (b : Nat) (a : Option Addr) (st : Option (List UInt8)) (w : World) (h : IsR w b a st) (_hl : lft st ≤ 140737488355328) :
  Calls Tryz.prog 130 #[.pointer (some ⟨b,0,none⟩)] w fun e w' => e = .returned (.int .i64 (lft st)) ∧ w = w' := by
 obtain ⟨c,h1,h2⟩ := h.at_
 obtain ⟨c0,c1,z⟩ := pair_cell h1
 change w.cell? _ = some (.slice a (lft st) c) at c0
 clear h1 z h2 h c1
 go_enter Tryz.func130,Tryz.ntmps130
 go_wp2
 go_ret
 exact ⟨rfl,rfl⟩
theorem RWrong_any (b : Nat) (a : Option Addr) (st : Option (List UInt8)) (w : World) (h : IsR w b a st) :
  Calls Tryz.prog 131 #[.pointer (some ⟨b,0,none⟩)] w fun e w' => e = .returned (.bool st.isNone) ∧ w = w' := by
 obtain ⟨c,h1,h2⟩ := h.at_
 obtain ⟨c0,c1,z⟩ := pair_cell h1
 generalize hs : st.isNone = q at c1 ⊢
 clear h1 z h2 h hs c0
 go_enter Tryz.func131,Tryz.ntmps131
 go_wp2
 go_ret
 exact ⟨rfl,rfl⟩
def tk (n : Int) (st : Option (List UInt8)) : List UInt8 × Option (List UInt8) :=
 match st with
 |none => ([],none)
 |some bs => if 0 ≤ n ∧ n ≤ bs.length then (bs.take n.toNat,some (bs.drop n.toNat)) else ([],none)
def TPost (w : World) (b : Nat) (a : Option Addr) (r : List UInt8) (st : Option (List UInt8)) (e : Ending) (w' : World) : Prop :=
 ∃ a2 c2,e = .returned (.slice a2 r.length c2) ∧ Bs w' a2 c2 r ∧ RPost w b a st w' ∧ ∀ k,ablk a2 = some k → ablk a = some k
theorem take_bad (b : Nat) (a : Option Addr) (st : Option (List UInt8)) (n : Int) (w : World) (h : IsR w b a st) (hl : lft st ≤ 140737488355328) (hn : n < 0 ∨ (lft st : Int) < n) :
  Calls Tryz.prog 111 #[.pointer (some ⟨b,0,none⟩),.int .i64 n] w (TPost w b a [] none) := by
 have C1 := Lib.hid (RLeft_any b a st w h hl)
 have C2 := Lib.hid (rfail_any b a st w h)
 rcases hn with hn | hn
 all_goals
  by_cases hneg : n < 0
  all_goals
   first
   |omega
   |(go_enter Tryz.func111,Tryz.ntmps111
     go_wp2_with (first | (go_at_call 130; refine C1.out.mono ?_; rintro e w' ⟨rfl,rfl⟩) | (go_at_call 109; refine C2.out.mono ?_; rintro e w1 ⟨rfl,h1⟩))
     go_ret
     exact ⟨none,0,rfl,Bs.nothing _,h1,fun k e => by cases e⟩)
theorem take_wrong (b : Nat) (a : Option Addr) (w : World) (h : IsR w b a none) :
  Calls Tryz.prog 111 #[.pointer (some ⟨b,0,none⟩),.int .i64 0] w (TPost w b a [] none) := by
 have C1 := Lib.hid (RLeft_any b a none w h (by simp [lft]))
 have C2 := Lib.hid (RWrong_any b a none w h)
 have C3 := Lib.hid (RPost.refl h)
 go_enter Tryz.func111,Tryz.ntmps111
 go_wp2_with (first | (go_at_call 130; refine C1.out.mono ?_; rintro e w' ⟨rfl,rfl⟩) | (go_at_call 131; refine C2.out.mono ?_; rintro e w1 ⟨rfl,rfl⟩))
 go_ret
 exact ⟨none,0,rfl,Bs.nothing _,C3.out,fun k e => by cases e⟩
theorem take_ok (b : Nat) (a : Option Addr) (bs : List UInt8) (n : Nat) (w : World) (h : IsR w b a (some bs)) (hl : bs.length ≤ 140737488355328) (hn : n ≤ bs.length) :
  Calls Tryz.prog 111 #[.pointer (some ⟨b,0,none⟩),.int .i64 n] w (TPost w b a (bs.take n) (some (bs.drop n))) := by
 have C1 := Lib.hid (RLeft_any b a (some bs) w h hl)
 have C2 := Lib.hid (RWrong_any b a (some bs) w h)
 have C3 := Lib.hid (RPost.refl h)
 obtain ⟨c,h1,h2⟩ := h.at_
 obtain ⟨c0,c1,z⟩ := pair_cell h1
 simp only [Option.getD_some] at c0 h2
 have hc := h2.room
 have z0 := z 0
 have H1 := Lib.hid h1
 have hlf : ¬ (lft (some bs) : Int) < n := by simp [lft]; omega
 have HB := Lib.hid h.blk
 clear h1 z h c1
 go_enter Tryz.func111,Tryz.ntmps111
 go_wp2_with (first | (go_at_call 130; refine C1.out.mono ?_; rintro e w' ⟨rfl,rfl⟩) | (go_at_call 131; refine C2.out.mono ?_; rintro e w1 ⟨rfl,rfl⟩))
 go_ret
 have P := pair_set0 (x := .slice (cutA a c n 1) (bs.length - n) (c - n)) H1.out
 have F := Fr.setCell (S := fun k => k = b) (Fr.refl _ w) (p := ⟨b,0,none⟩) (fun _ => rfl) (.slice (cutA a c n 1) (bs.length - n) (c - n))
 have T := Bs.pair (fun n e => by cases e) (fun n e => by cases e) H1.out F (h2.take n)
 have D := Bs.pair (fun n e => by cases e) (fun n e => by cases e) H1.out F (h2.drop n hn)
 refine ⟨a,c,by rw [List.length_take,Nat.min_eq_left hn]; rfl,T,⟨cutA a c n 1,⟨⟨c - n,?_,D⟩,fun k hk => F.lt (HB.out k (by rwa [cutA_blk] at hk))⟩,F,fun k hk => by rwa [cutA_blk] at hk⟩,fun k => id⟩
 simp only [Option.getD_some,List.length_drop]
 exact P
theorem take_any (b : Nat) (a : Option Addr) (st : Option (List UInt8)) (n : Int) (w : World) (h : IsR w b a st) (hl : lft st ≤ 140737488355328) :
  Calls Tryz.prog 111 #[.pointer (some ⟨b,0,none⟩),.int .i64 n] w (TPost w b a (tk n st).1 (tk n st).2) := by
 cases st with
 |none =>
  by_cases h0 : n = 0
  ·subst h0
   exact take_wrong b a w h
  ·exact take_bad b a none n w h hl (by simp [lft]; omega)
 |some bs =>
  by_cases h0 : 0 ≤ n ∧ n ≤ bs.length
  ·obtain ⟨n,rfl⟩ := Int.eq_ofNat_of_zero_le h0.1
   simp only [tk,if_pos h0,Int.toNat_natCast]
   exact take_ok b a bs n w h hl (by omega)
  ·simp only [tk,if_neg h0]
   exact take_bad b a (some bs) n w h hl (by simp [lft]; omega)
def RBytes (w : World) (b : Nat) (a : Option Addr) (r : List UInt8) (st : Option (List UInt8)) (e : Ending) (w' : World) : Prop :=
 ∃ a2 c2,e = .returned (.slice a2 r.length c2) ∧ Bs w' a2 c2 r ∧ RPost w b a st w' ∧ ∀ k,ablk a2 = some k → w.heap.size ≤ k
theorem tk_len (n : Int) (st : Option (List UInt8)) : (tk n st).1.length ≤ lft st ∧ lft (tk n st).2 ≤ lft st := by
 unfold tk lft
 cases st with
 |none => simp
 |some bs =>
  dsimp only
  split
  ·simp; omega
  ·simp
theorem RRaw_any (b : Nat) (a : Option Addr) (st : Option (List UInt8)) (n : Int) (w : World) (h : IsR w b a st) (hl : lft st ≤ 140737488355328) :
  Calls Tryz.prog 90 #[.pointer (some ⟨b,0,none⟩),.int .i64 n] w (RBytes w b a (tk n st).1 (tk n st).2) := by
 have C1 := Lib.hid (take_any b a st n w h hl)
 have ht := (tk_len n st).1
 generalize tk n st = q at *
 obtain ⟨r,st'⟩ := q
 dsimp only at *
 go_enter Tryz.func90,Tryz.ntmps90
 go_wp2_with (first | (go_at_call 111; refine C1.out.mono ?_; rintro e w1 ⟨a2,c2,rfl,hb,hp,_⟩; have HP := Lib.hid hp) | (go_at_call 71; refine (Clone_any _ _ _ _ _ hb rfl (by omega)).mono ?_; rintro e w2 ⟨a3,c3,rfl,hb3,hf3,hk3⟩))
 go_ret
 obtain ⟨a',hr,hf,ha⟩ := hp
 exact ⟨a3,c3,rfl,hb3,⟨a',hr.fr hf3 (fun f => f) (fun _ _ f => f),hf.trans' hf3.of0,ha⟩,fun k hk => Nat.le_trans hf.size (hk3 k hk).1⟩
def NewReader (bs : List UInt8) (w : World) (e : Ending) (w' : World) : Prop :=
 ∃ b a,e = .returned (.pointer (some ⟨b,0,none⟩)) ∧ IsR w' b a (some bs) ∧ Fr F0 w w' ∧ w.heap.size ≤ b ∧ b < w'.heap.size ∧ ∀ k,ablk a = some k → w.heap.size ≤ k ∧ k < w'.heap.size
theorem Read_any (a : Option Addr) (n c : Nat) (bs : List UInt8) (w : World) (h : Bs w a c bs) (hn : n = bs.length) (hl : bs.length ≤ 140737488355328) :
  Calls Tryz.prog 66 #[.slice a n c] w (NewReader bs w) := by
 have HN := Lib.hid hn
 clear hn
 go_enter Tryz.func66,Tryz.ntmps66
 go_wp2_with (go_at_call 71; refine (Clone_any _ _ _ _ _ h HN.out hl).mono ?_; rintro e w1 ⟨a',c',rfl,h1,h2,h3⟩; have H3 := Lib.hid h3; clear h3)
 go_ret
 have hn : (w1.alloc (Obj.cells #[.slice a' bs.length c',.bool false] 148)).heap[w1.heap.size]? = some (.cells #[.slice a' bs.length c',.bool false] 148 (0,0)) := heap_alloc_new _ _
 refine ⟨w1.heap.size,a',rfl,⟨⟨c',hn,Sl.fr h1 ((Fr.refl F0 _).alloc _) fun _ _ => id⟩,fun k hk => by have := H3.out k hk; simp; omega⟩,h2.alloc _,h2.size,by simp,fun k hk => ?_⟩
 have := H3.out k hk
 simp
 omega
end Go.Proofs.YtedffdlkmpmdlaaGreatDoor
namespace Go.Proofs.YtedffdlkmpmdlaaGreatDoor
set_option maxRecDepth 100000
set_option linter.unusedVariables false
set_option linter.unusedSimpArgs false
open Go.RowKit Go.Shelf
attribute [local go_sem] Oper.semAt_some
def ofLE : List UInt8 → Nat
 |[] => 0
 |c :: r => c.toNat + 256 * ofLE r
def acc (l : List (Nat × UInt8)) : Nat := l.foldl (fun s p => s * 256 + p.2.toNat) 0
theorem acc_snoc (l : List (Nat × UInt8)) (x : Nat × UInt8) : acc (l ++ [x]) = acc l * 256 + x.2.toNat := by simp [acc]
theorem acc_lt (l : List (Nat × UInt8)) : acc l < 256 ^ l.length := by
 obtain ⟨r,rfl⟩ : ∃ r,l = List.reverse r := ⟨l.reverse,by simp⟩
 induction r with
 |nil => simp [acc]
 |cons x r ih =>
  rw [List.reverse_cons,acc_snoc]
  have := x.2.toNat_lt
  simp only [List.length_append,List.length_cons,List.length_nil,Nat.pow_succ] at *
  omega
theorem acc_map (l : List (Nat × UInt8)) : acc l = (l.map (·.2)).foldl (fun s c => s * 256 + c.toNat) 0 := by simp [acc,List.foldl_map]
theorem ofLE_rev (bs : List UInt8) : bs.reverse.foldl (fun s c => s * 256 + c.toNat) 0 = ofLE bs := by
 induction bs with
 |nil => rfl
 |cons c r ih => simp only [List.reverse_cons,List.foldl_append,ih,List.foldl_cons,List.foldl_nil,ofLE]; omega
theorem acc_all (bs : List UInt8) : acc (upto (bk bs) bs.length) = ofLE bs := by rw [acc_map,bk_all,ofLE_rev]
def gt (n : Int) (st : Option (List UInt8)) : Nat × Option (List UInt8) := if szB n then (ofLE (tk n st).1,(tk n st).2) else (0,none)
theorem or_byte (A X : Nat) (hA : A < 72057594037927936) (hX : X < 2 ^ 8) : bits .or .u64 ((A : Int) * 256) (X : Int) = ((A * 256 + X : Nat) : Int) := by
 have h := u64_or_nat (A * 256) X (by omega) (by omega)
 have e : A * 256 = A <<< 8 := by rw [Nat.shiftLeft_eq]
 rw [show ((A : Int) * 256) = ((A * 256 : Nat) : Int) from by omega,h,e,← Nat.shiftLeft_add_eq_or_of_lt hX]
theorem Get_ok (b : Nat) (a : Option Addr) (st : Option (List UInt8)) (n : Int) (w : World) (h : IsR w b a st) (hl : lft st ≤ 140737488355328) (hn : szB n = true) :
  Calls Tryz.prog 89 #[.pointer (some ⟨b,0,none⟩),.int .i64 n] w fun e w' => e = .returned (.int .u64 (ofLE (tk n st).1)) ∧ RPost w b a (tk n st).2 w' := by
 have hn8 : (tk n st).1.length ≤ 8 := by
  have : n ≤ 8 := by
   simp only [szB,Bool.or_eq_true,beq_iff_eq] at hn
   omega
  unfold tk
  cases st with
  |none => simp
  |some bs =>
   dsimp only
   split
   ·simp; omega
   ·simp
 have hA : IsR (w.alloc (.cells #[.int .u64 0] 71)) b a st := h.fr ((Fr.refl F0 w).alloc _) (fun f => f) fun _ _ f => f
 have C1 := Lib.hid (take_any b a st n _ hA hl)
 generalize tk n st = q at *
 obtain ⟨r,st'⟩ := q
 dsimp only at *
 refine callsIn_wide (n := 6) |>.1 ?_
 refine callsIn_of_wp_marks Tryz.func89 rfl trivial ?_ rfl
 simp only [Tryz.ntmps89,List.size_toArray,List.length_cons,List.length_nil,Nat.reduceAdd,Nat.reduceSub,Array.replicate_succ,Array.replicate_zero,List.push_toArray,List.append_toArray,List.nil_append,List.cons_append]
 gi_wp2_with (first | (refine ⟨trivial,?_⟩; gi_at_call 70; refine (callsIn_wide.2 (isSize_any _ _)).mono ?_; rintro e w' ⟨rfl,rfl⟩) | (refine ⟨trivial,?_⟩; gi_at_call 111; refine (callsIn_wide.2 C1.out).mono ?_; rintro e w1 ⟨a2,c2,rfl,hb,hp,ha2⟩; have HP := Lib.hid hp; have HA := Lib.hid ha2; clear hp ha2) | (refine ⟨trivial,?_⟩; gi_at_call 110; refine (Backward_in _ _ trivial rfl _ _ _ _).mono ?_; rintro e w2 ⟨rfl,rfl⟩))
 obtain ⟨a',hr,hf,ha⟩ := HP.out
 have hsz : w.heap.size < w1.heap.size := hf.lt (by simp)
 have hne : w.heap.size ≠ b := by have := h.lt; omega
 have cx : w1.heap[w.heap.size]? = some (.cells #[.int .u64 0] 71 (0,0)) := hf.keeps hne (heap_alloc_new w (.cells #[.int .u64 0] 71))
 have cx' : (w1.alloc (.cells #[.slice a2 r.length c2] 52)).heap[w.heap.size]? = some (.cells #[.int .u64 0] 71 (0,0)) := (Below.heap_alloc w1 _ _ hsz).trans cx
 have hbL : (w1.alloc (.cells #[.slice a2 r.length c2] 52)).cell? ⟨w1.heap.size,0,none⟩ = some (.slice a2 r.length c2) := cell_of_one (heap_alloc_new w1 _)
 have hb' : Bs (w1.alloc (.cells #[.slice a2 r.length c2] 52)) a2 c2 r := Sl.fr hb ((Fr.refl F0 _).alloc _) fun _ _ f => f
 refine wpIn_rangeFunc_ownG rfl (by omega) (gf := 129) (lb := #[.pointer (some ⟨w1.heap.size,0,none⟩)]) rfl trivial (enters_of Tryz.func129 (by kernel_rfl) rfl)
  (Backward_stops Fence.wide 5 trivial rfl (by omega) w1.heap.size w.heap.size a2 c2 r (by omega) _ (by omega) hbL hb' (fun k _ hk => by have := h.blk k (HA.out k hk); omega))
  (fun h k => Kc.trans h k) (fun W l o o' _ h hc _ => Kc.putObj W l o o' h hc) (Below.refl _ _) (fun _ => rfl)
  (fun pre W => (W.cell? ⟨w.heap.size,0,none⟩ = some (.int .u64 (acc pre)) ∧ W.frozen? ⟨w.heap.size,0,none⟩ = false) ∧ Below w.heap.size (w1.alloc (.cells #[.slice a2 r.length c2] 52)) W)
  (fun _ _ _ => False)
  (OwnFrom.and (Own.from (fun s A B row hs hg hr => ⟨cell_kept hs.1 hg hr,(frozen_kept hs.1 hg hr).trans hs.2⟩) _) (ownFrom_below (by simp; omega) (by simp; omega)))
  (fun _ _ _ _ _ hs _ _ => hs)
  ⟨⟨cell_of_one cx',free_of_one cx'⟩,Below.refl _ _⟩
  (fun x => { tmps := #[.pointer (some ⟨b,0,none⟩),.int .i64 n,undef,undef,.int .u64 0,.pointer (some ⟨w.heap.size,0,none⟩),undef,.int .u8 (x.2.toNat : Int),.int .i64 n,.bool true,
   .bool false,undef,undef,.pointer (some ⟨b,0,none⟩),.int .i64 n,.slice a2 r.length c2,.func (.func 129) #[] #[.pointer (some ⟨w1.heap.size,0,none⟩)],.int .i64 (x.1 : Int),.int .u8 (x.2.toNat : Int),undef,undef,undef,undef,undef,undef],defers := [] }) ?assign ?body ?done ?stop
 case assign =>
  intro l x W K hK
  gi_wp2
  exact hK
 case body =>
  rintro l pre x W ⟨⟨hc,hfz⟩,hB⟩ hlen
  have hacc := acc_lt pre
  have hpow : 256 ^ pre.length ≤ 256 ^ 7 := Nat.pow_le_pow_right (by omega) (by omega)
  have hlt : acc pre < 72057594037927936 := by omega
  have hx8 := x.2.toNat_lt
  have hsn := Lib.hid (acc_snoc pre x)
  clear hacc hpow
  generalize hA' : acc pre = A at *
  generalize hx' : x.2.toNat = X at *
  have hor := or_byte A X hlt hx8
  gi_wp2
  exact ⟨(KeepsOthers.setCell _ _ _).from _,Kc.setCell _ _ _,⟨by rw [hsn.out]; exact World.cell?_setCell_same' _ _ _ (by rw [hc]; rfl),by rw [World.frozen?_setCell]; exact hfz⟩,hB.setCell (p := ⟨w.heap.size,0,none⟩) (Nat.le_refl _) _⟩
 case done =>
  rintro D ys W hD rfl ⟨⟨hc,_⟩,hB⟩ hK
  gi_wp2
  refine ⟨by simp,.inl ⟨_,_,rfl,run_takeDeferred hK,?_⟩⟩
  have hBD : Below w.heap.size (w1.alloc (.cells #[.slice a2 r.length c2] 52)) (W.putObj D (.deferred none)) := hB.trans (belowK_b (w := w1.alloc (.cells #[.slice a2 r.length c2] 52)) (by simp; omega) W D _ _ (by simp at hD; simp; omega) hK rfl rfl)
  have hlb := h.lt
  have hak := h.blk
  have hR : IsR (w1.alloc (.cells #[.slice a2 r.length c2] 52)) b a' st' := hr.fr ((Fr.refl F0 w1).alloc _) (fun f => f) fun _ _ f => f
  exact ⟨_,results_tmp rfl _ _ _,by rw [← acc_all]; rfl,a',hR.below hBD hlb fun k hk => hak k (ha k hk),
   ((((Fr.refl F0 w).alloc _).of0.trans' hf).alloc _).trans (Fr.of_below' hBD) (fun i hi hk => by omega),ha⟩
 case stop =>
  rintro D c pre W _ _ h _
  exact h.elim
end Go.Proofs.YtedffdlkmpmdlaaGreatDoor
namespace Go.Proofs.YtedffdlkmpmdlaaGreatDoor
set_option maxRecDepth 100000
set_option linter.unusedVariables false
set_option linter.unusedSimpArgs false
open Go.RowKit Go.Shelf
attribute [local go_sem] Oper.semAt_some
theorem ofLE_lt (bs : List UInt8) : ofLE bs < 256 ^ bs.length := by
 induction bs with
 |nil => simp [ofLE]
 |cons c r ih =>
  have := c.toNat_lt
  simp only [ofLE,List.length_cons,Nat.pow_succ]
  omega
end Go.Proofs.YtedffdlkmpmdlaaGreatDoor
namespace Go.Proofs.YtedffdlkmpmdlaaGreatDoor
set_option maxRecDepth 100000
set_option linter.unusedVariables false
set_option linter.unusedSimpArgs false
open Go.RowKit
end Go.Proofs.YtedffdlkmpmdlaaGreatDoor
namespace Go.Proofs.YtedffdlkmpmdlaaGreatDoor
set_option maxRecDepth 100000
set_option linter.unusedVariables false
set_option linter.unusedSimpArgs false
open Go.RowKit
end Go.Proofs.YtedffdlkmpmdlaaGreatDoor
namespace Go.Proofs.YtedffdlkmpmdlaaGreatDoor
set_option maxRecDepth 100000
set_option linter.unusedVariables false
set_option linter.unusedSimpArgs false
open Go.RowKit
def Hd.bytes (h : Hd) : List UInt8 := le 4 h.ver ++ (h.ahead ++ (h.root ++ (le 4 h.time ++ (le 4 h.bits ++ le 4 h.nonce))))
theorem Hd.bytes_length {h : Hd} (o : h.Ok) : h.bytes.length = 80 := by simp [Hd.bytes,o.ahead,o.root,le_length]
end Go.Proofs.YtedffdlkmpmdlaaGreatDoor
namespace Go.Proofs.YtedffdlkmpmdlaaGreatDoor
set_option maxRecDepth 100000
set_option linter.unusedVariables false
set_option linter.unusedSimpArgs false
open Go.RowKit
def RdI (B b : Nat) (st : Option (List UInt8)) (w : World) : Prop := ∃ a,IsR w b a st ∧ b < B ∧ ∀ k,ablk a = some k → k < B
theorem RdI.of {bs : List UInt8} {w : World} {e : Ending} {w' : World} (h : NewReader bs w e w') : ∃ b,e = .returned (.pointer (some ⟨b,0,none⟩)) ∧ RdI w'.heap.size b (some bs) w' ∧ Fr F0 w w' ∧ w.heap.size ≤ b := by
 obtain ⟨b,a,rfl,hr,f,h1,h2,h3⟩ := h
 exact ⟨b,rfl,⟨a,hr,h2,fun k hk => (h3 k hk).2⟩,f,h1⟩
theorem RdI.fr {B b : Nat} {st : Option (List UInt8)} {S : Nat → Prop} {w w' : World} (h : RdI B b st w) (f : Fr S w w') (hs : ∀ k,S k → B ≤ k) : RdI B b st w' := by
 obtain ⟨a,hr,hb,ha⟩ := h
 exact ⟨a,hr.fr f (fun e => by have := hs b e; omega) fun k hk e => by have h1 := ha k hk; have h2 := hs k e; omega,hb,ha⟩
theorem RdI.fr0 {B b : Nat} {st : Option (List UInt8)} {w w' : World} (h : RdI B b st w) (f : Fr F0 w w') : RdI B b st w' := h.fr f fun _ e => e.elim
theorem RdI.step {B b : Nat} {a : Option Addr} {st : Option (List UInt8)} {w w' : World} (hb : b < B) (ha : ∀ k,ablk a = some k → k < B) (p : RPost w b a st w') : RdI B b st w' ∧ Fr (fun k => k = b) w w' := by
 obtain ⟨a',hr,f,h⟩ := p
 exact ⟨⟨a',hr,hb,fun k hk => ha k (h k hk)⟩,f⟩
theorem RdI.get {B b : Nat} {st : Option (List UInt8)} {w : World} (h : RdI B b st w) (n : Int) (hn : szB n = true) (hl : lft st ≤ 1000000) :
  Calls Tryz.prog 89 #[.pointer (some ⟨b,0,none⟩),.int .i64 n] w fun e w' => e = .returned (.int .u64 (ofLE (tk n st).1)) ∧ RdI B b (tk n st).2 w' ∧ Fr (fun k => k = b) w w' := by
 obtain ⟨a,hr,hb,ha⟩ := h
 exact (Get_ok b a st n w hr (by omega) hn).mono fun e w' ⟨he,p⟩ => ⟨he,RdI.step hb ha p⟩
theorem RdI.raw {B b : Nat} {st : Option (List UInt8)} {w : World} (h : RdI B b st w) (n : Int) (hl : lft st ≤ 1000000) :
  Calls Tryz.prog 90 #[.pointer (some ⟨b,0,none⟩),.int .i64 n] w fun e w' => ∃ a2 c2,e = .returned (.slice a2 (tk n st).1.length c2) ∧ Bs w' a2 c2 (tk n st).1 ∧ RdI B b (tk n st).2 w' ∧ Fr (fun k => k = b) w w' ∧ ∀ k,ablk a2 = some k → w.heap.size ≤ k := by
 obtain ⟨a,hr,hb,ha⟩ := h
 exact (RRaw_any b a st n w hr (by omega)).mono fun e w' ⟨a2,c2,he,hb2,p,hk⟩ => ⟨a2,c2,he,hb2,(RdI.step hb ha p).1,(RdI.step hb ha p).2,hk⟩
theorem tk_ok {n : Nat} {bs : List UInt8} (h : n ≤ bs.length) : tk (n : Int) (some bs) = (bs.take n,some (bs.drop n)) := by
 unfold tk
 dsimp only
 rw [if_pos (by omega)]
 simp
end Go.Proofs.YtedffdlkmpmdlaaGreatDoor
