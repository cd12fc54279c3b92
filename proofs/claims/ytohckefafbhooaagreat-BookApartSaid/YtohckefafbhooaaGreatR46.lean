import Derived.Test.YtohckefafbhooaaGreatR36
import Derived.Test.YtohckefafbhooaaGreatR44
import Derived.Test.YtohckefafbhooaaGreatR45
import Derived.Test.YtohckefafbhooaaGreatR7
import Derived.ProofKit
import Derived.Deep.Slices
import Derived.Deep.Fields
import Derived.OpenShut
import Derived.Below
set_option maxRecDepth 100000
set_option maxHeartbeats 64000000
namespace Go.Proofs.YtohckefafbhooaaGreat
set_option linter.unusedVariables false
set_option linter.unusedSimpArgs false
open Go.RowKit
attribute [-go_sem] gq
structure afq (w : World) (a : Option Addr) (n : Nat) : Prop where
 at_ : ∀ k,k < n → ∃ b off kd x y am A,a = some ⟨b,off,none⟩ ∧ am < 18446744073709551616 ∧ A.length = 20 ∧ ∀ W,Fr F0 w W → (gu 26 (.pointer (some ⟨b,off + k * 24,none⟩))).run Tryz.prog W = .ok (.agg (dI kd x y am A)) W
structure aC0 (KB : (Nat → Prop) → World → Nat → Bok → Prop) : Prop where
 fr : ∀ {S T : Nat → Prop} {w w' : World} {p : Nat} {M : Bok},KB S w p M → Fr T w w' → (∀ k,k < w.heap.size → S k → ¬ T k) → KB S w' p M
 lives : ∀ w,Calls Tryz.prog 7 #[] w fun e w' => e = .returned (.bool true) ∧ Fr F0 w w'
 make : ∀ w,Calls Tryz.prog 8 #[.agg usC] w fun e w' => ∃ p S,e = .returned (.tuple #[.pointer (some ⟨p,0,none⟩),.int .i64 0]) ∧ KB S w' p alb ∧ (∀ k,S k → w.heap.size ≤ k ∧ k < w'.heap.size) ∧ Fr F0 w w'
 copy : ∀ {S : Nat → Prop} {w : World} {p : Nat} {M : Bok},KB S w p M → Calls Tryz.prog 16 #[.pointer (some ⟨p,0,none⟩)] w fun e w' => ∃ q T,e = .returned (.pointer (some ⟨q,0,none⟩)) ∧ KB T w' q M ∧ (∀ k,T k → w.heap.size ≤ k ∧ k < w'.heap.size) ∧ Fr F0 w w'
 act : ∀ {S : Nat → Prop} {w : World} {p : Nat} {M : Bok} (d : Dd),KB S w p M → M.Ok → d.kind ≤ 21 → d.w < 256 → d.v < 256 → d.a < 18446744073709551616 → d.addr.length = 20 →
  Calls Tryz.prog 13 #[.pointer (some ⟨p,0,none⟩),.agg (dC d)] w fun e w' => e = .returned (.tuple #[.int .u64 ((jf usR M d).2.1 : Nat),.int .i64 (jf usR M d).2.2]) ∧ (∃ T,KB T w' p (jf usR M d).1 ∧ ∀ k,T k → S k ∨ (w.heap.size ≤ k ∧ k < w'.heap.size)) ∧ Fr S w w'
 sums : ∀ {S : Nat → Prop} {w : World} {p : Nat} {M : Bok},KB S w p M → M.Ok → Calls Tryz.prog 14 #[.pointer (some ⟨p,0,none⟩)] w fun e w' => e = .returned (.bool true) ∧ Fr F0 w w'
 same : ∀ {S : Nat → Prop} {w : World} {p m B : Nat} {M : Bok} {sv : Value},KB S w p M → M.Ok → RB B w m usR M sv → Calls Tryz.prog 15 #[.pointer (some ⟨p,0,none⟩),.pointer (some ⟨m,0,none⟩)] w fun e w' => e = .returned (.bool true) ∧ Fr F0 w w'
theorem aJa (k : Nat) (h : k < 11) : usC[k]? = some (.int .u64 (usR k : Nat)) := by
 have : k = 0 ∨ k = 1 ∨ k = 2 ∨ k = 3 ∨ k = 4 ∨ k = 5 ∨ k = 6 ∨ k = 7 ∨ k = 8 ∨ k = 9 ∨ k = 10 := by omega
 rcases this with rfl | rfl | rfl | rfl | rfl | rfl | rfl | rfl | rfl | rfl | rfl <;> rfl
theorem az6 : aCx.size = 533 := by unfold aCx; simp; rfl
theorem aJl (k : Nat) (h : k < 533) : aCx[k]? = some (ahx usR alb (.slice none 0 0) k) := by
 unfold aCx
 by_cases h1 : k < 11
 ·rw [Array.getElem?_append_left (by simp; have : usC.size = 11 := rfl; omega),Array.getElem?_append_left (by have : usC.size = 11 := rfl; omega),aJa k h1,aey _ _ _ h1]
 ·have hu : usC.size = 11 := rfl
  by_cases h2 : k < 531
  ·rw [Array.getElem?_append_left (by simp; omega),Array.getElem?_append_right (by omega),Array.getElem?_replicate,if_pos (by omega)]
   refine congrArg some ?_
   unfold ahx
   rw [if_neg h1]
   repeat' split
   all_goals first | rfl | omega
  ·have h3 : k = 531 ∨ k = 532 := by omega
   rcases h3 with rfl | rfl
   ·rw [Array.getElem?_append_right (by simp; omega)]; simp [hu]; rfl
   ·rw [Array.getElem?_append_right (by simp; omega)]; simp [hu]; rfl
theorem alx {B : Nat} {W : World} {m : Nat} (h : W.heap[m]? = some (.cells aCx 47 (0,0))) (hB : B ≤ m) : RB B W m usR alb (.slice none 0 0) := ⟨⟨aCx,h,az6,aJl⟩,uj.nil _ _,hB⟩
theorem usR0 : usR 0 < 18446744073709551616 := by decide
theorem usR3 : usR 3 < 18446744073709551616 := by decide
end Go.Proofs.YtohckefafbhooaaGreat
namespace Go.Proofs.YtohckefafbhooaaGreat
set_option linter.unusedVariables false
set_option linter.unusedSimpArgs false
open Go.RowKit Go.ChangeShapes Go.WideShapes Go.Deep
theorem att (cs : List Value) (n : Nat) (hl : cs.length = n) (h : ∀ i,i < n → ∃ z : Int,(cs.drop i).take 1 = [.int .u8 z] ∧ (Lit.int .u8 z).wf = true) : ∃ l : List UInt8,l.length = n ∧ cs = l.map B8 := by
 induction n generalizing cs with
 |zero => exact ⟨[],rfl,List.eq_nil_of_length_eq_zero hl⟩
 |succ n ih =>
  match cs,hl with
  |c :: cs,hl =>
   obtain ⟨z,e,wf⟩ := h 0 (by omega)
   obtain ⟨l,h1,h2⟩ := ih cs (by simpa using hl) (fun i hi => by simpa using h (i + 1) (by omega))
   simp at e
   have hb : 0 ≤ z ∧ z ≤ 255 := bounds_u8 wf
   refine ⟨UInt8.ofNat z.toNat :: l,by simp [h1],?_⟩
   rw [List.map_cons,← h2,e]
   congr 1
   simp only [B8,UInt8.toNat_ofNat']
   congr 1
   omega
theorem aDi (cs : List Value) : cs = (cs.drop 0).take 1 ++ ((cs.drop 1).take 1 ++ ((cs.drop 2).take 1 ++ ((cs.drop 3).take 1 ++ cs.drop 4))) := by
 match cs with
 |[] => rfl
 |[a] => rfl
 |[a,b] => rfl
 |[a,b,c] => rfl
 |a :: b :: c :: d :: l => rfl
section
variable {H : Type} {enc : TypeId × Value → H} {w : World} {base : Nat} {spare : Nat → Bool} {held : Bool}
theorem ajf {fuel : Nat} {cs : List Value} {y : DataW H × List MemPlace} (hf : DataW.trod enc Tryz.prog w base spare held fuel 26 cs = some y) : ∃ (kd u v : Int) (am : Nat) (A : List UInt8),am < 18446744073709551616 ∧ A.length = 20 ∧ cs = (dI kd u v am A).toList := by
 obtain ⟨xs,n,_,_,hl,hlen,hc⟩ := DataW.trod_struct Tryz.underlying26 hf
 have h4 : Tryz.prog.cellsOf 26 = 24 := by kernel_rfl
 have h1 : Tryz.prog.cellsOf 3 = 1 := by kernel_rfl
 have h2 : Tryz.prog.cellsOf 23 = 1 := by kernel_rfl
 have h3 : Tryz.prog.cellsOf 24 = 20 := by kernel_rfl
 have c1 : Tryz.prog.cellsOf 5 = 1 := by kernel_rfl
 match xs,hlen with
 |[y0,y1,y2,y3,y4],_ =>
  have k0 : DataW.trod enc Tryz.prog w base spare held n 3 ((cs.drop 0).take (Tryz.prog.cellsOf 3)) = some y0 := hc 0 _ rfl
  have k1 : DataW.trod enc Tryz.prog w base spare held n 3 ((cs.drop 1).take (Tryz.prog.cellsOf 3)) = some y1 := hc 1 _ rfl
  have k2 : DataW.trod enc Tryz.prog w base spare held n 3 ((cs.drop 2).take (Tryz.prog.cellsOf 3)) = some y2 := hc 2 _ rfl
  have k3 : DataW.trod enc Tryz.prog w base spare held n 23 ((cs.drop 3).take (Tryz.prog.cellsOf 23)) = some y3 := hc 3 _ rfl
  have k4 : DataW.trod enc Tryz.prog w base spare held n 24 ((cs.drop 4).take (Tryz.prog.cellsOf 24)) = some y4 := hc 4 _ rfl
  rw [h1] at k0 k1 k2
  rw [h2] at k3
  rw [h3] at k4
  have hl' : cs.length = 24 := by rw [← h4,← hl]
  have ht : (cs.drop 4).take 20 = cs.drop 4 := List.take_of_length_le (by rw [List.length_drop]; omega)
  rw [ht] at k4
  obtain ⟨x0,e0,_,_⟩ := DataW.trod_int Tryz.underlying3 k0
  obtain ⟨x1,e1,_,_⟩ := DataW.trod_int Tryz.underlying3 k1
  obtain ⟨x2,e2,_,_⟩ := DataW.trod_int Tryz.underlying3 k2
  obtain ⟨x3,e3,_,w3⟩ := DataW.trod_int Tryz.underlying23 k3
  have b3 : 0 ≤ x3 ∧ x3 ≤ 18446744073709551615 := bounds_u64 w3
  obtain ⟨n3,rfl⟩ := Int.eq_ofNat_of_zero_le b3.1
  obtain ⟨zs,m,rfl,hx,hzn,hn,hel⟩ := DataW.trod_array Tryz.underlying24 k4
  obtain ⟨l,hll,e⟩ := att (cs.drop 4) 20 (by rw [List.length_drop]; omega) (fun i hi => by
   have h := hel i hi
   rw [c1,Nat.mul_one] at h
   rw [List.getElem?_eq_getElem (show i < zs.length by omega)] at h
   obtain ⟨z,e,_,wf⟩ := DataW.trod_int Tryz.underlying5 h
   exact ⟨z,e,wf⟩)
  refine ⟨x0,x1,x2,n3,l,by omega,hll,?_⟩
  have := aDi cs
  rw [e0,e1,e2,e3,e] at this
  rw [this]
  unfold dI
  rw [agn hll]
  rfl
theorem atb {fuel : Nat} {a : Option Addr} {n c : Nat} {x : DataW H × List MemPlace} (h : DataW.trod enc Tryz.prog w base spare held fuel 22 [.slice a n c] = some x) : afq w a n := by
 rcases open_slice Tryz.underlying22 h with ⟨hcs,_⟩ | ⟨ad,len,cap,m,k,D,Pl,hcs,_,hl,hm,hmm,_,hi⟩
 ·simp only [List.cons.injEq,Value.slice.injEq,and_true] at hcs
  obtain ⟨rfl,rfl,rfl⟩ := hcs
  exact ⟨fun k hk => absurd hk (by omega)⟩
 ·simp only [List.cons.injEq,Value.slice.injEq,and_true] at hcs
  obtain ⟨rfl,rfl,rfl⟩ := hcs
  have hnm : n ≤ m := by rw [hmm]; split <;> omega
  have hC : Tryz.prog.cellsOf 26 = 24 := by kernel_rfl
  refine ⟨fun k hk => ?_⟩
  obtain ⟨cs,h1,h2⟩ := hi k (by omega)
  rw [hC] at h1
  obtain ⟨_,hlen,hat⟩ := World.cells?_some h1
  obtain ⟨kd,u,v,am,A,ham,hA,rfl⟩ := ajf h2
  obtain ⟨cs0,g1,g2⟩ := hi 0 (by omega)
  rw [hC] at g1
  obtain ⟨_,glen,gat⟩ := World.cells?_some g1
  have hs0 := World.cell?_spot ((gat 0 (by omega)).trans (List.getElem?_eq_getElem (show 0 < cs0.length by omega)))
  obtain ⟨b,off,spot⟩ := ad
  simp [Addr.add] at hs0
  subst hs0
  refine ⟨b,off,kd,u,v,am,A,rfl,ham,hA,fun W f => ?_⟩
  exact run_loadAt_mid (P := Tryz.prog) W b (off + k * 24) 26 (dI kd u v am A).toList _ (fun j u hj => by
   have hj' : j < 24 := by have := (List.getElem?_eq_some_iff.1 hj).1; rw [Array.length_toList,aar] at this; exact this
   have := (hat j hj').trans hj
   rw [Addr.add_lit,Addr.add_lit] at this
   exact f.cell (fun e => e) this) Tryz.underlying26 rfl (by rw [Tryz.szDeed20,Array.length_toList,aar])
end
section
variable {H : Type} {enc : TypeId × Value → H} {W : World} {base : Nat} {sp : Nat → Bool} {held : Bool}
theorem axk {r : Reach} {b0 : Nat} {v : Value} {d : DataW H} {ps : List MemPlace} (hd : DataW.Trod enc Tryz.prog W base sp held 26 v d ps) (hv : Value.okWide Tryz.prog W r b0 26 v) :
  ∃ (kd x y : Int) (am : Nat) (A : List UInt8),am < 18446744073709551616 ∧ A.length = 20 ∧ v = .agg (dI kd x y am A) := by
 simp only [Value.okWide,Tryz.underlying26] at hv
 obtain ⟨cs,rfl,hs,_⟩ := hv
 obtain ⟨fuel,hf⟩ := hd
 obtain ⟨kd,x,y,am,A,h1,h2,h3⟩ := ajf (cs := cs.toList) (by simpa [Value.cells] using hf)
 exact ⟨kd,x,y,am,A,h1,h2,by rw [← Array.toArray_toList (xs := cs),h3,Array.toArray_toList]⟩
end
end Go.Proofs.YtohckefafbhooaaGreat
