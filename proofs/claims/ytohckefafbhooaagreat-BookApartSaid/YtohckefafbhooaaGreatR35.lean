import Derived.Test.YtohckefafbhooaaGreatR17
import Derived.Test.YtohckefafbhooaaGreatR33
import Derived.Test.YtohckefafbhooaaGreatR2
import Derived.Test.YtohckefafbhooaaGreatR34
import Derived.Deep.Cut
set_option maxRecDepth 100000
set_option maxHeartbeats 64000000
namespace Go.Proofs.YtohckefafbhooaaGreat
set_option linter.unusedVariables false
set_option linter.unusedSimpArgs false
open Go.RowKit
attribute [-go_sem] gq
theorem aBw {p : Nat} : ∀ {l : List Vlt},l.Pairwise (fun a b => a.who < b.who) → ∀ {i : Nat} {x : Vlt},l[i]? = some x → (x.who < p ↔ i < (l.takeWhile fun z => decide (z.who < p)).length)
 |[],_,i,x,h => by cases h
 |y :: l,hp,i,x,h => by
  obtain ⟨h1,h2⟩ := List.pairwise_cons.1 hp
  rw [List.takeWhile_cons]
  by_cases hy : y.who < p
  ·simp only [decide_eq_true hy,if_true,List.length_cons]
   cases i with
   |zero => cases h; exact ⟨fun _ => by omega,fun _ => hy⟩
   |succ i =>
    have := aBw h2 (p := p) (i := i) (x := x) (by simpa using h)
    omega
  ·simp only [decide_eq_false hy,Bool.false_eq_true,if_false,List.length_nil]
   refine ⟨fun hx => absurd hx ?_,fun hx => absurd hx (Nat.not_lt_zero _)⟩
   cases i with
   |zero => cases h; exact hy
   |succ i =>
    have := h1 x (List.mem_of_getElem? (by simpa using h : l[i]? = some x))
    omega
theorem aEp (l : List Vlt) (y : Vlt) : af2 l y = l.take (l.takeWhile fun z => decide (z.who < y.who)).length ++ y :: l.drop (l.takeWhile fun z => decide (z.who < y.who)).length := by
 unfold af2
 have e := List.takeWhile_append_dropWhile (p := fun z : Vlt => decide (z.who < y.who)) (l := l)
 have h1 : l.take (l.takeWhile fun z => decide (z.who < y.who)).length = l.takeWhile fun z => decide (z.who < y.who) := by
  conv => lhs; arg 2; rw [← e]
  exact List.take_left
 have h2 : l.drop (l.takeWhile fun z => decide (z.who < y.who)).length = l.dropWhile fun z => decide (z.who < y.who) := by
  conv => lhs; arg 2; rw [← e]
  exact List.drop_left
 rw [h1,h2]
def ao3 (parts : Array (Nat × Value)) : Sem Value := Instr.build 111 parts
@[go_sem ↓ high] theorem build_RV (p : Array (Nat × Value)) : Instr.build 111 p = ao3 p := rfl
theorem ape (w : World) (parts : Array (Nat × Value)) (cells : Array Value) (h : Tryz.prog.built 111 parts.toList = some cells) : (ao3 parts).run Tryz.prog w = .ok (.agg cells) w := run_build w _ parts cells h
theorem aBb (A : List UInt8) (h : A.length = 20) (x y : Int) : Tryz.prog.built 111 [(0,.int .i64 x),(1,.agg (A.map B8).toArray),(2,.int .u64 y)] = some (.int .i64 x :: (A.map B8 ++ [Value.int .u64 y,.int .u64 0,.int .u64 0,.int .u64 0,.int .u64 0,.bool false])).toArray := by
 obtain ⟨x0,x1,x2,x3,x4,x5,x6,x7,x8,x9,x10,x11,x12,x13,x14,x15,x16,x17,x18,x19,rfl⟩ := twenty A h
 kernel_rfl
theorem av7 {W : World} {b o : Nat} {C : List Value} {t : TypeId} {A : List UInt8} (h : W.heap[b]? = some (.cells C.toArray t (0,0))) (hC : ∀ j,j < 20 → C[o + j]? = (A.map B8)[j]?) (hA : A.length = 20) :
  (gu 24 (.pointer (some ⟨b,o,none⟩))).run Tryz.prog W = .ok (.agg (A.map B8).toArray) W := by
 refine run_loadAt_mid (P := Tryz.prog) W b o 24 (A.map B8) _ (fun j u hj => ?_) Tryz.underlying24 rfl (by rw [Tryz.szA20b,List.length_map,hA])
 have hj' : j < 20 := by have := (List.getElem?_eq_some_iff.1 hj).1; rw [List.length_map,hA] at this; exact this
 rw [gq,h,jg,List.getElem?_toArray,hC j hj']
 exact hj
theorem aJ0 {W : World} {b : Nat} {x : Vlt} (h : W.heap[b]? = some (.cells (aao x).toArray 111 (0,0))) : (gu 24 (.pointer (some ⟨b,1,none⟩))).run Tryz.prog W = .ok (.agg ((a20 x.addr).map B8).toArray) W :=
 av7 h (fun j hj => by unfold aao; rw [Nat.add_comm,List.getElem?_cons_succ,List.getElem?_append_left (by rw [List.length_map,vk]; exact hj)]) (vk _)
theorem ao1 {W : World} {g : Nat} {d : Dd} (h : W.heap[g]? = some (.cells (dC d) 26 (0,0))) : (gu 24 (.pointer (some ⟨g,4,none⟩))).run Tryz.prog W = .ok (.agg ((a20 d.addr).map B8).toArray) W :=
 av7 h (fun j hj => by rw [Nat.add_comm]; rfl) (vk _)
theorem aq5 (w : World) (l m : List UInt8) (hl : l.length = 20) (hm : m.length = 20) (o : Bool) (ho : decide (l = m) = o) : (binOp .eql 24 (.agg (l.map B8).toArray) (.agg (m.map B8).toArray)).run Tryz.prog w = .ok (.bool o) w := by
 obtain ⟨i0,hi,_⟩ := info_parts Tryz.infoU8
 rw [run_eql_bytes w 24 5 20 i0 Tryz.underlying24 hi (by kernel_rfl) (by kernel_rfl) Tryz.underlying5 l m hl hm,ho]
theorem az4 {M : Bok} {w a : Nat} {A : List UInt8} (h1 : ¬ 4611686018427387904 < a) (h : ∃ x ∈ M.vs,x.who = w ∨ x.addr = A) : ji M w a A = M.no 9 := by unfold ji; rw [if_neg h1,if_pos h]
theorem az5 {M : Bok} {w a : Nat} {A : List UInt8} (h1 : ¬ 4611686018427387904 < a) (h : ¬ ∃ x ∈ M.vs,x.who = w ∨ x.addr = A) (h2 : 64 ≤ M.vs.length) : ji M w a A = M.no 10 := by unfold ji; rw [if_neg h1,if_neg h,if_pos h2]
theorem aDv {M : Bok} {w a : Nat} {A : List UInt8} (h1 : ¬ 4611686018427387904 < a) (h : ¬ ∃ x ∈ M.vs,x.who = w ∨ x.addr = A) (h2 : ¬ 64 ≤ M.vs.length) (h3 : M.free w < a) : ji M w a A = M.no 16 := by unfold ji; rw [if_neg h1,if_neg h,if_neg h2,if_pos h3]
theorem aJj {M : Bok} {w a : Nat} {A : List UInt8} (h1 : ¬ 4611686018427387904 < a) (h : ¬ ∃ x ∈ M.vs,x.who = w ∨ x.addr = A) (h2 : ¬ 64 ≤ M.vs.length) (h3 : ¬ M.free w < a) : ji M w a A = ({ M with free := upd M.free w (M.free w - a),held := M.held + a,vs := af2 M.vs ⟨w,A,a,0,0,0,0,false⟩ },0,0) := by unfold ji; rw [if_neg h1,if_neg h,if_neg h2,if_neg h3]
end Go.Proofs.YtohckefafbhooaaGreat
namespace Go.Proofs.YtohckefafbhooaaGreat
set_option linter.unusedVariables false
set_option linter.unusedSimpArgs false
open Go.RowKit
attribute [-go_sem] gq
theorem adp (R : Nat → Nat) : RegQ R := by
 intro B w m M sv d h hB hM hk hw ha hA
 have HK := Lib.hid hk
 have HW := Lib.hid hw
 by_cases h1 : 4611686018427387904 < d.a
 ·rw [show ji M d.w d.a d.addr = M.no 1 from if_pos h1]
  have l1 : (4611686018427387904 : Int) < (d.a : Int) := by omega
  clear hk hw ha hA h1
  go_enter Tryz.func106,Tryz.ntmps106
  go_upto_region 1 with fail
  refine eu fun W1 N1 => ?_
  have T1 := Lib.hid (je.start h N1 rfl)
  obtain ⟨g,hg⟩ : ∃ g,w.heap.size = g := ⟨_,rfl⟩
  rw [hg] at T1 ⊢
  clear N1 hg h hM
  obtain ⟨c0,c1,c2,c3⟩ := ah T1.out.box
  go_wp2_with fail
  go_ret
  exact ⟨rfl,qg.no (show (1 : Int) ≠ 0 by decide),T1.out.fr⟩
 ·have l1 : ¬ (4611686018427387904 : Int) < (d.a : Int) := by omega
  obtain ⟨a,c,rfl,-⟩ := h.vs.is
  obtain ⟨n,hn⟩ : ∃ n,M.vs.length = n := ⟨_,rfl⟩
  rw [hn] at h ⊢
  have hlen := hM.len
  have hf := hM.jy hw
  have HM := Lib.hid hM
  have HA := Lib.hid hA
  have HN := Lib.hid hn
  have HH1 := Lib.hid h1
  have R9 := Lib.hid (@az4 M d.w d.a d.addr h1)
  have R10 := Lib.hid (@az5 M d.w d.a d.addr h1)
  have R16 := Lib.hid (@aDv M d.w d.a d.addr h1)
  have R0 := Lib.hid (@aJj M d.w d.a d.addr h1)
  generalize ji M d.w d.a d.addr = r at *
  obtain ⟨cw,hcw⟩ : ∃ cw,(M.vs.takeWhile fun z => decide (z.who < d.w)).length = cw := ⟨_,rfl⟩
  have HC := Lib.hid hcw
  have hcn : cw ≤ n := by rw [← hcw,← hn]; exact (List.takeWhile_sublist _).length_le
  have HB := Lib.hid hB
  have HF := Lib.hid hf
  have hl64 : n ≤ 64 := by omega
  clear hk hw hA h1 hn hlen hcw hM hf hB
  go_enter Tryz.func106,Tryz.ntmps106
  go_upto_region 1 with fail
  refine eu fun W1 N1 => ?_
  have T1 := Lib.hid (je.start h N1 rfl)
  have hW1 : w.heap.size ≤ W1.heap.size := N1.fr.size
  obtain ⟨g,hg⟩ : ∃ g,w.heap.size = g := ⟨_,rfl⟩
  rw [hg] at T1 hW1 ⊢
  have HG := Lib.hid (show B ≤ W1.heap.size by have := HB.out; omega)
  clear N1 hg h hW1
  obtain ⟨c0,c1,c2,c3⟩ := ah T1.out.box
  have c31 := T1.out.rb.svc
  go_wp2_with fail
  clear c0 c1 c2 c3 c31
  go_loopw [5,17] (fun av iv wr => ∃ k : Nat,k ≤ n ∧ iv = .int .i64 (k : Int) ∧ av = .int .i64 ((min k cw : Nat) : Int) ∧ (∀ i,i < k → ∀ x,M.vs[i]? = some x → ¬ (x.who = d.w ∨ x.addr = d.addr)) ∧ Fr F0 W1 wr) (fun _ iv _ => n - (intOf iv).toNat)
  case atStart => exact ⟨0,Nat.zero_le _,rfl,by rw [Nat.zero_min]; rfl,fun i hi => absurd hi (Nat.not_lt_zero _),Fr.refl _ _⟩
  case round =>
   obtain ⟨k,hk,rfl,rfl,hno,f⟩ := hrel
   obtain ⟨mk,hmk⟩ : ∃ mk,min k cw = mk := ⟨_,rfl⟩
   rw [hmk]
   by_cases hkn : k < n
   ·have l2 : (k : Int) < (n : Int) := by omega
    obtain ⟨gv,rfl⟩ := uj.agk T1.out.rb.vs hkn
    have hr := List.getElem?_eq_getElem (show k < M.vs.length by have := HN.out; omega)
    obtain ⟨x,hx⟩ : ∃ x,M.vs[k]'(by have := HN.out; omega) = x := ⟨_,rfl⟩
    rw [hx] at hr
    have T2 := Lib.hid (T1.out.fr0 f)
    have lds := uj.ar5 qo Tryz.underlying111 rfl Tryz.szRVault T2.out.rb.vs k x hr
    have oS := af9 x
    have sz := qo x
    have k1 : IntKind.i64.wrap ((k : Int) + 1) = ((k + 1 : Nat) : Int) := by rw [IntWalk.i64_in _ (by omega)]; omega
    have HR := Lib.hid (And.intro hr (And.intro hno (And.intro f (And.intro hk hmk))))
    clear hr hx hno f
    go_upto_region 7 with fail
    refine jc fun W3 N => ?_
    have x0 := aj1 N.new
    have x1 := aJ0 N.new
    have F3 := Lib.hid N.fr
    have T3 := Lib.hid (T2.out.fr0 N.fr)
    clear N lds oS sz T2
    obtain ⟨b,hb⟩ : ∃ g,wr.heap.size = g := ⟨_,rfl⟩
    rw [hb] at x0 x1 ⊢
    clear hb
    obtain ⟨c0,c1,c2,c3⟩ := ah T3.out.box
    have c4 := ao1 T3.out.box
    have hxo := HM.out.vok x (jh HR.out.1)
    have hxa : a20 x.addr = x.addr := agn hxo.addr
    have hda : a20 d.addr = d.addr := agn HA.out
    by_cases he : x.who = d.w
    ·have e1 : ((x.who : Int) == (d.w : Int)) = true := beq_iff_eq.2 (by omega)
     have hR := Lib.hid (R9.out ⟨x,jh HR.out.1,.inl he⟩)
     clear he
     go_wp2_with fail
     go_ret
     rw [hR.out]
     exact ⟨rfl,qg.no (show (9 : Int) ≠ 0 by decide),T3.out.fr⟩
    ·have e1 : ((x.who : Int) == (d.w : Int)) = false := beq_eq_false_iff_ne.2 (by omega)
     by_cases hq : x.addr = d.addr
     ·have e2 := fun W => aq5 W (a20 x.addr) (a20 d.addr) (vk _) (vk _) true (decide_eq_true (by rw [hxa,hda,hq]))
      have hR := Lib.hid (R9.out ⟨x,jh HR.out.1,.inr hq⟩)
      clear he hq hxa hda
      go_wp2_with fail
      go_ret
      rw [hR.out]
      exact ⟨rfl,qg.no (show (9 : Int) ≠ 0 by decide),T3.out.fr⟩
     ·have e2 := fun W => aq5 W (a20 x.addr) (a20 d.addr) (vk _) (vk _) false (decide_eq_false (by rw [hxa,hda]; exact hq))
      have htw := aBw HM.out.asc (p := d.w) HR.out.1
      rw [HC.out] at htw
      have HE := Lib.hid (And.intro he hq)
      have aI4 : ∀ i,i < k + 1 → ∀ z,M.vs[i]? = some z → ¬ (z.who = d.w ∨ z.addr = d.addr) := fun i hi z hz => by
       by_cases e : i = k
       ·subst e
        have := HR.out.1
        rw [hz] at this
        cases this
        exact fun o => o.elim HE.out.1 HE.out.2
       ·exact HR.out.2.1 i (by omega) z hz
      have HL := Lib.hid aI4
      clear he hq hxa hda aI4 hxo
      by_cases hlt : x.who < d.w
      ·have l3 : (x.who : Int) < (d.w : Int) := by omega
       have hmin : min (k + 1) cw = k + 1 := by have := htw.1 hlt; omega
       clear hlt htw
       go_wp2_with fail
       go_roundw
       case rel => exact ⟨k + 1,by omega,rfl,by (rw [hmin]) <;> first | rfl | simp,HL.out,HR.out.2.2.1.trans' F3.out⟩
       case measure => simp [intOf]; omega
      ·have l3 : ¬ (x.who : Int) < (d.w : Int) := by omega
       have hmin : min (k + 1) cw = mk := by
        have h5 : ¬ k < cw := fun e => hlt (htw.2 e)
        have := HR.out.2.2.2.2
        omega
       clear hlt htw
       go_wp2_with fail
       go_roundw
       case rel => exact ⟨k + 1,by omega,rfl,by (rw [hmin]) <;> first | rfl | simp,HL.out,HR.out.2.2.1.trans' F3.out⟩
       case measure => simp [intOf]; omega
   ·obtain rfl : k = n := by omega
    have l2 : ¬ (k : Int) < (k : Int) := by omega
    obtain rfl : mk = cw := by omega
    have hno2 : ¬ ∃ x ∈ M.vs,x.who = d.w ∨ x.addr = d.addr := fun ⟨x,hx,ho⟩ => by
     obtain ⟨i,hi,e⟩ := List.mem_iff_getElem.1 hx
     exact hno i (by have := HN.out; omega) x (by rw [List.getElem?_eq_getElem hi,e]) ho
    have T2 := Lib.hid (T1.out.fr0 f)
    have HG2 := Lib.hid (Nat.le_trans HG.out f.size)
    have HNO := Lib.hid hno2
    have c31 := T2.out.rb.svc
    clear hno hno2 f hmk hk T1 hkn
    generalize wr = W2 at *
    by_cases h4 : 64 ≤ k
    ·have l4 : (64 : Int) ≤ (k : Int) := by omega
     have hR := Lib.hid (R10.out HNO.out (by have := HN.out; omega))
     clear h4
     go_wp2_with fail
     go_ret
     rw [hR.out]
     exact ⟨rfl,qg.no (show (10 : Int) ≠ 0 by decide),T2.out.fr⟩
    have l4 : ¬ (64 : Int) ≤ (k : Int) := by omega
    by_cases h5 : M.free d.w < d.a
    ·have hR := Lib.hid (R16.out HNO.out (by have := HN.out; omega) h5)
     obtain ⟨xf,hxf⟩ : ∃ z,M.free d.w = z := ⟨_,rfl⟩
     rw [hxf] at h5
     have q1 : decide ((xf : Int) < (d.a : Int)) = true := decide_eq_true (by omega)
     have q1' : decide (xf < d.a) = true := decide_eq_true h5
     have l0 : (d.w : Int) < 256 := by have := HW.out; omega
     have cf := ak (T2.out.rb.free HW.out) hxf
     obtain ⟨c0,c1,c2,c3⟩ := ah T2.out.box
     clear h4 h5 hxf
     go_upto_region 14 with fail
     go_region
     go_wp2_with fail
     go_ret
     rw [hR.out]
     exact ⟨rfl,qg.no (show (16 : Int) ≠ 0 by decide),T2.out.drew.fr⟩
    have hR := R0.out HNO.out (by have := HN.out; omega) h5
    obtain ⟨v,hv⟩ : ∃ z,M.free d.w - d.a = z := ⟨_,rfl⟩
    obtain ⟨y,hy⟩ : ∃ z,M.held + d.a = z := ⟨_,rfl⟩
    rw [hv,hy] at hR
    have HR := Lib.hid hR
    obtain ⟨xf,hxf⟩ : ∃ z,M.free d.w = z := ⟨_,rfl⟩
    obtain ⟨xh,hxh⟩ : ∃ z,M.held = z := ⟨_,rfl⟩
    have hF := HF.out
    rw [hxf] at h5 hv hF
    rw [hxh] at hy hF
    have q1 : decide ((xf : Int) < (d.a : Int)) = false := decide_eq_false (by omega)
    have q1' : decide (xf < d.a) = false := decide_eq_false h5
    have m2 : IntKind.u64.wrap ((xf : Int) - (d.a : Int)) = ((v : Nat) : Int) := by rw [IntWalk.u64_in _ (by omega)]; omega
    have m3 : IntKind.u64.wrap ((xh : Int) + (d.a : Int)) = ((y : Nat) : Int) := by rw [IntWalk.u64_in _ (by omega)]; omega
    have l0 : (d.w : Int) < 256 := by have := HW.out; omega
    have HX := Lib.hid (And.intro hxf hxh)
    have cf := ak (T2.out.rb.free HW.out) hxf
    obtain ⟨c0,c1,c2,c3⟩ := ah T2.out.box
    clear h4 h5 hxf hxh hv hy hF hR
    go_upto_region 14 with fail
    go_region
    go_upto_region 16 with fail
    obtain ⟨W3,hW⟩ : ∃ X,X = W2.drew := ⟨_,rfl⟩
    refine bg W3 hW ?_
    have T3 := Lib.hid (show je _ _ _ _ _ _ _ W3 _ by rw [hW]; exact T2.out.drew)
    have HG3 := Lib.hid (show B ≤ W3.heap.size by rw [hW]; exact HG2.out)
    clear hW c0 c1 c2 c3 cf T2 c31
    obtain ⟨c0,c1,c2,c3⟩ := ah T3.out.box
    have cf := ak (T3.out.rb.free HW.out) HX.out.1
    have zf := T3.out.rb.blk.frozen (270 + d.w)
    go_region
    go_upto_region 17 with fail
    have T4 := Lib.hid (T3.out.put (T3.out.rb.ab7 HW.out v)).drew
    have HG4 := Lib.hid (Nat.le_trans HG3.out (show W3.heap.size ≤ (W3.setCell ⟨m,270 + d.w,none⟩ (.int .u64 (v : Nat))).drew.heap.size from (BF.put (m := m) (x := 270 + d.w)).size))
    generalize (W3.setCell ⟨m,270 + d.w,none⟩ (.int .u64 (v : Nat))).drew = W4 at *
    clear c0 c1 c2 c3 cf zf T3
    obtain ⟨c0,c1,c2,c3⟩ := ah T4.out.box
    have ch := ak T4.out.rb.held HX.out.2
    have zf := T4.out.rb.blk.frozen 526
    go_region
    go_upto_region 18 with fail
    have T5 := Lib.hid (T4.out.put (T4.out.rb.adx y)).drew
    have HG5 := Lib.hid (Nat.le_trans HG4.out (show W4.heap.size ≤ (W4.setCell ⟨m,526,none⟩ (.int .u64 (y : Nat))).drew.heap.size from (BF.put (m := m) (x := 526)).size))
    generalize (W4.setCell ⟨m,526,none⟩ (.int .u64 (y : Nat))).drew = W5 at *
    clear c0 c1 c2 c3 ch zf T4
    obtain ⟨c0,c1,c2,c3⟩ := ah T5.out.box
    have c4 := ao1 T5.out.box
    obtain ⟨Y,hY⟩ : ∃ Y : Vlt,Y = ⟨d.w,d.addr,d.a,0,0,0,0,false⟩ := ⟨_,rfl⟩
    have bw : ∀ W,(ao3 #[(0,.int .i64 (d.w : Int)),(1,.agg ((a20 d.addr).map B8).toArray),(2,.int .u64 (d.a : Int))]).run Tryz.prog W = .ok (.agg (aao Y).toArray) W := fun W => by
     rw [hY]
     exact ape W _ _ (aBb (a20 d.addr) (vk _) (d.w : Int) (d.a : Int))
    have oS := af9 Y
    have sz := qo Y
    have HY := Lib.hid (show af2 M.vs ⟨d.w,d.addr,d.a,0,0,0,0,false⟩ = M.vs.take mk ++ Y :: M.vs.drop mk by
     rw [hY,aEp]
     rw [show (M.vs.takeWhile fun z => decide (z.who < (⟨d.w,d.addr,d.a,0,0,0,0,false⟩ : Vlt).who)).length = mk from HC.out])
    clear hY
    go_upto_region 19 with fail
    refine jc fun W6 N => ?_
    have n6 := N.new
    have T6 := Lib.hid (T5.out.fr0 N.fr)
    have HG6 := Lib.hid (Nat.le_trans HG5.out N.fr.size)
    clear N c0 c1 c2 c3 c4 bw oS sz T5
    obtain ⟨bv,hbv⟩ : ∃ g,W5.heap.size = g := ⟨_,rfl⟩
    rw [hbv] at n6 ⊢
    clear hbv
    rcases uj.row T6.out.rb.vs with ⟨e1,e2⟩ | ⟨gv,c',e1,-,-,-,-,-⟩
    ·simp only [Value.slice.injEq] at e1
     obtain ⟨rfl,rfl,rfl⟩ := e1
     obtain rfl : mk = 0 := by omega
     have HE := Lib.hid e2
     refine rg19c B m bv R _ Y W6 T6.out.rb HG6.out e2 n6 (Lib.hid ?_)
     rename_i W7
     rintro ⟨sv',rb7,f7⟩
     have H7 := Lib.hid (And.intro rb7 (T6.out.fr.trans' (f7.mono fun k _ e => .inl e)))
     clear rb7 f7 n6 T6 e2
     go_wp2_with fail
     go_ret
     rw [HR.out]
     refine ⟨rfl,qg.yes ⟨sv',?_⟩,H7.out.2⟩
     rw [HY.out]
     have e := HE.out
     have : M.vs = [] := e
     rw [this]
     exact H7.out.1
    ·simp only [Value.slice.injEq] at e1
     obtain ⟨rfl,-,rfl⟩ := e1
     by_cases hct : c = mk
     ·have hkc := (Sl.aef T6.out.rb.vs.own).2.room
      obtain rfl : c = k := by omega
      obtain rfl : mk = c := hct.symm
      refine rg19b B m bv gv mk R _ Y W6 T6.out.rb HG6.out (Nat.le_refl _) hl64 n6 (Lib.hid ?_)
      rename_i W7
      rintro ⟨sv',rb7,f7⟩
      have H7 := Lib.hid (And.intro rb7 (T6.out.fr.trans' (f7.mono fun k _ e => .inl e)))
      clear rb7 f7 n6 T6
      go_wp2_with fail
      go_ret
      rw [HR.out]
      refine ⟨rfl,qg.yes ⟨sv',?_⟩,H7.out.2⟩
      rw [HY.out]
      exact H7.out.1
     ·refine rg19a B m bv gv k c mk R _ Y W6 T6.out.rb HG6.out hcn hl64 hct n6 (Lib.hid ?_)
      rename_i W7
      rintro ⟨sv',rb7,f7⟩
      have H7 := Lib.hid (And.intro rb7 (T6.out.fr.trans' (f7.mono fun k _ e => .inl e)))
      clear rb7 f7 n6 T6
      go_wp2_with fail
      go_ret
      rw [HR.out]
      refine ⟨rfl,qg.yes ⟨sv',?_⟩,H7.out.2⟩
      rw [HY.out]
      exact H7.out.1
end Go.Proofs.YtohckefafbhooaaGreat
namespace Go.Proofs.YtohckefafbhooaaGreat
set_option linter.unusedVariables false
set_option linter.unusedSimpArgs false
open Go.RowKit
attribute [-go_sem] gq
def dI (k w v : Int) (a : Nat) (A : List UInt8) : Array Value := (.int .i64 k :: .int .i64 w :: .int .i64 v :: .int .u64 (a : Int) :: (a20 A).map B8).toArray
theorem aar (k w v : Int) (a : Nat) (A : List UInt8) : (dI k w v a A).size = 24 := by unfold dI; simp [vk]
theorem afn (k w v : Int) (a : Nat) (A : List UInt8) : yg (dI k w v a A) := by
 unfold yg
 rw [Array.all_eq_true_iff_forall_mem]
 intro u hu
 unfold dI at hu
 simp only [List.mem_toArray,List.mem_cons,List.mem_map] at hu
 rcases hu with rfl | rfl | rfl | rfl | ⟨b,_,rfl⟩ <;> rfl
theorem agu {W : World} {g : Nat} {k w v : Int} {a : Nat} {A : List UInt8} (h : W.heap[g]? = some (.cells (dI k w v a A) 26 (0,0))) :
  W.cell? ⟨g,0,none⟩ = some (.int .i64 k) ∧ W.cell? ⟨g,1,none⟩ = some (.int .i64 w) ∧ W.cell? ⟨g,2,none⟩ = some (.int .i64 v) ∧ W.cell? ⟨g,3,none⟩ = some (.int .u64 (a : Int)) := by
 refine ⟨?_,?_,?_,?_⟩ <;> simp [World.cell?,h,dI]
def nrN (w : Int) : Nat := (w % 256).toNat
theorem adn (w : Int) : nrN w < 256 := by unfold nrN; omega
theorem aD7 (w : Int) : IntKind.u64.wrap w % 256 = (nrN w : Int) := by
 unfold nrN
 have : IntKind.u64.wrap w = w % 18446744073709551616 := by unfold IntKind.wrap; rfl
 rw [this]
 omega
theorem av4 (w : Int) : (IntKind.u64.wrap w).tmod 256 = (nrN w : Int) := by
 rw [← aD7 w]
 have : IntKind.u64.wrap w = w % 18446744073709551616 := by unfold IntKind.wrap; rfl
 rw [this]
 exact Int.tmod_eq_emod_of_nonneg (Int.emod_nonneg _ (by decide))
theorem adb (k x y : Int) (a : Nat) (A : List UInt8) (w : World) : Calls Tryz.prog 11 #[.agg (dI k x y a A)] w fun e w' => e = .returned (.agg (dI k (nrN x) (nrN y) a A)) ∧ Fr F0 w w' := by
 have k1 := av4 x
 have k2 := av4 y
 have k3 : wrap64 (nrN x : Int) = (nrN x : Int) := IntWalk.wrap64_in _ (by have := adn x; omega)
 have k4 : wrap64 (nrN y : Int) = (nrN y : Int) := IntWalk.wrap64_in _ (by have := adn y; omega)
 generalize nrN x = nx at *
 generalize nrN y = ny at *
 go_enter Tryz.func11,Tryz.ntmps11
 go_upto_region 1 with fail
 refine eu fun W2 N => ?_
 have n1 := N.old (heap_alloc_new w (.cells (dI k x y a A) 26))
 have n2 := N.new
 have f2 : Fr F0 w W2 := ((Fr.refl F0 w).alloc _).trans' N.fr
 rw [World.size_alloc] at n2
 clear N
 obtain ⟨Z,zZ,n3⟩ : ∃ Z : Array Value,Z.size = 24 ∧ W2.heap[w.heap.size + 1]? = some (.cells Z 26 (0,0)) := ⟨_,rfl,n2⟩
 clear n2
 obtain ⟨g,hg⟩ : ∃ g,w.heap.size = g := ⟨_,rfl⟩
 rw [hg] at n1 n3 ⊢
 obtain ⟨g1,hg1⟩ : ∃ h,g + 1 = h := ⟨_,rfl⟩
 rw [hg1] at n3 ⊢
 obtain ⟨c0,c1,c2,c3⟩ := agu n1
 have z1 : Obj.frozenAt 1 W2.heap[g]? = false := by rw [n1]; rfl
 have z2 : Obj.frozenAt 2 W2.heap[g]? = false := by rw [n1]; rfl
 go_upto_region 2 with fail
 have q1 : ((W2.setCell ⟨g,1,none⟩ (.int .i64 (nx : Int))).setCell ⟨g,2,none⟩ (.int .i64 (ny : Int))).heap[g]? = some (.cells (dI k nx ny a A) 26 (0,0)) := by
  rw [cu,cu,n1]
  simp [dI,Obj.aj0]
 have q2 : ((W2.setCell ⟨g,1,none⟩ (.int .i64 (nx : Int))).setCell ⟨g,2,none⟩ (.int .i64 (ny : Int))).heap[g1]? = some (.cells Z 26 (0,0)) := by
  rw [bn _ _ _ _ _ (by omega),bn _ _ _ _ _ (by omega)]
  exact n3
 have F3 : Fr F0 w ((W2.setCell ⟨g,1,none⟩ (.int .i64 (nx : Int))).setCell ⟨g,2,none⟩ (.int .i64 (ny : Int))) := (f2.setCell (fun h => by have : g < w.heap.size := h; omega) _).setCell (fun h => by have : g < w.heap.size := h; omega) _
 generalize (W2.setCell ⟨g,1,none⟩ (.int .i64 (nx : Int))).setCell ⟨g,2,none⟩ (.int .i64 (ny : Int)) = W3 at *
 have oS := afn k nx ny a A
 have sz := aar k nx ny a A
 have HF := Lib.hid (And.intro F3 (show w.heap.size ≤ g1 by omega))
 clear n1 c0 c1 c2 c3 z1 z2 f2 F3 k1 k2 k3 k4 hg hg1
 go_wp2_with fail
 refine bodyPost_ret (results_cell_row rfl _ _ g1 _ _ _ _ rfl (by rw [bf,q2]; rfl) Tryz.underlying26 rfl (by rw [Tryz.szDeed20,sz])) rfl ?_
 exact ⟨rfl,HF.out.1.setRow (fun h => by have : g1 < w.heap.size := h; have := HF.out.2; omega) _⟩
def usC : Array Value := #[.int .u64 2000,.int .u64 1500,.int .u64 1200,.int .u64 100,.int .u64 50,.int .u64 10,.int .u64 10,.int .u64 10,.int .u64 50,.int .u64 100,.int .u64 10]
def usR (k : Nat) : Nat := match k with
 |0 => 2000 | 1 => 1500 | 2 => 1200 | 3 => 100 | 4 => 50 | 5 => 10 | 6 => 10 | 7 => 10 | 8 => 50 | 9 => 100 | _ => 10
theorem Tryz.szBRules : (Tryz.prog.info? 38).map (·.size) = some 11 := by kernel_rfl
theorem Tryz.szRRules20 : (Tryz.prog.info? 42).map (·.size) = some 11 := by kernel_rfl
@[go_sem ↓ high] theorem aF3 (p : Value) : Instr.loadAt 38 p = gu 38 p := rfl
@[go_sem ↓ high] theorem aCk (p v : Value) : Instr.storeAt 38 p v = jd 38 p v := rfl
@[go_sem ↓ high] theorem aFz (p : Value) : Instr.loadAt 42 p = gu 42 p := rfl
@[go_sem ↓ high] theorem aCh (p v : Value) : Instr.storeAt 42 p v = jd 42 p v := rfl
@[go_sem] theorem au3 (w : World) (g : Nat) (cells : Array Value) : (jd 38 (.pointer (some ⟨g,0,none⟩)) (.agg cells)).run Tryz.prog w = aec Tryz.prog 38 (.pointer (some ⟨g,0,none⟩)) cells g w 11 w.heap[g]? :=
 ou w _ g 11 cells Tryz.szBRules
@[go_sem] theorem au0 (w : World) (g : Nat) (cells : Array Value) : (jd 42 (.pointer (some ⟨g,0,none⟩)) (.agg cells)).run Tryz.prog w = aec Tryz.prog 42 (.pointer (some ⟨g,0,none⟩)) cells g w 11 w.heap[g]? :=
 ou w _ g 11 cells Tryz.szRRules20
def awl (parts : Array (Nat × Value)) : Sem Value := Instr.build 38 parts
@[go_sem ↓ high] theorem build_BR (p : Array (Nat × Value)) : Instr.build 38 p = awl p := rfl
theorem aoo : yg usC := by unfold yg; kernel_rfl
theorem abk (w : World) : Calls Tryz.prog 9 #[] w fun e w' => e = .returned (.agg usC) ∧ Fr F0 w w' := by
 have hb : ∀ W,(awl #[(0,.agg #[.int .u64 2000,.int .u64 1500,.int .u64 1200]),(1,.agg #[.int .u64 100,.int .u64 50]),(2,.int .u64 10),(3,.int .u64 10),(4,.int .u64 10),(5,.int .u64 50),(6,.int .u64 100),(7,.int .u64 10)]).run Tryz.prog W = .ok (.agg usC) W := fun W => run_build W _ _ _ (by kernel_rfl)
 have oS := aoo
 have sz : usC.size = 11 := rfl
 go_enter Tryz.func9,Tryz.ntmps9
 go_upto_region 1 with fail
 refine eu fun W1 N => ?_
 have n1 := N.new
 have f1 := N.fr
 clear N
 obtain ⟨g,hg⟩ : ∃ g,w.heap.size = g := ⟨_,rfl⟩
 rw [hg] at n1 ⊢
 have HF := Lib.hid (And.intro f1 (show w.heap.size ≤ g by omega))
 clear f1 hg
 go_wp2_with fail
 refine bodyPost_ret (results_cell_row rfl _ _ g _ _ _ _ rfl (by rw [bf,n1]; rfl) Tryz.underlying38 rfl (by rw [Tryz.szBRules]; rfl)) rfl ?_
 exact ⟨rfl,HF.out.1.setRow (fun h => by have : g < w.heap.size := h; have := HF.out.2; omega) _⟩
end Go.Proofs.YtohckefafbhooaaGreat
