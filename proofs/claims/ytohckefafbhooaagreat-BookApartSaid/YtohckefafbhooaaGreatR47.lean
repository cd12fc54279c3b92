import Derived.Test.YtohckefafbhooaaGreatR43
import Derived.Test.YtohckefafbhooaaGreatR46
import Derived.Test.YtohckefafbhooaaGreatR13
import Derived.Test.YtohckefafbhooaaGreatR41
import Derived.Test.YtohckefafbhooaaGreatR39
import Derived.Test.YtohckefafbhooaaGreatR42
set_option maxRecDepth 100000
set_option maxHeartbeats 64000000
namespace Go.Proofs.YtohckefafbhooaaGreat
set_option linter.unusedVariables false
set_option linter.unusedSimpArgs false
open Go.RowKit
section
variable (x v a : Nat) (w : World)
end
theorem ahc (a b : Int) (w : World) : (Instr.field 76 (.agg #[.int .u64 a,.int .u64 b]) 0).run Tryz.prog w = .ok (.int .u64 a) w := by kernel_rfl
theorem ahb (a b : Int) (w : World) : (Instr.field 76 (.agg #[.int .u64 a,.int .u64 b]) 1).run Tryz.prog w = .ok (.int .u64 b) w := by kernel_rfl
attribute [-go_sem] gq
theorem ahj {S : Nat → Prop} {w : World} {p tp q fp vb : Nat} {M : Bok} (h : KP S w p tp q fp vb M) (hM : M.Ok) : Calls Tryz.prog 34 #[.pointer (some ⟨p,0,none⟩)] w (VsQ w M.vs) := by
 obtain ⟨tob,qp,qob,b,e⟩ := h
 exact afw b hM.vls
theorem aiw {l : List Vlt} {k : Nat} {x : Vlt} (f : Vlt → Nat) (h : l[k]? = some x) : ac7 f (l.take (k + 1)) = ac7 f (l.take k) + f x := by
 rw [List.take_add_one,h,af8]
 show _ + ac7 f [x] = _
 rw [abh,azn,Nat.add_zero]
theorem af7 {l : List Vlt} {k : Nat} (f : Vlt → Nat) : ac7 f (l.take k) ≤ ac7 f l := by
 have := af8 f (l.take k) (l.drop k)
 rw [List.take_append_drop] at this
 omega
theorem ash {S : Nat → Prop} {w : World} {p tp q fp vb : Nat} {M : Bok} (h : KP S w p tp q fp vb M) (hM : M.Ok) : Calls Tryz.prog 14 #[.pointer (some ⟨p,0,none⟩)] w fun e w' => e = .returned (.bool true) ∧ Fr F0 w w' := by
 have H := Lib.hid (fun (W : World) (F : Fr F0 w W) => h.fr0 F)
 have HM := Lib.hid hM
 have hf0 := ahc
 have hf1 := ahb
 have kw : IntKind.u64.wrap ((M.pc : Int) + (M.dep : Int)) = ((M.pc + M.dep : Nat) : Int) := by
  have := hM.held
  have := hM.inn
  have := hM.paid
  rw [IntWalk.u64_in _ (by omega)]; omega
 obtain ⟨n,hn⟩ : ∃ n,M.vs.length = n := ⟨_,rfl⟩
 have HN := Lib.hid hn
 obtain ⟨pd,hpd⟩ : ∃ z,M.pc + M.dep = z := ⟨_,rfl⟩
 have HPD := Lib.hid hpd
 rw [hpd] at kw
 clear h hM hn hpd
 go_enter Tryz.func14,Tryz.ntmps14
 go_wp2_with fail
 (with_reducible refine (adg (H.out w (Fr.refl _ _))).mono ?_); rintro e w1 ⟨rfl,f1⟩
 have F1 := Lib.hid f1
 clear f1
 go_wp2_with fail
 (with_reducible refine (adg (H.out w1 F1.out)).mono ?_); rintro e w2 ⟨rfl,f2⟩
 replace F1 := Lib.hid (F1.out.trans' f2)
 clear f2
 go_wp2_with fail
 (with_reducible refine (ai9 (H.out w2 F1.out)).mono ?_); rintro e w3 ⟨rfl,e3⟩
 replace e3 := e3.symm
 subst e3
 go_wp2_with fail
 (with_reducible refine (ahj (H.out _ F1.out) HM.out).mono ?_); rintro e w4 ⟨gb,v,rfl,hbx,f4⟩
 replace F1 := Lib.hid (F1.out.trans' f4)
 replace hbx := Lib.hid hbx
 clear f4
 go_wp2_with fail
 (with_reducible refine (ajl hbx.out (by have := HM.out.len; omega)).mono ?_); rintro e w5 ⟨a,c,rfl,ho,f5⟩
 have F := Lib.hid (F1.out.trans' f5)
 rw [HN.out] at ho ⊢
 have HV := Lib.hid ho
 clear f5 ho F1 hbx kw
 go_wp2_with fail
 go_loopw [3,4,20] (fun sI sC iv wr => ∃ k : Nat,k ≤ n ∧ iv = .int .i64 (k : Int) ∧ sI = .int .u64 ((M.pn + ac7 Vlt.iss (M.vs.take k) : Nat) : Int) ∧ sC = .int .u64 ((pd + ac7 Vlt.coll (M.vs.take k) : Nat) : Int) ∧ Fr F0 w5 wr) (fun _ _ iv _ => n - (intOf iv).toNat)
 case atStart => exact ⟨0,by omega,rfl,rfl,rfl,Fr.refl _ _⟩
 case round =>
  obtain ⟨k,hk,rfl,rfl,rfl,f⟩ := hrel
  have h1t := af7 (l := M.vs) (k := k) Vlt.iss
  have h2t := af7 (l := M.vs) (k := k) Vlt.coll
  have h5t := HM.out.tok
  have h6t := HM.out.most
  have h7t := HM.out.held
  have h8t := HM.out.inn
  have h9t := HM.out.paid
  have h10t := HPD.out
  by_cases h1 : k < n
  ·have l1 : (k : Int) < (n : Int) := by omega
   obtain ⟨g,rfl⟩ := uj.agk HV.out h1
   have hr := List.getElem?_eq_getElem (show k < M.vs.length by have := HN.out; omega)
   obtain ⟨x,hx⟩ : ∃ x,M.vs[k]'(by have := HN.out; omega) = x := ⟨_,rfl⟩
   rw [hx] at hr
   have lds := uj.ar5 zh Tryz.underlying72 rfl Tryz.szBVault (HV.out.fr0 f) k x hr
   have oS : yg (ad9 x).toArray := ru x
   have sz := zh x
   have h3t := aiw Vlt.iss hr
   have h4t := aiw Vlt.coll hr
   have h11t := af7 (l := M.vs) (k := k + 1) Vlt.iss
   have h12t := af7 (l := M.vs) (k := k + 1) Vlt.coll
   have k1 : IntKind.i64.wrap ((k : Int) + 1) = ((k + 1 : Nat) : Int) := by rw [IntWalk.i64_in _ (by have := HM.out.len; have := HN.out; omega)]; omega
   have k2 : IntKind.u64.wrap (((M.pn + ac7 Vlt.iss (M.vs.take k) : Nat) : Int) + (x.iss : Int)) = ((M.pn + ac7 Vlt.iss (M.vs.take (k + 1)) : Nat) : Int) := by
    rw [IntWalk.u64_in _ (by omega)]; omega
   have k3 : IntKind.u64.wrap (((pd + ac7 Vlt.coll (M.vs.take k) : Nat) : Int) + (x.coll : Int)) = ((pd + ac7 Vlt.coll (M.vs.take (k + 1)) : Nat) : Int) := by
    rw [IntWalk.u64_in _ (by omega)]; omega
   obtain ⟨s1,hs1⟩ : ∃ z,M.pn + ac7 Vlt.iss (M.vs.take k) = z := ⟨_,rfl⟩
   obtain ⟨s2,hs2⟩ : ∃ z,pd + ac7 Vlt.coll (M.vs.take k) = z := ⟨_,rfl⟩
   obtain ⟨s3,hs3⟩ : ∃ z,M.pn + ac7 Vlt.iss (M.vs.take (k + 1)) = z := ⟨_,rfl⟩
   obtain ⟨s4,hs4⟩ : ∃ z,pd + ac7 Vlt.coll (M.vs.take (k + 1)) = z := ⟨_,rfl⟩
   have HS := Lib.hid (And.intro hs3 hs4)
   rw [hs1,hs3] at k2
   rw [hs2,hs4] at k3
   rw [hs1,hs2]
   have HF := Lib.hid f
   have HK := Lib.hid h1
   clear hr hx f h1 hk h1t h2t h3t h4t h5t h6t h7t h8t h9t h10t h11t h12t hs1 hs2 hs3 hs4
   go_upto_region 5 with fail
   refine jc fun W3 N => ?_
   have hV : VX W3 wr.heap.size x := N.new
   have c1 := hV.coll
   have c2 := hV.iss
   have F3 := Lib.hid (HF.out.trans' N.fr)
   clear N lds oS sz hV
   obtain ⟨b,hb⟩ : ∃ g,wr.heap.size = g := ⟨_,rfl⟩
   rw [hb] at c1 c2 ⊢
   clear hb
   go_wp2_with fail
   go_roundw
   case rel => exact ⟨k + 1,HK.out,rfl,by rw [HS.out.1],by rw [HS.out.2],F3.out⟩
   case measure => have := HK.out; simp [intOf]; omega
  ·obtain rfl : k = n := by omega
   have l1 : ¬ (k : Int) < (k : Int) := by omega
   have ht : M.vs.take k = M.vs := by rw [← HN.out,List.take_length]
   rw [ht] at h1t h2t ⊢
   have e1 : (((M.pn + ac7 Vlt.iss M.vs : Nat) : Int) == ((uy M.tok 256 : Nat) : Int)) = true := beq_iff_eq.2 (by omega)
   have e2 : (((pd + ac7 Vlt.coll M.vs : Nat) : Int) == (M.held : Int)) = true := beq_iff_eq.2 (by omega)
   obtain ⟨s1,hs1⟩ : ∃ z,M.pn + ac7 Vlt.iss M.vs = z := ⟨_,rfl⟩
   obtain ⟨s2,hs2⟩ : ∃ z,pd + ac7 Vlt.coll M.vs = z := ⟨_,rfl⟩
   rw [hs1] at e1 ⊢
   rw [hs2] at e2 ⊢
   replace F := Lib.hid (F.out.trans' f)
   clear f hk h1 h1t h2t h5t h6t h7t h8t h9t h10t hs1 hs2 ht
   have HT := Lib.hid (ai8 (H.out wr F.out) HM.out)
   obtain ⟨tt,htt⟩ : ∃ z,uy M.tok 256 = z := ⟨_,rfl⟩
   rw [htt] at HT e1
   clear htt
   go_wp2_with fail
   (with_reducible refine (agc (H.out wr F.out)).mono ?_); rintro e w6 ⟨rfl,e6⟩
   replace e6 := e6.symm
   subst e6
   go_wp2_with fail
   (with_reducible refine HT.out.mono ?_); rintro e w7 ⟨rfl,f7⟩
   have F7 := Lib.hid (F.out.trans' f7)
   clear f7
   go_wp2_with fail
   (with_reducible refine (ad1 (H.out _ F7.out)).mono ?_); rintro e w8 ⟨rfl,e8⟩
   replace e8 := e8.symm
   subst e8
   go_wp2_with fail
   (with_reducible refine (al7 (H.out _ F7.out)).mono ?_); rintro e w9 ⟨rfl,f9⟩
   have F9 := Lib.hid (F7.out.trans' f9)
   clear f9
   go_wp2_with fail
   go_ret
   exact ⟨rfl,F9.out⟩
end Go.Proofs.YtohckefafbhooaaGreat
namespace Go.Proofs.YtohckefafbhooaaGreat
set_option linter.unusedVariables false
set_option linter.unusedSimpArgs false
open Go.RowKit
attribute [-go_sem] gq
theorem ako (w : World) (xs : Array Value) : (part 68 xs 1).run Tryz.prog w = .ok (.agg (xs.extract 1 21)) w := by kernel_rfl
theorem aFi (x : Vlt) : (cB x).extract 1 21 = ((a20 x.addr).map B8).toArray := by
 unfold cB ad9
 rw [List.extract_toArray]
 refine congrArg List.toArray ?_
 rw [List.extract_eq_take_drop,List.drop_succ_cons,List.drop_zero,List.take_append_of_le_length (by rw [List.length_map,vk]; omega),List.take_of_length_le (by rw [List.length_map,vk]; omega)]
theorem aiq (x : Vlt) (k : Nat) : (cB x)[21 + k]? = [Value.int .u64 (x.coll : Int),.int .u64 (x.iss : Int),.int .u64 (x.com : Int),.int .u64 (x.goi : Int),.int .u64 (x.lea : Int),.bool x.fal][k]? := by
 rw [← ag5 x k]
 unfold cB
 simp
theorem yc {d : Nat} {xs ys : Array Value} {f : Field} {fs : List Field} {a b : Value} {w : World} (hn : (f.name != "_") = true) (A : (part f.type xs f.offset).run Tryz.prog w = .ok a w) (B : (part f.type ys f.offset).run Tryz.prog w = .ok b w)
  (E : (Op.equalIn d f.type a b).run Tryz.prog w = .ok true w) (T : (Op.eqFields d xs ys fs).run Tryz.prog w = .ok true w) : (Op.eqFields d xs ys (f :: fs)).run Tryz.prog w = .ok true w := by
 have hn' : f.name ≠ "_" := by simpa using hn
 simp only [Op.eqFields,hn',ne_eq,not_false_eq_true,if_true,Sem.run_bind,A,B,E,Result.andThen_ok]
 simpa using T
theorem aln (d : Nat) (w : World) (a : Int) : (Op.equalIn (d + 1) 36 (.int .u64 a) (.int .u64 a)).run Tryz.prog w = .ok true w := by rw [run_equalIn_int w d 36 .u64 .u64 _ _ Tryz.underlying36,beq_self_eq_true]
theorem aJ4 (d : Nat) (w : World) (a : Int) : (Op.equalIn (d + 1) 66 (.int .u8 a) (.int .u8 a)).run Tryz.prog w = .ok true w := by rw [run_equalIn_int w d 66 .u8 .u8 _ _ Tryz.underlying66,beq_self_eq_true]
theorem aEv (d : Nat) (w : World) (a : Bool) : (Op.equalIn (d + 1) 4 (.bool a) (.bool a)).run Tryz.prog w = .ok true w := by rw [run_equalIn_bool' w d 4 _ _ Tryz.underlying4,beq_self_eq_true]
theorem awf (d : Nat) (w : World) (l : List UInt8) (hl : l.length = 20) : (Op.equalIn (d + 2) 68 (.agg (l.map B8).toArray) (.agg (l.map B8).toArray)).run Tryz.prog w = .ok true w := by
 obtain ⟨i0,hi,-,-,-⟩ := info_parts Tryz.infoU8
 rw [run_equalIn_array w (d + 1) (t := 68) (e := 5) (n := 20) _ _ Tryz.underlying68 hi,show Tryz.prog.cellsOf 5 = 1 by kernel_rfl,aax w 5 d (by kernel_rfl) Tryz.underlying5 _ _ 20 hl hl _ (fun j hj => List.mem_range.1 hj)]
 have : ((List.range 20).all fun i => decide (l.getD i 0 = l.getD i 0)) = true := by
  rw [List.all_eq_true]
  intro j _
  exact decide_eq_true rfl
 rw [this]
theorem aJ5 (d : Nat) (w : World) (x : Vlt) : (Op.equalIn (d + 3) 72 (.agg (cB x)) (.agg (cB x))).run Tryz.prog w = .ok true w := by
 have hf : Tryz.prog.fieldsOf 72 = (match Tryz.prog.underlying 72 with | some (.struct fs) => fs | _ => #[]) := rfl
 rw [Tryz.underlying72] at hf
 have hu : Tryz.prog.underlying 72 = some (.struct (Tryz.prog.fieldsOf 72)) := by rw [hf,Tryz.underlying72]
 rw [run_equalIn_struct w (d + 2) 72 _ _ hu (by kernel_rfl),hf]
 have pk : Tryz.prog.plainKey 36 = true := by kernel_rfl
 have pw : Tryz.prog.plainKey 66 = true := by kernel_rfl
 have pb : Tryz.prog.plainKey 4 = true := by kernel_rfl
 have A0 : (part 66 (cB x) 0).run Tryz.prog w = .ok (.int .u8 (x.who : Int)) w := run_part_plain w pw rfl
 have A1 : (part 68 (cB x) 1).run Tryz.prog w = .ok (.agg ((a20 x.addr).map B8).toArray) w := by rw [ako,aFi]
 have A2 : (part 36 (cB x) 21).run Tryz.prog w = .ok (.int .u64 (x.coll : Int)) w := run_part_plain w pk (aiq x 0)
 have A3 : (part 36 (cB x) 22).run Tryz.prog w = .ok (.int .u64 (x.iss : Int)) w := run_part_plain w pk (aiq x 1)
 have A4 : (part 36 (cB x) 23).run Tryz.prog w = .ok (.int .u64 (x.com : Int)) w := run_part_plain w pk (aiq x 2)
 have A5 : (part 36 (cB x) 24).run Tryz.prog w = .ok (.int .u64 (x.goi : Int)) w := run_part_plain w pk (aiq x 3)
 have A6 : (part 36 (cB x) 25).run Tryz.prog w = .ok (.int .u64 (x.lea : Int)) w := run_part_plain w pk (aiq x 4)
 have A7 : (part 4 (cB x) 26).run Tryz.prog w = .ok (.bool x.fal) w := run_part_plain w pb (aiq x 5)
 refine yc rfl A0 A0 (aJ4 _ _ _) ?_
 refine yc rfl A1 A1 (awf _ _ _ (vk _)) ?_
 refine yc rfl A2 A2 (aln _ _ _) ?_
 refine yc rfl A3 A3 (aln _ _ _) ?_
 refine yc rfl A4 A4 (aln _ _ _) ?_
 refine yc rfl A5 A5 (aln _ _ _) ?_
 refine yc rfl A6 A6 (aln _ _ _) ?_
 refine yc rfl A7 A7 (aEv _ _ _) ?_
 rfl
theorem awz (w : World) (x : Vlt) : (binOp .neq 72 (.agg (cB x)) (.agg (cB x))).run Tryz.prog w = .ok (.bool false) w := by
 rw [run_neq_struct,aJ5 9997]
 rfl
theorem aw0 (w : World) (l : List UInt8) (hl : l.length = 20) : (binOp .neq 68 (.agg (l.map B8).toArray) (.agg (l.map B8).toArray)).run Tryz.prog w = .ok (.bool false) w := by
 rw [run_neq_struct,awf 9998 w l hl]
 rfl
def VY (w : World) (g : Nat) (x : Vlt) : Prop := w.heap[g]? = some (.cells (aao x).toArray 111 (0,0))
section
variable {w w' : World} {g : Nat} {x : Vlt}
theorem VY.cellT (h : VY w g x) (k : Nat) : w.cell? ⟨g,21 + k,none⟩ = [Value.int .u64 (x.coll : Int),.int .u64 (x.iss : Int),.int .u64 (x.com : Int),.int .u64 (x.goi : Int),.int .u64 (x.lea : Int),.bool x.fal][k]? := by
 unfold VY at h
 rw [← amg x k]
 simp [World.cell?,h]
theorem VY.cell0 (h : VY w g x) : w.cell? ⟨g,0,none⟩ = some (.int .i64 (x.who : Int)) := aj1 h
theorem VY.addr (h : VY w g x) (hx : x.addr.length = 20) : (gu 24 (.pointer (some ⟨g,1,none⟩))).run Tryz.prog w = .ok (.agg (x.addr.map B8).toArray) w := by
 refine run_loadAt_mid (P := Tryz.prog) w g 1 24 (x.addr.map B8) _ (fun j u hj => ?_) Tryz.underlying24 rfl (by rw [Tryz.szA20b,List.length_map,hx])
 have hj' : j < 20 := by have := (List.getElem?_eq_some_iff.1 hj).1; simpa [hx] using this
 unfold VY at h
 rw [gq,h,jg]
 unfold aao
 rw [agn hx,List.getElem?_toArray,Nat.add_comm,List.getElem?_cons_succ,List.getElem?_append_left (by rw [List.length_map,hx]; exact hj')]
 exact hj
end
end Go.Proofs.YtohckefafbhooaaGreat
