import Derived.Test.YtedffdlkmpmdlaaGreatDoorFz1
import Derived.Test.YtedffdlkmpmdlaaGreatDoorFz44
import Derived.Test.YtedffdlkmpmdlaaGreatDoorFz40
import Derived.Test.YtedffdlkmpmdlaaGreatDoorFz45
import Derived.Test.YtedffdlkmpmdlaaGreatDoorFz16
import Derived.Test.YtedffdlkmpmdlaaGreatDoorFz42
import Derived.Test.YtedffdlkmpmdlaaGreatDoorFz3
import Derived.Test.YtedffdlkmpmdlaaGreatDoorFz41
set_option maxRecDepth 100000
set_option maxHeartbeats 64000000
namespace Go.Proofs.YtedffdlkmpmdlaaGreatDoor
set_option maxRecDepth 100000
set_option linter.unusedVariables false
set_option linter.unusedSimpArgs false
open Go.RowKit
@[go_sem ↓ high] theorem load_told (p : Value) : Instr.loadAt 49 p = loadRowAt 49 p := rfl
@[go_sem ↓ high] theorem store_told (p v : Value) : Instr.storeAt 49 p v = storeRowAt 49 p v := rfl
def buildTo (parts : Array (Nat × Value)) : Sem Value := Instr.build 49 parts
@[go_sem ↓ high] theorem build_told (p : Array (Nat × Value)) : Instr.build 49 p = buildTo p := rfl
def buildRy (parts : Array (Nat × Value)) : Sem Value := Instr.build 93 parts
@[go_sem ↓ high] theorem build_relay (p : Array (Nat × Value)) : Instr.build 93 p = buildRy p := rfl
end Go.Proofs.YtedffdlkmpmdlaaGreatDoor
namespace Go.Proofs.YtedffdlkmpmdlaaGreatDoor
set_option maxRecDepth 100000
set_option linter.unusedVariables false
set_option linter.unusedSimpArgs false
open Go.RowKit
theorem made13 {w : World} {p : Nat} {R : Array Value} {bm : Nat} {H : List Hd} {L : List Bk} {ps : List Nat} {v : Value} {ch : List (List UInt8)} {e s : Nat} (ri : RI R e s lim0) (I : TI H L ps) (hbits : ∀ i,i < L.length → btP (bkT L i).bits) (T : TM w p R bm H L ps v ch) (hcub : Cub w) (h : Hd) (o : h.Ok) (kind ah late : Int) (rt : UInt8) :
  Calls Tryz.prog 11 #[.pointer (some ⟨p,0,none⟩),.agg h.cells,.agg #[.int .i64 kind,.int .i64 ah,.int .i32 late,B8 rt]] w fun ed w' => (∃ n : Nat,n < 4294967296 ∧ ed = .returned (.agg ((mkM (mkK kind (mk0 h late rt (bitA L e s lim0 (sha2 h.bytes))))).with n).cells) ∧ (¬ kind = 2 → n = (mkM (mkK kind (mk0 h late rt (bitA L e s lim0 (sha2 h.bytes))))).nonce)) ∧ Fr F0 w w' := by
 refine (Made12_any hHashC hMineC hCheckC (.pointer (some ⟨p,0,none⟩)) (bitA L e s lim0) (bitZ L) (fun A => bitA_lt I.wf A) h o kind ah late rt w hcub (Lib.hid fun A hA w' f' => kBits_any decC encTC scaleC ri I (T.fr f') hbits A hA)).mono ?_
 rintro ed w' ⟨n,hn,rfl,h2,f'⟩
 exact ⟨⟨n,hn,rfl,h2⟩,f'⟩
def buildSt (parts : Array (Nat × Value)) : Sem Value := Instr.build 38 parts
@[go_sem ↓ high] theorem build_st12 (p : Array (Nat × Value)) : Instr.build 38 p = buildSt p := rfl
end Go.Proofs.YtedffdlkmpmdlaaGreatDoor
namespace Go.Proofs.YtedffdlkmpmdlaaGreatDoor
set_option maxRecDepth 100000
set_option linter.unusedVariables false
set_option linter.unusedSimpArgs false
open Go.RowKit
structure FSt (w W : World) (R : Array Value) (p bm : Nat) (H : List Hd) (L : List Bk) (ps : List Nat) (v : Value) (tv : Value) (tl : List Hd) : Prop where
 plen : ps.length = L.length
 T : TM W p R bm H L ps v (chn L)
 Q : OwnHd W tv tl
 F : Fr F0 w W
 lo : ∀ j,TS p bm ps v j ∨ tv.ownBlock = some j → w.heap.size ≤ j
section
variable {w W W' : World} {R : Array Value} {p bm : Nat} {H : List Hd} {L : List Bk} {ps : List Nat} {v : Value} {tv : Value} {tl : List Hd}
theorem FSt.fr (S : FSt w W R p bm H L ps v tv tl) (f : Fr F0 W W') : FSt w W' R p bm H L ps v tv tl := ⟨S.plen,S.T.fr f,S.Q.fr f,S.F.trans' f,S.lo⟩
theorem FSt.apart (S : FSt w W R p bm H L ps v tv tl) : ∀ j,tv.ownBlock = some j → ¬ TS p bm ps v j := fun j hj => by
 obtain ⟨cur,hc⟩ := S.Q.block hj
 exact S.T.apart S.plen hc (by decide) (by decide) (by decide)
theorem FSt.add (S : FSt w W R p bm H L ps v tv tl) (f : Fr (TS p bm ps v) W W') {H' : List Hd} {L' : List Bk} {qn : Nat} {v' : Value} (T' : TM W' p R bm H' L' (ps ++ [qn]) v' (chn L')) (hl : L'.length = L.length + 1)
  (hq : W.heap.size ≤ qn) (hv : ∀ j,v'.ownBlock = some j → v.ownBlock = some j ∨ W.heap.size ≤ j) : FSt w W' R p bm H' L' (ps ++ [qn]) v' tv tl := by
 have hs := S.F.size
 refine ⟨by rw [List.length_append,List.length_singleton,hl,S.plen],T',S.Q.frS f fun j hj e => S.apart j hj e,low_trans S.F f fun j hj => S.lo j (.inl hj),fun j hj => ?_⟩
 rcases hj with (hj | hj | hj | hj) | hj
 ·exact S.lo j (.inl (.inl hj))
 ·exact S.lo j (.inl (.inr (.inl hj)))
 ·rw [List.mem_append,List.mem_singleton] at hj
  rcases hj with hj | rfl
  ·exact S.lo j (.inl (.inr (.inr (.inl hj))))
  ·exact Nat.le_trans hs hq
 ·rcases hv j hj with hj | hj
  ·exact S.lo j (.inl (.inr (.inr (.inr hj))))
  ·exact Nat.le_trans hs hj
 ·exact S.lo j (.inr hj)
theorem FSt.try (S : FSt w W R p bm H L ps v tv tl) (f : Fr (fun j => tv.ownBlock = some j) W W') {tv2 : Value} {tl2 : List Hd} (o : OwnHd W' tv2 tl2) (hv : ∀ j,tv2.ownBlock = some j → tv.ownBlock = some j ∨ W.heap.size ≤ j) : FSt w W' R p bm H L ps v tv2 tl2 := by
 have hs := S.F.size
 refine ⟨S.plen,S.T.keepS S.plen f fun j hj e => S.apart j e hj,o,low_trans S.F f fun j hj => S.lo j (.inr hj),fun j hj => ?_⟩
 rcases hj with hj | hj
 ·exact S.lo j (.inl hj)
 ·rcases hv j hj with hj | hj
  ·exact S.lo j (.inr hj)
  ·exact Nat.le_trans hs hj
theorem FSt.keep (S : FSt w W R p bm H L ps v tv tl) (f : Fr (TS p bm ps v) W W') {j : Nat} {A : Array Value} {t : TypeId} {f' : Nat × Nat} (h : W.heap[j]? = some (.cells A t f')) (h1 : t ≠ 80) (h2 : t ≠ 77) (h3 : t ≠ 25) : W'.heap[j]? = some (.cells A t f') :=
 f.keeps (fun e => S.T.apart S.plen h h1 h2 h3 e) h
end
theorem OwnHd.nil (w : World) : OwnHd w (.slice none 0 0) [] := ⟨World.ownsRow_nil _ _ _ _,fun _ h => by cases h⟩
theorem run_buildStR (w : World) (x : Int) : (buildSt #[(2,.int .i32 10),(3,.int .u8 x)]).run Tryz.prog w = .ok (.agg #[.int .i64 0,.int .i64 0,.int .i32 10,.int .u8 x]) w := run_build w _ _ _ (by kernel_rfl)
theorem ro8_B8 {r : Nat} (h : r < 256) : B8 (ro8 r) = .int .u8 (r : Int) := by
 unfold B8 ro8
 rw [UInt8.toNat_ofNat',Nat.mod_eq_of_lt h]
theorem tips_at (sd : Nat) {m j : Nat} (h : j < m) : hdT ((List.range m).map (f1 sd)) j = f1 sd j := by
 unfold hdT
 rw [List.getD_eq_getElem?_getD,List.getElem?_map,List.getElem?_range h]
 rfl
theorem made1_any {w W : World} {R : Array Value} {p bm sd : Nat} {H : List Hd} {ps : List Nat} {v tv : Value} {tl : List Hd} {i : Nat} (hi : i ≤ 16) (ri : RI R 7 501 lim0) (I : TI H (L1 sd i) ps) (low : Low (L1 sd i)) (S : FSt w W R p bm H (L1 sd i) ps v tv tl) (hcub : Cub w) (j : Nat) :
  Calls Tryz.prog 11 #[.pointer (some ⟨p,0,none⟩),.agg Fh.cells,.agg #[.int .i64 0,.int .i64 0,.int .i32 10,.int .u8 ((rt sd j : Nat) : Int)]] W fun e w' => e = .returned (.agg (f1 sd j).cells) ∧ Fr F0 W w' := by
 have hf : findM (L1 sd i) (sha2 Fh.bytes) = ((0 : Nat) : Int) := by
  have := findM_at I.nh I.pos
  rw [L1_at0,b0_hash] at this
  exact this
 have hb : bitA (L1 sd i) 7 501 lim0 (sha2 Fh.bytes) = 545259519 := by
  unfold bitA
  rw [hf,if_neg (by omega),Int.toNat_natCast]
  exact (low.tb (EQ1 sd i) I.wf (s := 501)).2 0 I.pos
 have := made13 ri I (low.tb (EQ1 sd i) I.wf (s := 501)).1.bits S.T (hcub.fr S.F fun f => f) Fh Fh.ok 0 0 10 (ro8 (rt sd j))
 rw [ro8_B8 (rt_lt sd j),hb,made1] at this
 refine this.mono ?_
 rintro e w' ⟨⟨n,_,rfl,h2⟩,f⟩
 rw [h2 (by decide)]
 exact ⟨rfl,f⟩
theorem made2_any {w W : World} {R : Array Value} {p bm sd : Nat} {H : List Hd} {ps : List Nat} {v tv : Value} {tl : List Hd} {j : Nat} (hj : j < 16) (ri : RI R 7 501 lim0) (I : TI H (L2 sd j) ps) (low : Low (L2 sd j)) (S : FSt w W R p bm H (L2 sd j) ps v tv tl) (hcub : Cub w) :
  Calls Tryz.prog 11 #[.pointer (some ⟨p,0,none⟩),.agg (f1 sd j).cells,.agg #[.int .i64 0,.int .i64 0,.int .i32 10,.int .u8 (j : Int)]] W fun e w' => e = .returned (.agg (f2 sd j).cells) ∧ Fr F0 W w' := by
 have hlen := L2_len sd j
 have hf : findM (L2 sd j) (sha2 (f1 sd j).bytes) = ((j + 1 : Nat) : Int) := by
  have := findM_at I.nh (i := j + 1) (by omega)
  rw [L2_at sd j (by omega),L1_at sd hj] at this
  exact this
 have hb : bitA (L2 sd j) 7 501 lim0 (sha2 (f1 sd j).bytes) = 545259519 := by
  unfold bitA
  rw [hf,if_neg (by omega),Int.toNat_natCast]
  exact (low.tb (EQ2 sd j) I.wf (s := 501)).2 (j + 1) (by omega)
 have := made13 ri I (low.tb (EQ2 sd j) I.wf (s := 501)).1.bits S.T (hcub.fr S.F fun f => f) (f1 sd j) (f1_meets sd j).2 0 0 10 (ro8 j)
 rw [ro8_B8 (by omega),hb,made2 sd hj] at this
 refine this.mono ?_
 rintro e w' ⟨⟨n,_,rfl,h2⟩,f⟩
 rw [h2 (by decide)]
 exact ⟨rfl,f⟩
theorem add1_any {w W : World} {R : Array Value} {p bm sd : Nat} (hsd : sd < 256) {H : List Hd} {ps : List Nat} {v tv : Value} {tl : List Hd} {i : Nat} (hi : i ≤ 16) (ri : RI R 7 501 lim0) (I : TI H (L1 sd i) ps) (low : Low (L1 sd i)) (S : FSt w W R p bm H (L1 sd i) ps v tv tl) (hcub : Cub w) :
  Calls Tryz.prog 12 #[.pointer (some ⟨p,0,none⟩),.agg (f1 sd i).cells] W fun ed w' => ed = .returned (.int .i64 (if i < 16 then 0 else 10)) ∧ (¬ i < 16 → Fr F0 W w') ∧
   (i < 16 → (∃ H' ps' v',TI H' (L1 sd (i + 1)) ps' ∧ Low (L1 sd (i + 1)) ∧ FSt w w' R p bm H' (L1 sd (i + 1)) ps' v' tv tl) ∧ Fr (TS p bm ps v) W w') := by
 have hc := fchk1 hsd hi low I 501
 refine (kAdd_any ri I (low.tb (EQ1 sd i) I.wf (s := 501)).1 S.T (f1 sd i) (f1_meets sd i).2 vF vF rfl (hcub.fr S.F fun f => f)).mono ?_
 rintro ed w' ⟨rfl,h1,h2⟩
 rw [hc] at h1 h2 ⊢
 refine ⟨rfl,fun h => h1 (by rw [if_neg h]; decide),fun h => ?_⟩
 obtain ⟨i2,hi2,qn,v',nb,T',hq,hv,f⟩ := h2 (if_pos h)
 have hf : findM (L1 sd i) (f1 sd i).ahead = ((0 : Nat) : Int) := by
  have := findM_at I.nh I.pos
  rw [L1_at0,b0_hash,Fh.sum] at this
  rw [show (f1 sd i).ahead = hashF from hw0_ok.2.2]
  exact this
 obtain rfl : i2 = 0 := by rw [hf] at hi2; omega
 have S' := S.add f T' (by simp) hq hv
 have I' := I.snoc nb
 have low' := low.snoc I.wf nb.ob nb.hi nb.up (by rw [anc1_0 I.wf]; decide)
 rw [← L1_succ] at S' I' low'
 exact ⟨⟨_,_,_,I',low',S'⟩,f⟩
theorem add2_any {w W : World} {R : Array Value} {p bm sd : Nat} (hsd : sd < 256) {H : List Hd} {ps : List Nat} {v tv : Value} {tl : List Hd} {j : Nat} (hj : j < 16) (ri : RI R 7 501 lim0) (I : TI H (L2 sd j) ps) (low : Low (L2 sd j)) (S : FSt w W R p bm H (L2 sd j) ps v tv tl) (hcub : Cub w) :
  Calls Tryz.prog 12 #[.pointer (some ⟨p,0,none⟩),.agg (f2 sd j).cells] W fun ed w' => ed = .returned (.int .i64 0) ∧
   (∃ H' ps' v',TI H' (L2 sd (j + 1)) ps' ∧ Low (L2 sd (j + 1)) ∧ FSt w w' R p bm H' (L2 sd (j + 1)) ps' v' tv tl) ∧ Fr (TS p bm ps v) W w' := by
 have hc := fchk2 hsd hj low I 501
 have hlen := L2_len sd j
 refine (kAdd_any ri I (low.tb (EQ2 sd j) I.wf (s := 501)).1 S.T (f2 sd j) (f2_meets sd hj).2 vF vF rfl (hcub.fr S.F fun f => f)).mono ?_
 rintro ed w' ⟨rfl,h1,h2⟩
 rw [hc] at h2 ⊢
 refine ⟨rfl,?_⟩
 obtain ⟨i2,hi2,qn,v',nb,T',hq,hv,f⟩ := h2 rfl
 have hf : findM (L2 sd j) (f2 sd j).ahead = ((j + 1 : Nat) : Int) := by
  have := findM_at I.nh (i := j + 1) (by omega)
  rw [L2_at sd j (by omega),L1_at sd hj] at this
  rw [show (f2 sd j).ahead = (nbB (f1 sd j) vF 0).hash from (f1_sum sd j).symm]
  exact this
 obtain rfl : i2 = j + 1 := by rw [hf] at hi2; omega
 have S' := S.add f T' (by simp) hq hv
 have I' := I.snoc nb
 have low' := low.snoc I.wf nb.ob nb.hi nb.up (by rw [anc2_1 I.wf hj]; exact Nat.le_refl 2)
 rw [← L2_succ] at S' I' low'
 exact ⟨⟨_,_,_,I',low',S'⟩,f⟩
theorem L2_start (sd : Nat) : L1 sd 16 = L2 sd 0 := (L2_zero sd).symm
theorem treeForks_any (sd : Nat) (hsd : sd < 256) (w : World) (hcub : Cub w) :
  Calls Tryz.prog 3 #[.int .u8 (sd : Int)] w fun ed w' => ed = .returned (.bool true) ∧ Fr F0 w w' := by
 have HC := Lib.hid hcub
 have HL := Lib.hid (fun W (f : Fr F0 w W) => lives12_any W (hcub.fr f fun f => f))
 have HR := Lib.hid (fun W (f : Fr F0 w W) => show Calls Tryz.prog 9 #[.int .i64 5,.int .u32 500,.int .i64 1] W fun e w' => e = .returned (.agg (ruC 7 501 2)) ∧ Fr F0 W w' from by
  have := Rules12_any hMineC 5 1 500 (by omega) (by omega) (by omega) W (hcub.fr f fun f => f)
  exact this)
 have HN := Lib.hid (fun W (f : Fr F0 w W) => kNew_any decC hCheckC hHashC workC 7 501 2 (by omega) (by omega) (by omega) (by omega) (by omega) (by omega) vF rfl W (hcub.fr f fun f => f))
 have HLD := Lib.hid (fun W g (h : W.heap[g]? = some (.cells (ruC 7 501 2) 29 (0,0))) => first_load 7 501 2 W g h)
 have hru := ruC_of 7 501 2 (by omega)
 have HRU := Lib.hid (show RI (ruC 7 501 2) 7 501 lim0 from ⟨⟨_,hru⟩,by omega,by omega,by omega,lim0_P⟩)
 have sR := hru.size
 have oR := hru.one
 have HSR := Lib.hid sR
 generalize ruC 7 501 2 = R at *
 have sF : Fh.cells.size = 68 := rfl
 obtain ⟨FC,hFC⟩ : ∃ FC,Fh.cells = FC := ⟨_,rfl⟩
 rw [hFC] at HLD sF
 have oF : rowOne FC := by rw [← hFC]; exact Hd.one
 have HFC := Lib.hid hFC
 have HSD := Lib.hid hsd
 clear hcub hru hFC
 have F := Fr.refl F0 w
 go_enter Tryz.func3,Tryz.ntmps3
 go_wp2_with fail
 (with_reducible refine (HL.out _ F).mono ?_); rintro e1 w1 ⟨rfl,f⟩
 replace F := F.trans' f
 clear f
 go_wp2_with fail
 (with_reducible refine (HR.out _ F).mono ?_); rintro e1 w2 ⟨rfl,f⟩
 replace F := F.trans' f
 clear f
 go_upto_region 4 with fail
 refine wp_put fun W3 N => ?_
 have r3 := N.new
 replace F := F.trans' N.fr
 clear N
 generalize w2.heap.size = g3 at *
 go_wp2_with fail
 (with_reducible refine (HN.out _ F).mono ?_); rintro e1 w4 ⟨⟨p,bm,q,sl,rfl,T,lo⟩,f⟩
 have hW3 := F.size
 replace r3 := keep_fr f r3
 replace F := F.trans' f
 clear f
 have I0 : TI [Fh] (L1 sd 0) [q] := TI_first rfl q
 have low0 : Low (L1 sd 0) := by
  intro k hk
  rw [L1_len] at hk
  obtain rfl : k = 0 := by omega
  rw [anc1_0 I0.wf]
  decide
 have S0 : FSt w w4 R p bm [Fh] (L1 sd 0) [q] (.slice (some ⟨sl,0,none⟩) 1 1) (.slice none 0 0) [] := by
  refine ⟨rfl,T,OwnHd.nil _,F,fun k hk => ?_⟩
  rcases hk with (rfl | rfl | hk | hk) | hk
  ·omega
  ·omega
  ·rw [List.mem_singleton] at hk; omega
  ·cases hk; exact Nat.le_trans hW3 lo.2.2.2
  ·cases hk
 clear T F lo hW3 HN HR HL
 go_upto_region 7 with fail
 go_loopw [6,20] (fun tv iv wr => ∃ (i : Nat) (H : List Hd) (ps : List Nat) (v : Value),iv = .int .i64 (i : Int) ∧ i ≤ 17 ∧ TI H (L1 sd (min i 16)) ps ∧ Low (L1 sd (min i 16)) ∧ FSt w wr R p bm H (L1 sd (min i 16)) ps v tv ((List.range (min i 16)).map (f1 sd)) ∧ wr.heap[g3]? = some (.cells R 29 (0,0))) (fun _ iv _ => 17 - (intOf iv).toNat)
 case atStart => exact ⟨0,[Fh],[q],_,rfl,by omega,I0,low0,S0,r3⟩
 case round =>
  clear S0 I0 low0 r3
  obtain ⟨i,H,ps,v,rfl,hi,I,low,S,r3⟩ := hrel
  by_cases h1 : i < 17
  ·have l1 : (i : Int) < 17 := by omega
   rw [show min i 16 = i by omega] at I low S
   have HM := Lib.hid (fun W (f : Fr F0 wr W) => made1_any (by omega) HRU.out I low (S.fr f) HC.out i)
   rw [HFC.out] at HM
   have c8 : IntKind.u8.wrap (i : Int) = (i : Int) := by rw [IntKind.wrap_u8]; omega
   have a8 : IntKind.u8.wrap ((i : Int) + (sd : Int)) = ((rt sd i : Nat) : Int) := by rw [IntKind.wrap_u8,rt]; omega
   have hbs := fun W => run_buildStR W ((rt sd i : Nat) : Int)
   have k2 : IntKind.i64.wrap ((i : Int) + 1) = ((i + 1 : Nat) : Int) := by rw [IntWalk.i64_in _ (by omega)]; rfl
   generalize rt sd i = ri at *
   have ld := HLD.out _ _ r3
   have HS := Lib.hid (And.intro I (And.intro low S))
   have HK := Lib.hid h1
   have oh := (f1_meets sd i).2
   have sh := Hd.cells_size oh
   have hoh : rowOne (f1 sd i).cells := Hd.one
   obtain ⟨HCl,hHCl⟩ : ∃ HCl,(f1 sd i).cells = HCl := ⟨_,rfl⟩
   rw [hHCl] at HM sh hoh
   have HCe := Lib.hid hHCl
   have G := Fr.refl F0 wr
   clear I low S hHCl oh
   go_wp2_with fail
   (with_reducible refine (HM.out _ G).mono ?_); rintro e1 w5 ⟨rfl,f⟩
   replace r3 := keep_fr f r3
   replace G := G.trans' f
   clear f ld
   go_upto_region 10 with fail
   refine wp_put fun W6 N => ?_
   have r8 := N.new
   replace r3 := N.old r3
   replace G := G.trans' N.fr
   clear N
   generalize w5.heap.size = g8 at *
   have HA := Lib.hid (add1_any HSD.out (by have := HK.out; omega) HRU.out HS.out.1 HS.out.2.1 (HS.out.2.2.fr G) HC.out)
   rw [HCe.out] at HA
   by_cases h16 : i < 16
   ·rw [if_pos h16] at HA
    have e16 : ¬ (i : Int) = 16 := by omega
    have e16b : ((i : Int) == 16) = false := beq_eq_false_iff_ne.2 e16
    have H16 := Lib.hid h16
    clear h16
    go_wp2_with fail
    (with_reducible refine HA.out.mono ?_); rintro e1 w7 ⟨rfl,_,hyes⟩
    obtain ⟨⟨H',ps',v',I',low',S'⟩,f⟩ := hyes H16.out
    replace r8 := (HS.out.2.2.fr G).keep f r8 (by decide) (by decide) (by decide)
    replace r3 := (HS.out.2.2.fr G).keep f r3 (by decide) (by decide) (by decide)
    obtain ⟨a2,c2,W16,hap,o2,f2,hv2⟩ := S'.Q.app (f1 sd i) (f1_meets sd i).2 (by simp; have := H16.out; omega) 35
    have n3 : ∀ j,(u6).ownBlock = some j → j ≠ g3 := fun j hj e => by
     obtain ⟨cur,hc⟩ := S'.Q.block hj
     exact cells_apart hc r3 (by decide) e
    have r3' := f2.keeps (fun e => n3 _ e rfl) r3
    have S16 := S'.try f2 o2 fun k hk => by rw [ablk_own] at hk; exact hv2 k hk
    rw [List.length_map,List.length_range,HCe.out] at hap
    have e9 : (List.range i).map (f1 sd) ++ [f1 sd i] = (List.range (i + 1)).map (f1 sd) := by rw [List.range_succ,List.map_append]; rfl
    rw [e9,List.length_map,List.length_range] at S16
    have HX := Lib.hid (And.intro I' (And.intro low' (And.intro S16 r3')))
    have hbh := fun W => run_buildLHd W HCl sh
    clear I' low' S16 S' o2 f2 hv2 n3 r3' hyes f HA G e9
    go_wp2_with fail
    go_roundw
    case rel =>
     refine ⟨i + 1,H',ps',v',by go_num,by have := H16.out; omega,?_,?_,?_,HX.out.2.2.2⟩
     all_goals rw [show min (i + 1) 16 = i + 1 by have := H16.out; omega]
     ·exact HX.out.1
     ·exact HX.out.2.1
     ·exact HX.out.2.2.1
    case measure => have := H16.out; simp [intOf]; omega
   ·rw [if_neg h16] at HA
    obtain rfl : i = 16 := by have := HK.out; omega
    clear h16
    go_wp2_with fail
    (with_reducible refine HA.out.mono ?_); rintro e1 w7 ⟨rfl,hno,_⟩
    have f := hno (by omega)
    replace r3 := keep_fr f r3
    have HX := Lib.hid (And.intro HS.out.1 (And.intro HS.out.2.1 (And.intro ((HS.out.2.2.fr G).fr f) r3)))
    clear hno f HA G
    go_wp2_with fail
    go_roundw
    case rel => exact ⟨17,H,ps,v,by go_num,by omega,HX.out.1,HX.out.2.1,HX.out.2.2.1,HX.out.2.2.2⟩
    case measure => simp [intOf]
  ·have l1 : ¬ (i : Int) < 17 := by omega
   rw [show min i 16 = 16 by omega] at I low S
   rw [L2_start] at I low S
   obtain ⟨bt,ct,et,_,_⟩ := S.Q.load (show 0 < ((List.range 16).map (f1 sd)).length by simp)
   subst et
   have h16 : ((List.range 16).map (f1 sd)).length = 16 := by simp
   rw [h16] at S ⊢
   generalize wr = wq at *
   clear r3 h16
   go_upto_region 19 with fail
   go_loopw [50] (fun iv wr => ∃ (j : Nat) (H : List Hd) (ps : List Nat) (v : Value),iv = .int .i64 (j : Int) ∧ j ≤ 16 ∧ TI H (L2 sd j) ps ∧ Low (L2 sd j) ∧ FSt w wr R p bm H (L2 sd j) ps v (.slice (some ⟨bt,0,none⟩) 16 ct) ((List.range 16).map (f1 sd))) (fun iv _ => 16 - (intOf iv).toNat)
   case atStart => exact ⟨0,H,ps,v,rfl,by omega,I,low,S⟩
   case round =>
    clear I low S hi h1
    obtain ⟨j,H2,ps2,v2,rfl,hj,I,low,S⟩ := hrel
    by_cases h2 : j < 16
    ·have l2 : (j : Int) < 16 := by omega
     obtain ⟨b7,c7,e7,_,ld0⟩ := S.Q.load (show j < ((List.range 16).map (f1 sd)).length by simp; exact h2)
     rw [tips_at sd h2] at ld0
     rw [List.length_map,List.length_range] at e7
     cases e7
     have ld := ld0 wr (Fr.refl F0 wr)
     have HM := Lib.hid (fun W (f : Fr F0 wr W) => made2_any h2 HRU.out I low (S.fr f) HC.out)
     have c8 : IntKind.u8.wrap (j : Int) = (j : Int) := by rw [IntKind.wrap_u8]; omega
     have hbs := fun W => run_buildStR W (j : Int)
     have k2 : IntKind.i64.wrap ((j : Int) + 1) = ((j + 1 : Nat) : Int) := by rw [IntWalk.i64_in _ (by omega)]; rfl
     have HS := Lib.hid (And.intro I (And.intro low S))
     have HK2 := Lib.hid h2
     have oh := (f1_meets sd j).2
     have sh := Hd.cells_size oh
     have hoh : rowOne (f1 sd j).cells := Hd.one
     generalize (f1 sd j).cells = HCl at *
     have G := Fr.refl F0 wr
     clear I low S oh ld0 hj h2
     go_upto_region 21 with fail
     refine wp_put fun W6 N => ?_
     have r11 := N.new
     replace G := G.trans' N.fr
     clear N ld
     generalize wr.heap.size = g11 at *
     go_wp2_with fail
     (with_reducible refine (HM.out _ G).mono ?_); rintro e1 w7 ⟨rfl,f⟩
     replace G := G.trans' f
     clear f
     have HA := Lib.hid (add2_any HSD.out HK2.out HRU.out HS.out.1 HS.out.2.1 (HS.out.2.2.fr G) HC.out)
     go_wp2_with fail
     (with_reducible refine HA.out.mono ?_); rintro e1 w8 ⟨rfl,⟨H',ps',v',I',low',S'⟩,_⟩
     have HX := Lib.hid (And.intro I' (And.intro low' S'))
     clear I' low' S' HA G r11
     go_wp2_with fail
     go_roundw
     case rel => exact ⟨j + 1,H',ps',v',by go_num,by have := HK2.out; omega,HX.out.1,HX.out.2.1,HX.out.2.2⟩
     case measure => have := HK2.out; simp [intOf]; omega
    ·have l2 : ¬ (j : Int) < 16 := by omega
     obtain rfl : j = 16 := by omega
     have HTi := Lib.hid (fun W (f : Fr F0 wr W) => show Calls Tryz.prog 13 #[.pointer (some ⟨p,0,none⟩)] W fun e w' => e = .returned (.int .i64 16) ∧ Fr F0 W w' from by
      have := kTips_any HSR.out (S.T.fr f)
      rw [tips2 sd 16 (by omega) I.wf] at this
      exact this.mono (by rintro e w' ⟨rfl,rfl⟩; exact ⟨rfl,Fr.refl _ _⟩))
     have HLe := Lib.hid (fun W (f : Fr F0 wr W) => show Calls Tryz.prog 14 #[.pointer (some ⟨p,0,none⟩)] W fun e w' => e = .returned (.int .i64 33) ∧ Fr F0 W w' from by
      have := kLen_any HSR.out (S.T.fr f)
      rw [L2_len] at this
      exact this.mono (by rintro e w' ⟨rfl,rfl⟩; exact ⟨rfl,Fr.refl _ _⟩))
     have F := S.F
     have G := Fr.refl F0 wr
     clear I low S hj h2
     go_wp2_with fail
     (with_reducible refine (HTi.out _ G).mono ?_); rintro e1 w7 ⟨rfl,f⟩
     replace G := G.trans' f
     clear f
     go_wp2_with fail
     (with_reducible refine (HLe.out _ G).mono ?_); rintro e1 w8 ⟨rfl,f⟩
     replace G := G.trans' f
     clear f
     go_wp2_with fail
     go_ret
     exact ⟨by first | rfl | simp,F.trans' G⟩
end Go.Proofs.YtedffdlkmpmdlaaGreatDoor
