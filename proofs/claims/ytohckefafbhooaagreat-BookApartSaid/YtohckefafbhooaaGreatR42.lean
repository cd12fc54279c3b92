import Derived.Test.YtohckefafbhooaaGreatR41
import Derived.Test.YtohckefafbhooaaGreatR39
import Derived.Test.YtohckefafbhooaaGreatR2
import Derived.Test.YtohckefafbhooaaGreatR35
set_option maxRecDepth 100000
set_option maxHeartbeats 64000000
namespace Go.Proofs.YtohckefafbhooaaGreat
set_option linter.unusedVariables false
set_option linter.unusedSimpArgs false
open Go.RowKit Go.Shelf
attribute [local go_sem] Oper.semAt_some
theorem Tryz.szAddr20 : (Tryz.prog.info? 68).map (·.size) = some 20 := by kernel_rfl
@[go_sem ↓ high] theorem aF4 (p : Value) : Instr.loadAt 68 p = gu 68 p := rfl
theorem ai0 {P : Program} {fn : Func} {p : Tmp} {ty : TypeId} (h : fn.results = #[.cell p ty]) (tmps : Array Value) (w : World) (g : Nat) (v : Value)
  (hp : tmps.getD p undef = .pointer (some ⟨g,0,none⟩)) (hc : w.cell? ⟨g,0,none⟩ = some v) (hu : P.underlying ty = some .bool) : (results fn tmps).run P w = .ok v w := by
 have hp' : tmps[p]?.getD undef = .pointer (some ⟨g,0,none⟩) := by simpa using hp
 have hagg : (isAgg ty).run P w = .ok false w := by
  unfold isAgg
  rw [Sem.run_bind,run_underlying hu w]
  rfl
 simp [results,h,hp',asAddr,loadVar,Sem.run_bind,hagg,hc]
theorem VX.addr {w : World} {g : Nat} {x : Vlt} (h : VX w g x) (hx : x.addr.length = 20) : (gu 68 (.pointer (some ⟨g,1,none⟩))).run Tryz.prog w = .ok (.agg (x.addr.map B8).toArray) w := by
 refine run_loadAt_mid (P := Tryz.prog) w g 1 68 (x.addr.map B8) _ (fun j u hj => ?_) Tryz.underlying68 rfl (by rw [Tryz.szAddr20,List.length_map,hx])
 have hj' : j < 20 := by have := (List.getElem?_eq_some_iff.1 hj).1; simpa [hx] using this
 unfold VX at h
 rw [gq,h,jg]
 unfold cB ad9
 rw [agn hx,List.getElem?_toArray,Nat.add_comm,List.getElem?_cons_succ,List.getElem?_append_left (by rw [List.length_map,hx]; exact hj')]
 exact hj
theorem aw1 (w : World) (l m : List UInt8) (hl : l.length = 20) (hm : m.length = 20) (o : Bool) (ho : decide (l = m) = o) : (binOp .eql 68 (.agg (l.map B8).toArray) (.agg (m.map B8).toArray)).run Tryz.prog w = .ok (.bool o) w := by
 obtain ⟨i0,hi,-,-,-⟩ := info_parts Tryz.infoU8
 rw [run_eql_bytes w 68 5 20 i0 Tryz.underlying68 hi (by kernel_rfl) (by kernel_rfl) Tryz.underlying5 l m hl hm,ho]
def tkn (l : List Vlt) (x : Nat) (A : List UInt8) : Prop := ∃ v ∈ l,v.who = x ∨ v.addr = A
instance (l : List Vlt) (x : Nat) (A : List UInt8) : Decidable (tkn l x A) := by unfold tkn; infer_instance
theorem ap7 {w : World} {p : Nat} {M : Bok} {tp : Nat} {tob : Option Nat} {q qp : Nat} {qob : Option Nat} {fp vb : Nat} (b : BK w p tp tob q qp qob fp vb M) (hl : VLs M.vs) (x : Nat) (A : List UInt8) (hA : A.length = 20) :
  Calls Tryz.prog 79 #[.pointer (some ⟨p,0,none⟩),.int .u8 (x : Int),.agg (A.map B8).toArray] w fun e w' => e = .returned (.bool (decide (tkn M.vs x A))) ∧ Fr F0 w w' := by
 have HVs := Lib.hid (fun (W : World) (f : Fr F0 w W) => afw (b.fr0 f) hl)
 have HL := Lib.hid hl
 have HA := Lib.hid hA
 have szX : (A.map B8).toArray.size = 20 := by simp [hA]
 obtain ⟨X,hX⟩ : ∃ X,X = (A.map B8).toArray := ⟨_,rfl⟩
 rw [← hX] at szX ⊢
 replace hX := Lib.hid hX
 clear b hl hA
 refine callsIn_wide (n := 6) |>.1 ?_
 refine callsIn_of_wp_marks Tryz.func79 rfl trivial ?_ rfl
 simp only [Tryz.ntmps79,List.size_toArray,List.length_cons,List.length_nil,Nat.reduceAdd,Nat.reduceSub,Array.replicate_succ,Array.replicate_zero,List.push_toArray,List.append_toArray,List.nil_append,List.cons_append]
 gi_upto_region 1 with fail
 refine agv fun W1 N1 => ?_
 have r6 := N1.new
 have r5 := N1.old (heap_alloc_new (w.alloc (.cells #[.int .u8 (x : Int)] 66)) (.cells X 68))
 have r4 := N1.old (oh (o := .cells X 68) (heap_alloc_new w (.cells #[.int .u8 (x : Int)] 66)))
 have F := (((Fr.refl F0 w).alloc (.cells #[.int .u8 (x : Int)] 66)).alloc (.cells X 68)).trans' N1.fr
 simp only [World.size_alloc] at r6 r5
 try simp only [World.size_alloc]
 clear N1
 obtain ⟨g6,hg6⟩ : ∃ g,g = w.heap.size + 1 + 1 := ⟨_,rfl⟩
 obtain ⟨g5,hg5⟩ : ∃ g,g = w.heap.size + 1 := ⟨_,rfl⟩
 obtain ⟨g4,hg4⟩ : ∃ g,g = w.heap.size := ⟨_,rfl⟩
 rw [← hg6] at r6
 rw [← hg5] at r5
 rw [← hg4] at r4
 try rw [← hg6]
 try rw [← hg5]
 try rw [← hg4]
 have n46 : g4 ≠ g6 := by omega
 have n56 : g5 ≠ g6 := by omega
 have HGG := Lib.hid (show w.heap.size ≤ g4 ∧ w.heap.size ≤ g5 ∧ w.heap.size ≤ g6 by omega)
 clear hg4 hg5 hg6
 have HV1 := Lib.hid (HVs.out _ F)
 clear HVs
 gi_wp2
 refine ⟨trivial,?_⟩
 refine (callsIn_wide.2 HV1.out).mono ?_
 rintro e w2 ⟨gb,v,rfl,hVB,f⟩
 replace r4 := dn f r4
 replace r5 := dn f r5
 replace r6 := dn f r6
 replace F := F.trans' f
 clear HV1
 gi_wp2
 have HT := Lib.hid hVB
 have HQ := Lib.hid (aBx W1.heap.size gb v M.vs (by have := HL.out.len; omega))
 have HZ := Lib.hid (show g4 < w2.heap.size ∧ g5 < w2.heap.size ∧ g6 < w2.heap.size from ⟨(Array.getElem?_eq_some_iff.1 r4).1,(Array.getElem?_eq_some_iff.1 r5).1,(Array.getElem?_eq_some_iff.1 r6).1⟩)
 clear hVB f
 have hOI : OwnFrom w2.heap.size (fun (pre : List Vlt) W' => (W'.heap[g4]? = some (.cells #[.int .u8 (x : Int)] 66 (0,0)) ∧ W'.heap[g5]? = some (.cells X 68 (0,0)) ∧ W'.heap[g6]? = some (.cells #[.bool false] 4 (0,0))) ∧ (¬ tkn pre x A) ∧ Fr F0 w2 W') :=
  OwnFrom.and (fun sx A' D row h hgr hr => ⟨abg h.1 hgr hr,abg h.2.1 hgr hr,abg h.2.2 hgr hr⟩) (OwnFrom.and (yu _ _) (fun sx A' D row h hgr hr => h.grown hgr fun k hk hlt => by have := (hr k hk).1; omega))
 have hO2 : OwnFrom w2.heap.size (fun (_ : Unit) W' => Fr (fun k => k = g6) w2 W') := fun sx A' D row h hgr hr => h.grown hgr fun k hk hlt => by have := (hr k hk).1; omega
 refine ai1 (gf := 128) (lb := #[.pointer (some ⟨gb,0,none⟩)]) rfl (enters_of Tryz.func128 (by kernel_rfl) rfl) HQ.out (fun _ => rfl) (fun _ _ => trivial) (fun _ _ => trivial)
  (fun (pre : List Vlt) W' => (W'.heap[g4]? = some (.cells #[.int .u8 (x : Int)] 66 (0,0)) ∧ W'.heap[g5]? = some (.cells X 68 (0,0)) ∧ W'.heap[g6]? = some (.cells #[.bool false] 4 (0,0))) ∧ (¬ tkn pre x A) ∧ Fr F0 w2 W')
  (fun cc _ W' => (cc = .ret ∧ tkn M.vs x A) ∧ W'.heap[g6]? = some (.cells #[.bool true] 4 (0,0)) ∧ Fr (fun k => k = g6) w2 W')
  hOI (fun cc => OwnFrom.and (yu _ _) (OwnFrom.and (fun sx A' D row h hgr hr => abg h hgr hr) (fun sx A' D row h hgr hr => h.grown hgr fun k hk hlt => by have := (hr k hk).1; omega)))
  (fun pre W' h => HT.out.fr h.2.2)
  ⟨⟨r4,r5,r6⟩,(fun e => by obtain ⟨v,hv,_⟩ := e; cases hv),Fr.refl _ _⟩
  (fun pre y a' W' => ∃ g7,a' = { tmps := #[.pointer (some ⟨p,0,none⟩),.int .u8 (x : Int),.agg X,undef,.pointer (some ⟨g4,0,none⟩),.pointer (some ⟨g5,0,none⟩),.pointer (some ⟨g6,0,none⟩),.pointer (some ⟨g7,0,none⟩),.pointer (some ⟨p,0,none⟩),.func (.func 128) #[] #[.pointer (some ⟨gb,0,none⟩)],.agg (cB y),undef,undef,undef,undef,undef,undef,undef,undef,undef,undef],defers := [] } ∧ VX W' g7 y ∧ y ∈ M.vs)
  (fun pre y a' sx A' D row h hgr hr => by
   obtain ⟨g7,e,h7,hm⟩ := h
   exact ⟨g7,e,abg h7 hgr hr,hm⟩) ?assign ?body ?done ?stop
 case assign =>
  intro l2 pre y W0 W' K hi0 f0 hn hK
  have sz := lu y
  have oS := ru y
  have hi4 := aa7 hOI hi0 f0
  have HN : Hid (y ∈ M.vs) := Lib.hid (by
   obtain ⟨k,hp,hx⟩ := hn
   exact List.mem_of_getElem? hx)
  unfold VX at hK
  replace hK := Lib.hid hK
  rw [show (ah1 y) = #[.agg (cB y)] from rfl]
  obtain ⟨C2,hC2⟩ : ∃ C2,C2 = cB y := ⟨_,rfl⟩
  rw [← hC2] at sz oS hK ⊢
  clear hC2 hn
  gi_wp2
  have N := afc W' #[.int .u8 0,.int .u8 0,.int .u8 0,.int .u8 0,.int .u8 0,.int .u8 0,.int .u8 0,.int .u8 0,.int .u8 0,.int .u8 0,.int .u8 0,.int .u8 0,.int .u8 0,.int .u8 0,.int .u8 0,.int .u8 0,.int .u8 0,.int .u8 0,.int .u8 0,.int .u8 0,.int .u8 0,.int .u64 0,.int .u64 0,.int .u64 0,.int .u64 0,.int .u64 0,.bool false] C2 72
  exact hK.out _ _ ⟨N.fr.size,fun k o hk ho hc => N.fr.keeps (fun e => e) ho⟩ trivial (aa7 hOI hi4 N.fr) ⟨_,rfl,N.new,HN.out⟩
 case body =>
  rintro l2 pre y a' W' ⟨⟨q4,q5,q6⟩,hpre,fJ⟩ ⟨g7,rfl,h7,hm⟩
  have hld := h7.addr (HL.out.addr y hm)
  have HEq := Lib.hid (fun (o : Bool) (ho : decide (y.addr = A) = o) (w : World) => aw1 w y.addr A (HL.out.addr y hm) HA.out o ho)
  rw [← hX.out] at HEq
  obtain ⟨sz,oS,c0,c21,c22,c23,c24,c25,c26⟩ := cBf y
  unfold VX at h7
  have HI := Lib.hid (And.intro hpre fJ)
  have HM := Lib.hid hm
  obtain ⟨Y,hY⟩ : ∃ Y,Y = (y.addr.map B8).toArray := ⟨_,rfl⟩
  rw [← hY] at hld HEq
  clear hY c21 c22 c23 c24 c25 c26 hpre fJ hm oS
  obtain ⟨C,hC⟩ : ∃ C,C = cB y := ⟨_,rfl⟩
  rw [← hC] at sz c0 h7 ⊢
  have d0 := ay c0
  clear hC
  have f9 : Fr (fun k => k = g6) W' (W'.setCell ⟨g6,0,none⟩ (.bool true)) := Fr.setCell (S := fun k => k = g6) (Fr.refl _ _) (p := ⟨g6,0,none⟩) (fun _ => rfl) _
  have H9 := Lib.hid (And.intro f9 (show (W'.setCell ⟨g6,0,none⟩ (.bool true)).heap[g6]? = some (.cells #[.bool true] 4 (0,0)) by rw [cu,q6]; rfl))
  clear f9
  by_cases h1 : y.who = x
  ·have q1 : ((y.who : Int) == (x : Int)) = true := by rw [h1]; simp
   have HTa := Lib.hid (show tkn M.vs x A from ⟨y,HM.out,.inl h1⟩)
   clear h1 hld HEq
   gi_wp2
   exact ⟨(KeepsOthers.setCell W' ⟨g6,0,none⟩ _).from _,⟨⟨rfl,HTa.out⟩,H9.out.2,HI.out.2.of0.trans' H9.out.1⟩,trivial⟩
  ·have q1 : ((y.who : Int) == (x : Int)) = false := by simp; omega
   by_cases h2 : y.addr = A
   ·have HTa := Lib.hid (show tkn M.vs x A from ⟨y,HM.out,.inr h2⟩)
    have heq := HEq.out true (decide_eq_true h2)
    clear h1 h2
    gi_wp2
    exact ⟨(KeepsOthers.setCell W' ⟨g6,0,none⟩ _).from _,⟨⟨rfl,HTa.out⟩,H9.out.2,HI.out.2.of0.trans' H9.out.1⟩,trivial⟩
   ·have heq := HEq.out false (decide_eq_false h2)
    have HNe := Lib.hid (And.intro h1 h2)
    clear h1 h2
    gi_wp2
    refine ⟨KeepsFrom.refl _ _,trivial,⟨q4,q5,q6⟩,?_,HI.out.2⟩
    rintro ⟨v,hv,he⟩
    rcases List.mem_append.1 hv with hv | hv
    ·exact HI.out.1 ⟨v,hv,he⟩
    ·rw [List.mem_singleton] at hv
     subst hv
     exact he.elim HNe.out.1 HNe.out.2
 case done =>
  rintro D ys W' hD rfl ⟨⟨q4,q5,q6⟩,hpre,fJ⟩ hK
  have HNT := Lib.hid (decide_eq_false hpre)
  have hDg : D ≠ g6 := fun e => by have := HZ.out; omega
  have HF := Lib.hid (show Fr (fun k => k = g6) w2 (W'.setCell ⟨g6,0,none⟩ (.bool false)) from (Fr.of0 (T := fun k => k = g6) fJ).setCell (p := ⟨g6,0,none⟩) (fun _ => rfl) _)
  clear hpre fJ q4 q5
  gi_wp2
  refine ⟨by simp,.inl ⟨_,_,rfl,run_takeDeferred (by rw [bn _ _ _ _ _ hDg]; exact hK),?_⟩⟩
  refine ⟨_,ai0 rfl _ _ g6 _ rfl (by rw [gq,World.putObj_heap_other hDg.symm,cu,q6]; rfl) Tryz.underlying4,by rw [HNT.out]; rfl,?_⟩
  exact F.trans (hO2.putObj (.deferred none) (s := ()) HF.out hD (by rw [bn _ _ _ _ _ hDg]; exact hK) rfl) fun k hk e => by have := HGG.out; omega
 case stop =>
  rintro D cc pre W' hD ⟨⟨rfl,htl⟩,q6,fJ⟩ hK
  have HNT := Lib.hid (decide_eq_true htl)
  have hDg : D ≠ g6 := fun e => by have := HZ.out; omega
  clear htl
  gi_wp2
  refine ⟨by simp,.inl ⟨_,_,rfl,run_takeDeferred hK,?_⟩⟩
  refine ⟨_,ai0 rfl _ _ g6 _ rfl (by rw [gq,World.putObj_heap_other hDg.symm,q6]; rfl) Tryz.underlying4,by rw [HNT.out]; rfl,?_⟩
  exact F.trans (hO2.putObj (.deferred none) (s := ()) fJ hD hK rfl) fun k hk e => by have := HGG.out; omega
end Go.Proofs.YtohckefafbhooaaGreat
namespace Go.Proofs.YtohckefafbhooaaGreat
set_option linter.unusedVariables false
set_option linter.unusedSimpArgs false
open Go.RowKit
theorem aBd (A : List UInt8) (h : A.length = 20) (x y : Nat) (w : World) : (ao4 #[(0,.int .u8 (x : Int)),(1,.agg (A.map B8).toArray),(2,.int .u64 (y : Int))]).run Tryz.prog w = .ok (.agg (cB ⟨x,A,y,0,0,0,0,false⟩)) w := by
 refine run_build w _ _ _ ?_
 unfold cB ad9
 rw [agn h]
 obtain ⟨x0,x1,x2,x3,x4,x5,x6,x7,x8,x9,x10,x11,x12,x13,x14,x15,x16,x17,x18,x19,rfl⟩ := twenty A h
 kernel_rfl
section
variable {S : Nat → Prop} {w w' W : World} {p tp q fp vb : Nat} {M : Bok}
theorem aqz (h : KP S w p tp q fp vb M) (hM : M.Ok) (x : Nat) {A : List UInt8} (hA : A.length = 20) : Calls Tryz.prog 79 #[.pointer (some ⟨p,0,none⟩),.int .u8 (x : Int),.agg (A.map B8).toArray] w fun e w' => e = .returned (.bool (decide (tkn M.vs x A))) ∧ Fr F0 w w' := by
 obtain ⟨tob,qp,qob,b,e⟩ := h
 exact ap7 b hM.vls x A hA
theorem kLen (h : KP S w p tp q fp vb M) (hM : M.Ok) (ty : TypeId) : (Builtin.len_ #[95] ty #[.map (some vb)]).run Tryz.prog w = .ok (.int .i64 (M.vs.length : Int)) w :=
 h.vm.len (agw hM.asc) (fun x hx => (hM.vok x hx).who) (fun k hk => ajd) ty
def lenV (ty : TypeId) (args : Array Value) : Sem Value := Builtin.len_ #[95] ty args
@[go_sem ↓ high] theorem len_V (ty : TypeId) (args : Array Value) : Builtin.len_ #[95] ty args = lenV ty args := rfl
abbrev afz (p x a : Nat) (A : List UInt8) : Array Value := #[.pointer (some ⟨p,0,none⟩),.int .u8 (x : Int),.agg (A.map B8).toArray,.int .u64 (a : Int)]
theorem aif (x a : Nat) (A : List UInt8) (h1 : 4611686018427387904 < a) (w : World) (p : Nat) : Calls Tryz.prog 22 (afz p x a A) w fun e w' => e = .returned (.int .i64 1) ∧ Fr F0 w w' := by
 have H1 := Lib.hid (iy a false (decide_eq_false (by omega)))
 obtain ⟨X,hX⟩ : ∃ X,X = (A.map B8).toArray := ⟨_,rfl⟩
 unfold afz
 rw [← hX]
 clear hX h1
 go_enter Tryz.func22,Tryz.ntmps22
 go_wp2_with fail
 (with_reducible refine (H1.out _).mono ?_); rintro e w1 ⟨rfl,hw⟩; replace hw := hw.symm; subst hw
 go_wp2_with fail
 go_ret
 exact ⟨rfl,(Fr.refl F0 w).alloc _⟩
theorem ahu (h : KP S w p tp q fp vb M) (hM : M.Ok) {x a : Nat} {A : List UInt8} (hA : A.length = 20) (h1 : ¬ 4611686018427387904 < a) (h2 : tkn M.vs x A) :
  Calls Tryz.prog 22 (afz p x a A) w (EP S w p tp q fp vb M (.int .i64 9)) := by
 have H1 := Lib.hid (iy a true (decide_eq_true (by omega)))
 have H2 := Lib.hid (fun (W : World) (k : KP S W p tp q fp vb M) => aqz k hM x hA)
 rw [decide_eq_true h2] at H2
 have HK := Lib.hid (fun (W : World) (f : Fr F0 w W) => h.fr0 f)
 have szX : (A.map B8).toArray.size = 20 := by simp [hA]
 obtain ⟨X,hX⟩ : ∃ X,X = (A.map B8).toArray := ⟨_,rfl⟩
 unfold afz EP
 rw [← hX] at szX H2 ⊢
 clear hX h1 h2 h hM
 go_enter Tryz.func22,Tryz.ntmps22
 go_upto_region 1 with fail
 refine eu fun W1 N => ?_
 have r6 := N.new
 have F1 := Lib.hid N.fr
 clear N
 go_wp2_with fail
 (with_reducible refine (H1.out _).mono ?_); rintro e w1 ⟨rfl,hw⟩; replace hw := hw.symm; subst hw
 go_wp2_with fail
 (with_reducible refine (H2.out _ (HK.out _ F1.out)).mono ?_); rintro e w2 ⟨rfl,f2⟩
 replace F1 := Lib.hid (F1.out.trans' f2)
 clear f2 r6
 go_wp2_with fail
 go_ret
 exact ⟨rfl,S,HK.out _ F1.out,fun k hk => .inl hk,F1.out.of0⟩
theorem ahv (h : KP S w p tp q fp vb M) (hM : M.Ok) {x a : Nat} {A : List UInt8} (hA : A.length = 20) (h1 : ¬ 4611686018427387904 < a) (h2 : ¬ tkn M.vs x A) (h3 : 64 ≤ M.vs.length) :
  Calls Tryz.prog 22 (afz p x a A) w (EP S w p tp q fp vb M (.int .i64 10)) := by
 have H1 := Lib.hid (iy a true (decide_eq_true (by omega)))
 have H2 := Lib.hid (fun (W : World) (k : KP S W p tp q fp vb M) => aqz k hM x hA)
 rw [decide_eq_false h2] at H2
 have HK := Lib.hid (fun (W : World) (f : Fr F0 w W) => h.fr0 f)
 have HL := Lib.hid (fun (W : World) (f : Fr F0 w W) ty => (show (lenV ty #[.map (some vb)]).run Tryz.prog W = .ok (.int .i64 (M.vs.length : Int)) W from kLen (h.fr0 f) hM ty))
 have l3 : (64 : Int) ≤ (M.vs.length : Int) := by omega
 have szX : (A.map B8).toArray.size = 20 := by simp [hA]
 obtain ⟨X,hX⟩ : ∃ X,X = (A.map B8).toArray := ⟨_,rfl⟩
 unfold afz EP
 rw [← hX] at szX H2 ⊢
 generalize M.vs.length = n at *
 clear hX h1 h2 h hM h3
 go_enter Tryz.func22,Tryz.ntmps22
 go_upto_region 1 with fail
 refine eu fun W1 N => ?_
 have r6 := N.new
 have F1 := Lib.hid N.fr
 clear N
 go_wp2_with fail
 (with_reducible refine (H1.out _).mono ?_); rintro e w1 ⟨rfl,hw⟩; replace hw := hw.symm; subst hw
 go_wp2_with fail
 (with_reducible refine (H2.out _ (HK.out _ F1.out)).mono ?_); rintro e w2 ⟨rfl,f2⟩
 replace F1 := Lib.hid (F1.out.trans' f2)
 have hl := HL.out w2 F1.out
 have e0 := (HK.out w2 F1.out).at_
 unfold bkC at e0
 generalize (M.now : Int) = now at *
 generalize (M.pc : Int) = pc at *
 generalize (M.pn : Int) = pn at *
 generalize (M.dep : Int) = dep at *
 clear f2 r6
 go_wp2_with fail
 go_ret
 exact ⟨rfl,S,HK.out _ F1.out,fun k hk => .inl hk,F1.out.of0⟩
theorem aie (h : KP S w p tp q fp vb M) (hM : M.Ok) {x a : Nat} (hx : x < 256) {A : List UInt8} (hA : A.length = 20) (h1 : ¬ 4611686018427387904 < a) (h2 : ¬ tkn M.vs x A) (h3 : ¬ 64 ≤ M.vs.length) (h4 : M.free x < a) :
  Calls Tryz.prog 22 (afz p x a A) w (EP S w p tp q fp vb M (.int .i64 16)) := by
 have H1 := Lib.hid (iy a true (decide_eq_true (by omega)))
 have H2 := Lib.hid (fun (W : World) (k : KP S W p tp q fp vb M) => aqz k hM x hA)
 rw [decide_eq_false h2] at H2
 have HK := Lib.hid (fun (W : World) (f : Fr F0 w W) => h.fr0 f)
 have HL := Lib.hid (fun (W : World) (f : Fr F0 w W) ty => (show (lenV ty #[.map (some vb)]).run Tryz.prog W = .ok (.int .i64 (M.vs.length : Int)) W from kLen (h.fr0 f) hM ty))
 have HF := Lib.hid (fun (W : World) (k : KP S W p tp q fp vb M) => afk (c := 0) k hx h4)
 rw [show ((0 : Nat) : Int) = 0 from rfl] at HF
 have l3 : ¬ (64 : Int) ≤ (M.vs.length : Int) := by omega
 have l3' : (M.vs.length : Int) < 64 := by omega
 have l3'' : M.vs.length < 64 := by omega
 have szX : (A.map B8).toArray.size = 20 := by simp [hA]
 obtain ⟨X,hX⟩ : ∃ X,X = (A.map B8).toArray := ⟨_,rfl⟩
 unfold afz EP
 rw [← hX] at szX H2 ⊢
 generalize M.vs.length = n at *
 clear hX h1 h2 h hM h3 h4 hx
 go_enter Tryz.func22,Tryz.ntmps22
 go_upto_region 1 with fail
 refine eu fun W1 N => ?_
 have r6 := N.new
 have F1 := Lib.hid N.fr
 clear N
 go_wp2_with fail
 (with_reducible refine (H1.out _).mono ?_); rintro e w1 ⟨rfl,hw⟩; replace hw := hw.symm; subst hw
 go_wp2_with fail
 (with_reducible refine (H2.out _ (HK.out _ F1.out)).mono ?_); rintro e w2 ⟨rfl,f2⟩
 replace F1 := Lib.hid (F1.out.trans' f2)
 have hl := HL.out w2 F1.out
 have e0 := (HK.out w2 F1.out).at_
 unfold bkC at e0
 generalize (M.now : Int) = now at *
 generalize (M.pc : Int) = pc at *
 generalize (M.pn : Int) = pn at *
 generalize (M.dep : Int) = dep at *
 clear f2 r6
 go_wp2_with fail
 (with_reducible refine (HF.out _ (HK.out _ F1.out)).mono ?_); rintro e w3 ⟨rfl,hw⟩; replace hw := hw.symm; subst hw
 go_wp2_with fail
 go_ret
 exact ⟨rfl,S,HK.out _ F1.out,fun k hk => .inl hk,F1.out.of0⟩
theorem ak2 (h : KP S w p tp q fp vb M) (hM : M.Ok) {x a : Nat} (hx : x < 256) {A : List UInt8} (hA : A.length = 20) (h1 : ¬ 4611686018427387904 < a) (h2 : ¬ tkn M.vs x A) (h3 : ¬ 64 ≤ M.vs.length) (h4 : ¬ M.free x < a) :
  Calls Tryz.prog 22 (afz p x a A) w (EP S w p tp q fp vb { M with free := upd M.free x (M.free x - a),held := M.held + a,vs := af2 M.vs ⟨x,A,a,0,0,0,0,false⟩ } (.int .i64 0)) := by
 have H1 := Lib.hid (iy a true (decide_eq_true (by omega)))
 have H2 := Lib.hid (fun (W : World) (k : KP S W p tp q fp vb M) => aqz k hM x hA)
 rw [decide_eq_false h2] at H2
 have HK := Lib.hid (fun (W : World) (f : Fr F0 w W) => h.fr0 f)
 have HL := Lib.hid (fun (W : World) (f : Fr F0 w W) ty => (show (lenV ty #[.map (some vb)]).run Tryz.prog W = .ok (.int .i64 (M.vs.length : Int)) W from kLen (h.fr0 f) hM ty))
 have HF := Lib.hid (fun (W : World) (k : KP S W p tp q fp vb M) => ag6 (c := 0) (a := a) k hx (by omega) (by omega))
 rw [Nat.zero_add,show ((0 : Nat) : Int) = 0 from rfl] at HF
 have HPu := Lib.hid (fun (W : World) (T : Nat → Prop) (k : KP T W p tp q fp vb { M with free := upd M.free x (M.free x - a),held := M.held + a }) => ug k (l := af2 M.vs ⟨x,A,a,0,0,0,0,false⟩) (y := ⟨x,A,a,0,0,0,0,false⟩) hx (fun j => aEr hM.asc (fun z hz e => h2 ⟨z,hz,.inl e⟩) j))
 simp only [iq] at HPu
 have hb := aBd A hA x a
 have HM := Lib.hid (fun (W : World) (f : Fr F0 w W) => zl.start h f)
 have l3 : ¬ (64 : Int) ≤ (M.vs.length : Int) := by omega
 have l3' : (M.vs.length : Int) < 64 := by omega
 have l3'' : M.vs.length < 64 := by omega
 have szX : (A.map B8).toArray.size = 20 := by simp [hA]
 obtain ⟨X,hX⟩ : ∃ X,X = (A.map B8).toArray := ⟨_,rfl⟩
 unfold afz EP
 rw [← hX] at szX H2 hb ⊢
 generalize cB ⟨x,A,a,0,0,0,0,false⟩ = Z at *
 generalize M.vs.length = n at *
 clear hX h1 h2 h hM h3 h4 hx
 go_enter Tryz.func22,Tryz.ntmps22
 go_upto_region 1 with fail
 refine eu fun W1 N => ?_
 have r6 := N.new
 have F1 := Lib.hid N.fr
 have m := Lib.hid ((HM.out w (Fr.refl _ _)).add N.fr (Nat.le_refl _) (Array.getElem?_eq_some_iff.1 r6).1)
 clear N
 obtain ⟨g6,hg6⟩ : ∃ g,w.heap.size = g := ⟨_,rfl⟩
 rw [hg6] at r6 m ⊢
 clear hg6
 go_wp2_with fail
 (with_reducible refine (H1.out _).mono ?_); rintro e w1 ⟨rfl,hw⟩; replace hw := hw.symm; subst hw
 go_wp2_with fail
 (with_reducible refine (H2.out _ (HK.out _ F1.out)).mono ?_); rintro e w2 ⟨rfl,f2⟩
 replace F1 := Lib.hid (F1.out.trans' f2)
 replace r6 := dn f2 r6
 replace m := Lib.hid (m.out.fr0 f2)
 have hl := HL.out w2 F1.out
 have e0 := (HK.out w2 F1.out).at_
 unfold bkC at e0
 generalize (M.now : Int) = now at *
 generalize (M.pc : Int) = pc at *
 generalize (M.pn : Int) = pn at *
 generalize (M.dep : Int) = dep at *
 clear f2
 go_wp2_with fail
 (with_reducible refine (HF.out _ m.out.kp).mono ?_); rintro e w3 ⟨rfl,h3⟩
 replace r6 := m.out.row h3 (.inr rfl) r6
 obtain ⟨T3,m3⟩ := m.out.next h3
 replace m3 := Lib.hid m3
 clear h3 m hl e0 HF HL HK F1
 go_wp2_with fail
 (with_reducible refine (HPu.out _ _ m3.out.kp).mono ?_); rintro e w6 ⟨rfl,h6⟩
 have h7 := Lib.hid (m3.out.last h6)
 clear h6 r6 m3 HPu
 go_wp2_with fail
 go_ret
 exact ⟨rfl,h7.out⟩
theorem adr (h : KP S w p tp q fp vb M) (hM : M.Ok) {x a : Nat} (hx : x < 256) (ha : a < 18446744073709551616) {A : List UInt8} (hA : A.length = 20) :
  Calls Tryz.prog 22 (afz p x a A) w (EP S w p tp q fp vb (ji M x a A).1 (.int .i64 (ji M x a A).2.2)) := by
 unfold ji
 by_cases h1 : 4611686018427387904 < a
 ·rw [if_pos h1]
  exact (aif x a A h1 w p).mono fun e w' ⟨h2,f⟩ => ⟨h2,QP.same h f⟩
 ·rw [if_neg h1]
  by_cases h2 : ∃ v ∈ M.vs,v.who = x ∨ v.addr = A
  ·rw [if_pos h2]; exact ahu h hM hA h1 h2
  ·rw [if_neg h2]
   by_cases h3 : 64 ≤ M.vs.length
   ·rw [if_pos h3]; exact ahv h hM hA h1 h2 h3
   ·rw [if_neg h3]
    by_cases h4 : M.free x < a
    ·rw [if_pos h4]; exact aie h hM hx hA h1 h2 h3 h4
    ·rw [if_neg h4]; exact ak2 h hM hx hA h1 h2 h3 h4
end
end Go.Proofs.YtohckefafbhooaaGreat
