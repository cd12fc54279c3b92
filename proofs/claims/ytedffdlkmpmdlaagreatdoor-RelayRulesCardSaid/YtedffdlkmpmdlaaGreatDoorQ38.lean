import Derived.Test.YtedffdlkmpmdlaaGreatDoorQ1
import Derived.Test.YtedffdlkmpmdlaaGreatDoorQ36
import Derived.Test.YtedffdlkmpmdlaaGreatDoorQ34
import Derived.Test.YtedffdlkmpmdlaaGreatDoorQ37
import Derived.Test.YtedffdlkmpmdlaaGreatDoorQ24
import Derived.Test.YtedffdlkmpmdlaaGreatDoorQ16
import Derived.Test.YtedffdlkmpmdlaaGreatDoorQ9
import Derived.Test.YtedffdlkmpmdlaaGreatDoorQ6
set_option maxRecDepth 100000
set_option maxHeartbeats 64000000
namespace Go.Proofs.YtedffdlkmpmdlaaGreatDoor
set_option maxRecDepth 100000
set_option linter.unusedVariables false
set_option linter.unusedSimpArgs false
open Go.RowKit
def tdC (hs : List UInt8) (ht : Nat) (b : Bool) (tn : Nat) : Array Value := (hs.map B8 ++ [Value.int .i64 (ht : Int),Value.bool b,Value.int .i64 (tn : Int)]).toArray
theorem tdC_size {hs : List UInt8} (l : hs.length = 32) (ht : Nat) (b : Bool) (tn : Nat) : (tdC hs ht b tn).size = 35 := by simp [tdC,l]
theorem tdC_one (hs : List UInt8) (ht : Nat) (b : Bool) (tn : Nat) : rowOne (tdC hs ht b tn) := by
 unfold rowOne
 rw [Array.all_eq_true_iff_forall_mem]
 intro u hu
 rw [tdC,List.mem_toArray,List.mem_append] at hu
 rcases hu with hu | hu
 ·exact hc_one' hs u hu
 ·simp at hu
  rcases hu with rfl | rfl | rfl <;> rfl
theorem Tryz.szTold : (Tryz.prog.info? 49).map (·.size) = some 35 := by kernel_rfl
@[go_sem ↓ high] theorem load_told (p : Value) : Instr.loadAt 49 p = loadRowAt 49 p := rfl
@[go_sem ↓ high] theorem store_told (p v : Value) : Instr.storeAt 49 p v = storeRowAt 49 p v := rfl
@[go_sem] theorem run_load_told (w : World) (g : Nat) : (loadRowAt 49 (.pointer (some ⟨g,0,none⟩))).run Tryz.prog w = rowOut Tryz.prog 49 (.pointer (some ⟨g,0,none⟩)) w 35 w.heap[g]? :=
 run_loadRowAt w _ g 35 _ Tryz.underlying49 rfl Tryz.szTold
@[go_sem] theorem run_store_told (w : World) (g : Nat) (cells : Array Value) : (storeRowAt 49 (.pointer (some ⟨g,0,none⟩)) (.agg cells)).run Tryz.prog w = rowIn Tryz.prog 49 (.pointer (some ⟨g,0,none⟩)) cells g w 35 w.heap[g]? :=
 run_storeRowAt w _ g 35 cells Tryz.szTold
def buildTo (parts : Array (Nat × Value)) : Sem Value := Instr.build 49 parts
@[go_sem ↓ high] theorem build_told (p : Array (Nat × Value)) : Instr.build 49 p = buildTo p := rfl
theorem run_buildTo (w : World) (parts : Array (Nat × Value)) (cells : Array Value) (h : Tryz.prog.built 49 parts.toList = some cells) : (buildTo parts).run Tryz.prog w = .ok (.agg cells) w := run_build w _ parts cells h
theorem built_told0 : Tryz.prog.built 49 [] = some (tdC z32 0 false 0) := by kernel_rfl
theorem built_told (hs : List UInt8) (l : hs.length = 32) (ht tn : Nat) (b : Bool) : Tryz.prog.built 49 [(0,.agg (hc hs)),(1,.int .i64 (ht : Int)),(2,.bool b),(3,.int .i64 (tn : Int))] = some (tdC hs ht b tn) := by
 obtain ⟨z0,z1,z2,z3,z4,z5,z6,z7,z8,z9,z10,z11,z12,z13,z14,z15,z16,z17,z18,z19,z20,z21,z22,z23,z24,z25,z26,z27,z28,z29,z30,z31,rfl⟩ := list32 hs l
 kernel_rfl
def buildRy (parts : Array (Nat × Value)) : Sem Value := Instr.build 93 parts
@[go_sem ↓ high] theorem build_relay (p : Array (Nat × Value)) : Instr.build 93 p = buildRy p := rfl
theorem built_relay (p k : Nat) : Tryz.prog.built 93 [(0,.pointer (some ⟨p,0,none⟩)),(1,.int .i64 (k : Int))] = some (ryC p k 0) := by kernel_rfl
theorem run_buildRy (w : World) (p k : Nat) : (buildRy #[(0,.pointer (some ⟨p,0,none⟩)),(1,.int .i64 (k : Int))]).run Tryz.prog w = .ok (.agg (ryC p k 0)) w := run_build w _ _ _ (built_relay p k)
theorem TM.lt {w : World} {p : Nat} {R : Array Value} {bm : Nat} {H : List Hd} {L : List Bk} {ps : List Nat} {v : Value} {ch : List (List UInt8)} (T : TM w p R bm H L ps v ch) (hp : ps.length = L.length) : ∀ k,TS p bm ps v k → k < w.heap.size := by
 rintro k (rfl | rfl | hk | hk)
 ·exact (Array.getElem?_eq_some_iff.1 T.top).1
 ·exact T.map.lt
 ·obtain ⟨j,hj,rfl⟩ := List.getElem_of_mem hk
  have := T.blk j (by omega)
  rw [List.getD_eq_getElem?_getD,List.getElem?_eq_getElem hj] at this
  exact (Array.getElem?_eq_some_iff.1 this).1
 ·exact T.own.lt k hk
theorem kept13 {w W W' : World} {p : Nat} {R : Array Value} {bm : Nat} {H : List Hd} {L : List Bk} {ps : List Nat} {v : Value} {ch : List (List UInt8)} (T : TM w p R bm H L ps v ch) (hp : ps.length = L.length) (F : Fr F0 w W) {EE : Int} (hne : EE ≠ 0 → Fr F0 W W') (hz : EE = 0 → Fr (TS p bm ps v) W W')
  {k : Nat} {A : Array Value} {t : TypeId} {f : Nat × Nat} (h : W.heap[k]? = some (.cells A t f)) (hk : w.heap.size ≤ k ∨ (t ≠ 80 ∧ t ≠ 77 ∧ t ≠ 25)) : W'.heap[k]? = some (.cells A t f) := by
 by_cases hE : EE = 0
 ·refine (hz hE).keeps (fun hs => ?_) h
  rcases hk with hk | ⟨h1,h2,h3⟩
  ·have := T.lt hp k hs; omega
  ·exact (T.fr F).apart hp h h1 h2 h3 hs
 ·exact keep_fr (hne hE) h
theorem lNew_any (e s k : Nat) (h1 : 2 ≤ e) (h2 : e ≤ 2016) (h3 : 1 ≤ s) (h4 : s ≤ 2147483648) (h5 : 1 ≤ k) (h6 : k ≤ 100) (w : World) (hcub : Cub w) :
  Calls Tryz.prog 16 #[.agg (ruC e s k)] w fun ed w' => (∃ q p bm qf sl,ed = .returned (.tuple #[.pointer (some ⟨q,0,none⟩),.int .i64 0]) ∧ TM w' p (ruC e s k) bm [Fh] [b0 (.bool false)] [qf] (.slice (some ⟨sl,0,none⟩) 1 1) (chn [b0 (.bool false)]) ∧ w'.heap[q]? = some (.cells (ryC p k 0) 93 (0,0)) ∧
   w.heap.size ≤ p ∧ w.heap.size ≤ bm ∧ w.heap.size ≤ qf ∧ w.heap.size ≤ sl ∧ w.heap.size ≤ q) ∧ Fr F0 w w' := by
 have HN := Lib.hid (fun W (f : Fr F0 w W) => kNew_any decC hCheckC hHashC workC e s k h1 h2 h3 h4 h5 h6 (.bool false) rfl W (hcub.fr f fun f => f))
 have hru := ruC_of e s k (by omega)
 have sR := hru.size
 have oR := hru.one
 have c3 := hru.c3
 have hbr := fun W p => run_buildRy W p k
 generalize ruC e s k = R at *
 have z3 : 3 < R.size := by omega
 have d3 := cell_is c3 z3
 have hry : ∀ p d,(ryC p k d).size = 3 := fun _ _ => rfl
 clear hru hcub
 have r1 := heap_alloc_new w (.cells R 29)
 have F := (Fr.refl F0 w).alloc (.cells R 29)
 go_enter Tryz.func16,Tryz.ntmps16
 go_wp2_with fail
 generalize hW : w.alloc (.cells R 29) = W at *
 generalize hg1 : w.heap.size = g1 at *
 clear hW
 (with_reducible refine (HN.out _ F).mono ?_); rintro e1 w2 ⟨⟨p,bm,qf,sl,rfl,T,lo⟩,f⟩
 have HT := Lib.hid (And.intro T lo)
 clear T lo
 have hsz := F.size
 replace r1 := keep_fr f r1
 replace F := F.trans' f
 have HZ := Lib.hid (And.intro hsz (Nat.le_trans hsz f.size))
 clear f hsz
 go_wp2_with fail
 go_ret2
 obtain ⟨T,lo⟩ := HT.out
 have hz := HZ.out
 refine ⟨⟨w2.heap.size,p,bm,qf,sl,rfl,T.fr ((Fr.refl F0 w2).alloc _),heap_alloc_new _ _,?_⟩,F.alloc _⟩
 omega
theorem lSubmit_any {w : World} {q p k d : Nat} {R : Array Value} {bm : Nat} {H : List Hd} {L : List Bk} {ps : List Nat} {v : Value} {e span limit : Nat} (ri : RI R e span limit) (I : TI H L ps) (tb : TB L e span limit) (T : TM w p R bm H L ps v (chn L)) (rq : w.heap[q]? = some (.cells (ryC p k d) 93 (0,0)))
  (h : Hd) (oh : h.Ok) (a : Option Addr) (c : Nat) (hb : Bs w a c h.bytes) (hcub : Cub w) (hnc : ¬ (TS p bm ps v 0 ∨ 0 = q)) :
  Calls Tryz.prog 18 #[.pointer (some ⟨q,0,none⟩),.slice a h.bytes.length c] w fun ed w' =>
   (chkE L e span limit (plainB h (.bool false)) h.ahead (mtH h) ≠ 0 → ed = .returned (.tuple #[.agg (tdC z32 0 false 0),.int .i64 (chkE L e span limit (plainB h (.bool false)) h.ahead (mtH h))]) ∧ Fr F0 w w') ∧
   (chkE L e span limit (plainB h (.bool false)) h.ahead (mtH h) = 0 → ∃ i : Nat,findM L h.ahead = (i : Int) ∧ ∃ qn v',NB H L ps i h (nbB h (.bool false) i) qn ∧
    ed = .returned (.tuple #[.agg (tdC (sha2 h.bytes) (heightM (L ++ [nbB h (.bool false) i]) L.length) (decide ((bkT (L ++ [nbB h (.bool false) i]) (bestM (L ++ [nbB h (.bool false) i]))).hash = sha2 h.bytes)) (tnM L (L ++ [nbB h (.bool false) i]))),.int .i64 0]) ∧
    TM w' p R bm (H ++ [h]) (L ++ [nbB h (.bool false) i]) (ps ++ [qn]) v' (chn (L ++ [nbB h (.bool false) i])) ∧ w'.heap[q]? = some (.cells (ryC p k (max d (tnM L (L ++ [nbB h (.bool false) i])))) 93 (0,0)) ∧ w.heap.size ≤ qn ∧ (∀ k,v'.ownBlock = some k → v.ownBlock = some k ∨ w.heap.size ≤ k) ∧ Fr (fun j => TS p bm ps v j ∨ j = q) w w') := by
 have hR : R.size = 72 := by obtain ⟨c,hr⟩ := ri.of; exact hr.size
 have hcl := I.chn_len
 have h80 : h.bytes.length = 80 := Hd.bytes_length oh
 have l32 : (sha2 h.bytes).length = 32 := by simp [sha2,sha_length]
 have HP := Lib.hid (fun W (f : Fr F0 w W) => show Calls Tryz.prog 43 #[.slice a 80 c] W fun e w' => e = .returned (.tuple #[.agg h.cells,.int .i64 0]) ∧ Fr F0 W w' from by
  refine ((hParseC h.bytes a c W (hb.fr7 f) (by omega)).1 h80).mono ?_
  rintro e w' ⟨h2,o2,hb2,rfl,f2⟩
  obtain rfl := Hd.inj o2 oh hb2
  exact ⟨rfl,f2⟩)
 have HB := Lib.hid (fun W (f : Fr F0 w W) => kBest_any hR (T.fr f) (by rw [hcl.1]; omega) (by omega))
 rw [I.at_best] at HB
 have HA := Lib.hid (fun W (f : Fr F0 w W) => kAdd_any ri I tb (T.fr f) h oh (.bool false) (.bool false) rfl (hcub.fr f fun f => f))
 have HH := Lib.hid (fun W (hcu : Cub W) => show Calls Tryz.prog 22 #[.agg h.cells] W fun e w' => e = .returned (.agg (hc (sha2 h.bytes))) ∧ Fr F0 W w' from hHashC h oh W hcu)
 have HX := Lib.hid (And.intro hR (And.intro I (And.intro oh (And.intro l32 (And.intro T (And.intro hcub hnc))))))
 have sX := hc_size (I.at32 I.best)
 have oX := hc_one (bkT L (bestM L)).hash
 obtain ⟨X,hX⟩ : ∃ X,hc (bkT L (bestM L)).hash = X := ⟨_,rfl⟩
 rw [hX] at HB sX oX
 have HXe := Lib.hid hX
 have sH := Hd.cells_size oh
 have oH : rowOne h.cells := Hd.one
 obtain ⟨HC,hHC⟩ : ∃ HC,h.cells = HC := ⟨_,rfl⟩
 rw [hHC] at HP HA HH sH oH
 obtain ⟨EE,hEE⟩ : ∃ EE,chkE L e span limit (plainB h (.bool false)) h.ahead (mtH h) = EE := ⟨_,rfl⟩
 rw [hEE] at HA ⊢
 rw [h80]
 have hz0 := fun W => run_buildTo W #[] _ built_told0
 have sZ := tdC_size z32_length 0 false 0
 have oZ := tdC_one z32 0 false 0
 obtain ⟨ZZ,hZZ⟩ : ∃ Z,tdC z32 0 false 0 = Z := ⟨_,rfl⟩
 rw [hZZ] at hz0 sZ oZ ⊢
 have HQ := Lib.hid rq
 unfold ryC at rq
 clear hb h80 l32 hX hHC hEE hZZ hcl hR I oh T hcub tb ri hnc
 go_enter Tryz.func18,Tryz.ntmps18
 go_upto_region 1 with fail
 refine wp_new fun W1 N1 => ?_
 obtain ⟨Z,sz4,r4⟩ : ∃ Z : Array Value,Z.size = 35 ∧ W1.heap[w.heap.size]? = some (.cells Z 49 (0,0)) := ⟨_,rfl,N1.new⟩
 replace rq := N1.old rq
 have F := N1.fr
 clear N1
 obtain ⟨g4,hg4⟩ : ∃ g,g = w.heap.size := ⟨_,rfl⟩
 rw [← hg4] at r4 ⊢
 have g4l : Hid (¬ g4 < w.heap.size) := by rw [Hid]; omega
 clear hg4
 go_wp2_with fail
 (with_reducible refine (HP.out _ F).mono ?_); rintro e1 w2 ⟨rfl,f⟩
 replace rq := keep_fr f rq
 replace r4 := keep_fr f r4
 replace F := F.trans' f
 clear f
 go_upto_region 4 with fail
 refine wp_put fun W3 N3 => ?_
 have r6 := N3.new
 replace rq := N3.old rq
 replace r4 := N3.old r4
 replace F := F.trans' N3.fr
 clear N3
 generalize w2.heap.size = g6 at *
 go_wp2_with fail
 (with_reducible refine (HB.out _ F).mono ?_); rintro e1 w4 ⟨rfl,f⟩
 replace rq := keep_fr f rq
 replace r4 := keep_fr f r4
 replace r6 := keep_fr f r6
 replace F := F.trans' f
 clear f
 go_upto_region 7 with fail
 refine wp_put fun W5 N5 => ?_
 have r8 := N5.new
 replace rq := N5.old rq
 replace r4 := N5.old r4
 replace r6 := N5.old r6
 have HG3 := Lib.hid F.size
 replace F := F.trans' N5.fr
 clear N5 HP HB
 generalize w4.heap.size = g8 at *
 refine rbegin (S := (fun w' => w'.heap[q]? = some (.cells #[.pointer (some ⟨p,0,none⟩),.int .i64 (k : Int),.int .i64 (d : Int)] 93 (0,0)) ∧ w'.heap[g4]? = some (.cells Z 49 (0,0)) ∧ w'.heap[g6]? = some (.cells HC 27 (0,0)) ∧ w'.heap[g8]? = some (.cells X 25 (0,0)))) ?_ fun hHeld => ?_
 ·((try dsimp only) <;> (exact ⟨rq,r4,r6,r8⟩))
 refine rtake 0 ?_
 refine rtake 1 ?_
 refine rtake 2 ?_
 refine rtake 3 ?_
 refine rtake 4 ?_
 refine rone 5 fun K hK => ?_
 go_simp
 ((with_reducible refine (HA.out _ F.drew).mono ?_); rintro e1 w6 ⟨rfl,hne,hz⟩; have HKP := Lib.hid (fun k A t h hk => kept13 (W' := w6) (f := (0,0)) HX.out.2.2.2.2.1 HX.out.2.1.plen F.drew hne (fun e => by obtain ⟨_,_,_,_,_,_,_,_,f⟩ := hz e; exact f) (k := k) (A := A) (t := t) h hk))
 refine hK.out _ _ ?_ (fun hHeld => ?_)
 ·((try dsimp only) <;> (first | exact hHeld | exact ⟨HKP.out _ _ _ hHeld.1 (.inr ⟨by decide,by decide,by decide⟩),HKP.out _ _ _ hHeld.2.1 (.inr ⟨by decide,by decide,by decide⟩),HKP.out _ _ _ hHeld.2.2.1 (.inr ⟨by decide,by decide,by decide⟩),HKP.out _ _ _ hHeld.2.2.2 (.inl HG3.out)⟩))
 clear hK K
 try (simp only [Act.put,aST]; dsimp only [aS0,aS1])
 refine rtake 6 ?_
 refine rdone ?_
 all_goals
  clear rq r4 r6 r8 HA HKP
  obtain ⟨rq,r4,r6,r8⟩ := hHeld
  replace F := F.drew
  generalize W5.drew = W6 at *
  by_cases hE : EE = 0
  ·subst hE
   obtain ⟨i,hi,qn,v',nb,T6,hqn,hv',f6⟩ := hz rfl
   obtain ⟨hR,I,oh,l32,T,hcub,hnc⟩ := HX.out
   have I6 := I.snoc nb
   have FT : Fr (TS p bm ps v) w w6 := (F.of0).trans' f6
   have hlen := len_snoc L (nbB h (.bool false) i)
   have hold : (bkT (L ++ [nbB h (.bool false) i]) (bestM L)).hash = (bkT L (bestM L)).hash := by rw [bkT_old I.best]
   have hnew : (bkT (L ++ [nbB h (.bool false) i]) L.length).hash = sha2 h.bytes := by rw [bkT_new]; rfl
   have hbl := I.best
   have HTn := Lib.hid (fun W (f : Fr F0 w6 W) => lTurned_any hR I6 (T6.fr f) (keep_fr f (show w6.heap[q]? = some (.cells (ryC p k d) 93 (0,0)) from rq)) (bestM L) (by omega))
   rw [hold,HXe.out] at HTn
   have hcl6 := I6.chn_len
   obtain ⟨tn,htn⟩ : ∃ tn,tnM L (L ++ [nbB h (.bool false) i]) = tn := ⟨_,rfl⟩
   have HTn' : Hid (∀ W,Fr F0 w6 W → Calls Tryz.prog 44 #[.pointer (some ⟨q,0,none⟩),.agg X] W fun e w' => e = .returned (.int .i64 (tn : Int)) ∧ Fr F0 W w') := by
    rw [← htn]; exact HTn
   obtain ⟨m,hm⟩ : ∃ m,max d tn = m := ⟨_,rfl⟩
   have hmx := fun ts t w => run_maxI ts t (d : Int) (tn : Int) (m : Int) (by omega) w
   obtain ⟨L2,hL2⟩ : ∃ L2,L ++ [nbB h (.bool false) i] = L2 := ⟨_,rfl⟩
   obtain ⟨H2,hH2⟩ : ∃ H2,H ++ [h] = H2 := ⟨_,rfl⟩
   obtain ⟨ps2,hps2⟩ : ∃ ps2,ps ++ [qn] = ps2 := ⟨_,rfl⟩
   rw [hL2,hH2,hps2] at I6 T6
   rw [hL2] at hlen hnew hcl6
   have HL2 := Lib.hid (And.intro hL2 (And.intro hH2 (And.intro hps2 (And.intro hi (And.intro nb (And.intro htn hm))))))
   have hwW := F.size
   have HV := Lib.hid (And.intro (Nat.le_trans hwW hqn) (fun k hk => (hv' k hk).imp id fun e => Nat.le_trans hwW e))
   have HFT := Lib.hid (And.intro FT (And.intro hnc hcub))
   have HI6 := Lib.hid (And.intro I6 (And.intro hR (And.intro l32 (And.intro hlen (And.intro hnew hcl6)))))
   have F6 := Fr.refl F0 w6
   have HT6 := Lib.hid T6
   have n4 := cells_apart r4 rq (by decide)
   have n6 := cells_apart r6 rq (by decide)
   have HEt := Lib.hid (show ∀ A : List Bk,L ++ [nbB h (.bool false) i] = A → tnM L A = tn ∧ max d (tnM L A) = m from fun A e => by rw [← e,htn]; exact ⟨rfl,hm⟩)
   clear HTn hne hz I6 FT hold hnew hbl hcl6 htn hm hL2 hH2 hps2 hi nb hqn hv' f6 hR I oh l32 T hcub hnc T6 hlen F hz0 hwW
   go_wp2_with fail
   (with_reducible refine (HTn'.out _ F6).mono ?_); rintro e1 w7 ⟨rfl,f7⟩
   replace rq := keep_fr f7 rq
   replace r4 := keep_fr f7 r4
   replace r6 := keep_fr f7 r6
   clear F6
   go_upto_region 12 with fail
   obtain ⟨W8,hW8⟩ : ∃ W,W = w7.setCell ⟨q,2,none⟩ (.int .i64 (m : Int)) := ⟨_,rfl⟩
   refine wp_of_world W8 hW8 ?_
   have fs : Fr (fun j => j = q) w7 W8 := by rw [hW8]; exact Fr.setCell (S := fun j => j = q) (Fr.refl _ _) (p := ⟨q,2,none⟩) (fun _ => rfl) _
   obtain ⟨I6,hR,l32,hlen,hnew,hcl6⟩ := HI6.out
   have nq := (HT6.out.fr f7).apart I6.plen rq (by decide) (by decide) (by decide)
   have T8 := (HT6.out.fr f7).keepS I6.plen fs fun j hj e => nq (by rw [← e]; exact hj)
   replace r4 := fs.keeps n4 r4
   replace r6 := fs.keeps n6 r6
   replace rq : W8.heap[q]? = some (.cells #[.pointer (some ⟨p,0,none⟩),.int .i64 (k : Int),.int .i64 (m : Int)] 93 (0,0)) := by rw [hW8,heap_setCell_at,rq,withCell_cells]; rfl
   have F8 : Fr (fun j => TS p bm ps v j ∨ j = q) w W8 := ((((Fr.refl (fun j => TS p bm ps v j ∨ j = q) w).trans HFT.out.1 fun _ _ h => .inl h).trans f7 fun _ _ e => e.elim).trans fs fun _ _ e => .inr e)
   have hcub8 : Cub W8 := HFT.out.2.2.fr F8 fun e => HFT.out.2.1 e
   have nt4 := T8.apart I6.plen r4 (by decide) (by decide) (by decide)
   have HK8 := Lib.hid (fun W (f : Fr (fun j => j = g4) W8 W) => T8.keepS I6.plen f fun j hj e => nt4 (by rw [← e]; exact hj))
   have HKH := Lib.hid (fun W (f : Fr (fun j => j = g4) W8 W) => kHeight_any hR I6 (HK8.out W f) L.length (by omega))
   have HKB := Lib.hid (fun W (f : Fr (fun j => j = g4) W8 W) => kBest_any hR (HK8.out W f) (by rw [hcl6.1]; omega) (by omega))
   rw [hnew] at HKH
   rw [I6.at_best] at HKB
   have heq := fun W => run_equalIn_hashJ W (bkT L2 (bestM L2)).hash (sha2 h.bytes) (I6.at32 I6.best) l32
   have hbt := fun W => run_buildTo W _ _ (built_told (sha2 h.bytes) l32 (heightM L2 L.length) tn (decide ((bkT L2 (bestM L2)).hash = sha2 h.bytes)))
   have sTD := tdC_size l32 (heightM L2 L.length) (decide ((bkT L2 (bestM L2)).hash = sha2 h.bytes)) tn
   have oTD := tdC_one (sha2 h.bytes) (heightM L2 L.length) (decide ((bkT L2 (bestM L2)).hash = sha2 h.bytes)) tn
   obtain ⟨TD,hTD⟩ : ∃ TD,tdC (sha2 h.bytes) (heightM L2 L.length) (decide ((bkT L2 (bestM L2)).hash = sha2 h.bytes)) tn = TD := ⟨_,rfl⟩
   rw [hTD] at hbt sTD oTD
   have HTD := Lib.hid hTD
   have HHs := Lib.hid (fun W (f : Fr F0 W8 W) => HH.out W (hcub8.fr f fun f => f))
   have sY := hc_size l32
   have oY := hc_one (sha2 h.bytes)
   have sV := hc_size (I6.at32 I6.best)
   have oV := hc_one (bkT L2 (bestM L2)).hash
   generalize hc (sha2 h.bytes) = Y at *
   generalize hc (bkT L2 (bestM L2)).hash = V at *
   obtain ⟨bb,hbb⟩ : ∃ bb,decide ((bkT L2 (bestM L2)).hash = sha2 h.bytes) = bb := ⟨_,rfl⟩
   obtain ⟨ht,hht⟩ : ∃ ht,heightM L2 L.length = ht := ⟨_,rfl⟩
   rw [hbb] at heq
   have hbt' := hbt
   rw [hbb,hht] at hbt'
   rw [hht] at HKH
   clear hbb hht hbt
   have HF8 := Lib.hid F8
   have G := Fr.refl F0 W8
   clear hW8 fs nq T8 F8 hcub8 nt4 hnew hcl6 hlen I6 hR l32 hTD n4 n6 HH
   go_wp2_with fail
   (with_reducible refine (HHs.out _ G).mono ?_); rintro e1 w9 ⟨rfl,f⟩
   replace rq := keep_fr f rq
   replace r4 := keep_fr f r4
   replace G := G.trans' f
   clear f r6 r8
   go_upto_region 13 with fail
   refine wp_put fun W10 N => ?_
   have r11 := N.new
   replace rq := N.old rq
   replace r4 := N.old r4
   replace G := G.trans' N.fr
   have HG11 := Lib.hid (Array.getElem?_eq_some_iff.1 r4).1
   clear N HHs
   generalize w9.heap.size = g11 at *
   have n11 := cells_apart r11 r4 (by decide)
   have nq4 := cells_apart rq r4 (by decide)
   have G4 := (G.of0 (T := fun j => j = g4))
   refine rbegin (S := (fun w' => (w'.heap[q]? = some (.cells #[.pointer (some ⟨p,0,none⟩),.int .i64 (k : Int),.int .i64 (m : Int)] 93 (0,0)) ∧ w'.heap[g4]? = some (.cells Z 49 (0,0)) ∧ w'.heap[g11]? = some (.cells Y 25 (0,0))) ∧ Fr (fun j => j = g4) W8 w')) ?_ fun hHeld => ?_
   ·((try dsimp only) <;> (exact ⟨⟨rq,r4,r11⟩,G4.drew⟩))
   refine rtake 0 ?_
   refine rtake 1 ?_
   refine rtake 2 ?_
   refine rtake 3 ?_
   refine rtake 4 ?_
   refine rone 5 fun K hK => ?_
   go_simp
   ((with_reducible refine (HKH.out _ hHeld.2).mono ?_); rintro e w5 ⟨rfl,f5⟩)
   refine hK.out _ _ ?_ (fun hHeld => ?_)
   ·((try dsimp only) <;> (first | exact hHeld | exact ⟨⟨keep_fr f5 hHeld.1.1,keep_fr f5 hHeld.1.2.1,keep_fr f5 hHeld.1.2.2⟩,hHeld.2.trans f5 fun _ _ e => e.elim⟩))
   clear hK K
   try (simp only [Act.put,aST]; dsimp only [aS0,aS1])
   refine rtake 6 ?_
   refine rtake 7 ?_
   refine rtake 8 ?_
   refine rtake 9 ?_
   refine rtake 10 ?_
   refine rdone ?_
   all_goals
    clear rq r4 r11 G4 G
    obtain ⟨⟨rq,r4,r11⟩,G4⟩ := hHeld
    go_upto_region 14 with fail
    refine rbegin (S := (fun w' => (w'.heap[q]? = some (.cells #[.pointer (some ⟨p,0,none⟩),.int .i64 (k : Int),.int .i64 (m : Int)] 93 (0,0)) ∧ w'.heap[g11]? = some (.cells Y 25 (0,0)) ∧ ∃ Z2 : Array Value,Z2.size = 35 ∧ w'.heap[g4]? = some (.cells Z2 49 (0,0))) ∧ Fr (fun j => j = g4) W8 w')) ?_ fun hHeld => ?_
    ·((try dsimp only) <;> (exact ⟨⟨rq,r11,Z,sz4,r4⟩,G4.drew⟩))
    refine rtake 0 ?_
    refine rtake 1 ?_
    refine rtake 2 ?_
    refine rtake 3 ?_
    refine rtake 4 ?_
    refine rtake 5 ?_
    refine rtake 7 ?_
    refine rtake 9 ?_
    refine rone 6 fun K hK => ?_
    go_simp
    ((with_reducible refine (HKB.out _ hHeld.2).mono ?_); rintro e w5 ⟨rfl,f5⟩)
    refine hK.out _ _ ?_ (fun hHeld => ?_)
    ·((try dsimp only) <;> (first | exact hHeld | exact ⟨⟨keep_fr f5 hHeld.1.1,keep_fr f5 hHeld.1.2.1,let ⟨Z2,a,b⟩ := hHeld.1.2.2; ⟨Z2,a,keep_fr f5 b⟩⟩,hHeld.2.trans f5 fun _ _ e => e.elim⟩))
    clear hK K
    try (simp only [Act.put,aST]; dsimp only [aS0,aS1])
    refine rtake 8 ?_
    refine rtake 10 ?_
    refine rone 11 fun K hK => ?_
    go_simp
    ((obtain ⟨Z2,sz2,r4'⟩ := hHeld.1.2.2); (rw [rowIn_of (old := Z2) (t' := 49) r4' sz2 sTD oTD]; go_simp))
    refine hK.out _ _ ?_ (fun hHeld => ?_)
    ·((try dsimp only) <;> (first | exact hHeld | exact ⟨⟨keep_row nq4 hHeld.1.1,keep_row n11 hHeld.1.2.1,TD,sTD,new_row r4'⟩,hHeld.2.setRow (fun _ => rfl) _⟩))
    clear hK K
    try (simp only [Act.put,aST]; dsimp only [aS0,aS1])
    refine rtake 12 ?_
    refine rdone ?_
    all_goals
     have q2 := Lib.hid (new_row (c := TD) r4')
     have HE := Lib.hid hHeld
     clear hHeld rq r4 r11 G4
     go_wp2
     refine bodyPost_ret (results_cell_row_tmp rfl _ _ g4 _ _ _ _ rfl q2.out Tryz.underlying49 rfl (by rw [Tryz.szTold,sTD])) rfl ?_
     obtain ⟨⟨rq,_,_⟩,G4⟩ := HE.out
     obtain ⟨e1,e2,e3,hi,nb,e6,e7⟩ := HL2.out
     have F9 := HF8.out
     have T9 := HK8.out _ G4
     refine ⟨i,hi,qn,nb,?_,v',?_,?_,HV.out.1,HV.out.2,?_⟩
     ·rw [e6,e1,HTD.out]; rfl
     ·rw [e1,e2,e3]; exact T9
     ·rw [e6,e7]; exact rq
     ·exact F9.trans G4 fun j hj e => absurd hj (by have := g4l.out; omega)
  ·have f := hne hE
   replace F := F.trans' f
   have hEn : ¬ EE = 0 := hE
   have HEN := Lib.hid hE
   have q2 := Lib.hid (setRow_heap _ _ _ ZZ _ _ r4)
   have F9 := Lib.hid (F.setRow (fun h => absurd h g4l.out) ZZ)
   clear hE hne hz f
   replace g4l := Lib.hid g4l
   go_wp2
   refine bodyPost_ret (results_cell_row_tmp rfl _ _ g4 _ _ _ _ rfl q2.out Tryz.underlying49 rfl (by rw [Tryz.szTold,sZ])) rfl ⟨fun _ => ⟨rfl,F9.out⟩,fun h => absurd h HEN.out⟩
end Go.Proofs.YtedffdlkmpmdlaaGreatDoor
namespace Go.Proofs.YtedffdlkmpmdlaaGreatDoor
set_option maxRecDepth 100000
set_option linter.unusedVariables false
set_option linter.unusedSimpArgs false
open Go.RowKit
theorem made13 {w : World} {p : Nat} {R : Array Value} {bm : Nat} {H : List Hd} {L : List Bk} {ps : List Nat} {v : Value} {ch : List (List UInt8)} {e s : Nat} (ri : RI R e s lim0) (I : TI H L ps) (hbits : ∀ i,i < L.length → btP (bkT L i).bits) (T : TM w p R bm H L ps v ch) (hcub : Cub w) (h : Hd) (o : h.Ok) (kind ah late : Int) (rt : UInt8) :
  Calls Tryz.prog 11 #[.pointer (some ⟨p,0,none⟩),.agg h.cells,.agg #[.int .i64 kind,.int .i64 ah,.int .i32 late,B8 rt]] w fun ed w' => (∃ n : Nat,n < 4294967296 ∧ ed = .returned (.agg ((mkM (mkK kind (mk0 h late rt (bitA L e s lim0 (sha2 h.bytes))))).with n).cells) ∧ (¬ kind = 2 → n = (mkM (mkK kind (mk0 h late rt (bitA L e s lim0 (sha2 h.bytes))))).nonce)) ∧ Fr F0 w w' := by
 refine (Made12_any hHashC hMineC hCheckC (.pointer (some ⟨p,0,none⟩)) (bitA L e s lim0) (bitZ L) (fun A => bitA_lt I.wf A) h o kind ah late rt w hcub (Lib.hid fun A hA w' f' => kBits_any decC encTC scaleC ri I (T.fr f') hbits A hA)).mono ?_
 rintro ed w' ⟨n,hn,rfl,h2,f'⟩
 exact ⟨⟨n,hn,rfl,h2⟩,f'⟩
def H13 : Hd := { ver := 2,ahead := hashF,root := zero7,time := 1010,bits := 545259519,nonce := 0 }
theorem H13.ok : H13.Ok := ⟨by decide,rfl,rfl,by decide,by decide,by decide⟩
def hash13 : List UInt8 := [14,180,65,80,199,198,87,6,27,60,168,210,222,103,105,168,166,161,137,121,68,94,160,76,106,95,248,18,73,48,246,12]
theorem H13.sum : sha2 H13.bytes = hash13 := by
 rw [sha2,sha_is,sha_is]
 decide +kernel
theorem H13.meets : mtH H13 = true := by
 rw [mtH,hsh,H13.sum]
 decide +kernel
theorem H13.mine : mineN H13 400 0 = some 0 := by
 rw [show (400 : Nat) = 399 + 1 from rfl,mineN,show H13.with 0 = H13 from rfl,H13.meets,if_pos rfl]
theorem H13.made : mkM (mkK 0 (mk0 Fh 10 0 545259519)) = H13 := by
 have e : mkK 0 (mk0 Fh 10 0 545259519) = H13 := by
  rw [mkK,if_neg (by decide),if_neg (by decide),mk0,Fh.sum,show mkT Fh.time 10 = 1010 by decide +kernel]
  rfl
 rw [e,mkM,mineO,Go.Proofs.YtedffdlkmpmdlaaGreatDoor.mineH,show H13.nonce = 0 from rfl,H13.mine]
 rfl
def L13 : List Bk := [⟨hashF,-1,1000,545259519,.bool false⟩]
def L13b : List Bk := [⟨hashF,-1,1000,545259519,.bool false⟩,⟨hash13,0,1010,545259519,.bool false⟩]
theorem L13_is : [b0 (.bool false)] = L13 := by unfold b0; rw [Fh.sum]; rfl
theorem L13b_is : [b0 (.bool false)] ++ [nbB H13 (.bool false) 0] = L13b := by rw [L13_is]; unfold nbB; rw [H13.sum]; rfl
theorem bit13 : bitA [b0 (.bool false)] 5 100 lim0 (sha2 Fh.bytes) = 545259519 := by
 rw [L13_is,Fh.sum]
 decide +kernel
theorem chk13 : chkE [b0 (.bool false)] 5 100 lim0 (plainB H13 (.bool false)) H13.ahead (mtH H13) = 0 := by
 rw [L13_is,H13.meets,plainB,H13.sum]
 decide +kernel
theorem find13 : findM [b0 (.bool false)] H13.ahead = ((0 : Nat) : Int) := by
 rw [L13_is]
 decide +kernel
theorem told13 : heightM L13b 1 = 1 ∧ (bkT L13b (bestM L13b)).hash = hash13 ∧ cfE L13b 2 hash13 = 13 ∧ cfE L13b 2 hashF = 0 := by
 decide +kernel
theorem tdC_32 {hs : List UInt8} (l : hs.length = 32) (ht : Nat) (b : Bool) (tn : Nat) : (tdC hs ht b tn)[32]? = some (.int .i64 (ht : Int)) ∧ (tdC hs ht b tn)[33]? = some (.bool b) ∧ (tdC hs ht b tn)[34]? = some (.int .i64 (tn : Int)) := by
 have e : (hs.map B8).length = 32 := by simp [l]
 refine ⟨?_,?_,?_⟩ <;>
 ·rw [tdC,List.getElem?_toArray,List.getElem?_append_right (by omega),e]; rfl
def buildSt (parts : Array (Nat × Value)) : Sem Value := Instr.build 38 parts
@[go_sem ↓ high] theorem build_st12 (p : Array (Nat × Value)) : Instr.build 38 p = buildSt p := rfl
theorem run_buildSt10 (w : World) : (buildSt #[(2,.int .i32 10)]).run Tryz.prog w = .ok (.agg #[.int .i64 0,.int .i64 0,.int .i32 10,.int .u8 0]) w := run_build w _ _ _ (by kernel_rfl)
theorem lv13 {s0 s3 s4 s5 s6 s7 s8 s9 s10 s11 s12 s13 s14 s15 s16 s17 s18 s19 s20 s21 s22 s23 s24 s25 s26 s27 s28 s29 s30 s31 s32 s33 s34 s35 s36 s37 s38 s39 s40 s41 s42 s43 s44 s45 s46 s47 s48 s49 s50 s51 s52 s53 s54 s55 s56 s57 s58 s59 s60 : Value} {K : Act → World → Prop} {Q : Exit → Act → World → Prop} (w3 : World) (FC Y : Array Value) (q p g1 : Nat) (H0 : RowKit.Hid (∀ W : World,Fr F0 w3 W → Calls Tryz.prog 17 #[.pointer (some ⟨q,0,none⟩)] W fun e w' => e = .returned (.pointer (some ⟨p,0,none⟩)) ∧ Fr F0 W w')) (H2 : RowKit.Hid (∀ W : World,Fr F0 w3 W → Calls Tryz.prog 11 #[.pointer (some ⟨p,0,none⟩),.agg FC,.agg #[.int .i64 0,.int .i64 0,.int .i32 10,.int .u8 0]] W fun e w' => e = .returned (.agg Y) ∧ Fr F0 W w')) (H1 : RowKit.Hid (∀ W : World,Fr F0 w3 W → (loadRowAt 27 (.pointer (some ⟨g1,4,none⟩))).run Tryz.prog W = .ok (.agg FC) W)) (sY : Y.size = 68) (oY : rowOne Y)
  (hK : RowKit.Hid (∀ {u4 u13 u14 u15 u16 u17 u18 : Value} {w' : World},((∃ g4 : Nat,u4 = .pointer (some ⟨g4,0,none⟩) ∧ w3.heap.size ≤ g4 ∧ w'.heap[g4]? = some (.cells Y 27 (0,0))) ∧ Fr F0 w3 w') → K ⟨#[s0,.pointer (some ⟨g1,0,none⟩),.pointer (some ⟨q,0,none⟩),s3,u4,s5,s6,s7,s8,s9,s10,s11,s12,u13,u14,u15,u16,u17,u18,s19,s20,s21,s22,s23,s24,s25,s26,s27,s28,s29,s30,s31,s32,s33,s34,s35,s36,s37,s38,s39,s40,s41,s42,s43,s44,s45,s46,s47,s48,s49,s50,s51,s52,s53,s54,s55,s56,s57,s58,s59,s60],[]⟩ w')) :
  Code.wp Tryz.prog ((Tryz.f15.body.bind (findRegion 3)).getD .skip) (Exit.then K Q) ⟨#[s0,.pointer (some ⟨g1,0,none⟩),.pointer (some ⟨q,0,none⟩),s3,s4,s5,s6,s7,s8,s9,s10,s11,s12,s13,s14,s15,s16,s17,s18,s19,s20,s21,s22,s23,s24,s25,s26,s27,s28,s29,s30,s31,s32,s33,s34,s35,s36,s37,s38,s39,s40,s41,s42,s43,s44,s45,s46,s47,s48,s49,s50,s51,s52,s53,s54,s55,s56,s57,s58,s59,s60],[]⟩ w3 := by
 conv => arg 2; whnf
 have F9 := Fr.refl F0 w3
 have hbs := run_buildSt10
 have z5 := Nat.le_refl w3.heap.size
 refine rbegin (S := (fun w' => (loadRowAt 27 (.pointer (some ⟨g1,4,none⟩))).run Tryz.prog w' = .ok (.agg FC) w' ∧ Fr F0 w3 w')) ?_ fun hHeld => ?_
 ·((try dsimp only) <;> (exact ⟨H1.out _ F9.drew,F9.drew⟩))
 refine rtake 0 ?_
 refine rtake 2 ?_
 refine rtake 3 ?_
 refine rtake 4 ?_
 refine wpAnyH_ready (rs := [1,6]) (by kernel_rfl) (by simp) ?_
 refine AllReadyH.cons (o := ⟨_,_,_,_,_,_⟩) rfl (fun K hK => ?_) (AllReadyH.cons (o := ⟨_,_,_,_,_,_⟩) rfl (fun K hK => ?_) AllReadyH.nil)
 go_simp
 ((with_reducible refine (H0.out _ hHeld.2).mono ?_); rintro e w5 ⟨rfl,f5⟩; have z5 := (hHeld.2.trans' f5).size; (try simp only [World.size_alloc,heap_drew'] at z5))
 refine hK.out _ _ ?_ (fun hHeld => ?_)
 ·((try dsimp only) <;> (first | exact hHeld | exact ⟨H1.out _ (hHeld.2.trans' f5),hHeld.2.trans' f5⟩ | exact ⟨H1.out _ (hHeld.2.alloc _),hHeld.2.alloc _⟩))
 clear hK K
 try (simp only [Act.put,aST]; dsimp only [aS0,aS1])
 refine wpAnyH_ready (rs := [5,6]) (by kernel_rfl) (by simp) ?_
 refine AllReadyH.cons (o := ⟨_,_,_,_,_,_⟩) rfl (fun K hK => ?_) (AllReadyH.cons (o := ⟨_,_,_,_,_,_⟩) rfl (fun K hK => ?_) AllReadyH.nil)
 go_simp
 ((with_reducible refine (H2.out _ hHeld.2).mono ?_); rintro e w5 ⟨rfl,f5⟩; have z5 := (hHeld.2.trans' f5).size; (try simp only [World.size_alloc,heap_drew'] at z5))
 refine hK.out _ _ ?_ (fun hHeld => ?_)
 ·((try dsimp only) <;> (first | exact hHeld | exact ⟨H1.out _ (hHeld.2.trans' f5),hHeld.2.trans' f5⟩ | exact ⟨H1.out _ (hHeld.2.alloc _),hHeld.2.alloc _⟩))
 clear hK K
 try (simp only [Act.put,aST]; dsimp only [aS0,aS1])
 refine rone 6 fun K hK => ?_
 go_simp
 refine hK.out _ _ ?_ (fun hHeld => ?_)
 ·((try dsimp only) <;> (first | exact hHeld | exact ⟨H1.out _ (hHeld.2.trans' f5),hHeld.2.trans' f5⟩ | exact ⟨H1.out _ (hHeld.2.alloc _),hHeld.2.alloc _⟩ | exact ⟨H1.out _ (hHeld.2.setRow (fun h => by (try simp only [World.size_alloc,heap_drew'] at h z5); omega) _),hHeld.2.setRow (fun h => by (try simp only [World.size_alloc,heap_drew'] at h z5); omega) _⟩))
 clear hK K
 try (simp only [Act.put,aST]; dsimp only [aS0,aS1])
 refine rone 7 fun K hK => ?_
 go_simp
 (try (rw [rowIn_of (old := Tryz.zeroCells27) (t' := 27) (by ((try rw [← Array.getElem?_eq_getElem]); repeat (first | rfl | exact heap_alloc_new _ _ | refine keep_alloc ?_ | refine keep_fr (by assumption) ?_))) zHd_size sY oY]; go_simp))
 refine hK.out _ _ ?_ (fun hHeld => ?_)
 ·((try dsimp only) <;> (first | exact hHeld | exact ⟨H1.out _ (hHeld.2.trans' f5),hHeld.2.trans' f5⟩ | exact ⟨H1.out _ (hHeld.2.alloc _),hHeld.2.alloc _⟩ | exact ⟨H1.out _ (hHeld.2.setRow (fun h => by (try simp only [World.size_alloc,heap_drew'] at h z5); omega) _),hHeld.2.setRow (fun h => by (try simp only [World.size_alloc,heap_drew'] at h z5); omega) _⟩))
 clear hK K
 try (simp only [Act.put,aST]; dsimp only [aS0,aS1])
 refine rdone ?_
 rotate_left
 go_simp
 refine hK.out _ _ ?_ (fun hHeld => ?_)
 ·((try dsimp only) <;> (first | exact hHeld | exact ⟨H1.out _ (hHeld.2.trans' f5),hHeld.2.trans' f5⟩ | exact ⟨H1.out _ (hHeld.2.alloc _),hHeld.2.alloc _⟩ | exact ⟨H1.out _ (hHeld.2.setRow (fun h => by (try simp only [World.size_alloc,heap_drew'] at h z5); omega) _),hHeld.2.setRow (fun h => by (try simp only [World.size_alloc,heap_drew'] at h z5); omega) _⟩))
 clear hK K
 try (simp only [Act.put,aST]; dsimp only [aS0,aS1])
 refine rone 5 fun K hK => ?_
 go_simp
 ((with_reducible refine (H2.out _ hHeld.2).mono ?_); rintro e w5 ⟨rfl,f5⟩; have z5 := (hHeld.2.trans' f5).size; (try simp only [World.size_alloc,heap_drew'] at z5))
 refine hK.out _ _ ?_ (fun hHeld => ?_)
 ·((try dsimp only) <;> (first | exact hHeld | exact ⟨H1.out _ (hHeld.2.trans' f5),hHeld.2.trans' f5⟩ | exact ⟨H1.out _ (hHeld.2.alloc _),hHeld.2.alloc _⟩))
 clear hK K
 try (simp only [Act.put,aST]; dsimp only [aS0,aS1])
 refine rone 7 fun K hK => ?_
 go_simp
 (try (rw [rowIn_of (old := Tryz.zeroCells27) (t' := 27) (by ((try rw [← Array.getElem?_eq_getElem]); repeat (first | rfl | exact heap_alloc_new _ _ | refine keep_alloc ?_ | refine keep_fr (by assumption) ?_))) zHd_size sY oY]; go_simp))
 refine hK.out _ _ ?_ (fun hHeld => ?_)
 ·((try dsimp only) <;> (first | exact hHeld | exact ⟨H1.out _ (hHeld.2.trans' f5),hHeld.2.trans' f5⟩ | exact ⟨H1.out _ (hHeld.2.alloc _),hHeld.2.alloc _⟩ | exact ⟨H1.out _ (hHeld.2.setRow (fun h => by (try simp only [World.size_alloc,heap_drew'] at h z5); omega) _),hHeld.2.setRow (fun h => by (try simp only [World.size_alloc,heap_drew'] at h z5); omega) _⟩))
 clear hK K
 try (simp only [Act.put,aST]; dsimp only [aS0,aS1])
 refine rdone ?_
 rotate_left
 go_simp
 refine hK.out _ _ ?_ (fun hHeld => ?_)
 ·((try dsimp only) <;> (first | exact hHeld | exact ⟨H1.out _ (hHeld.2.trans' f5),hHeld.2.trans' f5⟩ | exact ⟨H1.out _ (hHeld.2.alloc _),hHeld.2.alloc _⟩ | exact ⟨H1.out _ (hHeld.2.setRow (fun h => by (try simp only [World.size_alloc,heap_drew'] at h z5); omega) _),hHeld.2.setRow (fun h => by (try simp only [World.size_alloc,heap_drew'] at h z5); omega) _⟩))
 clear hK K
 try (simp only [Act.put,aST]; dsimp only [aS0,aS1])
 refine rone 1 fun K hK => ?_
 go_simp
 ((with_reducible refine (H0.out _ hHeld.2).mono ?_); rintro e w5 ⟨rfl,f5⟩; have z5 := (hHeld.2.trans' f5).size; (try simp only [World.size_alloc,heap_drew'] at z5))
 refine hK.out _ _ ?_ (fun hHeld => ?_)
 ·((try dsimp only) <;> (first | exact hHeld | exact ⟨H1.out _ (hHeld.2.trans' f5),hHeld.2.trans' f5⟩ | exact ⟨H1.out _ (hHeld.2.alloc _),hHeld.2.alloc _⟩))
 clear hK K
 try (simp only [Act.put,aST]; dsimp only [aS0,aS1])
 refine rone 5 fun K hK => ?_
 go_simp
 ((with_reducible refine (H2.out _ hHeld.2).mono ?_); rintro e w5 ⟨rfl,f5⟩; have z5 := (hHeld.2.trans' f5).size; (try simp only [World.size_alloc,heap_drew'] at z5))
 refine hK.out _ _ ?_ (fun hHeld => ?_)
 ·((try dsimp only) <;> (first | exact hHeld | exact ⟨H1.out _ (hHeld.2.trans' f5),hHeld.2.trans' f5⟩ | exact ⟨H1.out _ (hHeld.2.alloc _),hHeld.2.alloc _⟩))
 clear hK K
 try (simp only [Act.put,aST]; dsimp only [aS0,aS1])
 refine rone 7 fun K hK => ?_
 go_simp
 (try (rw [rowIn_of (old := Tryz.zeroCells27) (t' := 27) (by ((try rw [← Array.getElem?_eq_getElem]); repeat (first | rfl | exact heap_alloc_new _ _ | refine keep_alloc ?_ | refine keep_fr (by assumption) ?_))) zHd_size sY oY]; go_simp))
 refine hK.out _ _ ?_ (fun hHeld => ?_)
 ·((try dsimp only) <;> (first | exact hHeld | exact ⟨H1.out _ (hHeld.2.trans' f5),hHeld.2.trans' f5⟩ | exact ⟨H1.out _ (hHeld.2.alloc _),hHeld.2.alloc _⟩ | exact ⟨H1.out _ (hHeld.2.setRow (fun h => by (try simp only [World.size_alloc,heap_drew'] at h z5); omega) _),hHeld.2.setRow (fun h => by (try simp only [World.size_alloc,heap_drew'] at h z5); omega) _⟩))
 clear hK K
 try (simp only [Act.put,aST]; dsimp only [aS0,aS1])
 refine rdone ?_
 rotate_left
 all_goals
  refine hK.out ⟨⟨_,rfl,by (try simp only [World.size_alloc,heap_drew'] at z5 ⊢); omega,?_⟩,hHeld.2⟩
  refine (new_row (z := Tryz.zeroCells27) (t := 27) (f := (0,0)) ?_)
  repeat (first | exact heap_alloc_new _ _ | refine keep_alloc ?_ | refine keep_fr (by assumption) ?_)
theorem lives13_any (w : World) (hcub : Cub w) :
  Calls Tryz.prog 15 #[] w fun e w' => e = .returned (.bool true) ∧ Fr F0 w w' := by
 have HC := Lib.hid hcub
 have HR := Lib.hid (fun W (hcu : Cub W) => show Calls Tryz.prog 9 #[.int .i64 3,.int .u32 99,.int .i64 1] W fun e w' => e = .returned (.agg (ruC 5 100 2)) ∧ Fr F0 W w' from by
  have := Rules12_any hMineC 3 1 99 (by omega) (by omega) (by omega) W hcu
  exact this)
 have HN := Lib.hid (fun W (hcu : Cub W) => lNew_any 5 100 2 (by omega) (by omega) (by omega) (by omega) (by omega) (by omega) W hcu)
 have HLD := Lib.hid (fun W g (h : W.heap[g]? = some (.cells (ruC 5 100 2) 29 (0,0))) => first_load 5 100 2 W g h)
 have hru := ruC_of 5 100 2 (by omega)
 have HRI := Lib.hid (show RI (ruC 5 100 2) 5 100 lim0 from ⟨⟨_,hru⟩,by omega,by omega,by omega,lim0_P⟩)
 have hR := hru.size
 have oR := hru.one
 have c3 := hru.c3
 have HM := Lib.hid (fun W p bm q v (T : TM W p (ruC 5 100 2) bm [Fh] [b0 (.bool false)] [q] v (chn [b0 (.bool false)])) (hcu : Cub W) => show Calls Tryz.prog 11 #[.pointer (some ⟨p,0,none⟩),.agg Fh.cells,.agg #[.int .i64 0,.int .i64 0,.int .i32 10,.int .u8 0]] W fun e w' => e = .returned (.agg H13.cells) ∧ Fr F0 W w' from by
  refine (made13 HRI.out (TI_first rfl q) (fun i hi => ((GB_b0 (.bool false)) i hi).1) T hcu Fh Fh.ok 0 0 10 0).mono ?_
  rintro e w' ⟨⟨n,_,rfl,h2⟩,f⟩
  rw [bit13] at h2 ⊢
  rw [H13.made] at h2 ⊢
  rw [h2 (by decide)]
  exact ⟨rfl,f⟩)
 have HB := Lib.hid (hBytesC H13 H13.ok)
 have h80 : H13.bytes.length = 80 := Hd.bytes_length H13.ok
 have tb0 : TB [b0 (.bool false)] 5 100 lim0 := (GB_b0 (.bool false)).tb (TI_first (v := .bool false) rfl 0).wf (by simp) (by omega)
 have HS := Lib.hid (fun W q p bm qf v a c (T : TM W p (ruC 5 100 2) bm [Fh] [b0 (.bool false)] [qf] v (chn [b0 (.bool false)])) (rq : W.heap[q]? = some (.cells (ryC p 2 0) 93 (0,0))) (hb : Bs W a c H13.bytes) (hcu : Cub W) (hnc : ¬ (TS p bm [qf] v 0 ∨ 0 = q)) =>
  (show Calls Tryz.prog 18 #[.pointer (some ⟨q,0,none⟩),.slice a 80 c] W fun e w' => ∃ tn qn v',e = .returned (.tuple #[.agg (tdC hash13 1 true tn),.int .i64 0]) ∧ TI [Fh,H13] L13b [qf,qn] ∧ TM w' p (ruC 5 100 2) bm [Fh,H13] L13b [qf,qn] v' (chn L13b) ∧ w'.heap[q]? = some (.cells (ryC p 2 (max 0 tn)) 93 (0,0)) ∧ Fr (fun j => TS p bm [qf] v j ∨ j = q) W w' from by
   have := lSubmit_any HRI.out (TI_first rfl qf) tb0 T rq H13 H13.ok a c hb hcu hnc
   rw [h80] at this
   refine this.mono ?_
   rintro e w' ⟨_,h2⟩
   obtain ⟨i,hi,qn,v',nb,rfl,T',rq',_,_,f⟩ := h2 chk13
   rw [find13] at hi
   obtain rfl : i = 0 := by omega
   have I' := (TI_first (v := .bool false) rfl qf).snoc nb
   rw [L13b_is] at T' rq' I'
   refine ⟨_,qn,v',?_,I',T',rq',f⟩
   rw [L13b_is,H13.sum,told13.2.1]
   rw [show heightM L13b [b0 (.bool false)].length = 1 from told13.1]
   rfl))
 have HH := Lib.hid (fun W (hcu : Cub W) => show Calls Tryz.prog 22 #[.agg H13.cells] W fun e w' => e = .returned (.agg (hc hash13)) ∧ Fr F0 W w' from by
  have := hHashC H13 H13.ok W hcu
  rw [H13.sum] at this
  exact this)
 have HF := Lib.hid (fun W (hcu : Cub W) => show Calls Tryz.prog 22 #[.agg Fh.cells] W fun e w' => e = .returned (.agg (hc hashF)) ∧ Fr F0 W w' from by
  have := hHashC Fh Fh.ok W hcu
  rw [Fh.sum] at this
  exact this)
 have HCf := Lib.hid (fun W q p bm ps v d (I : TI [Fh,H13] L13b ps) (T : TM W p (ruC 5 100 2) bm [Fh,H13] L13b ps v (chn L13b)) (rq : W.heap[q]? = some (.cells (ryC p 2 d) 93 (0,0))) => show
   (Calls Tryz.prog 28 #[.pointer (some ⟨q,0,none⟩),.agg (hc hash13)] W fun e w' => e = .returned (.int .i64 13) ∧ Fr F0 W w') ∧
   (Calls Tryz.prog 28 #[.pointer (some ⟨q,0,none⟩),.agg (hc hashF)] W fun e w' => e = .returned (.int .i64 0) ∧ Fr F0 W w') from by
  have h1 := lConfirmed_any hR I T rq hash13 rfl
  have h2 := lConfirmed_any hR I T rq hashF rfl
  rw [told13.2.2.1] at h1
  rw [told13.2.2.2] at h2
  exact ⟨h1,h2⟩)
 have HT := Lib.hid (fun W q p d (rq : W.heap[q]? = some (.cells (ryC p 2 d) 93 (0,0))) => show Calls Tryz.prog 17 #[.pointer (some ⟨q,0,none⟩)] W fun e w' => e = .returned (.pointer (some ⟨p,0,none⟩)) ∧ Fr F0 W w' from
  (lTree_any rq).mono (by rintro e w' ⟨rfl,rfl⟩; exact ⟨rfl,Fr.refl _ _⟩))
 have hcl := hcub.lt
 have HTD := Lib.hid (fun tn => And.intro (tdC_size (hs := hash13) rfl 1 true tn) (And.intro (tdC_one hash13 1 true tn) (tdC_32 (hs := hash13) rfl 1 true tn)))
 have sF : Fh.cells.size = 68 := rfl
 have sY : H13.cells.size = 68 := rfl
 have oY : rowOne H13.cells := Hd.one
 obtain ⟨TDf,hTDf⟩ : ∃ f : Nat → Array Value,f = tdC hash13 1 true := ⟨_,rfl⟩
 rw [← hTDf] at HTD HS
 generalize ruC 5 100 2 = R at *
 have z3 : 3 < R.size := by omega
 have d3 := cell_is c3 z3
 have HBy : Hid (∀ w,Calls Tryz.prog 19 #[.agg H13.cells] w fun e w' => ∃ a c,e = .returned (.slice a 80 c) ∧ Bs w' a c H13.bytes ∧ Fr F0 w w') := Lib.hid fun w => (HB.out w).mono (by
  rintro e w' ⟨a,c,rfl,hb,f,_⟩
  rw [h80]
  exact ⟨a,c,rfl,hb,f⟩)
 generalize Fh.cells = FC at *
 generalize H13.cells = Y at *
 generalize hc hash13 = Xh at *
 generalize hc hashF = Xf at *
 clear hcub hru HB h80 tb0 hTDf
 have HCL := Lib.hid hcl
 clear hcl
 have F := Fr.refl F0 w
 go_enter Tryz.func15,Tryz.ntmps15
 go_wp2_with fail
 (with_reducible refine (HR.out _ HC.out).mono ?_); rintro e1 w1 ⟨rfl,f⟩
 replace F := F.trans' f
 clear f
 go_upto_region 2 with fail
 refine wp_put fun W2 N => ?_
 have r1 := N.new
 replace F := F.trans' N.fr
 clear N
 generalize w1.heap.size = g1 at *
 go_wp2_with fail
 (with_reducible refine (HN.out _ (HC.out.fr F fun f => f)).mono ?_); rintro e1 w3 ⟨⟨q,p,bm,qf,sl,rfl,T,rq,lo⟩,f⟩
 have hz2 := F.size
 replace r1 := keep_fr f r1
 replace F := F.trans' f
 clear f
 have HTT := Lib.hid (And.intro T rq)
 have HLO := Lib.hid (show ∀ j,TS p bm [qf] (.slice (some ⟨sl,0,none⟩) 1 1) j ∨ j = q → w.heap.size ≤ j from by
  rintro j ((h | h | h | h) | h)
  ·omega
  ·omega
  ·rw [List.mem_singleton] at h; omega
  ·cases h; exact Nat.le_trans hz2 lo.2.2.2.1
  ·omega)
 clear T rq lo hz2
 go_upto_region 3 with fail
 refine lv13 w3 FC Y q p g1 (Lib.hid fun W f => HT.out W q p 0 (keep_fr f HTT.out.2)) (Lib.hid fun W f => HM.out W p bm qf _ (HTT.out.1.fr f) (HC.out.fr (F.trans' f) fun f => f)) (Lib.hid fun W f => HLD.out W g1 (keep_fr f r1)) sY oY (Lib.hid ?_)
 rename_i w4
 rintro ⟨⟨g4,rfl,_,r4⟩,f⟩
 replace r1 := keep_fr f r1
 replace F := F.trans' f
 have T := HTT.out.1.fr f
 have rq := keep_fr f HTT.out.2
 clear f
 go_wp2_with fail
 (with_reducible refine (HBy.out _).mono ?_); rintro e1 w5 ⟨a5,c5,rfl,hb5,f⟩
 replace r1 := keep_fr f r1
 replace r4 := keep_fr f r4
 replace F := F.trans' f
 replace T := T.fr f
 replace rq := keep_fr f rq
 clear f
 have HSS := Lib.hid (HS.out w5 q p bm qf _ a5 c5 T rq hb5 (HC.out.fr F fun f => f) (fun h => by have := HLO.out 0 (h.imp id fun e => e); have := HCL.out; omega))
 have HT5 := Lib.hid (And.intro T (And.intro rq F))
 have nr1 := T.apart rfl r1 (by decide) (by decide) (by decide)
 have nr4 := T.apart rfl r4 (by decide) (by decide) (by decide)
 have nq1 := cells_apart r1 rq (by decide)
 have nq4 := cells_apart r4 rq (by decide)
 clear T rq hb5
 go_wp2_with fail
 (with_reducible refine HSS.out.mono ?_); rintro e1 w6 ⟨tn,qn,v6,rfl,I6,T6,rq6,f⟩
 replace r1 := f.keeps (fun e => e.elim nr1 nq1) r1
 replace r4 := f.keeps (fun e => e.elim nr4 nq4) r4
 replace F := F.trans f fun j hj e => absurd (HLO.out j e) (by omega)
 have HK6 := Lib.hid (fun W (f : Fr F0 w6 W) => HCf.out W q p bm [qf,qn] v6 (max 0 tn) I6 (T6.fr f) (keep_fr f rq6))
 obtain ⟨sTD,oTD,c32,c33,_⟩ := HTD.out tn
 generalize TDf tn = TD at *
 have z32 : 32 < TD.size := by omega
 have z33 : 33 < TD.size := by omega
 have d32 := cell_is c32 z32
 have d33 := cell_is c33 z33
 clear I6 T6 rq6 f nr1 nr4 nq1 nq4 HSS HT5
 go_upto_region 5 with fail
 refine wp_put fun W7 N => ?_
 have r5 := N.new
 replace r1 := N.old r1
 replace r4 := N.old r4
 have G := N.fr
 replace F := F.trans' N.fr
 clear N
 generalize w6.heap.size = g5 at *
 have ld1 := HLD.out _ _ r1
 go_wp2_with fail
 (with_reducible refine (HH.out _ (HC.out.fr F fun f => f)).mono ?_); rintro e1 w8 ⟨rfl,f⟩
 replace r1 := keep_fr f r1
 replace F := F.trans' f
 replace G := G.trans' f
 clear f ld1
 have ld1 := HLD.out _ _ r1
 go_wp2_with fail
 (with_reducible refine (HK6.out _ G).1.mono ?_); rintro e1 w9 ⟨rfl,f⟩
 replace r1 := keep_fr f r1
 replace F := F.trans' f
 replace G := G.trans' f
 clear f ld1
 have ld1 := HLD.out _ _ r1
 go_wp2_with fail
 (with_reducible refine (HF.out _ (HC.out.fr F fun f => f)).mono ?_); rintro e1 w10 ⟨rfl,f⟩
 replace F := F.trans' f
 replace G := G.trans' f
 clear f ld1
 go_wp2_with fail
 (with_reducible refine (HK6.out _ G).2.mono ?_); rintro e1 w11 ⟨rfl,f⟩
 replace F := F.trans' f
 clear f
 go_wp2_with fail
 go_ret
 exact ⟨by first | rfl | simp,F⟩
end Go.Proofs.YtedffdlkmpmdlaaGreatDoor
namespace Go.Proofs.YtedffdlkmpmdlaaGreatDoor
set_option maxRecDepth 100000
set_option linter.unusedVariables false
set_option linter.unusedSimpArgs false
open Go.RowKit
structure RSt (w W : World) (R : Array Value) (p bm q k d : Nat) (H : List Hd) (L : List Bk) (ps : List Nat) (v : Value) (tv : Value) (tl : List Hd) : Prop where
 plen : ps.length = L.length
 T : TM W p R bm H L ps v (chn L)
 Y : W.heap[q]? = some (.cells (ryC p k d) 93 (0,0))
 Q : OwnHd W tv tl
 F : Fr F0 w W
 lo : ∀ j,TS p bm ps v j ∨ j = q ∨ tv.ownBlock = some j → w.heap.size ≤ j
section
variable {w W W' : World} {R : Array Value} {p bm q k d : Nat} {H : List Hd} {L : List Bk} {ps : List Nat} {v : Value} {tv : Value} {tl : List Hd}
theorem RSt.fr (S : RSt w W R p bm q k d H L ps v tv tl) (f : Fr F0 W W') : RSt w W' R p bm q k d H L ps v tv tl :=
 ⟨S.plen,S.T.fr f,keep_fr f S.Y,S.Q.fr f,S.F.trans' f,S.lo⟩
theorem RSt.apart (S : RSt w W R p bm q k d H L ps v tv tl) : ¬ TS p bm ps v q ∧ (∀ j,tv.ownBlock = some j → ¬ TS p bm ps v j ∧ j ≠ q) := by
 refine ⟨S.T.apart S.plen S.Y (by decide) (by decide) (by decide),fun j hj => ?_⟩
 obtain ⟨cur,hc⟩ := S.Q.block hj
 exact ⟨S.T.apart S.plen hc (by decide) (by decide) (by decide),cells_apart hc S.Y (by decide)⟩
theorem RSt.add (S : RSt w W R p bm q k d H L ps v tv tl) (f : Fr (fun j => TS p bm ps v j ∨ j = q) W W') {H' : List Hd} {L' : List Bk} {qn d' : Nat} {v' : Value} (T' : TM W' p R bm H' L' (ps ++ [qn]) v' (chn L')) (hl : L'.length = L.length + 1)
  (Y' : W'.heap[q]? = some (.cells (ryC p k d') 93 (0,0))) (hq : W.heap.size ≤ qn) (hv : ∀ j,v'.ownBlock = some j → v.ownBlock = some j ∨ W.heap.size ≤ j) :
  RSt w W' R p bm q k d' H' L' (ps ++ [qn]) v' tv tl := by
 obtain ⟨a1,a2⟩ := S.apart
 have hs := S.F.size
 refine ⟨by rw [List.length_append,List.length_singleton,hl,S.plen],T',Y',S.Q.frS f fun j hj e => e.elim (a2 j hj).1 (a2 j hj).2,low_trans S.F f fun j hj => S.lo j (hj.imp id fun e => .inl e),fun j hj => ?_⟩
 rcases hj with (hj | hj | hj | hj) | hj | hj
 ·exact S.lo j (.inl (.inl hj))
 ·exact S.lo j (.inl (.inr (.inl hj)))
 ·rw [List.mem_append,List.mem_singleton] at hj
  rcases hj with hj | rfl
  ·exact S.lo j (.inl (.inr (.inr (.inl hj))))
  ·exact Nat.le_trans hs hq
 ·rcases hv j hj with hj | hj
  ·exact S.lo j (.inl (.inr (.inr (.inr hj))))
  ·exact Nat.le_trans hs hj
 ·exact S.lo j (.inr (.inl hj))
 ·exact S.lo j (.inr (.inr hj))
theorem RSt.try (S : RSt w W R p bm q k d H L ps v tv tl) (f : Fr (fun j => tv.ownBlock = some j) W W') {tv2 : Value} {tl2 : List Hd} (o : OwnHd W' tv2 tl2) (hv : ∀ j,tv2.ownBlock = some j → tv.ownBlock = some j ∨ W.heap.size ≤ j) :
  RSt w W' R p bm q k d H L ps v tv2 tl2 := by
 obtain ⟨a1,a2⟩ := S.apart
 have hs := S.F.size
 refine ⟨S.plen,S.T.keepS S.plen f fun j hj e => (a2 j e).1 hj,f.keeps (fun e => (a2 q e).2 rfl) S.Y,o,low_trans S.F f fun j hj => S.lo j (.inr (.inr hj)),fun j hj => ?_⟩
 rcases hj with hj | hj | hj
 ·exact S.lo j (.inl hj)
 ·exact S.lo j (.inr (.inl hj))
 ·rcases hv j hj with hj | hj
  ·exact S.lo j (.inr (.inr hj))
  ·exact Nat.le_trans hs hj
theorem RSt.keep (S : RSt w W R p bm q k d H L ps v tv tl) (f : Fr (fun j => TS p bm ps v j ∨ j = q) W W') {j : Nat} {A : Array Value} {t : TypeId} {f' : Nat × Nat} (h : W.heap[j]? = some (.cells A t f')) (h1 : t ≠ 80) (h2 : t ≠ 77) (h3 : t ≠ 25) (h4 : t ≠ 93) : W'.heap[j]? = some (.cells A t f') :=
 f.keeps (fun e => e.elim (S.T.apart S.plen h h1 h2 h3) fun e => cells_apart h S.Y h4 e) h
theorem RSt.frS (S : RSt w W R p bm q k d H L ps v tv tl) {X : Nat → Prop} (f : Fr X W W') (h : ∀ j,TS p bm ps v j ∨ j = q ∨ tv.ownBlock = some j → ¬ X j) (hx : ∀ j,X j → w.heap.size ≤ j) : RSt w W' R p bm q k d H L ps v tv tl :=
 ⟨S.plen,S.T.keepS S.plen f fun j hj => h j (.inl hj),f.keeps (h q (.inr (.inl rfl))) S.Y,S.Q.frS f fun j hj => h j (.inr (.inr hj)),low_trans S.F f hx,S.lo⟩
theorem RSt.nc (S : RSt w W R p bm q k d H L ps v tv tl) (hcub : Cub w) : ¬ (TS p bm ps v 0 ∨ 0 = q) := fun h => by
 have := S.lo 0 (h.imp id fun e => .inl e)
 have := hcub.lt
 omega
theorem RSt.cub (S : RSt w W R p bm q k d H L ps v tv tl) (hcub : Cub w) : Cub W := hcub.fr S.F fun f => f
end
theorem sub13 {w W : World} {R : Array Value} {p bm q k d e s : Nat} {H : List Hd} {L : List Bk} {ps : List Nat} {v : Value} {tv : Value} {tl : List Hd} (ri : RI R e s lim0) (I : TI H L ps) (g : GB L) (hl : L.length ≤ 31) (S : RSt w W R p bm q k d H L ps v tv tl) (hcub : Cub w) (h : Hd) (oh : h.Ok) (a : Option Addr) (c : Nat) (hb : Bs W a c h.bytes) :
  Calls Tryz.prog 18 #[.pointer (some ⟨q,0,none⟩),.slice a 80 c] W fun ed W' => ∃ (T : Array Value) (E : Int),ed = .returned (.tuple #[.agg T,.int .i64 E]) ∧ T.size = 35 ∧ rowOne T ∧ E = chkE L e s lim0 (plainB h (.bool false)) h.ahead (mtH h) ∧ W.heap.size ≤ W'.heap.size ∧
   ((E ≠ 0 ∧ T = tdC z32 0 false 0 ∧ Fr F0 W W' ∧ RSt w W' R p bm q k d H L ps v tv tl) ∨
    (E = 0 ∧ ∃ (i qn : Nat) (v' : Value),findM L h.ahead = (i : Int) ∧ NB H L ps i h (nbB h (.bool false) i) qn ∧ h.bits = bitsM L e s lim0 i ∧ T = tdC (sha2 h.bytes) (heightM (L ++ [nbB h (.bool false) i]) L.length) (decide ((bkT (L ++ [nbB h (.bool false) i]) (bestM (L ++ [nbB h (.bool false) i]))).hash = sha2 h.bytes)) (tnM L (L ++ [nbB h (.bool false) i])) ∧
     Fr (fun j => TS p bm ps v j ∨ j = q) W W' ∧ RSt w W' R p bm q k (max d (tnM L (L ++ [nbB h (.bool false) i]))) (H ++ [h]) (L ++ [nbB h (.bool false) i]) (ps ++ [qn]) v' tv tl ∧ W.heap.size ≤ qn ∧ ∀ j,v'.ownBlock = some j → v.ownBlock = some j ∨ W.heap.size ≤ j)) := by
 have l32 : (sha2 h.bytes).length = 32 := by simp [sha2,sha_length]
 have hsub := lSubmit_any ri I (g.tb I.wf hl ri.s0) S.T S.Y h oh a c hb (S.cub hcub) (S.nc hcub)
 rw [Hd.bytes_length oh] at hsub
 refine hsub.mono ?_
 rintro ed W' ⟨h1,h2⟩
 by_cases hE : chkE L e s lim0 (plainB h (.bool false)) h.ahead (mtH h) = 0
 ·obtain ⟨i,hi,qn,v',nb,rfl,T',Y',hq,hv,f⟩ := h2 hE
  exact ⟨_,0,rfl,tdC_size l32 _ _ _,tdC_one _ _ _ _,hE.symm,f.size,.inr ⟨rfl,i,qn,v',hi,nb,chk_bits hE hi,rfl,f,S.add f T' (by simp) Y' hq hv,hq,hv⟩⟩
 ·obtain ⟨rfl,f⟩ := h1 hE
  exact ⟨_,_,rfl,tdC_size z32_length _ _ _,tdC_one _ _ _ _,rfl,f.size,.inl ⟨hE,rfl,f,S.fr f⟩⟩
theorem by13 (h : Hd) (oh : h.Ok) (w : World) : Calls Tryz.prog 19 #[.agg h.cells] w fun e w' => ∃ a c,e = .returned (.slice a 80 c) ∧ Bs w' a c h.bytes ∧ Fr F0 w w' := by
 refine (hBytesC h oh w).mono ?_
 rintro e w' ⟨a,c,rfl,hb,f,_⟩
 rw [Hd.bytes_length oh]
 exact ⟨a,c,rfl,hb,f⟩
end Go.Proofs.YtedffdlkmpmdlaaGreatDoor
namespace Go.Proofs.YtedffdlkmpmdlaaGreatDoor
set_option maxRecDepth 100000
set_option linter.unusedVariables false
set_option linter.unusedSimpArgs false
open Go.RowKit
theorem dp9 {s0 s1 s2 s3 s4 s5 s6 s7 s9 s11 s13 s14 s15 s16 s17 s18 s19 s20 s21 s22 s23 s24 s25 s26 s27 s28 s29 s30 s31 s32 s33 s34 s35 s36 s37 s38 s39 s40 s41 s42 s43 s44 s45 s46 s47 s48 s49 s50 s51 s52 s53 s54 s55 s56 s57 s58 s59 s60 s61 s62 s63 s64 s65 s66 s67 s68 s69 s70 s71 s72 s73 s74 s75 s76 s77 s78 s79 s80 s81 s82 s83 s84 s85 s86 s87 s88 s89 s90 s91 s92 s93 s94 s95 s96 s97 s98 s99 s100 s101 s102 s103 s104 s105 s106 s107 s108 s109 s110 s111 s112 s113 s114 s115 s116 s117 : Value} {K : Act → World → Prop} {Q : Exit → Act → World → Prop} (w3 : World) (X : Array Value) (Y : Nat → Array Value) (kind ah late : Int) (b8 : Value) (q p g14 b c m x j : Nat) (H0 : RowKit.Hid (∀ W : World,Fr F0 w3 W → Calls Tryz.prog 17 #[.pointer (some ⟨q,0,none⟩)] W fun e w' => e = .returned (.pointer (some ⟨p,0,none⟩)) ∧ Fr F0 W w')) (H1 : RowKit.Hid (∀ W : World,Fr F0 w3 W → (loadRowAt 27 (.pointer (some ⟨b,j * 68,none⟩))).run Tryz.prog W = .ok (.agg X) W)) (H2 : RowKit.Hid (∀ W : World,Fr F0 w3 W → Calls Tryz.prog 11 #[.pointer (some ⟨p,0,none⟩),.agg X,.agg #[.int .i64 kind,.int .i64 ah,.int .i32 late,b8]] W fun e w' => (∃ n : Nat,n < 4294967296 ∧ e = .returned (.agg (Y n))) ∧ Fr F0 W w')) (HY : RowKit.Hid (∀ n : Nat,n < 4294967296 → (Y n).size = 68 ∧ rowOne (Y n))) (one : rowOne #[.int .i64 kind,.int .i64 ah,.int .i32 late,b8]) (hx : IntKind.u64.wrap ah = (x : Int)) (hm : IntKind.u64.wrap (m : Int) = (m : Int)) (hj : (x : Int).tmod (m : Int) = (j : Int)) (hj2 : IntKind.i64.wrap (j : Int) = (j : Int)) (hjm : (j : Int) < (m : Int)) (hjn : j < m) (m0 : ¬ (m : Int) = 0) (m1 : ¬ m = 0) (r14 : w3.heap[g14]? = some (.cells #[.int .i64 kind,.int .i64 ah,.int .i32 late,b8] 38 (0,0)))
  (hK : RowKit.Hid (∀ {u13 u45 u46 u47 u48 u49 u50 u51 u52 u53 u54 u55 u56 u57 u58 u59 : Value} {w' : World},((∃ g15 n : Nat,u13 = .pointer (some ⟨g15,0,none⟩) ∧ n < 4294967296 ∧ w3.heap.size ≤ g15 ∧ w'.heap[g15]? = some (.cells (Y n) 27 (0,0))) ∧ Fr F0 w3 w') → K ⟨#[s0,s1,s2,s3,s4,s5,s6,s7,.pointer (some ⟨q,0,none⟩),s9,.slice (some ⟨b,0,none⟩) m c,s11,.pointer (some ⟨g14,0,none⟩),u13,s14,s15,s16,s17,s18,s19,s20,s21,s22,s23,s24,s25,s26,s27,s28,s29,s30,s31,s32,s33,s34,s35,s36,s37,s38,s39,s40,s41,s42,s43,s44,u45,u46,u47,u48,u49,u50,u51,u52,u53,u54,u55,u56,u57,u58,u59,s60,s61,s62,s63,s64,s65,s66,s67,s68,s69,s70,s71,s72,s73,s74,s75,s76,s77,s78,s79,s80,s81,s82,s83,s84,s85,s86,s87,s88,s89,s90,s91,s92,s93,s94,s95,s96,s97,s98,s99,s100,s101,s102,s103,s104,s105,s106,s107,s108,s109,s110,s111,s112,s113,s114,s115,s116,s117],[]⟩ w')) :
  Code.wp Tryz.prog ((Tryz.f4.body.bind (findRegion 9)).getD .skip) (Exit.then K Q) ⟨#[s0,s1,s2,s3,s4,s5,s6,s7,.pointer (some ⟨q,0,none⟩),s9,.slice (some ⟨b,0,none⟩) m c,s11,.pointer (some ⟨g14,0,none⟩),s13,s14,s15,s16,s17,s18,s19,s20,s21,s22,s23,s24,s25,s26,s27,s28,s29,s30,s31,s32,s33,s34,s35,s36,s37,s38,s39,s40,s41,s42,s43,s44,s45,s46,s47,s48,s49,s50,s51,s52,s53,s54,s55,s56,s57,s58,s59,s60,s61,s62,s63,s64,s65,s66,s67,s68,s69,s70,s71,s72,s73,s74,s75,s76,s77,s78,s79,s80,s81,s82,s83,s84,s85,s86,s87,s88,s89,s90,s91,s92,s93,s94,s95,s96,s97,s98,s99,s100,s101,s102,s103,s104,s105,s106,s107,s108,s109,s110,s111,s112,s113,s114,s115,s116,s117],[]⟩ w3 := by
 conv => arg 2; whnf
 have F9 := Fr.refl F0 w3
 have HG := Lib.hid (Array.getElem?_eq_some_iff.1 r14).1
 have z5 := Nat.le_refl w3.heap.size
 refine rbegin (S := (fun w' => (w'.heap[g14]? = some (.cells #[.int .i64 kind,.int .i64 ah,.int .i32 late,b8] 38 (0,0)) ∧ (loadRowAt 27 (.pointer (some ⟨b,j * 68,none⟩))).run Tryz.prog w' = .ok (.agg X) w') ∧ Fr F0 w3 w')) ?_ fun hHeld => ?_
 ·((try dsimp only) <;> (exact ⟨⟨r14,H1.out _ F9.drew⟩,F9.drew⟩))
 refine rtake 0 ?_
 refine rtake 2 ?_
 refine rtake 3 ?_
 refine rtake 4 ?_
 refine rtake 5 ?_
 refine rtake 6 ?_
 refine rtake 7 ?_
 refine rtake 8 ?_
 refine rtake 9 ?_
 refine rtake 10 ?_
 refine rtake 11 ?_
 refine rtake 12 ?_
 refine rtake 13 ?_
 refine wpAnyH_ready (rs := [1,15]) (by kernel_rfl) (by simp) ?_
 refine AllReadyH.cons (o := ⟨_,_,_,_,_,_⟩) rfl (fun K hK => ?_) (AllReadyH.cons (o := ⟨_,_,_,_,_,_⟩) rfl (fun K hK => ?_) AllReadyH.nil)
 go_simp
 ((with_reducible refine (H0.out _ hHeld.2).mono ?_); rintro e w5 ⟨rfl,f5⟩; have z5 := (hHeld.2.trans' f5).size; (try simp only [World.size_alloc,heap_drew'] at z5))
 refine hK.out _ _ ?_ (fun hHeld => ?_)
 ·((try dsimp only) <;> (first | exact hHeld | exact ⟨⟨keep_fr f5 hHeld.1.1,H1.out _ (hHeld.2.trans' f5)⟩,hHeld.2.trans' f5⟩))
 clear hK K
 try (simp only [Act.put,aST]; dsimp only [aS0,aS1])
 refine wpAnyH_ready (rs := [14,15]) (by kernel_rfl) (by simp) ?_
 refine AllReadyH.cons (o := ⟨_,_,_,_,_,_⟩) rfl (fun K hK => ?_) (AllReadyH.cons (o := ⟨_,_,_,_,_,_⟩) rfl (fun K hK => ?_) AllReadyH.nil)
 go_simp
 ((with_reducible refine (H2.out _ hHeld.2).mono ?_); rintro e w5 ⟨⟨n,hn,rfl⟩,f5⟩; have z5 := (hHeld.2.trans' f5).size; (try simp only [World.size_alloc,heap_drew'] at z5))
 refine hK.out _ _ ?_ (fun hHeld => ?_)
 ·((try dsimp only) <;> (first | exact hHeld | exact ⟨⟨keep_fr f5 hHeld.1.1,H1.out _ (hHeld.2.trans' f5)⟩,hHeld.2.trans' f5⟩))
 clear hK K
 try (simp only [Act.put,aST]; dsimp only [aS0,aS1])
 refine rone 15 fun K hK => ?_
 go_simp
 refine hK.out _ _ ?_ (fun hHeld => ?_)
 ·((try dsimp only) <;> (first | exact hHeld | exact ⟨⟨keep_alloc hHeld.1.1,H1.out _ (hHeld.2.alloc _)⟩,hHeld.2.alloc _⟩ | exact ⟨⟨keep_row (by have := HG.out; (try simp only [World.size_alloc,heap_drew'] at z5 ⊢); omega) hHeld.1.1,H1.out _ (hHeld.2.setRow (fun h => by (try simp only [World.size_alloc,heap_drew'] at h z5); omega) _)⟩,hHeld.2.setRow (fun h => by (try simp only [World.size_alloc,heap_drew'] at h z5); omega) _⟩))
 clear hK K
 try (simp only [Act.put,aST]; dsimp only [aS0,aS1])
 refine rone 16 fun K hK => ?_
 go_simp
 (try (rw [rowIn_of (old := Tryz.zeroCells27) (t' := 27) (by ((try rw [← Array.getElem?_eq_getElem]); repeat (first | rfl | exact heap_alloc_new _ _ | refine keep_alloc ?_ | refine keep_fr (by assumption) ?_))) zHd_size (HY.out n hn).1 (HY.out n hn).2]; go_simp))
 refine hK.out _ _ ?_ (fun hHeld => ?_)
 ·((try dsimp only) <;> (first | exact hHeld | exact ⟨⟨keep_alloc hHeld.1.1,H1.out _ (hHeld.2.alloc _)⟩,hHeld.2.alloc _⟩ | exact ⟨⟨keep_row (by have := HG.out; (try simp only [World.size_alloc,heap_drew'] at z5 ⊢); omega) hHeld.1.1,H1.out _ (hHeld.2.setRow (fun h => by (try simp only [World.size_alloc,heap_drew'] at h z5); omega) _)⟩,hHeld.2.setRow (fun h => by (try simp only [World.size_alloc,heap_drew'] at h z5); omega) _⟩))
 clear hK K
 try (simp only [Act.put,aST]; dsimp only [aS0,aS1])
 refine rdone ?_
 rotate_left
 go_simp
 refine hK.out _ _ ?_ (fun hHeld => ?_)
 ·((try dsimp only) <;> (first | exact hHeld | exact ⟨⟨keep_alloc hHeld.1.1,H1.out _ (hHeld.2.alloc _)⟩,hHeld.2.alloc _⟩ | exact ⟨⟨keep_row (by have := HG.out; (try simp only [World.size_alloc,heap_drew'] at z5 ⊢); omega) hHeld.1.1,H1.out _ (hHeld.2.setRow (fun h => by (try simp only [World.size_alloc,heap_drew'] at h z5); omega) _)⟩,hHeld.2.setRow (fun h => by (try simp only [World.size_alloc,heap_drew'] at h z5); omega) _⟩))
 clear hK K
 try (simp only [Act.put,aST]; dsimp only [aS0,aS1])
 refine rone 14 fun K hK => ?_
 go_simp
 ((with_reducible refine (H2.out _ hHeld.2).mono ?_); rintro e w5 ⟨⟨n,hn,rfl⟩,f5⟩; have z5 := (hHeld.2.trans' f5).size; (try simp only [World.size_alloc,heap_drew'] at z5))
 refine hK.out _ _ ?_ (fun hHeld => ?_)
 ·((try dsimp only) <;> (first | exact hHeld | exact ⟨⟨keep_fr f5 hHeld.1.1,H1.out _ (hHeld.2.trans' f5)⟩,hHeld.2.trans' f5⟩))
 clear hK K
 try (simp only [Act.put,aST]; dsimp only [aS0,aS1])
 refine rone 16 fun K hK => ?_
 go_simp
 (try (rw [rowIn_of (old := Tryz.zeroCells27) (t' := 27) (by ((try rw [← Array.getElem?_eq_getElem]); repeat (first | rfl | exact heap_alloc_new _ _ | refine keep_alloc ?_ | refine keep_fr (by assumption) ?_))) zHd_size (HY.out n hn).1 (HY.out n hn).2]; go_simp))
 refine hK.out _ _ ?_ (fun hHeld => ?_)
 ·((try dsimp only) <;> (first | exact hHeld | exact ⟨⟨keep_alloc hHeld.1.1,H1.out _ (hHeld.2.alloc _)⟩,hHeld.2.alloc _⟩ | exact ⟨⟨keep_row (by have := HG.out; (try simp only [World.size_alloc,heap_drew'] at z5 ⊢); omega) hHeld.1.1,H1.out _ (hHeld.2.setRow (fun h => by (try simp only [World.size_alloc,heap_drew'] at h z5); omega) _)⟩,hHeld.2.setRow (fun h => by (try simp only [World.size_alloc,heap_drew'] at h z5); omega) _⟩))
 clear hK K
 try (simp only [Act.put,aST]; dsimp only [aS0,aS1])
 refine rdone ?_
 rotate_left
 go_simp
 refine hK.out _ _ ?_ (fun hHeld => ?_)
 ·((try dsimp only) <;> (first | exact hHeld | exact ⟨⟨keep_alloc hHeld.1.1,H1.out _ (hHeld.2.alloc _)⟩,hHeld.2.alloc _⟩ | exact ⟨⟨keep_row (by have := HG.out; (try simp only [World.size_alloc,heap_drew'] at z5 ⊢); omega) hHeld.1.1,H1.out _ (hHeld.2.setRow (fun h => by (try simp only [World.size_alloc,heap_drew'] at h z5); omega) _)⟩,hHeld.2.setRow (fun h => by (try simp only [World.size_alloc,heap_drew'] at h z5); omega) _⟩))
 clear hK K
 try (simp only [Act.put,aST]; dsimp only [aS0,aS1])
 refine rone 1 fun K hK => ?_
 go_simp
 ((with_reducible refine (H0.out _ hHeld.2).mono ?_); rintro e w5 ⟨rfl,f5⟩; have z5 := (hHeld.2.trans' f5).size; (try simp only [World.size_alloc,heap_drew'] at z5))
 refine hK.out _ _ ?_ (fun hHeld => ?_)
 ·((try dsimp only) <;> (first | exact hHeld | exact ⟨⟨keep_fr f5 hHeld.1.1,H1.out _ (hHeld.2.trans' f5)⟩,hHeld.2.trans' f5⟩))
 clear hK K
 try (simp only [Act.put,aST]; dsimp only [aS0,aS1])
 refine rone 14 fun K hK => ?_
 go_simp
 ((with_reducible refine (H2.out _ hHeld.2).mono ?_); rintro e w5 ⟨⟨n,hn,rfl⟩,f5⟩; have z5 := (hHeld.2.trans' f5).size; (try simp only [World.size_alloc,heap_drew'] at z5))
 refine hK.out _ _ ?_ (fun hHeld => ?_)
 ·((try dsimp only) <;> (first | exact hHeld | exact ⟨⟨keep_fr f5 hHeld.1.1,H1.out _ (hHeld.2.trans' f5)⟩,hHeld.2.trans' f5⟩))
 clear hK K
 try (simp only [Act.put,aST]; dsimp only [aS0,aS1])
 refine rone 16 fun K hK => ?_
 go_simp
 (try (rw [rowIn_of (old := Tryz.zeroCells27) (t' := 27) (by ((try rw [← Array.getElem?_eq_getElem]); repeat (first | rfl | exact heap_alloc_new _ _ | refine keep_alloc ?_ | refine keep_fr (by assumption) ?_))) zHd_size (HY.out n hn).1 (HY.out n hn).2]; go_simp))
 refine hK.out _ _ ?_ (fun hHeld => ?_)
 ·((try dsimp only) <;> (first | exact hHeld | exact ⟨⟨keep_alloc hHeld.1.1,H1.out _ (hHeld.2.alloc _)⟩,hHeld.2.alloc _⟩ | exact ⟨⟨keep_row (by have := HG.out; (try simp only [World.size_alloc,heap_drew'] at z5 ⊢); omega) hHeld.1.1,H1.out _ (hHeld.2.setRow (fun h => by (try simp only [World.size_alloc,heap_drew'] at h z5); omega) _)⟩,hHeld.2.setRow (fun h => by (try simp only [World.size_alloc,heap_drew'] at h z5); omega) _⟩))
 clear hK K
 try (simp only [Act.put,aST]; dsimp only [aS0,aS1])
 refine rdone ?_
 rotate_left
 all_goals
  refine hK.out ⟨⟨_,n,rfl,hn,by (try simp only [World.size_alloc,heap_drew'] at z5 ⊢); omega,?_⟩,hHeld.2⟩
  refine (new_row (z := Tryz.zeroCells27) (t := 27) (f := (0,0)) ?_)
  repeat (first | exact heap_alloc_new _ _ | refine keep_alloc ?_ | refine keep_fr (by assumption) ?_)
theorem dep_chn {H : List Hd} {L : List Bk} {ps : List Nat} (I : TI H L ps) {k : Nat} (hk : k < (chn L).length) : depM L ((chn L).getD k []) = (chn L).length - k := by
 have hcl := I.chn_len
 obtain ⟨i,h1,h2,h3,h4⟩ := chn_get I.wf I.best (show k < heightM L (bestM L) + 1 by omega)
 rw [List.getD_eq_getElem?_getD,chn_is,h3,Option.getD_some,depM_at I.wf I.nh I.pos h1,h2,← chn_is,hcl.1]
theorem dep_in {H : List Hd} {L : List Bk} {ps : List Nat} (I : TI H L ps) {x : List UInt8} (hx : ¬ x ∈ chn L) : depM L x = 0 := by
 rcases Nat.eq_zero_or_pos (depM L x) with h | h
 ·exact h
 ·obtain ⟨i,_,h2,h3,h4,_⟩ := depM_pos h
  exfalso
  apply hx
  rw [← h3,chn_is]
  exact (chn_mem I.wf I.nh I.best h2).2 h4
theorem dep_best {H : List Hd} {L : List Bk} {ps : List Nat} (I : TI H L ps) : depM L (bkT L (bestM L)).hash = 1 := by
 rw [depM_at I.wf I.nh I.pos (anc_self I.wf I.best)]
 omega
theorem relayDepths_any (every : Int) (span : Nat) (he : -9223372036854775808 ≤ every ∧ every ≤ 9223372036854775807) (hs : span < 4294967296) (a : Option Addr) (n c : Nat) (w : World) (hst : Stp w a n c) (hcub : Cub w) :
  Calls Tryz.prog 4 #[.int .i64 every,.int .u32 (span : Int),.slice a n c] w fun ed w' => ed = .returned (.bool true) ∧ Fr F0 w w' := by
 have HC := Lib.hid hcub
 have HL := Lib.hid (fun W (f : Fr F0 w W) => lives13_any W (hcub.fr f fun f => f))
 obtain ⟨E,hE,E2,E7⟩ : ∃ E,E = 2 + (every % 18446744073709551616).toNat % 6 ∧ 2 ≤ E ∧ E ≤ 7 := ⟨_,rfl,by omega,by omega⟩
 obtain ⟨s,hsp,s1,s2⟩ : ∃ s,s = 1 + span % 1000 ∧ 1 ≤ s ∧ s ≤ 1000 := ⟨_,rfl,by omega,by omega⟩
 have HR := Lib.hid (fun W (f : Fr F0 w W) => show Calls Tryz.prog 9 #[.int .i64 every,.int .u32 (span : Int),.int .i64 1] W fun e w' => e = .returned (.agg (ruC E s 2)) ∧ Fr F0 W w' from by
  have := Rules12_any hMineC every 1 span he (by omega) hs W (hcub.fr f fun f => f)
  rw [← hE,← hsp] at this
  exact this)
 have HN := Lib.hid (fun W (f : Fr F0 w W) => lNew_any E s 2 (by omega) (by omega) (by omega) (by omega) (by omega) (by omega) W (hcub.fr f fun f => f))
 have HLD := Lib.hid (fun W g (h : W.heap[g]? = some (.cells (ruC E s 2) 29 (0,0))) => first_load E s 2 W g h)
 have hru := ruC_of E s 2 (by omega)
 have HRU := Lib.hid (show RI (ruC E s 2) E s lim0 from ⟨⟨_,hru⟩,E2,by omega,by omega,lim0_P⟩)
 have sR := hru.size
 have oR := hru.one
 have HST := Lib.hid hst
 have HSR := Lib.hid sR
 generalize hRR : ruC E s 2 = R at *
 have sF : Fh.cells.size = 68 := rfl
 obtain ⟨FC,hFC⟩ : ∃ FC,Fh.cells = FC := ⟨_,rfl⟩
 rw [hFC] at HLD sF
 have oF : rowOne FC := by rw [← hFC]; exact Hd.one
 have HFC := Lib.hid hFC
 clear hcub hst hE hsp he hs hru hRR hFC
 have F := Fr.refl F0 w
 go_enter Tryz.func4,Tryz.ntmps4
 go_wp2_with fail
 (with_reducible refine (HL.out _ F).mono ?_); rintro e1 w1 ⟨rfl,f⟩
 replace F := F.trans' f
 clear f
 by_cases h30 : 30 < n
 ·have h31 : (30 : Int) < (n : Int) := by omega
  go_wp2_with fail
  (with_reducible refine (HL.out _ F).mono ?_); rintro e1 w2 ⟨rfl,f⟩
  replace F := F.trans' f
  clear f
  go_wp2_with fail
  go_ret
  exact ⟨rfl,F⟩
 have h31 : decide ((30 : Int) < (n : Int)) = false := decide_eq_false (by omega)
 go_wp2_with fail
 (with_reducible refine (HR.out _ F).mono ?_); rintro e1 w2 ⟨rfl,f⟩
 replace F := F.trans' f
 clear f
 go_upto_region 4 with fail
 refine wp_put fun W3 N => ?_
 have r7 := N.new
 replace F := F.trans' N.fr
 clear N
 generalize w2.heap.size = g7 at *
 go_wp2_with fail
 (with_reducible refine (HN.out _ F).mono ?_); rintro e1 w4 ⟨⟨q,p,bm,qf,sl,rfl,T,Y,lo⟩,f⟩
 have hW3 := F.size
 replace r7 := keep_fr f r7
 replace F := F.trans' f
 have hW4 := F.size
 clear f
 have ld7 := HLD.out _ _ r7
 have hbh := fun W => run_buildLHd W FC sF
 go_upto_region 6 with fail
 obtain ⟨W5,hW5⟩ : ∃ W,W = w4.alloc (.cells FC 27) := ⟨_,rfl⟩
 refine wp_of_world W5 hW5 ?_
 have f9 : Fr F0 w4 W5 := by rw [hW5]; exact (Fr.refl F0 w4).alloc _
 have rgt : W5.heap[w4.heap.size]? = some (.cells FC 27 (0,0)) := by rw [hW5]; exact heap_alloc_new _ _
 obtain ⟨gt,hgt⟩ : ∃ g,w4.heap.size = g := ⟨_,rfl⟩
 rw [hgt] at rgt hW4 ⊢
 have I0 : TI [Fh] [b0 (.bool false)] [qf] := TI_first rfl qf
 have S0 : RSt w W5 R p bm q 2 0 [Fh] [b0 (.bool false)] [qf] (.slice (some ⟨sl,0,none⟩) 1 1) (.slice (some ⟨gt,0,none⟩) 1 1) [Fh] := by
  refine ⟨rfl,T.fr f9,keep_fr f9 Y,OwnHd.new1 _ Fh.ok (by rw [HFC.out]; exact rgt),F.trans' f9,fun k hk => ?_⟩
  rcases hk with (rfl | rfl | hk | hk) | rfl | hk
  ·omega
  ·omega
  ·rw [List.mem_singleton] at hk; omega
  ·cases hk; exact Nat.le_trans hW3 lo.2.2.2.1
  ·omega
  ·cases hk; exact hW4
 clear hW5 f9 rgt hW4 hgt T Y F lo hW3 r7 ld7 hbh HN HR HLD HL
 go_upto_region 7 with fail
 go_loopw [10,41] (fun tv iv wr => ∃ (k d : Nat) (H : List Hd) (L : List Bk) (ps : List Nat) (v : Value) (tl : List Hd),iv = .int .i64 (k : Int) ∧ k ≤ n ∧ L.length ≤ 1 + k ∧ tl.length ≤ 1 + k ∧ 0 < tl.length ∧ TI H L ps ∧ GB L ∧ RSt w wr R p bm q 2 d H L ps v tv tl) (fun _ iv _ => n - (intOf iv).toNat)
 case atStart => exact ⟨0,0,[Fh],[b0 (.bool false)],[qf],_,[Fh],rfl,by omega,by simp,by simp,by simp,I0,GB_b0 (.bool false),S0⟩
 case round =>
  clear S0 I0
  obtain ⟨k,d,H,L,ps,v,tl,rfl,hk,hLk,htk,ht0,I,g,S⟩ := hrel
  by_cases h1 : k < n
  ·have l1 : (k : Int) < (n : Int) := by omega
   obtain ⟨bs,offs,kind,ah,late,rt,ea,hld⟩ := HST.out.at_ k h1
   subst ea
   have lds := hld wr S.F
   obtain ⟨x,hx⟩ : ∃ x,(ah % 18446744073709551616).toNat = x := ⟨_,rfl⟩
   have wx : IntKind.u64.wrap ah = (x : Int) := by rw [IntKind.wrap_u64]; omega
   obtain ⟨j,hj⟩ : ∃ j,x % tl.length = j := ⟨_,rfl⟩
   have hjm : j < tl.length := by rw [← hj]; exact Nat.mod_lt _ ht0
   obtain ⟨bt,ct,et,hct,ldj⟩ := S.Q.load hjm
   have oj := S.Q.ok _ (hdT_mem hjm)
   subst et
   have HC2 := Lib.hid (fun W (f : Fr F0 wr W) h (o : Hd.Ok h) kind ah late rt => made13 HRU.out I (fun i hi => (g i hi).1) (S.T.fr f) ((S.cub HC.out).fr f fun f => f) h o kind ah late rt)
   have HK := Lib.hid (And.intro h1 (And.intro hLk (And.intro htk ht0)))
   have HS := Lib.hid (And.intro I (And.intro g S))
   have hjt : (x : Int).tmod (tl.length : Int) = (j : Int) := by rw [← hj]; exact (Int.ofNat_tmod x tl.length).symm
   obtain ⟨m,hm⟩ : ∃ m,tl.length = m := ⟨_,rfl⟩
   have HM := Lib.hid hm
   rw [hm] at hjm hjt htk ht0 ⊢
   have mw : IntKind.u64.wrap (m : Int) = (m : Int) := by rw [IntKind.wrap_u64]; omega
   have jw : IntKind.i64.wrap (j : Int) = (j : Int) := IntWalk.i64_in _ (by omega)
   have jm : (j : Int) < (m : Int) := by omega
   have m0 : ¬ (m : Int) = 0 := by omega
   have m1 : ¬ m = 0 := by omega
   have HLJ := Lib.hid ldj
   have HOJ := Lib.hid oj
   have oS : rowOne #[Value.int .i64 kind,.int .i64 ah,.int .i32 late,B8 rt] := by unfold rowOne; kernel_rfl
   have k1 : IntKind.i64.wrap ((k : Int) + 1) = ((k + 1 : Nat) : Int) := by rw [IntWalk.i64_in _ (by omega)]; rfl
   clear hx hj ldj oj hm I g S h1 hLk htk ht0 hld
   generalize hb8 : B8 rt = b8 at *
   have HB8 := Lib.hid hb8
   clear hb8
   go_upto_region 9 with fail
   refine wp_put fun W3 N => ?_
   have r12 := N.new
   have F3 := N.fr
   clear N lds
   obtain ⟨g12,hg12⟩ : ∃ g,wr.heap.size = g := ⟨_,rfl⟩
   rw [hg12] at r12 ⊢
   clear hg12
   refine dp9 W3 (hdT tl j).cells (fun n => (mkH tl (bitA L E s lim0) kind late rt j n).cells) kind ah late b8 q p g12 bt ct m x j
    (Lib.hid fun W f => (lTree_any (keep_fr (F3.trans' f) HS.out.2.2.Y)).mono (by rintro e w' ⟨rfl,rfl⟩; exact ⟨rfl,Fr.refl _ _⟩))
    (Lib.hid fun W f => HLJ.out W (F3.trans' f))
    (Lib.hid fun W f => by
     have := HC2.out W (F3.trans' f) (hdT tl j) HOJ.out kind ah late rt
     rw [HB8.out] at this
     exact this.mono fun e w' ⟨⟨n,hn,he,_⟩,f⟩ => ⟨⟨n,hn,he⟩,f⟩)
    (Lib.hid fun n hn => ⟨Hd.cells_size (mkH_ok (bitA_lt HS.out.1.wf _) hn HOJ.out),Hd.one⟩) oS wx mw hjt jw jm hjm m0 m1 r12 (Lib.hid ?_)
   rename_i w4
   rintro ⟨⟨g13,nn,rfl,hnn,hg13,r13⟩,f⟩
   have F4 := F3.trans' f
   have hg14 := Nat.le_trans F3.size hg13
   clear r12 F3 f HLJ HC2 hg13
   have oh := mkH_ok (kind := kind) (late := late) (rt := rt) (bitA_lt (e := E) (s := s) HS.out.1.wf (sha2 (hdT tl j).bytes)) hnn HOJ.out
   generalize mkH tl (bitA L E s lim0) kind late rt j nn = h at *
   have sh := Hd.cells_size oh
   have hoh : rowOne h.cells := Hd.one
   have S4 := HS.out.2.2.fr F4
   obtain ⟨a2,c2,W16,hap,o2,f2,hv2⟩ := S4.Q.app h oh (by have := HK.out.2.2.1; have := HM.out; omega) 35
   have n13 : ∀ i,(Value.slice (some ⟨bt,0,none⟩) tl.length ct).ownBlock = some i → i ≠ g13 := fun i hi e => by
    obtain ⟨cur,hc⟩ := HS.out.2.2.Q.block hi
    have := (Array.getElem?_eq_some_iff.1 hc).1
    omega
   have S16 := S4.try f2 o2 fun k hk => by rw [ablk_own] at hk; exact hv2 k hk
   have r16 := f2.keeps (fun e => n13 _ e rfl) r13
   rw [HM.out] at hap
   have HS16 := Lib.hid S16
   have hbh := fun W => run_buildLHd W h.cells sh
   have HBy := Lib.hid (by13 h oh)
   have HOH := Lib.hid oh
   obtain ⟨HCl,hHCl⟩ : ∃ HCl,h.cells = HCl := ⟨_,rfl⟩
   rw [hHCl] at hap sh hoh r13 r16 hbh HBy
   clear S16 S4 o2 f2 hv2 n13 hHCl oh hg14 F4
   go_upto_region 11 with fail
   go_wp2_with fail
   (with_reducible refine (HBy.out _).mono ?_); rintro e1 w17 ⟨a17,c17,rfl,hb17,f⟩
   have HSb := Lib.hid (sub13 HRU.out HS.out.1 HS.out.2.1 (by have := HK.out.2.1; omega) (HS16.out.fr f) HC.out h HOH.out a17 c17 hb17)
   clear hb17 f r16 HBy
   go_wp2_with fail
   (with_reducible refine HSb.out.mono ?_); rintro e1 w18 ⟨TT,EE,rfl,_,_,hEE,_,hor⟩
   obtain ⟨d',H',L',ps',v',HS2⟩ : ∃ d' H' L' ps' v',Hid (TI H' L' ps' ∧ GB L' ∧ RSt w w18 R p bm q 2 d' H' L' ps' v' (.slice a2 (m + 1) c2) (tl ++ [h]) ∧ L'.length ≤ L.length + 1) := by
    rw [← HM.out]
    rcases hor with ⟨_,_,_,S'⟩ | ⟨_,i,qn,v',hi,nb,hbits,_,_,S',_,_⟩
    ·exact ⟨_,_,_,_,_,Lib.hid ⟨HS.out.1,HS.out.2.1,S',by omega⟩⟩
    ·exact ⟨_,_,_,_,_,Lib.hid ⟨HS.out.1.snoc nb,HS.out.2.1.snoc HS.out.1.wf (by have := HK.out.2.1; omega) (by have := HRU.out.s0; omega) nb.ob nb.hi nb.up hbits,S',by simp⟩⟩
   clear hor hEE HSb HS16 hap
   go_wp2_with fail
   go_roundw
   case rel => exact ⟨k + 1,d',H',L',ps',v',tl ++ [h],by go_num,by have := HK.out.1; omega,by have := HK.out.2.1; have := HS2.out.2.2.2; omega,by have := HK.out.2.2.1; simp; omega,by simp,HS2.out.1,HS2.out.2.1,HS2.out.2.2.1⟩
   case measure => have := HK.out; simp [intOf]; omega
  ·have l1 : ¬ (k : Int) < (n : Int) := by omega
   have hcl := I.chn_len
   generalize wr = wq at *
   have F := S.F
   have hR := HSR.out
   have HTr := Lib.hid (fun W (f : Fr F0 wq W) => show Calls Tryz.prog 17 #[.pointer (some ⟨q,0,none⟩)] W fun e w' => e = .returned (.pointer (some ⟨p,0,none⟩)) ∧ Fr F0 W w' from (lTree_any (keep_fr f S.Y)).mono (by rintro e w' ⟨rfl,rfl⟩; exact ⟨rfl,Fr.refl _ _⟩))
   have HLn := Lib.hid (fun W (f : Fr F0 wq W) => line13_any hR (S.T.fr f) hcl.2 (by omega))
   have HDp := Lib.hid (fun W (f : Fr F0 wq W) x (hx : x.length = 32) => lDepth_any hR I (S.T.fr f) (keep_fr f S.Y) x hx)
   have HB := Lib.hid (fun W (f : Fr F0 wq W) => kBest_any hR (S.T.fr f) (by rw [hcl.1]; omega) (by omega))
   rw [I.at_best] at HB
   have HDb := Lib.hid (fun W (f : Fr F0 wq W) => lDepth_any hR I (S.T.fr f) (keep_fr f S.Y) (bkT L (bestM L)).hash (I.at32 I.best))
   rw [dep_best I] at HDb
   have HQ := Lib.hid S.Q
   have HI := Lib.hid I
   have HCU := Lib.hid (S.cub HC.out)
   obtain ⟨XB,hXB⟩ : ∃ XB,hc (bkT L (bestM L)).hash = XB := ⟨_,rfl⟩
   rw [hXB] at HB HDb
   obtain ⟨m,hm⟩ : ∃ m,(chn L).length = m := ⟨_,rfl⟩
   rw [hm] at HLn
   have HM := Lib.hid (show (chn L).length = m ∧ 0 < m ∧ m ≤ 5000 from ⟨hm,by omega,by omega⟩)
   have G := Fr.refl F0 wq
   obtain ⟨bt,ct,et,_,_⟩ := S.Q.load ht0
   subst et
   obtain ⟨mt,hmt⟩ : ∃ mt,tl.length = mt := ⟨_,rfl⟩
   rw [hmt]
   have HMT := Lib.hid (show tl.length = mt ∧ mt ≤ 31 from ⟨hmt,by omega⟩)
   clear S I g hXB hm hcl hLk htk hk hmt ht0
   have hn30 : n ≤ 30 := by omega
   go_wp2_with fail
   (with_reducible refine (HTr.out _ G).mono ?_); rintro e1 w5 ⟨rfl,f⟩
   replace F := F.trans' f
   replace G := G.trans' f
   clear f
   go_wp2_with fail
   (with_reducible refine (HLn.out _ G).mono ?_); rintro e1 w6 ⟨⟨a6,c6,rfl,hs6,_⟩,f⟩
   replace F := F.trans' f
   replace G := G.trans' f
   clear f
   have HS6 := Lib.hid hs6
   have HIn := Lib.hid (fun W (f : Fr F0 w6 W) x (hx : x.length = 32) => in13_any (hs6.fr f) (by have := HM.out; omega) x hx)
   rw [HM.out.1] at HIn
   have G6 := Fr.refl F0 w6
   have HG := Lib.hid (And.intro F G)
   clear hs6 F G
   go_upto_region 15 with fail
   go_loopw [74] (fun iv wr2 => ∃ i : Nat,iv = .int .i64 (i : Int) ∧ i ≤ m ∧ Fr F0 w6 wr2) (fun iv _ => m - (intOf iv).toNat)
   case atStart => exact ⟨0,rfl,Nat.zero_le _,G6⟩
   case round =>
    clear G6
    obtain ⟨i,rfl,hi,G6⟩ := hrel
    by_cases h2 : i < m
    ·have l2 : (i : Int) < (m : Int) := by omega
     have hil : i < (chn L).length := by have := HM.out; omega
     have h32 := HI.out.chn32.get hil
     obtain ⟨b6,off6,ea,hld,_⟩ := HS6.out.load i hil
     subst ea
     have ld := hld _ G6
     have HD2 := Lib.hid (fun W (f : Fr F0 wq W) => HDp.out W f ((chn L).getD i []) h32)
     rw [dep_chn HI.out hil,HM.out.1] at HD2
     have sY := hc_size h32
     have oY := hc_one ((chn L).getD i [])
     generalize hc ((chn L).getD i []) = Z at *
     have k2 : IntKind.i64.wrap ((i : Int) + 1) = ((i + 1 : Nat) : Int) := by rw [IntWalk.i64_in _ (by have := HM.out; omega)]; rfl
     have k3 : IntKind.i64.wrap ((m : Int) - (i : Int)) = ((m - i : Nat) : Int) := by rw [IntWalk.i64_in _ (by have := HM.out; omega)]; omega
     have HK2 := Lib.hid h2
     generalize m - i = mi at *
     clear hld h32 hil
     go_upto_region 17 with fail
     refine wp_put fun W7 N => ?_
     have r16 := N.new
     replace G6 := G6.trans' N.fr
     clear N ld
     generalize wr.heap.size = g16 at *
     go_wp2_with fail
     (with_reducible refine (HD2.out _ (HG.out.2.trans' G6)).mono ?_); rintro e1 w8 ⟨rfl,f⟩
     replace G6 := G6.trans' f
     clear f
     go_wp2_with fail
     go_roundw
     case rel => exact ⟨i + 1,by go_num,by have := HK2.out; omega,G6⟩
     case measure => have := HK2.out; simp [intOf]; omega
    ·have l2 : ¬ (i : Int) < (m : Int) := by omega
     generalize wr = wp at *
     go_upto_region 21 with fail
     go_loopw [90] (fun iv wr3 => ∃ i : Nat,iv = .int .i64 (i : Int) ∧ i ≤ mt ∧ Fr F0 w6 wr3) (fun iv _ => mt - (intOf iv).toNat)
     case atStart => exact ⟨0,rfl,Nat.zero_le _,G6⟩
     case round =>
      clear G6 hi h2 l2
      obtain ⟨i2,rfl,hi2,G6⟩ := hrel
      by_cases h3 : i2 < mt
      ·have l3 : (i2 : Int) < (mt : Int) := by omega
       have hil : i2 < tl.length := by have := HMT.out; omega
       obtain ⟨b7,c7,e7,_,ld⟩ := HQ.out.load hil
       cases e7
       have oj := HQ.out.ok _ (hdT_mem hil)
       have ldj := ld _ (HG.out.2.trans' G6)
       have l32 : (sha2 (hdT tl i2).bytes).length = 32 := by simp [sha2,sha_length]
       have HHs := Lib.hid (fun W (f : Fr F0 w6 W) => show Calls Tryz.prog 22 #[.agg (hdT tl i2).cells] W fun e w' => e = .returned (.agg (hc (sha2 (hdT tl i2).bytes))) ∧ Fr F0 W w' from hHashC _ oj W (HCU.out.fr (HG.out.2.trans' f) fun f => f))
       have HI2 := Lib.hid (fun W (f : Fr F0 w6 W) => HIn.out W f _ l32)
       have HD2 := Lib.hid (fun W (f : Fr F0 wq W) => HDp.out W f _ l32)
       have sH := Hd.cells_size oj
       have oH : rowOne (hdT tl i2).cells := Hd.one
       have sY := hc_size l32
       have oY := hc_one (sha2 (hdT tl i2).bytes)
       have k2 : IntKind.i64.wrap ((i2 : Int) + 1) = ((i2 + 1 : Nat) : Int) := by rw [IntWalk.i64_in _ (by have := HMT.out; omega)]; rfl
       have HK2 := Lib.hid h3
       have hV0 : ∀ V,decide (sha2 (hdT tl i2).bytes ∈ chn L) = V → V = false → depM L (sha2 (hdT tl i2).bytes) = 0 := fun V h1 h2 => dep_in HI.out (of_decide_eq_false (h1.trans h2))
       obtain ⟨V,hV⟩ : ∃ V,decide (sha2 (hdT tl i2).bytes ∈ chn L) = V := ⟨_,rfl⟩
       replace hV0 := hV0 V hV
       rw [hV] at HI2
       generalize depM L (sha2 (hdT tl i2).bytes) = dd at *
       generalize hc (sha2 (hdT tl i2).bytes) = Z at *
       generalize (hdT tl i2).cells = HJ at *
       have HV0 := Lib.hid hV0
       clear hV hV0 l32 oj ld hil h3
       go_upto_region 23 with fail
       refine wp_put fun W7 N => ?_
       have r18 := N.new
       replace G6 := G6.trans' N.fr
       clear N ldj
       generalize wr.heap.size = g18 at *
       go_wp2_with fail
       (with_reducible refine (HHs.out _ G6).mono ?_); rintro e1 w8 ⟨rfl,f⟩
       replace G6 := G6.trans' f
       clear f r18
       go_upto_region 24 with fail
       refine wp_put fun W9 N => ?_
       have r19 := N.new
       replace G6 := G6.trans' N.fr
       clear N
       generalize w8.heap.size = g19 at *
       go_wp2_with fail
       (with_reducible refine (HI2.out _ G6).mono ?_); rintro e1 w10 ⟨rfl,f⟩
       replace r19 := keep_fr f r19
       replace G6 := G6.trans' f
       clear f
       cases V
       ·obtain rfl := HV0.out rfl
        go_wp2_with fail
        (with_reducible refine (HD2.out _ (HG.out.2.trans' G6)).mono ?_); rintro e1 w11 ⟨rfl,f⟩
        replace G6 := G6.trans' f
        clear f
        go_wp2_with fail
        go_roundw
        case rel => exact ⟨i2 + 1,by go_num,by have := HK2.out; omega,G6⟩
        case measure => have := HK2.out; simp [intOf]; omega
       ·go_wp2_with fail
        go_roundw
        case rel => exact ⟨i2 + 1,by go_num,by have := HK2.out; omega,G6⟩
        case measure => have := HK2.out; simp [intOf]; omega
      ·have l3 : ¬ (i2 : Int) < (mt : Int) := by omega
       have l4 : 0 < m := HM.out.2.1
       clear h3 hi2
       go_wp2_with fail
       (with_reducible refine (HTr.out _ (HG.out.2.trans' G6)).mono ?_); rintro e1 w7 ⟨rfl,f⟩
       replace G6 := G6.trans' f
       clear f
       go_wp2_with fail
       (with_reducible refine (HB.out _ (HG.out.2.trans' G6)).mono ?_); rintro e1 w8 ⟨rfl,f⟩
       replace G6 := G6.trans' f
       clear f
       go_wp2_with fail
       (with_reducible refine (HDb.out _ (HG.out.2.trans' G6)).mono ?_); rintro e1 w9 ⟨rfl,f⟩
       replace G6 := G6.trans' f
       clear f
       go_wp2_with fail
       go_ret
       exact ⟨by first | rfl | simp,HG.out.1.trans' G6⟩
end Go.Proofs.YtedffdlkmpmdlaaGreatDoor
namespace Go.Proofs.YtedffdlkmpmdlaaGreatDoor
set_option maxRecDepth 100000
set_option linter.unusedVariables false
set_option linter.unusedSimpArgs false
open Go.RowKit
theorem st11 {s0 s1 s2 s3 s4 s5 s6 s7 s9 s11 s12 s14 s15 s16 s17 s18 s19 s20 s21 s22 s23 s24 s25 s26 s27 s28 s29 s30 s31 s32 s33 s34 s35 s36 s37 s38 s39 s40 s41 s42 s43 s44 s45 s46 s47 s48 s49 s50 s51 s52 s53 s54 s55 s56 s57 s58 s59 s60 s61 s62 s63 s64 s65 s66 s67 s68 s69 s70 s71 s72 s73 s74 s75 s76 s77 s78 s79 s80 s81 s82 s83 s84 s85 s86 s87 s88 s89 s90 s91 s92 s93 s94 s95 s96 s97 s98 s99 s100 s101 s102 s103 s104 s105 s106 s107 s108 : Value} {K : Act → World → Prop} {Q : Exit → Act → World → Prop} (w3 : World) (X : Array Value) (Y : Nat → Array Value) (kind ah late : Int) (b8 : Value) (q p g14 b c m x j : Nat) (H0 : RowKit.Hid (∀ W : World,Fr F0 w3 W → Calls Tryz.prog 17 #[.pointer (some ⟨q,0,none⟩)] W fun e w' => e = .returned (.pointer (some ⟨p,0,none⟩)) ∧ Fr F0 W w')) (H1 : RowKit.Hid (∀ W : World,Fr F0 w3 W → (loadRowAt 27 (.pointer (some ⟨b,j * 68,none⟩))).run Tryz.prog W = .ok (.agg X) W)) (H2 : RowKit.Hid (∀ W : World,Fr F0 w3 W → Calls Tryz.prog 11 #[.pointer (some ⟨p,0,none⟩),.agg X,.agg #[.int .i64 kind,.int .i64 ah,.int .i32 late,b8]] W fun e w' => (∃ n : Nat,n < 4294967296 ∧ e = .returned (.agg (Y n))) ∧ Fr F0 W w')) (HY : RowKit.Hid (∀ n : Nat,n < 4294967296 → (Y n).size = 68 ∧ rowOne (Y n))) (one : rowOne #[.int .i64 kind,.int .i64 ah,.int .i32 late,b8]) (hx : IntKind.u64.wrap ah = (x : Int)) (hm : IntKind.u64.wrap (m : Int) = (m : Int)) (hj : (x : Int).tmod (m : Int) = (j : Int)) (hj2 : IntKind.i64.wrap (j : Int) = (j : Int)) (hjm : (j : Int) < (m : Int)) (hjn : j < m) (m0 : ¬ (m : Int) = 0) (m1 : ¬ m = 0) (r14 : w3.heap[g14]? = some (.cells #[.int .i64 kind,.int .i64 ah,.int .i32 late,b8] 38 (0,0)))
  (hK : RowKit.Hid (∀ {u14 u46 u47 u48 u49 u50 u51 u52 u53 u54 u55 u56 u57 u58 u59 u60 : Value} {w' : World},((∃ g15 n : Nat,u14 = .pointer (some ⟨g15,0,none⟩) ∧ n < 4294967296 ∧ w3.heap.size ≤ g15 ∧ w'.heap[g15]? = some (.cells (Y n) 27 (0,0))) ∧ Fr F0 w3 w') → K ⟨#[s0,s1,s2,s3,s4,s5,s6,s7,.pointer (some ⟨q,0,none⟩),s9,.slice (some ⟨b,0,none⟩) m c,s11,s12,.pointer (some ⟨g14,0,none⟩),u14,s15,s16,s17,s18,s19,s20,s21,s22,s23,s24,s25,s26,s27,s28,s29,s30,s31,s32,s33,s34,s35,s36,s37,s38,s39,s40,s41,s42,s43,s44,s45,u46,u47,u48,u49,u50,u51,u52,u53,u54,u55,u56,u57,u58,u59,u60,s61,s62,s63,s64,s65,s66,s67,s68,s69,s70,s71,s72,s73,s74,s75,s76,s77,s78,s79,s80,s81,s82,s83,s84,s85,s86,s87,s88,s89,s90,s91,s92,s93,s94,s95,s96,s97,s98,s99,s100,s101,s102,s103,s104,s105,s106,s107,s108],[]⟩ w')) :
  Code.wp Tryz.prog ((Tryz.f6.body.bind (findRegion 11)).getD .skip) (Exit.then K Q) ⟨#[s0,s1,s2,s3,s4,s5,s6,s7,.pointer (some ⟨q,0,none⟩),s9,.slice (some ⟨b,0,none⟩) m c,s11,s12,.pointer (some ⟨g14,0,none⟩),s14,s15,s16,s17,s18,s19,s20,s21,s22,s23,s24,s25,s26,s27,s28,s29,s30,s31,s32,s33,s34,s35,s36,s37,s38,s39,s40,s41,s42,s43,s44,s45,s46,s47,s48,s49,s50,s51,s52,s53,s54,s55,s56,s57,s58,s59,s60,s61,s62,s63,s64,s65,s66,s67,s68,s69,s70,s71,s72,s73,s74,s75,s76,s77,s78,s79,s80,s81,s82,s83,s84,s85,s86,s87,s88,s89,s90,s91,s92,s93,s94,s95,s96,s97,s98,s99,s100,s101,s102,s103,s104,s105,s106,s107,s108],[]⟩ w3 := by
 conv => arg 2; whnf
 have F9 := Fr.refl F0 w3
 have HG := Lib.hid (Array.getElem?_eq_some_iff.1 r14).1
 have z5 := Nat.le_refl w3.heap.size
 refine rbegin (S := (fun w' => (w'.heap[g14]? = some (.cells #[.int .i64 kind,.int .i64 ah,.int .i32 late,b8] 38 (0,0)) ∧ (loadRowAt 27 (.pointer (some ⟨b,j * 68,none⟩))).run Tryz.prog w' = .ok (.agg X) w') ∧ Fr F0 w3 w')) ?_ fun hHeld => ?_
 ·((try dsimp only) <;> (exact ⟨⟨r14,H1.out _ F9.drew⟩,F9.drew⟩))
 refine rtake 0 ?_
 refine rtake 2 ?_
 refine rtake 3 ?_
 refine rtake 4 ?_
 refine rtake 5 ?_
 refine rtake 6 ?_
 refine rtake 7 ?_
 refine rtake 8 ?_
 refine rtake 9 ?_
 refine rtake 10 ?_
 refine rtake 11 ?_
 refine rtake 12 ?_
 refine rtake 13 ?_
 refine wpAnyH_ready (rs := [1,15]) (by kernel_rfl) (by simp) ?_
 refine AllReadyH.cons (o := ⟨_,_,_,_,_,_⟩) rfl (fun K hK => ?_) (AllReadyH.cons (o := ⟨_,_,_,_,_,_⟩) rfl (fun K hK => ?_) AllReadyH.nil)
 go_simp
 ((with_reducible refine (H0.out _ hHeld.2).mono ?_); rintro e w5 ⟨rfl,f5⟩; have z5 := (hHeld.2.trans' f5).size; (try simp only [World.size_alloc,heap_drew'] at z5))
 refine hK.out _ _ ?_ (fun hHeld => ?_)
 ·((try dsimp only) <;> (first | exact hHeld | exact ⟨⟨keep_fr f5 hHeld.1.1,H1.out _ (hHeld.2.trans' f5)⟩,hHeld.2.trans' f5⟩))
 clear hK K
 try (simp only [Act.put,aST]; dsimp only [aS0,aS1])
 refine wpAnyH_ready (rs := [14,15]) (by kernel_rfl) (by simp) ?_
 refine AllReadyH.cons (o := ⟨_,_,_,_,_,_⟩) rfl (fun K hK => ?_) (AllReadyH.cons (o := ⟨_,_,_,_,_,_⟩) rfl (fun K hK => ?_) AllReadyH.nil)
 go_simp
 ((with_reducible refine (H2.out _ hHeld.2).mono ?_); rintro e w5 ⟨⟨n,hn,rfl⟩,f5⟩; have z5 := (hHeld.2.trans' f5).size; (try simp only [World.size_alloc,heap_drew'] at z5))
 refine hK.out _ _ ?_ (fun hHeld => ?_)
 ·((try dsimp only) <;> (first | exact hHeld | exact ⟨⟨keep_fr f5 hHeld.1.1,H1.out _ (hHeld.2.trans' f5)⟩,hHeld.2.trans' f5⟩))
 clear hK K
 try (simp only [Act.put,aST]; dsimp only [aS0,aS1])
 refine rone 15 fun K hK => ?_
 go_simp
 refine hK.out _ _ ?_ (fun hHeld => ?_)
 ·((try dsimp only) <;> (first | exact hHeld | exact ⟨⟨keep_alloc hHeld.1.1,H1.out _ (hHeld.2.alloc _)⟩,hHeld.2.alloc _⟩ | exact ⟨⟨keep_row (by have := HG.out; (try simp only [World.size_alloc,heap_drew'] at z5 ⊢); omega) hHeld.1.1,H1.out _ (hHeld.2.setRow (fun h => by (try simp only [World.size_alloc,heap_drew'] at h z5); omega) _)⟩,hHeld.2.setRow (fun h => by (try simp only [World.size_alloc,heap_drew'] at h z5); omega) _⟩))
 clear hK K
 try (simp only [Act.put,aST]; dsimp only [aS0,aS1])
 refine rone 16 fun K hK => ?_
 go_simp
 (try (rw [rowIn_of (old := Tryz.zeroCells27) (t' := 27) (by ((try rw [← Array.getElem?_eq_getElem]); repeat (first | rfl | exact heap_alloc_new _ _ | refine keep_alloc ?_ | refine keep_fr (by assumption) ?_))) zHd_size (HY.out n hn).1 (HY.out n hn).2]; go_simp))
 refine hK.out _ _ ?_ (fun hHeld => ?_)
 ·((try dsimp only) <;> (first | exact hHeld | exact ⟨⟨keep_alloc hHeld.1.1,H1.out _ (hHeld.2.alloc _)⟩,hHeld.2.alloc _⟩ | exact ⟨⟨keep_row (by have := HG.out; (try simp only [World.size_alloc,heap_drew'] at z5 ⊢); omega) hHeld.1.1,H1.out _ (hHeld.2.setRow (fun h => by (try simp only [World.size_alloc,heap_drew'] at h z5); omega) _)⟩,hHeld.2.setRow (fun h => by (try simp only [World.size_alloc,heap_drew'] at h z5); omega) _⟩))
 clear hK K
 try (simp only [Act.put,aST]; dsimp only [aS0,aS1])
 refine rdone ?_
 rotate_left
 go_simp
 refine hK.out _ _ ?_ (fun hHeld => ?_)
 ·((try dsimp only) <;> (first | exact hHeld | exact ⟨⟨keep_alloc hHeld.1.1,H1.out _ (hHeld.2.alloc _)⟩,hHeld.2.alloc _⟩ | exact ⟨⟨keep_row (by have := HG.out; (try simp only [World.size_alloc,heap_drew'] at z5 ⊢); omega) hHeld.1.1,H1.out _ (hHeld.2.setRow (fun h => by (try simp only [World.size_alloc,heap_drew'] at h z5); omega) _)⟩,hHeld.2.setRow (fun h => by (try simp only [World.size_alloc,heap_drew'] at h z5); omega) _⟩))
 clear hK K
 try (simp only [Act.put,aST]; dsimp only [aS0,aS1])
 refine rone 14 fun K hK => ?_
 go_simp
 ((with_reducible refine (H2.out _ hHeld.2).mono ?_); rintro e w5 ⟨⟨n,hn,rfl⟩,f5⟩; have z5 := (hHeld.2.trans' f5).size; (try simp only [World.size_alloc,heap_drew'] at z5))
 refine hK.out _ _ ?_ (fun hHeld => ?_)
 ·((try dsimp only) <;> (first | exact hHeld | exact ⟨⟨keep_fr f5 hHeld.1.1,H1.out _ (hHeld.2.trans' f5)⟩,hHeld.2.trans' f5⟩))
 clear hK K
 try (simp only [Act.put,aST]; dsimp only [aS0,aS1])
 refine rone 16 fun K hK => ?_
 go_simp
 (try (rw [rowIn_of (old := Tryz.zeroCells27) (t' := 27) (by ((try rw [← Array.getElem?_eq_getElem]); repeat (first | rfl | exact heap_alloc_new _ _ | refine keep_alloc ?_ | refine keep_fr (by assumption) ?_))) zHd_size (HY.out n hn).1 (HY.out n hn).2]; go_simp))
 refine hK.out _ _ ?_ (fun hHeld => ?_)
 ·((try dsimp only) <;> (first | exact hHeld | exact ⟨⟨keep_alloc hHeld.1.1,H1.out _ (hHeld.2.alloc _)⟩,hHeld.2.alloc _⟩ | exact ⟨⟨keep_row (by have := HG.out; (try simp only [World.size_alloc,heap_drew'] at z5 ⊢); omega) hHeld.1.1,H1.out _ (hHeld.2.setRow (fun h => by (try simp only [World.size_alloc,heap_drew'] at h z5); omega) _)⟩,hHeld.2.setRow (fun h => by (try simp only [World.size_alloc,heap_drew'] at h z5); omega) _⟩))
 clear hK K
 try (simp only [Act.put,aST]; dsimp only [aS0,aS1])
 refine rdone ?_
 rotate_left
 go_simp
 refine hK.out _ _ ?_ (fun hHeld => ?_)
 ·((try dsimp only) <;> (first | exact hHeld | exact ⟨⟨keep_alloc hHeld.1.1,H1.out _ (hHeld.2.alloc _)⟩,hHeld.2.alloc _⟩ | exact ⟨⟨keep_row (by have := HG.out; (try simp only [World.size_alloc,heap_drew'] at z5 ⊢); omega) hHeld.1.1,H1.out _ (hHeld.2.setRow (fun h => by (try simp only [World.size_alloc,heap_drew'] at h z5); omega) _)⟩,hHeld.2.setRow (fun h => by (try simp only [World.size_alloc,heap_drew'] at h z5); omega) _⟩))
 clear hK K
 try (simp only [Act.put,aST]; dsimp only [aS0,aS1])
 refine rone 1 fun K hK => ?_
 go_simp
 ((with_reducible refine (H0.out _ hHeld.2).mono ?_); rintro e w5 ⟨rfl,f5⟩; have z5 := (hHeld.2.trans' f5).size; (try simp only [World.size_alloc,heap_drew'] at z5))
 refine hK.out _ _ ?_ (fun hHeld => ?_)
 ·((try dsimp only) <;> (first | exact hHeld | exact ⟨⟨keep_fr f5 hHeld.1.1,H1.out _ (hHeld.2.trans' f5)⟩,hHeld.2.trans' f5⟩))
 clear hK K
 try (simp only [Act.put,aST]; dsimp only [aS0,aS1])
 refine rone 14 fun K hK => ?_
 go_simp
 ((with_reducible refine (H2.out _ hHeld.2).mono ?_); rintro e w5 ⟨⟨n,hn,rfl⟩,f5⟩; have z5 := (hHeld.2.trans' f5).size; (try simp only [World.size_alloc,heap_drew'] at z5))
 refine hK.out _ _ ?_ (fun hHeld => ?_)
 ·((try dsimp only) <;> (first | exact hHeld | exact ⟨⟨keep_fr f5 hHeld.1.1,H1.out _ (hHeld.2.trans' f5)⟩,hHeld.2.trans' f5⟩))
 clear hK K
 try (simp only [Act.put,aST]; dsimp only [aS0,aS1])
 refine rone 16 fun K hK => ?_
 go_simp
 (try (rw [rowIn_of (old := Tryz.zeroCells27) (t' := 27) (by ((try rw [← Array.getElem?_eq_getElem]); repeat (first | rfl | exact heap_alloc_new _ _ | refine keep_alloc ?_ | refine keep_fr (by assumption) ?_))) zHd_size (HY.out n hn).1 (HY.out n hn).2]; go_simp))
 refine hK.out _ _ ?_ (fun hHeld => ?_)
 ·((try dsimp only) <;> (first | exact hHeld | exact ⟨⟨keep_alloc hHeld.1.1,H1.out _ (hHeld.2.alloc _)⟩,hHeld.2.alloc _⟩ | exact ⟨⟨keep_row (by have := HG.out; (try simp only [World.size_alloc,heap_drew'] at z5 ⊢); omega) hHeld.1.1,H1.out _ (hHeld.2.setRow (fun h => by (try simp only [World.size_alloc,heap_drew'] at h z5); omega) _)⟩,hHeld.2.setRow (fun h => by (try simp only [World.size_alloc,heap_drew'] at h z5); omega) _⟩))
 clear hK K
 try (simp only [Act.put,aST]; dsimp only [aS0,aS1])
 refine rdone ?_
 rotate_left
 all_goals
  refine hK.out ⟨⟨_,n,rfl,hn,by (try simp only [World.size_alloc,heap_drew'] at z5 ⊢); omega,?_⟩,hHeld.2⟩
  refine (new_row (z := Tryz.zeroCells27) (t := 27) (f := (0,0)) ?_)
  repeat (first | exact heap_alloc_new _ _ | refine keep_alloc ?_ | refine keep_fr (by assumption) ?_)
theorem ruC_every (e s k : Nat) : (ruC e s k).setIfInBounds 0 (.int .i64 2016) = ruC 2016 s k := by
 unfold ruC
 rw [List.setIfInBounds_toArray]
 rfl
theorem EQ_b0 (v : Value) : EQ [b0 v] := by
 intro i hi
 obtain rfl : i = 0 := by simpa using hi
 rw [bk_b0,b0_bits]; rfl
structure SvS (w W : World) (p bm : Nat) (ps : List Nat) (v sv : Value) (sl : List (List UInt8)) : Prop where
 own : OwnL 25 w.heap.size W sv sl
 ap : ∀ j,sv.ownBlock = some j → ¬ TS p bm ps v j
theorem SvS.fr {w W W' : World} {p bm : Nat} {ps : List Nat} {v sv : Value} {sl : List (List UInt8)} (h : SvS w W p bm ps v sv sl) (f : Fr F0 W W') : SvS w W' p bm ps v sv sl := ⟨h.own.fr0 f,h.ap⟩
theorem SvS.frS {w W W' : World} {p bm : Nat} {ps : List Nat} {v sv : Value} {sl : List (List UInt8)} (h : SvS w W p bm ps v sv sl) {X : Nat → Prop} (f : Fr X W W') (hx : ∀ j,sv.ownBlock = some j → ¬ X j) : SvS w W' p bm ps v sv sl := ⟨h.own.frS f hx,h.ap⟩
theorem stay13 {w W W' : World} {R : Array Value} {p bm q k d s : Nat} {H : List Hd} {L : List Bk} {ps : List Nat} {v : Value} {tv : Value} {tl : List Hd} {sv : Value} {sl : List (List UInt8)} {h : Hd} {T : Array Value} {E : Int} (hs : 0 < s) (hk : 1 ≤ k) (I : TI H L ps) (g : GB L) (e : EQ L) (hl : L.length ≤ 31) (S : RSt w W R p bm q k d H L ps v tv tl) (V : SvS w W p bm ps v sv sl)
  (hor : (E ≠ 0 ∧ T = tdC z32 0 false 0 ∧ Fr F0 W W' ∧ RSt w W' R p bm q k d H L ps v tv tl) ∨
    (E = 0 ∧ ∃ (i qn : Nat) (v' : Value),findM L h.ahead = (i : Int) ∧ NB H L ps i h (nbB h (.bool false) i) qn ∧ h.bits = bitsM L 2016 s lim0 i ∧ T = tdC (sha2 h.bytes) (heightM (L ++ [nbB h (.bool false) i]) L.length) (decide ((bkT (L ++ [nbB h (.bool false) i]) (bestM (L ++ [nbB h (.bool false) i]))).hash = sha2 h.bytes)) (tnM L (L ++ [nbB h (.bool false) i])) ∧
     Fr (fun j => TS p bm ps v j ∨ j = q) W W' ∧ RSt w W' R p bm q k (max d (tnM L (L ++ [nbB h (.bool false) i]))) (H ++ [h]) (L ++ [nbB h (.bool false) i]) (ps ++ [qn]) v' tv tl ∧ W.heap.size ≤ qn ∧ ∀ j,v'.ownBlock = some j → v.ownBlock = some j ∨ W.heap.size ≤ j)) :
  ∃ d' H' L' ps' v',(TI H' L' ps' ∧ GB L' ∧ EQ L' ∧ RSt w W' R p bm q k d' H' L' ps' v' tv tl ∧ SvS w W' p bm ps' v' sv sl ∧ L'.length ≤ L.length + 1) ∧ (d' < k → ∀ x,k ≤ depM L x → k ≤ depM L' x) ∧
   ∀ (j : Nat) (A : Array Value) (t : TypeId) (f' : Nat × Nat),W.heap[j]? = some (.cells A t f') → t ≠ 80 → t ≠ 77 → t ≠ 25 → t ≠ 93 → W'.heap[j]? = some (.cells A t f') := by
 rcases hor with ⟨_,_,f,S'⟩ | ⟨_,i,qn,v',hi,nb,hbits,_,f,S',hq,hv⟩
 ·exact ⟨d,H,L,ps,v,⟨I,g,e,S',V.fr f,by omega⟩,fun _ x hx => hx,fun j A t f' hj _ _ _ _ => keep_fr f hj⟩
 ·have hb : h.bits = lim0 := by rw [hbits,e.bits I.wf (by omega) nb.hi]
  refine ⟨_,_,_,_,_,⟨I.snoc nb,g.snoc I.wf hl hs nb.ob nb.hi nb.up hbits,e.snoc hb,S',V.frS f (fun j hj hx => ?_) |> fun V' => ⟨V'.own,fun j hj => ?_⟩,by simp⟩,fun hd x hx => dep_stays e I.wf I.one I.nh nb.ob nb.hi nb.up nb.new hb I.pos hk (by omega) hx,fun j A t f' hj h1 h2 h3 h4 => S.keep f hj h1 h2 h3 h4⟩
  ·rcases hx with hx | hx
   ·exact V.ap j hj hx
   ·obtain ⟨cur,hc⟩ := own_block V.own hj
    exact cells_apart hc S.Y (by decide) hx
  ·have hlt := V.own.lt j hj
   rintro (hx | hx | hx | hx)
   ·exact V.ap j hj (.inl hx)
   ·exact V.ap j hj (.inr (.inl hx))
   ·rw [List.mem_append,List.mem_singleton] at hx
    rcases hx with hx | rfl
    ·exact V.ap j hj (.inr (.inr (.inl hx)))
    ·omega
   ·rcases hv j hx with hx | hx
    ·exact V.ap j hj (.inr (.inr (.inr hx)))
    ·omega
theorem cf_ok {L : List Bk} {k : Nat} {x : List UInt8} (hk : 1 ≤ k) (h : k ≤ depM L x) : cfE L k x = 0 := by
 obtain ⟨i,h1,_⟩ := depM_pos (show 0 < depM L x by omega)
 unfold cfE
 rw [h1,if_neg (by omega),if_neg (by omega)]
theorem cf_of {L : List Bk} {k : Nat} {x : List UInt8} (h : cfE L k x = 0) : k ≤ depM L x := by
 unfold cfE at h
 by_cases h1 : findM L x < 0
 ·rw [if_pos h1] at h; cases h
 ·rw [if_neg h1] at h
  by_cases h2 : depM L x < k
  ·rw [if_pos h2] at h; cases h
  ·omega
theorem Hs.lt13 {w : World} {a : Option Addr} {c : Nat} {l : List (List UInt8)} (h : Hs w a c l) (h0 : 0 < l.length) : ∀ j,ablk a = some j → j < w.heap.size := by
 intro j hj
 obtain ⟨b,off,ea,hg⟩ := h.get 0 h0
 rw [ea] at hj
 cases hj
 have h32 := h.ok.get h0
 exact World.block_lt_of_cell? w _ (hg 0 _ (List.getElem?_eq_getElem (by rw [List.length_map,h32]; omega)))
theorem sure_app {w W : World} {R : Array Value} {p bm q k d : Nat} {H : List Hd} {L : List Bk} {ps : List Nat} {v : Value} {tv : Value} {tl : List Hd} {sv : Value} {sl : List (List UInt8)} {a6 : Option Addr} {c6 : Nat} {l : List (List UInt8)} (S : RSt w W R p bm q k d H L ps v tv tl) (V : SvS w W p bm ps v sv sl) (hs : Hs W a6 c6 l) (h0 : 0 < l.length) (hd : ∀ j,sv.ownBlock = some j → ablk a6 ≠ some j) (x : List UInt8) (hx : x.length = 32) (hn : sl.length ≤ 100000) :
  ∃ a c w',(appL 54 54 #[sv,.slice (some ⟨W.heap.size,0,none⟩) 1 1]).run Tryz.prog (W.alloc (.cells (hc x) 25)) = .ok (.slice a (sl.length + 1) c) w' ∧ RSt w w' R p bm q k d H L ps v tv tl ∧ SvS w w' p bm ps v (.slice a (sl.length + 1) c) (sl ++ [x]) ∧ Hs w' a6 c6 l ∧ (∀ j,(Value.slice a (sl.length + 1) c).ownBlock = some j → ablk a6 ≠ some j) ∧
   (∀ (j : Nat) (A : Array Value) (t : TypeId) (f' : Nat × Nat),W.heap[j]? = some (.cells A t f') → t ≠ 25 → w'.heap[j]? = some (.cells A t f')) := by
 obtain ⟨a5,c5,w5,happ,ho5,f6,hs5,hb5⟩ := V.own.appH x hx S.F.size hn 54
 have hlt := V.own.lt
 have hsz := S.F.size
 refine ⟨a5,c5,w5,happ,S.frS f6 (fun j hj hx => ?_) (fun j hj => V.own.blk j hj),⟨ho5,fun j hj hx => ?_⟩,hs.frx f6 (fun j hj hx => hd j hx hj),fun j hj hx => ?_,fun j A t f' hj ht => f6.keeps (fun e => ?_) hj⟩
 ·obtain ⟨cur,hc⟩ := own_block V.own hx
  rcases hj with hj | hj | hj
  ·exact V.ap j hx hj
  ·exact cells_apart hc S.Y (by decide) hj
  ·obtain ⟨cur2,hc2⟩ := S.Q.block hj
   exact cells_apart hc hc2 (by decide) rfl
 ·rw [ablk_own] at hj
  rcases hb5 j hj with e | e
  ·exact V.ap j e hx
  ·have := S.T.lt S.plen j hx
   omega
 ·rw [ablk_own] at hj
  rcases hb5 j hj with e | e
  ·exact hd j e hx
  ·have := hs.lt13 h0 j hx
   omega
 ·obtain ⟨cur,hc⟩ := own_block V.own e
  exact cells_apart hc hj (fun e => ht e.symm) rfl
theorem relayStays_any (span : Nat) (confirm : Int) (hk : -9223372036854775808 ≤ confirm ∧ confirm ≤ 9223372036854775807) (hs : span < 4294967296) (a : Option Addr) (n c : Nat) (w : World) (hst : Stp w a n c) (hcub : Cub w) :
  Calls Tryz.prog 6 #[.int .u32 (span : Int),.int .i64 confirm,.slice a n c] w fun ed w' => ed = .returned (.bool true) ∧ Fr F0 w w' := by
 have HC := Lib.hid hcub
 have HL := Lib.hid (fun W (f : Fr F0 w W) => lives13_any W (hcub.fr f fun f => f))
 obtain ⟨kk,hkk,k1,k4⟩ : ∃ kk,kk = 1 + (confirm % 18446744073709551616).toNat % 4 ∧ 1 ≤ kk ∧ kk ≤ 4 := ⟨_,rfl,by omega,by omega⟩
 obtain ⟨s,hsp,s1,s2⟩ : ∃ s,s = 1 + span % 1000 ∧ 1 ≤ s ∧ s ≤ 1000 := ⟨_,rfl,by omega,by omega⟩
 have HR := Lib.hid (fun W (f : Fr F0 w W) => show Calls Tryz.prog 9 #[.int .i64 0,.int .u32 (span : Int),.int .i64 confirm] W fun e w' => e = .returned (.agg (ruC 2 s kk)) ∧ Fr F0 W w' from by
  have := Rules12_any hMineC 0 confirm span (by omega) hk hs W (hcub.fr f fun f => f)
  rw [← hkk,← hsp] at this
  exact this)
 have HN := Lib.hid (fun W (f : Fr F0 w W) => lNew_any 2016 s kk (by omega) (by omega) (by omega) (by omega) (by omega) (by omega) W (hcub.fr f fun f => f))
 have HLD := Lib.hid (fun W g (h : W.heap[g]? = some (.cells (ruC 2016 s kk) 29 (0,0))) => first_load 2016 s kk W g h)
 have hru := ruC_of 2016 s kk (by omega)
 have hr0 := ruC_of 2 s kk (by omega)
 have HRU := Lib.hid (show RI (ruC 2016 s kk) 2016 s lim0 from ⟨⟨_,hru⟩,by omega,by omega,by omega,lim0_P⟩)
 have sR := hru.size
 have oR := hru.one
 have sR0 := hr0.size
 have oR0 := hr0.one
 have c3 := hru.c3
 have hset := ruC_every 2 s kk
 have HST := Lib.hid hst
 have HSR := Lib.hid (And.intro sR (And.intro s1 k1))
 generalize ruC 2 s kk = R0 at *
 generalize ruC 2016 s kk = R at *
 have z3 : 3 < R.size := by omega
 have d3 := cell_is c3 z3
 have sF : Fh.cells.size = 68 := rfl
 obtain ⟨FC,hFC⟩ : ∃ FC,Fh.cells = FC := ⟨_,rfl⟩
 rw [hFC] at HLD sF
 have oF : rowOne FC := by rw [← hFC]; exact Hd.one
 have HFC := Lib.hid hFC
 clear hcub hst hsp hk hs hru hr0 hkk hFC
 have F := Fr.refl F0 w
 go_enter Tryz.func6,Tryz.ntmps6
 go_wp2_with fail
 (with_reducible refine (HL.out _ F).mono ?_); rintro e1 w1 ⟨rfl,f⟩
 replace F := F.trans' f
 clear f
 by_cases h30 : 30 < n
 ·have h31 : (30 : Int) < (n : Int) := by omega
  go_wp2_with fail
  (with_reducible refine (HL.out _ F).mono ?_); rintro e1 w2 ⟨rfl,f⟩
  replace F := F.trans' f
  clear f
  go_wp2_with fail
  go_ret
  exact ⟨rfl,F⟩
 have h31 : decide ((30 : Int) < (n : Int)) = false := decide_eq_false (by omega)
 go_wp2_with fail
 (with_reducible refine (HR.out _ F).mono ?_); rintro e1 w2 ⟨rfl,f⟩
 replace F := F.trans' f
 clear f
 have hW2 := F.size
 go_upto_region 4 with fail
 refine wp_put fun W3 N => ?_
 have r7 := N.new
 replace F := F.trans' N.fr
 clear N
 obtain ⟨g7,hg7⟩ : ∃ g,w2.heap.size = g := ⟨_,rfl⟩
 rw [hg7] at r7 hW2 ⊢
 clear hg7
 go_upto_region 5 with fail
 obtain ⟨W3b,hW3b⟩ : ∃ W,W = W3.setCell ⟨g7,0,none⟩ (.int .i64 2016) := ⟨_,rfl⟩
 refine wp_of_world W3b hW3b ?_
 have fs : Fr (fun k => k = g7) W3 W3b := by rw [hW3b]; exact Fr.setCell (S := fun k => k = g7) (Fr.refl _ _) (p := ⟨g7,0,none⟩) (fun _ => rfl) _
 replace F := low_trans F fs fun k hk => by rw [hk]; exact hW2
 replace r7 : W3b.heap[g7]? = some (.cells R 29 (0,0)) := by rw [hW3b,heap_setCell_at,r7,withCell_cells,hset]
 clear hW3b fs hset sR0 oR0 hW2
 go_wp2_with fail
 (with_reducible refine (HN.out _ F).mono ?_); rintro e1 w4 ⟨⟨q,p,bm,qf,sl0,rfl,T,Y,lo⟩,f⟩
 have hW3 := F.size
 replace r7 := keep_fr f r7
 replace F := F.trans' f
 have hW4 := F.size
 clear f
 have ld7 := HLD.out _ _ r7
 have hbh := fun W => run_buildLHd W FC sF
 go_upto_region 7 with fail
 obtain ⟨W5,hW5⟩ : ∃ W,W = w4.alloc (.cells FC 27) := ⟨_,rfl⟩
 refine wp_of_world W5 hW5 ?_
 have f9 : Fr F0 w4 W5 := by rw [hW5]; exact (Fr.refl F0 w4).alloc _
 have rgt : W5.heap[w4.heap.size]? = some (.cells FC 27 (0,0)) := by rw [hW5]; exact heap_alloc_new _ _
 obtain ⟨gt,hgt⟩ : ∃ g,w4.heap.size = g := ⟨_,rfl⟩
 rw [hgt] at rgt hW4 ⊢
 have I0 : TI [Fh] [b0 (.bool false)] [qf] := TI_first rfl qf
 have S0 : RSt w W5 R p bm q kk 0 [Fh] [b0 (.bool false)] [qf] (.slice (some ⟨sl0,0,none⟩) 1 1) (.slice (some ⟨gt,0,none⟩) 1 1) [Fh] := by
  refine ⟨rfl,T.fr f9,keep_fr f9 Y,OwnHd.new1 _ Fh.ok (by rw [HFC.out]; exact rgt),F.trans' f9,fun k hk => ?_⟩
  rcases hk with (rfl | rfl | hk | hk) | rfl | hk
  ·omega
  ·omega
  ·rw [List.mem_singleton] at hk; omega
  ·cases hk; exact Nat.le_trans hW3 lo.2.2.2.1
  ·omega
  ·cases hk; exact hW4
 replace r7 := keep_fr f9 r7
 clear hW5 hgt
 have hb0 := run_buildL0h
 go_upto_region 8 with fail
 obtain ⟨W6,hW6⟩ : ∃ W,W = W5.alloc (.cells #[] 25) := ⟨_,rfl⟩
 refine wp_of_world W6 hW6 ?_
 have f10 : Fr F0 W5 W6 := by rw [hW6]; exact (Fr.refl F0 W5).alloc _
 have V0 : SvS w W6 p bm [qf] (.slice (some ⟨sl0,0,none⟩) 1 1) (.slice (some ⟨W5.heap.size,0,none⟩) 0 0) [] := by
  refine ⟨by rw [hW6]; exact (OwnL.new0 25 W5).mono S0.F.size,fun j hj hx => ?_⟩
  cases hj
  exact absurd (S0.T.lt rfl _ hx) (Nat.lt_irrefl _)
 replace S0 := S0.fr f10
 replace r7 := keep_fr f10 r7
 generalize W5.heap.size = gs at *
 clear f9 rgt hW4 T Y F lo hW3 ld7 hbh HN HR HLD HL hW6 f10 hb0
 go_upto_region 9 with fail
 go_loopw [10,11,42] (fun tv sv iv wr => ∃ (k d : Nat) (H : List Hd) (L : List Bk) (ps : List Nat) (v : Value) (tl : List Hd) (sl : List (List UInt8)),iv = .int .i64 (k : Int) ∧ k ≤ n ∧ L.length ≤ 1 + k ∧ tl.length ≤ 1 + k ∧ 0 < tl.length ∧ TI H L ps ∧ GB L ∧ EQ L ∧ RSt w wr R p bm q kk d H L ps v tv tl ∧ SvS w wr p bm ps v sv sl ∧ (∀ x ∈ sl,kk ≤ depM L x) ∧ sl.length ≤ k * 40 ∧ wr.heap[g7]? = some (.cells R 29 (0,0))) (fun _ _ iv _ => n - (intOf iv).toNat)
 case atStart => exact ⟨0,0,[Fh],[b0 (.bool false)],[qf],_,[Fh],[],rfl,by omega,by simp,by simp,by simp,I0,GB_b0 (.bool false),EQ_b0 (.bool false),S0,V0,(fun _ h => by cases h),by simp,r7⟩
 case round =>
  clear S0 I0 V0 r7
  obtain ⟨k,d,H,L,ps,v,tl,sl,rfl,hk,hLk,htk,ht0,I,g,e,S,V,hsl,hsn,r7⟩ := hrel
  by_cases h1 : k < n
  ·have l1 : (k : Int) < (n : Int) := by omega
   obtain ⟨bs,offs,kind,ah,late,rt,ea,hld⟩ := HST.out.at_ k h1
   subst ea
   have lds := hld wr S.F
   obtain ⟨x,hx⟩ : ∃ x,(ah % 18446744073709551616).toNat = x := ⟨_,rfl⟩
   have wx : IntKind.u64.wrap ah = (x : Int) := by rw [IntKind.wrap_u64]; omega
   obtain ⟨j,hj⟩ : ∃ j,x % tl.length = j := ⟨_,rfl⟩
   have hjm : j < tl.length := by rw [← hj]; exact Nat.mod_lt _ ht0
   obtain ⟨bt,ct,et,hct,ldj⟩ := S.Q.load hjm
   have oj := S.Q.ok _ (hdT_mem hjm)
   subst et
   obtain ⟨asv,csv,es,_⟩ := V.own.is
   subst es
   have HC2 := Lib.hid (fun W (f : Fr F0 wr W) h (o : Hd.Ok h) kind ah late rt => made13 HRU.out I (fun i hi => (g i hi).1) (S.T.fr f) ((S.cub HC.out).fr f fun f => f) h o kind ah late rt)
   have HK := Lib.hid (And.intro h1 (And.intro hLk (And.intro htk (And.intro ht0 hsn))))
   have HS := Lib.hid (And.intro I (And.intro g S))
   have HV := Lib.hid (And.intro e (And.intro V hsl))
   have hjt : (x : Int).tmod (tl.length : Int) = (j : Int) := by rw [← hj]; exact (Int.ofNat_tmod x tl.length).symm
   obtain ⟨m,hm⟩ : ∃ m,tl.length = m := ⟨_,rfl⟩
   have HM := Lib.hid hm
   rw [hm] at hjm hjt htk ht0 ⊢
   have mw : IntKind.u64.wrap (m : Int) = (m : Int) := by rw [IntKind.wrap_u64]; omega
   have jw : IntKind.i64.wrap (j : Int) = (j : Int) := IntWalk.i64_in _ (by omega)
   have jm : (j : Int) < (m : Int) := by omega
   have m0 : ¬ (m : Int) = 0 := by omega
   have m1 : ¬ m = 0 := by omega
   have HLJ := Lib.hid ldj
   have HOJ := Lib.hid oj
   have oS : rowOne #[Value.int .i64 kind,.int .i64 ah,.int .i32 late,B8 rt] := by unfold rowOne; kernel_rfl
   have k1' : IntKind.i64.wrap ((k : Int) + 1) = ((k + 1 : Nat) : Int) := by rw [IntWalk.i64_in _ (by omega)]; rfl
   obtain ⟨ms,hms⟩ : ∃ ms,sl.length = ms := ⟨_,rfl⟩
   have HMS := Lib.hid hms
   rw [hms]
   clear hx hj ldj oj hm I g S h1 hLk htk ht0 hld e V hsl hsn hms
   generalize hb8 : B8 rt = b8 at *
   have HB8 := Lib.hid hb8
   clear hb8
   go_upto_region 11 with fail
   refine wp_put fun W3 N => ?_
   have r12 := N.new
   replace r7 := N.old r7
   have F3 := N.fr
   clear N lds
   obtain ⟨g12,hg12⟩ : ∃ g,wr.heap.size = g := ⟨_,rfl⟩
   rw [hg12] at r12 ⊢
   clear hg12
   refine st11 W3 (hdT tl j).cells (fun n => (mkH tl (bitA L 2016 s lim0) kind late rt j n).cells) kind ah late b8 q p g12 bt ct m x j
    (Lib.hid fun W f => (lTree_any (keep_fr (F3.trans' f) HS.out.2.2.Y)).mono (by rintro e w' ⟨rfl,rfl⟩; exact ⟨rfl,Fr.refl _ _⟩))
    (Lib.hid fun W f => HLJ.out W (F3.trans' f))
    (Lib.hid fun W f => by
     have := HC2.out W (F3.trans' f) (hdT tl j) HOJ.out kind ah late rt
     rw [HB8.out] at this
     exact this.mono fun e w' ⟨⟨n,hn,he,_⟩,f⟩ => ⟨⟨n,hn,he⟩,f⟩)
    (Lib.hid fun n hn => ⟨Hd.cells_size (mkH_ok (bitA_lt HS.out.1.wf _) hn HOJ.out),Hd.one⟩) oS wx mw hjt jw jm hjm m0 m1 r12 (Lib.hid ?_)
   rename_i w4
   rintro ⟨⟨g13,nn,rfl,hnn,hg13,r13⟩,f⟩
   replace r7 := keep_fr f r7
   have F4 := F3.trans' f
   have hg14 := Nat.le_trans F3.size hg13
   clear r12 F3 f HLJ HC2 hg13
   have oh := mkH_ok (kind := kind) (late := late) (rt := rt) (bitA_lt (e := 2016) (s := s) HS.out.1.wf (sha2 (hdT tl j).bytes)) hnn HOJ.out
   generalize mkH tl (bitA L 2016 s lim0) kind late rt j nn = h at *
   have sh := Hd.cells_size oh
   have hoh : rowOne h.cells := Hd.one
   have S4 := HS.out.2.2.fr F4
   obtain ⟨a2,c2,W16,hap,o2,f2,hv2⟩ := S4.Q.app h oh (by have := HK.out.2.2.1; have := HM.out; omega) 35
   have n13 : ∀ i,(Value.slice (some ⟨bt,0,none⟩) tl.length ct).ownBlock = some i → i ≠ g13 := fun i hi e => by
    obtain ⟨cur,hc⟩ := HS.out.2.2.Q.block hi
    have := (Array.getElem?_eq_some_iff.1 hc).1
    omega
   have n7 : ∀ i,(Value.slice (some ⟨bt,0,none⟩) tl.length ct).ownBlock = some i → i ≠ g7 := fun i hi e => by
    obtain ⟨cur,hc⟩ := S4.Q.block hi
    exact cells_apart hc r7 (by decide) e
   have V16 := (HV.out.2.1.fr F4).frS f2 fun j hj hx => by
    obtain ⟨cur,hc⟩ := S4.Q.block hx
    obtain ⟨cur2,hc2⟩ := own_block (HV.out.2.1.fr F4).own hj
    exact cells_apart hc hc2 (by decide) rfl
   have S16 := S4.try f2 o2 fun k hk => by rw [ablk_own] at hk; exact hv2 k hk
   have r16 := f2.keeps (fun e => n13 _ e rfl) r13
   replace r7 := f2.keeps (fun e => n7 _ e rfl) r7
   rw [HM.out] at hap
   have HS16 := Lib.hid (And.intro S16 V16)
   have hbh := fun W => run_buildLHd W h.cells sh
   have HBy := Lib.hid (by13 h oh)
   have HOH := Lib.hid oh
   obtain ⟨HCl,hHCl⟩ : ∃ HCl,h.cells = HCl := ⟨_,rfl⟩
   rw [hHCl] at hap sh hoh r13 r16 hbh HBy
   clear S16 S4 o2 f2 hv2 n13 n7 V16 hHCl oh hg14 F4
   go_upto_region 13 with fail
   go_wp2_with fail
   (with_reducible refine (HBy.out _).mono ?_); rintro e1 w17 ⟨a17,c17,rfl,hb17,f⟩
   replace r7 := keep_fr f r7
   have HSb := Lib.hid (sub13 HRU.out HS.out.1 HS.out.2.1 (by have := HK.out.2.1; omega) (HS16.out.1.fr f) HC.out h HOH.out a17 c17 hb17)
   have HS17 := Lib.hid (And.intro (HS16.out.1.fr f) (HS16.out.2.fr f))
   clear hb17 f r16 HBy r13
   go_wp2_with fail
   (with_reducible refine HSb.out.mono ?_); rintro e1 w18 ⟨TT,EE,rfl,_,_,hEE,_,hor⟩
   obtain ⟨d',H',L',ps',v',HS2,hst2,hkp⟩ := stay13 HSR.out.2.1 HSR.out.2.2 HS.out.1 HS.out.2.1 HV.out.1 (by have := HK.out.2.1; omega) HS17.out.1 HS17.out.2 hor
   replace r7 := hkp _ _ _ _ r7 (by decide) (by decide) (by decide) (by decide)
   have HST2 := Lib.hid hst2
   replace HS2 := Lib.hid HS2
   clear hor hEE HSb HS16 HS17 hap hkp hst2
   have HDe := Lib.hid (fun W (f : Fr F0 w18 W) => show Calls Tryz.prog 27 #[.pointer (some ⟨q,0,none⟩)] W fun e w' => e = .returned (.int .i64 (d' : Int)) ∧ Fr F0 W w' from (lDeepest_any (keep_fr f HS2.out.2.2.2.1.Y)).mono (by rintro e w' ⟨rfl,rfl⟩; exact ⟨rfl,Fr.refl _ _⟩))
   have G := Fr.refl F0 w18
   go_upto_region 14 with fail
   refine rbegin (S := (fun w' => w'.heap[g7]? = some (.cells R 29 (0,0)) ∧ Fr F0 w18 w')) ?_ fun hHeld => ?_
   ·((try dsimp only) <;> (exact ⟨r7,G.drew⟩))
   refine rtake 0 ?_
   refine rtake 2 ?_
   refine rtake 3 ?_
   refine rone 1 fun K hK => ?_
   go_simp
   ((with_reducible refine (HDe.out _ hHeld.2).mono ?_); rintro e w5 ⟨rfl,f5⟩)
   refine hK.out _ _ ?_ (fun hHeld => ?_)
   ·((try dsimp only) <;> (first | exact hHeld | exact ⟨keep_fr f5 hHeld.1,hHeld.2.trans' f5⟩))
   clear hK K
   try (simp only [Act.put,aST]; dsimp only [aS0,aS1])
   refine rtake 4 ?_
   refine rdone ?_
   all_goals
    clear r7 G
    obtain ⟨r7,G⟩ := hHeld
    generalize w5 = w19 at *
    by_cases hd : kk ≤ d'
    ·have l2 : (kk : Int) ≤ (d' : Int) := by omega
     have F := HS2.out.2.2.2.1.F.trans' G
     go_wp2_with fail
     go_ret
     exact ⟨rfl,F⟩
    have l2 : ¬ (kk : Int) ≤ (d' : Int) := by omega
    obtain ⟨I',g',e',S',V',hLL⟩ := HS2.out
    replace S' := S'.fr G
    replace V' := V'.fr G
    have hsl' : ∀ x ∈ sl,kk ≤ depM L' x := fun x hx => HST2.out (by omega) x (HV.out.2.2 x hx)
    have hcl := I'.chn_len
    have hR := HSR.out.1
    have HCf := Lib.hid (fun W (S : RSt w W R p bm q kk d' H' L' ps' v' (.slice a2 (m + 1) c2) (tl ++ [h])) x (hx : x.length = 32) => lConfirmed_any HSR.out.1 I' S.T S.Y x hx)
    rw [← HM.out] at HCf
    have HTr := Lib.hid (fun W (f : Fr F0 w19 W) => show Calls Tryz.prog 17 #[.pointer (some ⟨q,0,none⟩)] W fun e w' => e = .returned (.pointer (some ⟨p,0,none⟩)) ∧ Fr F0 W w' from (lTree_any (keep_fr f S'.Y)).mono (by rintro e w' ⟨rfl,rfl⟩; exact ⟨rfl,Fr.refl _ _⟩))
    have HLn := Lib.hid (fun W (f : Fr F0 w19 W) => line13_any hR (S'.T.fr f) hcl.2 (by omega))
    obtain ⟨mc,hmc⟩ : ∃ mc,(chn L').length = mc := ⟨_,rfl⟩
    rw [hmc] at HLn
    have HMC := Lib.hid (show (chn L').length = mc ∧ 0 < mc ∧ mc ≤ 40 from ⟨hmc,by omega,by have h1 := anc_len I'.wf _ I'.best; have h2 := I'.best; have h3 := HK.out.1; have h4 := HK.out.2.1; have h5 : heightM L' (bestM L') = (anc L' (bestM L')).length - 1 := rfl; omega⟩)
    obtain ⟨a9,c9,e9,hss⟩ := V'.own.is
    cases e9
    have HSS := Lib.hid (And.intro hss hsl')
    have HSV := Lib.hid (And.intro S' V')
    have HI2 := Lib.hid (And.intro I' (And.intro g' (And.intro e' hLL)))
    have HMS2 := Lib.hid (show ms ≤ 1200 from by have := HK.out.2.2.2.2; have := HMS.out; omega)
    have HR7 := Lib.hid r7
    have G2 := Fr.refl F0 w19
    clear S' V' hss hsl' hcl hmc I' g' e' hLL HST2 HS2 HDe G r7 HV
    go_upto_region 17 with fail
    go_loopw [76] (fun iv wr2 => ∃ i : Nat,iv = .int .i64 (i : Int) ∧ i ≤ ms ∧ Fr F0 w19 wr2) (fun iv _ => ms - (intOf iv).toNat)
    case atStart => exact ⟨0,rfl,Nat.zero_le _,G2⟩
    case round =>
     clear G2
     obtain ⟨i,rfl,hi,G2⟩ := hrel
     by_cases h3 : i < ms
     ·have l3 : (i : Int) < (ms : Int) := by omega
      have hil : i < sl.length := by have := HMS.out; omega
      have h32 := HSS.out.1.ok.get hil
      obtain ⟨b7,off7,ea,hld,_⟩ := HSS.out.1.load i hil
      subst ea
      have ld := hld _ G2
      have hz := cf_ok HSR.out.2.2 (HSS.out.2 (sl.getD i []) (by rw [List.getD_eq_getElem?_getD,List.getElem?_eq_getElem hil]; exact List.getElem_mem _))
      have HC3 := Lib.hid (fun W (f : Fr F0 w19 W) => HCf.out W (HSV.out.1.fr f) (sl.getD i []) h32)
      rw [hz] at HC3
      have sY := hc_size h32
      have oY := hc_one (sl.getD i [])
      generalize hc (sl.getD i []) = Z at *
      have k2 : IntKind.i64.wrap ((i : Int) + 1) = ((i + 1 : Nat) : Int) := by rw [IntWalk.i64_in _ (by have := HMS2.out; omega)]; rfl
      have HK2 := Lib.hid h3
      clear hld h32 hil hz
      go_upto_region 19 with fail
      refine wp_put fun W7 N => ?_
      have r16 := N.new
      replace G2 := G2.trans' N.fr
      clear N ld
      generalize wr.heap.size = g16 at *
      go_wp2_with fail
      (with_reducible refine (HC3.out _ G2).mono ?_); rintro e1 w8 ⟨rfl,f⟩
      replace G2 := G2.trans' f
      clear f
      go_wp2_with fail
      go_roundw
      case rel => exact ⟨i + 1,by go_num,by have := HK2.out; omega,G2⟩
      case measure => have := HK2.out; simp [intOf]; omega
     ·have l3 : ¬ (i : Int) < (ms : Int) := by omega
      generalize wr = wp at *
      go_wp2_with fail
      (with_reducible refine (HTr.out _ G2).mono ?_); rintro e1 w20 ⟨rfl,f⟩
      replace G2 := G2.trans' f
      clear f
      go_wp2_with fail
      (with_reducible refine (HLn.out _ G2).mono ?_); rintro e1 w21 ⟨⟨a6,c6,rfl,hs6,hn6⟩,f⟩
      have V20 := HSV.out.2.fr G2
      have hd6 : ∀ j,(Value.slice asv sl.length csv).ownBlock = some j → ablk a6 ≠ some j := fun j hj hx => by
       have := V20.own.lt j hj
       have := hn6 j hx
       omega
      replace G2 := G2.trans' f
      have HX := Lib.hid (show RSt w w21 R p bm q kk d' H' L' ps' v' (.slice a2 (tl.length + 1) c2) (tl ++ [h]) ∧ SvS w w21 p bm ps' v' (.slice asv sl.length csv) sl ∧ Hs w21 a6 c6 (chn L') ∧ (∀ j,(Value.slice asv sl.length csv).ownBlock = some j → ablk a6 ≠ some j) ∧ w21.heap[g7]? = some (.cells R 29 (0,0)) from ⟨HSV.out.1.fr G2,HSV.out.2.fr G2,hs6,hd6,keep_fr G2 HR7.out⟩)
      clear hi h3 l3 V20 hd6 hn6 hs6 f G2
      go_upto_region 23 with fail
      go_loopw [11,89] (fun sv iv wr3 => ∃ (i : Nat) (sl2 : List (List UInt8)),iv = .int .i64 (i : Int) ∧ i ≤ mc ∧ RSt w wr3 R p bm q kk d' H' L' ps' v' (.slice a2 (tl.length + 1) c2) (tl ++ [h]) ∧ SvS w wr3 p bm ps' v' sv sl2 ∧ (∀ x ∈ sl2,kk ≤ depM L' x) ∧ sl2.length ≤ ms + i ∧ Hs wr3 a6 c6 (chn L') ∧ (∀ j,sv.ownBlock = some j → ablk a6 ≠ some j) ∧ wr3.heap[g7]? = some (.cells R 29 (0,0))) (fun _ iv _ => mc - (intOf iv).toNat)
      case atStart =>
       rw [← HMS.out]
       exact ⟨0,sl,rfl,Nat.zero_le _,HX.out.1,HX.out.2.1,HSS.out.2,by omega,HX.out.2.2.1,HX.out.2.2.2.1,HX.out.2.2.2.2⟩
      case round =>
       clear HX
       obtain ⟨i3,sl2,rfl,hi3,S3,V3,hsl3,hsn3,hs3,hd3,r7⟩ := hrel
       by_cases h4 : i3 < mc
       ·have l4 : (i3 : Int) < (mc : Int) := by omega
        have hil : i3 < (chn L').length := by have := HMC.out; omega
        have h32 := HI2.out.1.chn32.get hil
        obtain ⟨b8',off8,ea,hld,_⟩ := hs3.load i3 hil
        have ld := hld _ (Fr.refl F0 wr)
        subst ea
        obtain ⟨as2,cs2,es2,_⟩ := V3.own.is
        subst es2
        have k2 : IntKind.i64.wrap ((i3 : Int) + 1) = ((i3 + 1 : Nat) : Int) := by rw [IntWalk.i64_in _ (by have := HMC.out; omega)]; rfl
        obtain ⟨x,hxx⟩ : ∃ x,(chn L').getD i3 [] = x := ⟨_,rfl⟩
        rw [hxx] at h32 ld
        have sY := hc_size h32
        have oY := hc_one x
        have HK2 := Lib.hid (show i3 < mc ∧ sl2.length ≤ ms + i3 from ⟨h4,hsn3⟩)
        have HS3 := Lib.hid (show RSt w wr R p bm q kk d' H' L' ps' v' (.slice a2 (tl.length + 1) c2) (tl ++ [h]) ∧ SvS w wr p bm ps' v' (.slice as2 sl2.length cs2) sl2 ∧ Hs wr (some ⟨b8',off8,none⟩) c6 (chn L') from ⟨S3,V3,hs3⟩)
        have HSL := Lib.hid (And.intro hsl3 hd3)
        have HX32 := Lib.hid h32
        obtain ⟨Z,hZ⟩ : ∃ Z,hc x = Z := ⟨_,rfl⟩
        rw [hZ] at ld sY oY
        have HZ := Lib.hid hZ
        obtain ⟨m2,hm2⟩ : ∃ m2,sl2.length = m2 := ⟨_,rfl⟩
        rw [hm2]
        have HM2 := Lib.hid hm2
        clear hld S3 V3 hs3 hsl3 hd3 h32 hil hxx hsn3 h4 hZ hm2 hi3
        go_upto_region 25 with fail
        refine wp_put fun W7 N => ?_
        have r18 := N.new
        replace r7 := N.old r7
        have G3 := N.fr
        clear N ld
        generalize wr.heap.size = g18 at *
        have HC5 := Lib.hid (HCf.out W7 (HS3.out.1.fr G3) x HX32.out)
        rw [HZ.out] at HC5
        have hcz : ∀ z,cfE L' kk x = z → z = 0 → kk ≤ depM L' x := fun z h1 h2 => cf_of (h1.trans h2)
        obtain ⟨z,hz⟩ : ∃ z,cfE L' kk x = z := ⟨_,rfl⟩
        rw [hz] at HC5
        have HCZ := Lib.hid (hcz z hz)
        clear hcz hz
        go_wp2_with fail
        (with_reducible refine HC5.out.mono ?_); rintro e1 w8 ⟨rfl,f⟩
        replace r18 := keep_fr f r18
        replace r7 := keep_fr f r7
        replace G3 := G3.trans' f
        clear f
        by_cases hz : z = 0
        case' neg =>
         go_wp2_with fail
         go_roundw
         case rel => exact ⟨i3 + 1,sl2,by go_num,by have := HK2.out; omega,HS3.out.1.fr G3,by rw [← HM2.out]; exact HS3.out.2.1.fr G3,HSL.out.1,by have := HK2.out; omega,HS3.out.2.2.fr G3,by rw [← HM2.out]; exact HSL.out.2,r7⟩
         case measure => have := HK2.out; simp [intOf]; omega
        case' pos =>
         subst hz
         have HIn := Lib.hid (fun W (f : Fr F0 w8 W) => by
          obtain ⟨a5,c5,e5,h5⟩ := HS3.out.2.1.own.is
          cases e5
          exact in13_any (h5.fr (G3.trans' f)) (by have := HK2.out; have := HMS2.out; have := HMC.out; omega) x HX32.out)
         rw [HZ.out,HM2.out] at HIn
         obtain ⟨B,hB⟩ : ∃ B,decide (x ∈ sl2) = B := ⟨_,rfl⟩
         rw [hB] at HIn
         clear hB
         go_wp2_with fail
         (with_reducible refine (HIn.out _ (Fr.refl F0 w8)).mono ?_); rintro e1 w9 ⟨rfl,f⟩
         replace r18 := keep_fr f r18
         replace r7 := keep_fr f r7
         replace G3 := G3.trans' f
         clear f
         cases B
         case' true =>
          go_wp2_with fail
          go_roundw
          case rel => exact ⟨i3 + 1,sl2,by go_num,by have := HK2.out; omega,HS3.out.1.fr G3,by rw [← HM2.out]; exact HS3.out.2.1.fr G3,HSL.out.1,by have := HK2.out; omega,HS3.out.2.2.fr G3,by rw [← HM2.out]; exact HSL.out.2,r7⟩
          case measure => have := HK2.out; simp [intOf]; omega
         case' false =>
          obtain ⟨a10,c10,w10,hap2,S10,V10,hs10,hd10,hkp⟩ := sure_app (HS3.out.1.fr G3) (HS3.out.2.1.fr G3) (HS3.out.2.2.fr G3) (by have := HMC.out; omega) HSL.out.2 x HX32.out (by have := HK2.out; have := HMS2.out; have := HMC.out; omega)
          replace r7 := hkp _ _ _ _ r7 (by decide)
          have HS10 := Lib.hid (And.intro S10 (And.intro V10 (And.intro hs10 hd10)))
          rw [HZ.out,HM2.out] at hap2
          have hblr := fun W => run_buildLh W Z sY
          clear S10 V10 hs10 hd10 hkp
          go_wp2_with fail
          go_roundw
          case rel => exact ⟨i3 + 1,sl2 ++ [x],by go_num,by have := HK2.out; omega,HS10.out.1,by rw [← HM2.out]; exact HS10.out.2.1,fun y hy => by
           rw [List.mem_append,List.mem_singleton] at hy
           rcases hy with hy | rfl
           ·exact HSL.out.1 y hy
           ·exact HCZ.out (by first | rfl | trivial),by have := HK2.out; simp; omega,HS10.out.2.2.1,by rw [← HM2.out]; exact HS10.out.2.2.2,r7⟩
          case measure => have := HK2.out; simp [intOf]; omega
       ·have l4 : ¬ (i3 : Int) < (mc : Int) := by omega
        have H7 := Lib.hid (And.intro S3 (And.intro V3 (And.intro hsl3 (And.intro hsn3 r7))))
        clear S3 V3 hsl3 hsn3 hs3 hd3 r7
        go_wp2_with fail
        go_roundw
        case rel =>
         refine ⟨k + 1,d',H',L',ps',v',tl ++ [h],sl2,by go_num,by have := HK.out.1; omega,by have := HK.out.2.1; have := HI2.out.2.2.2; omega,by have := HK.out.2.2.1; simp; omega,by simp,HI2.out.1,HI2.out.2.1,HI2.out.2.2.1,?_,H7.out.2.1,H7.out.2.2.1,?_,H7.out.2.2.2.2⟩
         ·rw [← HM.out]; exact H7.out.1
         ·have := HK.out.2.2.2.2; have := HMS.out; have := H7.out.2.2.2.1; have := HMC.out; omega
        case measure => have := HK.out; simp [intOf]; omega
  ·have l1 : ¬ (k : Int) < (n : Int) := by omega
   have F := S.F
   clear S V I g e hsl hsn
   go_wp2_with fail
   go_ret
   exact ⟨rfl,F⟩
end Go.Proofs.YtedffdlkmpmdlaaGreatDoor
namespace Go.Proofs.YtedffdlkmpmdlaaGreatDoor
set_option maxRecDepth 100000
set_option linter.unusedVariables false
set_option linter.unusedSimpArgs false
open Go.RowKit
theorem sb13 {s0 s1 s2 s3 s4 s5 s6 s7 s8 s9 s10 s11 s13 s15 s16 s18 s19 s20 s21 s22 s23 s24 s25 s26 s27 s28 s29 s30 s31 s32 s33 s34 s35 s36 s37 s38 s39 s40 s41 s42 s43 s44 s45 s46 s47 s48 s49 s50 s51 s52 s53 s54 s55 s56 s57 s58 s59 s60 s61 s62 s63 s64 s65 s66 s67 s68 s69 s70 s71 s72 s73 s74 s75 s76 s77 s78 s79 s80 s81 s82 s83 s84 s85 s86 s87 s88 s89 s90 s91 s92 s93 s94 s95 s96 s97 s98 s99 s100 s101 s102 s103 s104 s105 s106 s107 s108 s109 s110 s111 s112 s113 s114 s115 s116 s117 s118 s119 s120 s121 s122 s123 s124 s125 s126 s127 s128 s129 s130 s131 s132 s133 s134 s135 s136 s137 s138 s139 s140 s141 s142 s143 s144 s145 s146 s147 s148 s149 s150 s151 s152 s153 s154 s155 s156 s157 s158 s159 s160 s161 s162 s163 s164 s165 s166 s167 s168 s169 s170 s171 s172 s173 s174 s175 s176 s177 s178 s179 s180 s181 s182 s183 s184 s185 s186 s187 s188 s189 s190 s191 s192 s193 s194 s195 s196 s197 s198 s199 s200 s201 s202 s203 s204 s205 s206 s207 s208 s209 s210 s211 s212 s213 s214 s215 s216 s217 s218 s219 s220 s221 s222 s223 s224 s225 s226 : Value} {K : Act → World → Prop} {Q : Exit → Act → World → Prop} (w3 : World) (X : Array Value) (Y : Nat → Array Value) (kind ah late : Int) (b8 : Value) (p g14 b c m x j : Nat) (H1 : RowKit.Hid (∀ W : World,Fr F0 w3 W → (loadRowAt 27 (.pointer (some ⟨b,j * 68,none⟩))).run Tryz.prog W = .ok (.agg X) W)) (H2 : RowKit.Hid (∀ W : World,Fr F0 w3 W → Calls Tryz.prog 11 #[.pointer (some ⟨p,0,none⟩),.agg X,.agg #[.int .i64 kind,.int .i64 ah,.int .i32 late,b8]] W fun e w' => (∃ n : Nat,n < 4294967296 ∧ e = .returned (.agg (Y n))) ∧ Fr F0 W w')) (HY : RowKit.Hid (∀ n : Nat,n < 4294967296 → (Y n).size = 68 ∧ rowOne (Y n))) (one : rowOne #[.int .i64 kind,.int .i64 ah,.int .i32 late,b8]) (hx : IntKind.u64.wrap ah = (x : Int)) (hm : IntKind.u64.wrap (m : Int) = (m : Int)) (hj : (x : Int).tmod (m : Int) = (j : Int)) (hj2 : IntKind.i64.wrap (j : Int) = (j : Int)) (hjm : (j : Int) < (m : Int)) (hjn : j < m) (m0 : ¬ (m : Int) = 0) (m1 : ¬ m = 0) (r14 : w3.heap[g14]? = some (.cells #[.int .i64 kind,.int .i64 ah,.int .i32 late,b8] 38 (0,0)))
  (hK : RowKit.Hid (∀ {u18 u74 u75 u76 u77 u78 u79 u80 u81 u82 u83 u84 u85 u86 u87 : Value} {w' : World},((∃ g15 n : Nat,u18 = .pointer (some ⟨g15,0,none⟩) ∧ n < 4294967296 ∧ w3.heap.size ≤ g15 ∧ w'.heap[g15]? = some (.cells (Y n) 27 (0,0))) ∧ Fr F0 w3 w') → K ⟨#[s0,s1,s2,s3,s4,s5,s6,s7,s8,s9,s10,s11,.pointer (some ⟨p,0,none⟩),s13,.slice (some ⟨b,0,none⟩) m c,s15,s16,.pointer (some ⟨g14,0,none⟩),u18,s19,s20,s21,s22,s23,s24,s25,s26,s27,s28,s29,s30,s31,s32,s33,s34,s35,s36,s37,s38,s39,s40,s41,s42,s43,s44,s45,s46,s47,s48,s49,s50,s51,s52,s53,s54,s55,s56,s57,s58,s59,s60,s61,s62,s63,s64,s65,s66,s67,s68,s69,s70,s71,s72,s73,u74,u75,u76,u77,u78,u79,u80,u81,u82,u83,u84,u85,u86,u87,s88,s89,s90,s91,s92,s93,s94,s95,s96,s97,s98,s99,s100,s101,s102,s103,s104,s105,s106,s107,s108,s109,s110,s111,s112,s113,s114,s115,s116,s117,s118,s119,s120,s121,s122,s123,s124,s125,s126,s127,s128,s129,s130,s131,s132,s133,s134,s135,s136,s137,s138,s139,s140,s141,s142,s143,s144,s145,s146,s147,s148,s149,s150,s151,s152,s153,s154,s155,s156,s157,s158,s159,s160,s161,s162,s163,s164,s165,s166,s167,s168,s169,s170,s171,s172,s173,s174,s175,s176,s177,s178,s179,s180,s181,s182,s183,s184,s185,s186,s187,s188,s189,s190,s191,s192,s193,s194,s195,s196,s197,s198,s199,s200,s201,s202,s203,s204,s205,s206,s207,s208,s209,s210,s211,s212,s213,s214,s215,s216,s217,s218,s219,s220,s221,s222,s223,s224,s225,s226],[]⟩ w')) :
  Code.wp Tryz.prog ((Tryz.f5.body.bind (findRegion 13)).getD .skip) (Exit.then K Q) ⟨#[s0,s1,s2,s3,s4,s5,s6,s7,s8,s9,s10,s11,.pointer (some ⟨p,0,none⟩),s13,.slice (some ⟨b,0,none⟩) m c,s15,s16,.pointer (some ⟨g14,0,none⟩),s18,s19,s20,s21,s22,s23,s24,s25,s26,s27,s28,s29,s30,s31,s32,s33,s34,s35,s36,s37,s38,s39,s40,s41,s42,s43,s44,s45,s46,s47,s48,s49,s50,s51,s52,s53,s54,s55,s56,s57,s58,s59,s60,s61,s62,s63,s64,s65,s66,s67,s68,s69,s70,s71,s72,s73,s74,s75,s76,s77,s78,s79,s80,s81,s82,s83,s84,s85,s86,s87,s88,s89,s90,s91,s92,s93,s94,s95,s96,s97,s98,s99,s100,s101,s102,s103,s104,s105,s106,s107,s108,s109,s110,s111,s112,s113,s114,s115,s116,s117,s118,s119,s120,s121,s122,s123,s124,s125,s126,s127,s128,s129,s130,s131,s132,s133,s134,s135,s136,s137,s138,s139,s140,s141,s142,s143,s144,s145,s146,s147,s148,s149,s150,s151,s152,s153,s154,s155,s156,s157,s158,s159,s160,s161,s162,s163,s164,s165,s166,s167,s168,s169,s170,s171,s172,s173,s174,s175,s176,s177,s178,s179,s180,s181,s182,s183,s184,s185,s186,s187,s188,s189,s190,s191,s192,s193,s194,s195,s196,s197,s198,s199,s200,s201,s202,s203,s204,s205,s206,s207,s208,s209,s210,s211,s212,s213,s214,s215,s216,s217,s218,s219,s220,s221,s222,s223,s224,s225,s226],[]⟩ w3 := by
 conv => arg 2; whnf
 have F9 := Fr.refl F0 w3
 have HG := Lib.hid (Array.getElem?_eq_some_iff.1 r14).1
 have z5 := Nat.le_refl w3.heap.size
 refine rbegin (S := (fun w' => (w'.heap[g14]? = some (.cells #[.int .i64 kind,.int .i64 ah,.int .i32 late,b8] 38 (0,0)) ∧ (loadRowAt 27 (.pointer (some ⟨b,j * 68,none⟩))).run Tryz.prog w' = .ok (.agg X) w') ∧ Fr F0 w3 w')) ?_ fun hHeld => ?_
 ·((try dsimp only) <;> (exact ⟨⟨r14,H1.out _ F9.drew⟩,F9.drew⟩))
 refine rtake 0 ?_
 refine rtake 1 ?_
 refine rtake 2 ?_
 refine rtake 3 ?_
 refine rtake 4 ?_
 refine rtake 5 ?_
 refine rtake 6 ?_
 refine rtake 7 ?_
 refine rtake 8 ?_
 refine rtake 9 ?_
 refine rtake 10 ?_
 refine rtake 11 ?_
 refine rtake 12 ?_
 refine wpAnyH_ready (rs := [13,14]) (by kernel_rfl) (by simp) ?_
 refine AllReadyH.cons (o := ⟨_,_,_,_,_,_⟩) rfl (fun K hK => ?_) (AllReadyH.cons (o := ⟨_,_,_,_,_,_⟩) rfl (fun K hK => ?_) AllReadyH.nil)
 go_simp
 ((with_reducible refine (H2.out _ hHeld.2).mono ?_); rintro e w5 ⟨⟨n,hn,rfl⟩,f5⟩; have z5 := (hHeld.2.trans' f5).size; (try simp only [World.size_alloc,heap_drew'] at z5))
 refine hK.out _ _ ?_ (fun hHeld => ?_)
 ·((try dsimp only) <;> (first | exact hHeld | exact ⟨⟨keep_fr f5 hHeld.1.1,H1.out _ (hHeld.2.trans' f5)⟩,hHeld.2.trans' f5⟩))
 clear hK K
 try (simp only [Act.put,aST]; dsimp only [aS0,aS1])
 refine rone 14 fun K hK => ?_
 go_simp
 refine hK.out _ _ ?_ (fun hHeld => ?_)
 ·((try dsimp only) <;> (first | exact hHeld | exact ⟨⟨keep_alloc hHeld.1.1,H1.out _ (hHeld.2.alloc _)⟩,hHeld.2.alloc _⟩ | exact ⟨⟨keep_row (by have := HG.out; (try simp only [World.size_alloc,heap_drew'] at z5 ⊢); omega) hHeld.1.1,H1.out _ (hHeld.2.setRow (fun h => by (try simp only [World.size_alloc,heap_drew'] at h z5); omega) _)⟩,hHeld.2.setRow (fun h => by (try simp only [World.size_alloc,heap_drew'] at h z5); omega) _⟩))
 clear hK K
 try (simp only [Act.put,aST]; dsimp only [aS0,aS1])
 refine rone 15 fun K hK => ?_
 go_simp
 (try (rw [rowIn_of (old := Tryz.zeroCells27) (t' := 27) (by ((try rw [← Array.getElem?_eq_getElem]); repeat (first | rfl | exact heap_alloc_new _ _ | refine keep_alloc ?_ | refine keep_fr (by assumption) ?_))) zHd_size (HY.out n hn).1 (HY.out n hn).2]; go_simp))
 refine hK.out _ _ ?_ (fun hHeld => ?_)
 ·((try dsimp only) <;> (first | exact hHeld | exact ⟨⟨keep_alloc hHeld.1.1,H1.out _ (hHeld.2.alloc _)⟩,hHeld.2.alloc _⟩ | exact ⟨⟨keep_row (by have := HG.out; (try simp only [World.size_alloc,heap_drew'] at z5 ⊢); omega) hHeld.1.1,H1.out _ (hHeld.2.setRow (fun h => by (try simp only [World.size_alloc,heap_drew'] at h z5); omega) _)⟩,hHeld.2.setRow (fun h => by (try simp only [World.size_alloc,heap_drew'] at h z5); omega) _⟩))
 clear hK K
 try (simp only [Act.put,aST]; dsimp only [aS0,aS1])
 refine rdone ?_
 rotate_left
 go_simp
 refine hK.out _ _ ?_ (fun hHeld => ?_)
 ·((try dsimp only) <;> (first | exact hHeld | exact ⟨⟨keep_alloc hHeld.1.1,H1.out _ (hHeld.2.alloc _)⟩,hHeld.2.alloc _⟩ | exact ⟨⟨keep_row (by have := HG.out; (try simp only [World.size_alloc,heap_drew'] at z5 ⊢); omega) hHeld.1.1,H1.out _ (hHeld.2.setRow (fun h => by (try simp only [World.size_alloc,heap_drew'] at h z5); omega) _)⟩,hHeld.2.setRow (fun h => by (try simp only [World.size_alloc,heap_drew'] at h z5); omega) _⟩))
 clear hK K
 try (simp only [Act.put,aST]; dsimp only [aS0,aS1])
 refine rone 13 fun K hK => ?_
 go_simp
 ((with_reducible refine (H2.out _ hHeld.2).mono ?_); rintro e w5 ⟨⟨n,hn,rfl⟩,f5⟩; have z5 := (hHeld.2.trans' f5).size; (try simp only [World.size_alloc,heap_drew'] at z5))
 refine hK.out _ _ ?_ (fun hHeld => ?_)
 ·((try dsimp only) <;> (first | exact hHeld | exact ⟨⟨keep_fr f5 hHeld.1.1,H1.out _ (hHeld.2.trans' f5)⟩,hHeld.2.trans' f5⟩))
 clear hK K
 try (simp only [Act.put,aST]; dsimp only [aS0,aS1])
 refine rone 15 fun K hK => ?_
 go_simp
 (try (rw [rowIn_of (old := Tryz.zeroCells27) (t' := 27) (by ((try rw [← Array.getElem?_eq_getElem]); repeat (first | rfl | exact heap_alloc_new _ _ | refine keep_alloc ?_ | refine keep_fr (by assumption) ?_))) zHd_size (HY.out n hn).1 (HY.out n hn).2]; go_simp))
 refine hK.out _ _ ?_ (fun hHeld => ?_)
 ·((try dsimp only) <;> (first | exact hHeld | exact ⟨⟨keep_alloc hHeld.1.1,H1.out _ (hHeld.2.alloc _)⟩,hHeld.2.alloc _⟩ | exact ⟨⟨keep_row (by have := HG.out; (try simp only [World.size_alloc,heap_drew'] at z5 ⊢); omega) hHeld.1.1,H1.out _ (hHeld.2.setRow (fun h => by (try simp only [World.size_alloc,heap_drew'] at h z5); omega) _)⟩,hHeld.2.setRow (fun h => by (try simp only [World.size_alloc,heap_drew'] at h z5); omega) _⟩))
 clear hK K
 try (simp only [Act.put,aST]; dsimp only [aS0,aS1])
 refine rdone ?_
 rotate_left
 all_goals
  refine hK.out ⟨⟨_,n,rfl,hn,by (try simp only [World.size_alloc,heap_drew'] at z5 ⊢); omega,?_⟩,hHeld.2⟩
  refine (new_row (z := Tryz.zeroCells27) (t := 27) (f := (0,0)) ?_)
  repeat (first | exact heap_alloc_new _ _ | refine keep_alloc ?_ | refine keep_fr (by assumption) ?_)
theorem cf_is (L : List Bk) (k : Nat) (x : List UInt8) : cfE L k x = if decide (0 ≤ findM L x) = false then 12 else if depM L x < k then 13 else 0 := by
 unfold cfE
 by_cases h : findM L x < 0
 ·rw [if_pos h,if_pos (decide_eq_false (by omega))]
 ·have h' : decide (0 ≤ findM L x) = true := decide_eq_true (by omega)
  rw [if_neg h,h',if_neg (show ¬ true = false by decide)]
theorem sbm2 {s0 s1 s2 s3 s4 s5 s6 s7 s8 s11 s13 s14 s15 s16 s17 s18 s19 s20 s21 s22 s23 s24 s25 s26 s28 s29 s30 s31 s32 s33 s34 s35 s36 s37 s38 s39 s40 s41 s42 s43 s44 s45 s46 s47 s48 s49 s50 s51 s52 s53 s54 s55 s56 s57 s58 s59 s60 s61 s62 s63 s64 s65 s66 s67 s68 s69 s70 s71 s72 s73 s74 s75 s76 s77 s78 s79 s80 s81 s82 s83 s84 s85 s86 s87 s88 s89 s90 s91 s92 s93 s94 s95 s96 s97 s98 s99 s100 s101 s102 s103 s104 s105 s106 s107 s108 s109 s110 s111 s112 s113 s114 s115 s116 s117 s118 s119 s120 s121 s122 s123 s124 s125 s126 s127 s128 s129 s130 s131 s132 s133 s134 s135 s136 s137 s138 s139 s140 s141 s142 s143 s144 s145 s146 s147 s148 s149 s150 s151 s152 s153 s154 s155 s156 s157 s158 s159 s160 s161 s162 s163 s164 s165 s166 s167 s168 s169 s170 s171 s172 s173 s174 s175 s176 s180 s181 s182 s183 s184 s185 s186 s187 s188 s189 s190 s191 s192 s193 s194 s195 s196 s197 s198 s199 s200 s201 s202 s203 s204 s205 s206 s207 s208 s209 s210 s211 s212 s213 s214 s215 s216 s217 s218 s219 s220 s221 s222 s223 s224 s225 s226 : Value} {K : Act → World → Prop} {Q : Exit → Act → World → Prop} (w : World) (R : Array Value) (q p2 g9 bt mt ct kk m c27 : Nat) (a27 : Option Addr) (ch : List (List UInt8)) (hs : Nat → List UInt8) (HJ : Nat → Array Value) (ht : Nat → Nat) (th : Nat → Bool) (HM : RowKit.Hid (mt ≤ 40 ∧ ch.length = m ∧ m ≤ 5000)) (HR : RowKit.Hid (R.size = 72)) (c3 : R[3]? = some (.int .i64 (kk : Int))) (H1 : RowKit.Hid (∀ W i,i < mt → Fr F0 w W → (loadRowAt 27 (.pointer (some ⟨bt,i * 68,none⟩))).run Tryz.prog W = .ok (.agg (HJ i)) W)) (HY : RowKit.Hid (∀ i,i < mt → (HJ i).size = 68 ∧ rowOne (HJ i) ∧ (hs i).length = 32)) (H2 : RowKit.Hid (∀ W i,i < mt → Fr F0 w W → Calls Tryz.prog 22 #[.agg (HJ i)] W fun e w' => e = .returned (.agg (hc (hs i))) ∧ Fr F0 W w')) (H3 : RowKit.Hid (∀ W i,i < mt → Fr F0 w W → Calls Tryz.prog 25 #[.pointer (some ⟨p2,0,none⟩),.agg (hc (hs i))] W fun e w' => e = .returned (.tuple #[.int .i64 (ht i : Int),.bool (th i)]) ∧ Fr F0 W w')) (H4 : RowKit.Hid (Hs w a27 c27 ch)) (H5 : RowKit.Hid (∀ W i,i < mt → Fr F0 w W → Calls Tryz.prog 21 #[.pointer (some ⟨q,0,none⟩),.agg (hc (hs i))] W fun e w' => e = .returned (.int .i64 ((dpN ch (hs i) m : Nat) : Int)) ∧ Fr F0 W w')) (H6 : RowKit.Hid (∀ W i,i < mt → Fr F0 w W → Calls Tryz.prog 28 #[.pointer (some ⟨q,0,none⟩),.agg (hc (hs i))] W fun e w' => e = .returned (.int .i64 (if th i = false then 12 else if dpN ch (hs i) m < kk then 13 else 0)) ∧ Fr F0 W w')) (r9 : w.heap[g9]? = some (.cells R 29 (0,0)))
  (hK : RowKit.Hid (∀ {u8 u29 u30 u31 u32 u33 u34 u35 u36 u179 u180 u181 u182 u183 u184 u185 u186 u187 u188 u189 u190 u191 u192 u193 u194 u195 u196 u197 u198 u199 u200 u201 u202 u203 u204 u205 u206 u207 u208 u209 u210 u211 u212 u213 u214 u215 u216 u217 u218 u219 u220 u221 u222 u223 u224 u225 u226 : Value} {w' : World},(Fr F0 w w') → K ⟨#[s0,s1,s2,s3,s4,s5,s6,s7,u8,.pointer (some ⟨g9,0,none⟩),.pointer (some ⟨q,0,none⟩),s11,.pointer (some ⟨p2,0,none⟩),s13,s14,s15,s16,s17,s18,s19,s20,s21,s22,s23,s24,s25,s26,.slice a27 m c27,s28,u29,u30,u31,u32,u33,u34,u35,u36,s37,s38,s39,s40,s41,s42,s43,s44,s45,s46,s47,s48,s49,s50,s51,s52,s53,s54,s55,s56,s57,s58,s59,s60,s61,s62,s63,s64,s65,s66,s67,s68,s69,s70,s71,s72,s73,s74,s75,s76,s77,s78,s79,s80,s81,s82,s83,s84,s85,s86,s87,s88,s89,s90,s91,s92,s93,s94,s95,s96,s97,s98,s99,s100,s101,s102,s103,s104,s105,s106,s107,s108,s109,s110,s111,s112,s113,s114,s115,s116,s117,s118,s119,s120,s121,s122,s123,s124,s125,s126,s127,s128,s129,s130,s131,s132,s133,s134,s135,s136,s137,s138,s139,s140,s141,s142,s143,s144,s145,s146,s147,s148,s149,s150,s151,s152,s153,s154,s155,s156,s157,s158,s159,s160,s161,s162,s163,s164,s165,s166,s167,s168,s169,s170,s171,s172,s173,s174,s175,s176,.slice (some ⟨bt,0,none⟩) mt ct,.int .i64 (mt : Int),u179,u180,u181,u182,u183,u184,u185,u186,u187,u188,u189,u190,u191,u192,u193,u194,u195,u196,u197,u198,u199,u200,u201,u202,u203,u204,u205,u206,u207,u208,u209,u210,u211,u212,u213,u214,u215,u216,u217,u218,u219,u220,u221,u222,u223,u224,u225,u226],[]⟩ w')) :
  Code.wp Tryz.prog ((Tryz.f5.body.bind (findBlock 2)).getD .skip) (Exit.then K Q) ⟨#[s0,s1,s2,s3,s4,s5,s6,s7,s8,.pointer (some ⟨g9,0,none⟩),.pointer (some ⟨q,0,none⟩),s11,.pointer (some ⟨p2,0,none⟩),s13,s14,s15,s16,s17,s18,s19,s20,s21,s22,s23,s24,s25,s26,.slice a27 m c27,s28,s29,s30,s31,s32,s33,s34,s35,s36,s37,s38,s39,s40,s41,s42,s43,s44,s45,s46,s47,s48,s49,s50,s51,s52,s53,s54,s55,s56,s57,s58,s59,s60,s61,s62,s63,s64,s65,s66,s67,s68,s69,s70,s71,s72,s73,s74,s75,s76,s77,s78,s79,s80,s81,s82,s83,s84,s85,s86,s87,s88,s89,s90,s91,s92,s93,s94,s95,s96,s97,s98,s99,s100,s101,s102,s103,s104,s105,s106,s107,s108,s109,s110,s111,s112,s113,s114,s115,s116,s117,s118,s119,s120,s121,s122,s123,s124,s125,s126,s127,s128,s129,s130,s131,s132,s133,s134,s135,s136,s137,s138,s139,s140,s141,s142,s143,s144,s145,s146,s147,s148,s149,s150,s151,s152,s153,s154,s155,s156,s157,s158,s159,s160,s161,s162,s163,s164,s165,s166,s167,s168,s169,s170,s171,s172,s173,s174,s175,s176,.slice (some ⟨bt,0,none⟩) mt ct,.int .i64 (mt : Int),.int .i64 0,s180,s181,s182,s183,s184,s185,s186,s187,s188,s189,s190,s191,s192,s193,s194,s195,s196,s197,s198,s199,s200,s201,s202,s203,s204,s205,s206,s207,s208,s209,s210,s211,s212,s213,s214,s215,s216,s217,s218,s219,s220,s221,s222,s223,s224,s225,s226],[]⟩ w := by
 conv => arg 2; whnf
 have F := Fr.refl F0 w
 have z3 : 3 < R.size := by have := HR.out; omega
 have d3 := cell_is c3 z3
 go_wp2_with fail
 go_loopw [179] (fun iv wr => ∃ i : Nat,iv = .int .i64 (i : Int) ∧ i ≤ mt ∧ Fr F0 w wr) (fun iv _ => mt - (intOf iv).toNat)
 case atStart => exact ⟨0,rfl,Nat.zero_le _,F⟩
 case round =>
  clear F
  obtain ⟨i,rfl,hi,F⟩ := hrel
  by_cases h1 : i < mt
  ·have l1 : (i : Int) < (mt : Int) := by omega
   have ld := H1.out _ i h1 F
   obtain ⟨sH,oH,h32⟩ := HY.out i h1
   have J2 := Lib.hid (fun W (f : Fr F0 w W) => H2.out W i h1 f)
   have J3 := Lib.hid (fun W (f : Fr F0 w W) => H3.out W i h1 f)
   have J5 := Lib.hid (fun W (f : Fr F0 w W) => H5.out W i h1 f)
   have J6 := Lib.hid (fun W (f : Fr F0 w W) => H6.out W i h1 f)
   have k2 : IntKind.i64.wrap ((i : Int) + 1) = ((i + 1 : Nat) : Int) := by rw [IntWalk.i64_in _ (by have := HM.out; omega)]; rfl
   have HK := Lib.hid (And.intro h1 h32)
   have sY := hc_size h32
   have oY := hc_one (hs i)
   obtain ⟨Z,hZ⟩ : ∃ Z,hc (hs i) = Z := ⟨_,rfl⟩
   rw [hZ] at J2 J3 J5 J6 sY oY
   have HZ := Lib.hid hZ
   generalize HJ i = HC at *
   generalize ht i = hti at *
   generalize th i = thi at *
   clear h1 h32 hZ hi
   replace r9 := keep_fr F r9
   go_upto_region 36 with fail
   refine wp_put fun W7 N => ?_
   have r29 := N.new
   replace r9 := N.old r9
   replace F := F.trans' N.fr
   clear N ld
   generalize wr.heap.size = g29 at *
   go_wp2_with fail
   (with_reducible refine (J2.out _ F).mono ?_); rintro e1 w8 ⟨rfl,f⟩
   replace r9 := keep_fr f r9
   replace F := F.trans' f
   clear f r29
   go_upto_region 37 with fail
   refine wp_put fun W9 N => ?_
   have r30 := N.new
   replace r9 := N.old r9
   replace F := F.trans' N.fr
   clear N
   generalize w8.heap.size = g30 at *
   go_wp2_with fail
   (with_reducible refine (J3.out _ F).mono ?_); rintro e1 w10 ⟨rfl,f⟩
   replace r30 := keep_fr f r30
   replace r9 := keep_fr f r9
   replace F := F.trans' f
   clear f
   have G := Fr.refl F0 w10
   have HF := Lib.hid F
   have Hr9 := Lib.hid r9
   have Hr30 := Lib.hid r30
   clear F r9 r30
   go_upto_region 40 with fail
   go_loopw [33,193] (fun dv iv wr => ∃ k : Nat,dv = .int .i64 ((dpN ch (hs i) k : Nat) : Int) ∧ iv = .int .i64 (k : Int) ∧ k ≤ m ∧ Fr F0 w10 wr) (fun _ iv _ => m - (intOf iv).toNat)
   case atStart => exact ⟨0,rfl,rfl,Nat.zero_le _,G⟩
   case round =>
    clear G
    obtain ⟨k,rfl,rfl,hk,G⟩ := hrel
    have r30 := keep_fr G Hr30.out
    have r9 := keep_fr G Hr9.out
    by_cases h2 : k < m
    ·have l2 : (k : Int) < (m : Int) := by omega
     have hil : k < ch.length := by have := HM.out; omega
     have h32 := H4.out.ok.get hil
     obtain ⟨b7,off7,ea,hld,_⟩ := H4.out.load k hil
     subst ea
     have ld := hld _ (HF.out.trans' G)
     have heq := fun W => run_equalIn_hashJ W (hs i) (ch.getD k []) HK.out.2 h32
     rw [HZ.out] at heq
     have sV := hc_size h32
     have oV := hc_one (ch.getD k [])
     generalize hc (ch.getD k []) = V at *
     have k3 : IntKind.i64.wrap ((k : Int) + 1) = ((k + 1 : Nat) : Int) := by rw [IntWalk.i64_in _ (by have := HM.out; omega)]; rfl
     have k4 : IntKind.i64.wrap ((m : Int) - (k : Int)) = ((m - k : Nat) : Int) := by rw [IntWalk.i64_in _ (by have := HM.out; omega)]; omega
     have hd : dpN ch (hs i) (k + 1) = if hs i = ch.getD k [] then m - k else dpN ch (hs i) k := by rw [dpN,HM.out.2.1]
     have HK2 := Lib.hid h2
     clear hld h32 hil h2
     go_upto_region 42 with fail
     refine wp_put fun W7 N => ?_
     have r35 := N.new
     replace r9 := N.old r9
     replace r30 := N.old r30
     replace G := G.trans' N.fr
     clear N ld
     generalize wr.heap.size = g35 at *
     by_cases he : hs i = ch.getD k []
     ·rw [decide_eq_true he] at heq
      rw [if_pos he] at hd
      have HD := Lib.hid hd
      clear hd he
      generalize m - k = mk at *
      go_wp2_with fail
      go_roundw
      case rel => exact ⟨k + 1,by rw [HD.out],by go_num,by have := HK2.out; omega,G⟩
      case measure => have := HK2.out; simp [intOf]; omega
     ·rw [decide_eq_false he] at heq
      rw [if_neg he] at hd
      have HD := Lib.hid hd
      clear hd he
      go_wp2_with fail
      go_roundw
      case rel => exact ⟨k + 1,by rw [HD.out],by go_num,by have := HK2.out; omega,G⟩
      case measure => have := HK2.out; simp [intOf]; omega
    ·have l2 : ¬ (k : Int) < (m : Int) := by omega
     obtain rfl : k = m := by omega
     have F := HF.out.trans' G
     clear hk h2
     generalize dpN ch (hs i) k = dp at *
     have HKi := Lib.hid HK.out.1
     have fin : True := trivial
     cases thi
     ·rw [if_pos (show false = false from rfl)] at J6
      go_wp2_with fail
      (with_reducible refine (J5.out _ F).mono ?_); rintro e1 w11 ⟨rfl,f⟩
      replace r30 := keep_fr f r30
      replace F := F.trans' f
      clear f r9
      go_wp2_with fail
      (with_reducible refine (J6.out _ F).mono ?_); rintro e1 w12 ⟨rfl,f⟩
      replace F := F.trans' f
      clear f
      go_wp2_with fail
      go_roundw
      case rel => exact ⟨i + 1,by go_num,by have := HKi.out; omega,F⟩
      case measure => have := HKi.out; simp [intOf]; omega
     ·rw [if_neg (show ¬ true = false by decide)] at J6
      by_cases hdk : dp < kk
      ·rw [if_pos hdk] at J6
       have l3 : (dp : Int) < (kk : Int) := by omega
       go_wp2_with fail
       (with_reducible refine (J5.out _ F).mono ?_); rintro e1 w11 ⟨rfl,f⟩
       replace r30 := keep_fr f r30
       replace F := F.trans' f
       clear f r9
       go_wp2_with fail
       (with_reducible refine (J6.out _ F).mono ?_); rintro e1 w12 ⟨rfl,f⟩
       replace F := F.trans' f
       clear f
       go_wp2_with fail
       go_roundw
       case rel => exact ⟨i + 1,by go_num,by have := HKi.out; omega,F⟩
       case measure => have := HKi.out; simp [intOf]; omega
      ·rw [if_neg hdk] at J6
       have l3 : ¬ (dp : Int) < (kk : Int) := by omega
       go_wp2_with fail
       (with_reducible refine (J5.out _ F).mono ?_); rintro e1 w11 ⟨rfl,f⟩
       replace r30 := keep_fr f r30
       replace F := F.trans' f
       clear f r9
       go_wp2_with fail
       (with_reducible refine (J6.out _ F).mono ?_); rintro e1 w12 ⟨rfl,f⟩
       replace F := F.trans' f
       clear f
       go_wp2_with fail
       go_roundw
       case rel => exact ⟨i + 1,by go_num,by have := HKi.out; omega,F⟩
       case measure => have := HKi.out; simp [intOf]; omega
  ·have l1 : ¬ (i : Int) < (mt : Int) := by omega
   go_wp2_with fail
   exact hK.out F
theorem sb27 {s0 s1 s2 s3 s4 s5 s6 s7 s8 s9 s10 s11 s13 s14 s15 s16 s17 s19 s20 s22 s24 s25 s27 s28 s29 s30 s31 s32 s33 s34 s35 s36 s37 s38 s39 s40 s41 s42 s43 s44 s45 s46 s47 s48 s49 s50 s51 s52 s53 s54 s55 s56 s57 s58 s59 s60 s61 s62 s63 s64 s65 s66 s67 s68 s69 s70 s71 s72 s73 s74 s75 s76 s77 s78 s79 s80 s81 s82 s83 s84 s85 s86 s87 s88 s89 s90 s91 s92 s93 s94 s95 s96 s97 s98 s99 s100 s101 s102 s103 s104 s105 s106 s107 s108 s109 s110 s111 s112 s113 s114 s115 s116 s117 s118 s119 s120 s121 s122 s123 s124 s125 s126 s127 s128 s129 s130 s131 s132 s133 s134 s135 s136 s137 s138 s139 s140 s141 s142 s143 s144 s145 s146 s147 s148 s149 s150 s151 s152 s153 s154 s155 s156 s157 s158 s159 s160 s161 s162 s163 s164 s165 s166 s167 s168 s169 s170 s171 s172 s173 s174 s175 s176 s177 s178 s179 s180 s181 s182 s183 s184 s185 s186 s187 s188 s189 s190 s191 s192 s193 s194 s195 s196 s197 s198 s199 s200 s201 s202 s203 s204 s205 s206 s207 s208 s209 s210 s211 s212 s213 s214 s215 s216 s217 s218 s219 s220 s221 s222 s223 s224 s225 s226 : Value} {K : Act → World → Prop} {Q : Exit → Act → World → Prop} (w3 : World) (TD HC Y V : Array Value) (g21 g18 p2 ht tn : Nat) (bb : Bool) (sTD : TD.size = 35) (c32 : TD[32]? = some (.int .i64 (ht : Int))) (c33 : TD[33]? = some (.bool bb)) (c34 : TD[34]? = some (.int .i64 (tn : Int))) (HLH : RowKit.Hid (∀ W : World,W.heap[g21]? = some (.cells TD 49 (0,0)) → (loadRowAt 25 (.pointer (some ⟨g21,0,none⟩))).run Tryz.prog W = .ok (.agg Y) W)) (H1 : RowKit.Hid (∀ W : World,Fr F0 w3 W → Calls Tryz.prog 22 #[.agg HC] W fun e w' => e = .returned (.agg Y) ∧ Fr F0 W w')) (H2 : RowKit.Hid (∀ W : World,Fr F0 w3 W → Calls Tryz.prog 24 #[.pointer (some ⟨p2,0,none⟩)] W fun e w' => e = .returned (.agg V) ∧ Fr F0 W w')) (heq1 : ∀ W,(Op.equalIn 10000 25 (.agg Y) (.agg Y)).run Tryz.prog W = .ok true W) (heq2 : ∀ W,(Op.equalIn 10000 25 (.agg V) (.agg Y)).run Tryz.prog W = .ok bb W) (sH : HC.size = 68) (r21 : w3.heap[g21]? = some (.cells TD 49 (0,0))) (r18 : w3.heap[g18]? = some (.cells HC 27 (0,0)))
  (hK : RowKit.Hid (∀ {u127 u128 u129 u130 u131 u132 u133 u134 u135 u136 u137 u138 u139 u140 u141 u142 u143 u144 u145 u146 u147 u148 u149 u150 u151 u152 u153 : Value} {w' : World},(u153 = .bool false ∧ Fr F0 w3 w') → K ⟨#[s0,s1,s2,s3,s4,s5,s6,s7,s8,s9,s10,s11,.pointer (some ⟨p2,0,none⟩),s13,s14,s15,s16,s17,.pointer (some ⟨g18,0,none⟩),s19,s20,.pointer (some ⟨g21,0,none⟩),s22,.int .i64 (ht : Int),s24,s25,.int .i64 (tn : Int),s27,s28,s29,s30,s31,s32,s33,s34,s35,s36,s37,s38,s39,s40,s41,s42,s43,s44,s45,s46,s47,s48,s49,s50,s51,s52,s53,s54,s55,s56,s57,s58,s59,s60,s61,s62,s63,s64,s65,s66,s67,s68,s69,s70,s71,s72,s73,s74,s75,s76,s77,s78,s79,s80,s81,s82,s83,s84,s85,s86,s87,s88,s89,s90,s91,s92,s93,s94,s95,s96,s97,s98,s99,s100,s101,s102,s103,s104,s105,s106,s107,s108,s109,s110,s111,s112,s113,s114,s115,s116,s117,s118,s119,s120,s121,s122,s123,s124,s125,s126,u127,u128,u129,u130,u131,u132,u133,u134,u135,u136,u137,u138,u139,u140,u141,u142,u143,u144,u145,u146,u147,u148,u149,u150,u151,u152,u153,s154,s155,s156,s157,s158,s159,s160,s161,s162,s163,s164,s165,s166,s167,s168,s169,s170,s171,s172,s173,s174,s175,s176,s177,s178,s179,s180,s181,s182,s183,s184,s185,s186,s187,s188,s189,s190,s191,s192,s193,s194,s195,s196,s197,s198,s199,s200,s201,s202,s203,s204,s205,s206,s207,s208,s209,s210,s211,s212,s213,s214,s215,s216,s217,s218,s219,s220,s221,s222,s223,s224,s225,s226],[]⟩ w')) :
  Code.wp Tryz.prog ((Tryz.f5.body.bind (findRegion 27)).getD .skip) (Exit.then K Q) ⟨#[s0,s1,s2,s3,s4,s5,s6,s7,s8,s9,s10,s11,.pointer (some ⟨p2,0,none⟩),s13,s14,s15,s16,s17,.pointer (some ⟨g18,0,none⟩),s19,s20,.pointer (some ⟨g21,0,none⟩),s22,.int .i64 (ht : Int),s24,s25,.int .i64 (tn : Int),s27,s28,s29,s30,s31,s32,s33,s34,s35,s36,s37,s38,s39,s40,s41,s42,s43,s44,s45,s46,s47,s48,s49,s50,s51,s52,s53,s54,s55,s56,s57,s58,s59,s60,s61,s62,s63,s64,s65,s66,s67,s68,s69,s70,s71,s72,s73,s74,s75,s76,s77,s78,s79,s80,s81,s82,s83,s84,s85,s86,s87,s88,s89,s90,s91,s92,s93,s94,s95,s96,s97,s98,s99,s100,s101,s102,s103,s104,s105,s106,s107,s108,s109,s110,s111,s112,s113,s114,s115,s116,s117,s118,s119,s120,s121,s122,s123,s124,s125,s126,s127,s128,s129,s130,s131,s132,s133,s134,s135,s136,s137,s138,s139,s140,s141,s142,s143,s144,s145,s146,s147,s148,s149,s150,s151,s152,s153,s154,s155,s156,s157,s158,s159,s160,s161,s162,s163,s164,s165,s166,s167,s168,s169,s170,s171,s172,s173,s174,s175,s176,s177,s178,s179,s180,s181,s182,s183,s184,s185,s186,s187,s188,s189,s190,s191,s192,s193,s194,s195,s196,s197,s198,s199,s200,s201,s202,s203,s204,s205,s206,s207,s208,s209,s210,s211,s212,s213,s214,s215,s216,s217,s218,s219,s220,s221,s222,s223,s224,s225,s226],[]⟩ w3 := by
 conv => arg 2; whnf
 have F9 := Fr.refl F0 w3
 have z32 : 32 < TD.size := by omega
 have z33 : 33 < TD.size := by omega
 have z34 : 34 < TD.size := by omega
 have d32 := cell_is c32 z32
 have d33 := cell_is c33 z33
 have d34 := cell_is c34 z34
 refine rbegin (S := (fun w' => (w'.heap[g21]? = some (.cells TD 49 (0,0)) ∧ w'.heap[g18]? = some (.cells HC 27 (0,0)) ∧ (loadRowAt 25 (.pointer (some ⟨g21,0,none⟩))).run Tryz.prog w' = .ok (.agg Y) w') ∧ Fr F0 w3 w')) ?_ fun hHeld => ?_
 ·((try dsimp only) <;> (exact ⟨⟨r21,r18,HLH.out _ r21⟩,F9.drew⟩))
 refine rtake 0 ?_
 refine rtake 1 ?_
 refine rtake 2 ?_
 refine rone 3 fun K hK => ?_
 go_simp
 ((with_reducible refine (H1.out _ hHeld.2).mono ?_); rintro e w5 ⟨rfl,f5⟩)
 refine hK.out _ _ ?_ (fun hHeld => ?_)
 ·((try dsimp only) <;> (first | exact hHeld | exact ⟨⟨keep_fr f5 hHeld.1.1,keep_fr f5 hHeld.1.2.1,HLH.out _ (keep_fr f5 hHeld.1.1)⟩,hHeld.2.trans' f5⟩))
 clear hK K
 try (simp only [Act.put,aST]; dsimp only [aS0,aS1])
 refine rtake 4 ?_
 refine rtake 5 ?_
 refine rtake 6 ?_
 refine rtake 7 ?_
 refine rtake 8 ?_
 refine rtake 9 ?_
 refine rtake 10 ?_
 refine rtake 11 ?_
 refine rtake 12 ?_
 refine rtake 13 ?_
 refine rtake 14 ?_
 refine rtake 16 ?_
 refine rone 15 fun K hK => ?_
 go_simp
 ((with_reducible refine (H2.out _ hHeld.2).mono ?_); rintro e w5 ⟨rfl,f5⟩)
 refine hK.out _ _ ?_ (fun hHeld => ?_)
 ·((try dsimp only) <;> (first | exact hHeld | exact ⟨⟨keep_fr f5 hHeld.1.1,keep_fr f5 hHeld.1.2.1,HLH.out _ (keep_fr f5 hHeld.1.1)⟩,hHeld.2.trans' f5⟩))
 clear hK K
 try (simp only [Act.put,aST]; dsimp only [aS0,aS1])
 refine rone 17 fun K hK => ?_
 go_simp
 ((with_reducible refine (H1.out _ hHeld.2).mono ?_); rintro e w5 ⟨rfl,f5⟩)
 refine hK.out _ _ ?_ (fun hHeld => ?_)
 ·((try dsimp only) <;> (first | exact hHeld | exact ⟨⟨keep_fr f5 hHeld.1.1,keep_fr f5 hHeld.1.2.1,HLH.out _ (keep_fr f5 hHeld.1.1)⟩,hHeld.2.trans' f5⟩))
 clear hK K
 try (simp only [Act.put,aST]; dsimp only [aS0,aS1])
 refine rtake 18 ?_
 refine rtake 19 ?_
 refine rtake 20 ?_
 refine rtake 21 ?_
 refine rtake 22 ?_
 refine rtake 23 ?_
 refine rtake 24 ?_
 refine rtake 25 ?_
 refine rtake 26 ?_
 refine rdone ?_
 all_goals exact hK.out ⟨by first | rfl | simp | (cases bb <;> rfl),hHeld.2⟩
theorem sb33 {s0 s1 s2 s3 s4 s5 s6 s7 s8 s9 s10 s11 s12 s13 s15 s16 s17 s18 s19 s20 s21 s22 s23 s24 s25 s26 s27 s28 s29 s30 s31 s32 s33 s34 s35 s36 s37 s38 s39 s40 s41 s42 s43 s44 s45 s46 s47 s48 s49 s50 s51 s52 s53 s54 s55 s56 s57 s58 s59 s60 s61 s62 s63 s64 s65 s66 s67 s68 s69 s70 s71 s72 s73 s74 s75 s76 s77 s78 s79 s80 s81 s82 s83 s84 s85 s86 s87 s88 s89 s90 s91 s92 s93 s94 s95 s96 s97 s98 s99 s100 s101 s102 s103 s104 s105 s106 s107 s108 s109 s110 s111 s112 s113 s114 s115 s116 s117 s118 s119 s120 s121 s122 s123 s124 s125 s126 s127 s128 s129 s130 s131 s132 s133 s134 s135 s136 s137 s138 s139 s140 s141 s142 s143 s144 s145 s146 s147 s148 s149 s150 s151 s152 s153 s154 s155 s156 s157 s158 s159 s160 s161 s162 s163 s164 s165 s166 s167 s168 s169 s170 s171 s172 s173 s174 s175 s176 s177 s178 s179 s180 s181 s182 s183 s184 s185 s186 s187 s188 s189 s190 s191 s192 s193 s194 s195 s196 s197 s198 s199 s200 s201 s202 s203 s204 s205 s206 s207 s208 s209 s210 s211 s212 s213 s214 s215 s216 s217 s218 s219 s220 s221 s222 s223 s224 s225 s226 : Value} {K : Act → World → Prop} {Q : Exit → Act → World → Prop} (w3 : World) (bt mt ct : Nat)
  (hK : RowKit.Hid (∀ {u177 u178 u179 : Value} {w' : World},(u177 = .slice (some ⟨bt,0,none⟩) mt ct ∧ u178 = .int .i64 (mt : Int) ∧ u179 = .int .i64 0 ∧ w' = w3) → K ⟨#[s0,s1,s2,s3,s4,s5,s6,s7,s8,s9,s10,s11,s12,s13,.slice (some ⟨bt,0,none⟩) mt ct,s15,s16,s17,s18,s19,s20,s21,s22,s23,s24,s25,s26,s27,s28,s29,s30,s31,s32,s33,s34,s35,s36,s37,s38,s39,s40,s41,s42,s43,s44,s45,s46,s47,s48,s49,s50,s51,s52,s53,s54,s55,s56,s57,s58,s59,s60,s61,s62,s63,s64,s65,s66,s67,s68,s69,s70,s71,s72,s73,s74,s75,s76,s77,s78,s79,s80,s81,s82,s83,s84,s85,s86,s87,s88,s89,s90,s91,s92,s93,s94,s95,s96,s97,s98,s99,s100,s101,s102,s103,s104,s105,s106,s107,s108,s109,s110,s111,s112,s113,s114,s115,s116,s117,s118,s119,s120,s121,s122,s123,s124,s125,s126,s127,s128,s129,s130,s131,s132,s133,s134,s135,s136,s137,s138,s139,s140,s141,s142,s143,s144,s145,s146,s147,s148,s149,s150,s151,s152,s153,s154,s155,s156,s157,s158,s159,s160,s161,s162,s163,s164,s165,s166,s167,s168,s169,s170,s171,s172,s173,s174,s175,s176,u177,u178,u179,s180,s181,s182,s183,s184,s185,s186,s187,s188,s189,s190,s191,s192,s193,s194,s195,s196,s197,s198,s199,s200,s201,s202,s203,s204,s205,s206,s207,s208,s209,s210,s211,s212,s213,s214,s215,s216,s217,s218,s219,s220,s221,s222,s223,s224,s225,s226],[]⟩ w')) :
  Code.wp Tryz.prog ((Tryz.f5.body.bind (findRegion 33)).getD .skip) (Exit.then K Q) ⟨#[s0,s1,s2,s3,s4,s5,s6,s7,s8,s9,s10,s11,s12,s13,.slice (some ⟨bt,0,none⟩) mt ct,s15,s16,s17,s18,s19,s20,s21,s22,s23,s24,s25,s26,s27,s28,s29,s30,s31,s32,s33,s34,s35,s36,s37,s38,s39,s40,s41,s42,s43,s44,s45,s46,s47,s48,s49,s50,s51,s52,s53,s54,s55,s56,s57,s58,s59,s60,s61,s62,s63,s64,s65,s66,s67,s68,s69,s70,s71,s72,s73,s74,s75,s76,s77,s78,s79,s80,s81,s82,s83,s84,s85,s86,s87,s88,s89,s90,s91,s92,s93,s94,s95,s96,s97,s98,s99,s100,s101,s102,s103,s104,s105,s106,s107,s108,s109,s110,s111,s112,s113,s114,s115,s116,s117,s118,s119,s120,s121,s122,s123,s124,s125,s126,s127,s128,s129,s130,s131,s132,s133,s134,s135,s136,s137,s138,s139,s140,s141,s142,s143,s144,s145,s146,s147,s148,s149,s150,s151,s152,s153,s154,s155,s156,s157,s158,s159,s160,s161,s162,s163,s164,s165,s166,s167,s168,s169,s170,s171,s172,s173,s174,s175,s176,s177,s178,s179,s180,s181,s182,s183,s184,s185,s186,s187,s188,s189,s190,s191,s192,s193,s194,s195,s196,s197,s198,s199,s200,s201,s202,s203,s204,s205,s206,s207,s208,s209,s210,s211,s212,s213,s214,s215,s216,s217,s218,s219,s220,s221,s222,s223,s224,s225,s226],[]⟩ w3 := by
 conv => arg 2; whnf
 go_wp2_with fail
 exact hK.out ⟨rfl,rfl,rfl,rfl⟩
end Go.Proofs.YtedffdlkmpmdlaaGreatDoor
namespace Go.Proofs.YtedffdlkmpmdlaaGreatDoor
set_option maxRecDepth 100000
set_option linter.unusedVariables false
set_option linter.unusedSimpArgs false
open Go.RowKit
structure T2S (w W : World) (R : Array Value) (p bm q : Nat) (H : List Hd) (L : List Bk) (ps : List Nat) (v : Value) (p2 bm2 : Nat) (ps2 : List Nat) (v2 : Value) : Prop where
 plen : ps2.length = L.length
 T : TM W p2 R bm2 H L ps2 v2 (chn L)
 lo : ∀ j,TS p2 bm2 ps2 v2 j → w.heap.size ≤ j
 dj : ∀ j,TS p bm ps v j → ¬ TS p2 bm2 ps2 v2 j
section
variable {w W W' : World} {R : Array Value} {p bm q k d : Nat} {H : List Hd} {L : List Bk} {ps : List Nat} {v : Value} {tv : Value} {tl : List Hd} {p2 bm2 : Nat} {ps2 : List Nat} {v2 : Value}
theorem T2S.fr (T : T2S w W R p bm q H L ps v p2 bm2 ps2 v2) (f : Fr F0 W W') : T2S w W' R p bm q H L ps v p2 bm2 ps2 v2 := ⟨T.plen,T.T.fr f,T.lo,T.dj⟩
theorem T2S.try (T : T2S w W R p bm q H L ps v p2 bm2 ps2 v2) (S : RSt w W R p bm q k d H L ps v tv tl) (f : Fr (fun j => tv.ownBlock = some j) W W') : T2S w W' R p bm q H L ps v p2 bm2 ps2 v2 :=
 ⟨T.plen,T.T.keepS T.plen f fun j hj e => by
  obtain ⟨cur,hc⟩ := S.Q.block e
  exact T.T.apart T.plen hc (by decide) (by decide) (by decide) hj,T.lo,T.dj⟩
theorem T2S.sub (T : T2S w W R p bm q H L ps v p2 bm2 ps2 v2) (S : RSt w W R p bm q k d H L ps v tv tl) (f : Fr (fun j => TS p bm ps v j ∨ j = q) W W') {qn : Nat} {v' : Value} (hq : W.heap.size ≤ qn) (hv : ∀ j,v'.ownBlock = some j → v.ownBlock = some j ∨ W.heap.size ≤ j) :
  TM W' p2 R bm2 H L ps2 v2 (chn L) ∧ ∀ j,TS p bm (ps ++ [qn]) v' j → ¬ TS p2 bm2 ps2 v2 j := by
 refine ⟨T.T.keepS T.plen f fun j hj e => ?_,fun j hj hx => ?_⟩
 ·rcases e with e | e
  ·exact T.dj j e hj
  ·rw [e] at hj
   exact T.T.apart T.plen S.Y (by decide) (by decide) (by decide) hj
 ·have hlt := T.T.lt T.plen j hx
  rcases hj with hj | hj | hj | hj
  ·exact T.dj j (.inl hj) hx
  ·exact T.dj j (.inr (.inl hj)) hx
  ·rw [List.mem_append,List.mem_singleton] at hj
   rcases hj with hj | rfl
   ·exact T.dj j (.inr (.inr (.inl hj))) hx
   ·omega
  ·rcases hv j hj with hj | hj
   ·exact T.dj j (.inr (.inr (.inr hj))) hx
   ·omega
end
theorem both13 {w W : World} {R : Array Value} {p bm q k d e s : Nat} {H : List Hd} {L : List Bk} {ps : List Nat} {v : Value} {tv : Value} {tl : List Hd} {p2 bm2 : Nat} {ps2 : List Nat} {v2 : Value} (ri : RI R e s lim0) (I : TI H L ps) (I2 : TI H L ps2) (g : GB L) (hl : L.length ≤ 31) (S : RSt w W R p bm q k d H L ps v tv tl) (T : T2S w W R p bm q H L ps v p2 bm2 ps2 v2) (hcub : Cub w) (h : Hd) (oh : h.Ok) (a : Option Addr) (c : Nat) (hb : Bs W a c h.bytes) :
  Calls Tryz.prog 18 #[.pointer (some ⟨q,0,none⟩),.slice a 80 c] W fun ed W' => ∃ (TT : Array Value) (E : Int),ed = .returned (.tuple #[.agg TT,.int .i64 E]) ∧ TT.size = 35 ∧ rowOne TT ∧
   (∀ (j : Nat) (A : Array Value) (t : TypeId) (f' : Nat × Nat),W.heap[j]? = some (.cells A t f') → t ≠ 80 → t ≠ 77 → t ≠ 25 → t ≠ 93 → W'.heap[j]? = some (.cells A t f')) ∧ (∀ a' c' l',0 < l'.length → Hs W a' c' l' → (∀ j,ablk a' = some j → ¬ TS p bm ps v j) → Hs W' a' c' l') ∧ W.heap.size ≤ W'.heap.size ∧
   ∀ W'',Fr F0 W' W'' → Calls Tryz.prog 12 #[.pointer (some ⟨p2,0,none⟩),.agg h.cells] W'' fun ed W3 => ed = .returned (.int .i64 E) ∧
    (∀ (j : Nat) (A : Array Value) (t : TypeId) (f' : Nat × Nat),W''.heap[j]? = some (.cells A t f') → t ≠ 80 → t ≠ 77 → t ≠ 25 → t ≠ 93 → W3.heap[j]? = some (.cells A t f')) ∧ (∀ a' c' l',0 < l'.length → Hs W'' a' c' l' → (∀ j,ablk a' = some j → ¬ TS p2 bm2 ps2 v2 j) → Hs W3 a' c' l') ∧
    ((E ≠ 0 ∧ TT = tdC z32 0 false 0 ∧ RSt w W3 R p bm q k d H L ps v tv tl ∧ T2S w W3 R p bm q H L ps v p2 bm2 ps2 v2) ∨
     (E = 0 ∧ ∃ (L' : List Bk) (ps' ps2' : List Nat) (v' v2' : Value),L'.length = L.length + 1 ∧ TI (H ++ [h]) L' ps' ∧ TI (H ++ [h]) L' ps2' ∧ GB L' ∧ (bkT L' L.length).hash = sha2 h.bytes ∧ trN (chn L) (chn L') (chn L).length = tnM L L' ∧
      TT = tdC (sha2 h.bytes) (heightM L' L.length) (decide ((bkT L' (bestM L')).hash = sha2 h.bytes)) (tnM L L') ∧ RSt w W3 R p bm q k (max d (tnM L L')) (H ++ [h]) L' ps' v' tv tl ∧ T2S w W3 R p bm q (H ++ [h]) L' ps' v' p2 bm2 ps2' v2')) := by
 have tb := g.tb (e := e) I.wf hl ri.s0
 have HAD : ∀ W'',TM W'' p2 R bm2 H L ps2 v2 (chn L) → Cub W'' → _ := fun W'' T'' hc'' => kAdd_any ri I2 tb T'' h oh (.bool false) (.bool false) rfl hc''
 refine (sub13 ri I g hl S hcub h oh a c hb).mono ?_
 rintro ed W' ⟨TT,E,rfl,s1,s2,hE,hsz,hor⟩
 refine ⟨TT,E,rfl,s1,s2,?_,?_,hsz,?_⟩
 ·intro j A t f' hj h1 h2 h3 h4
  rcases hor with ⟨_,_,f,_⟩ | ⟨_,i,qn,v',hi,nb,hbits,_,f,S',hq,hv⟩
  ·exact keep_fr f hj
  ·exact S.keep f hj h1 h2 h3 h4
 ·intro a' c' l' h0 hs hn
  rcases hor with ⟨_,_,f,_⟩ | ⟨_,i,qn,v',hi,nb,hbits,_,f,S',hq,hv⟩
  ·exact hs.fr f
  ·refine hs.frx f fun j hj e => ?_
   rcases e with e | e
   ·exact hn j hj e
   ·obtain ⟨b,off,ea,hg⟩ := hs.get 0 h0
    rw [ea] at hj
    cases hj
    have h32 := hs.ok.get h0
    have hx : ((l'.getD 0 []).map B8)[3]? = some (((l'.getD 0 []).map B8)[3]'(by rw [List.length_map,h32]; omega)) := List.getElem?_eq_getElem _
    have hy := hg 3 _ hx
    replace e : b = q := e
    rw [cell_at,e,S.Y,cellAt_cells] at hy
    have h5 := (Array.getElem?_eq_some_iff.1 hy).1
    simp [ryC] at h5
    omega
 ·intro W'' f''
  rcases hor with ⟨hne,rfl,f,S'⟩ | ⟨hz,i,qn,v',hi,nb,hbits,rfl,f,S',hq,hv⟩
  ·have T'' := (T.fr f).fr f''
   refine (HAD W'' T''.T ((S'.fr f'').cub hcub)).mono ?_
   rintro ed W3 ⟨rfl,hn3,_⟩
   have f3 := hn3 (by rw [← hE]; exact hne)
   exact ⟨by rw [hE],fun j A t f' hj _ _ _ _ => keep_fr f3 hj,fun a' c' l' _ hs _ => hs.fr f3,.inl ⟨hne,rfl,(S'.fr f'').fr f3,T''.fr f3⟩⟩
  ·obtain ⟨T2,dj⟩ := T.sub S f hq hv
   replace T2 := T2.fr f''
   have S'' := S'.fr f''
   refine (HAD W'' T2 (S''.cub hcub)).mono ?_
   rintro ed W3 ⟨rfl,_,hz3⟩
   obtain ⟨i2,hi2,qn2,v2',nb2,T3,hq2,hv2,f3⟩ := hz3 (by rw [← hE]; exact hz)
   obtain rfl : i2 = i := by rw [hi] at hi2; omega
   have hlt1 := S''.T.lt S''.plen
   have hs3 := S''.F.size
   have dj3 : ∀ j,TS p bm (ps ++ [qn]) v' j → ¬ TS p2 bm2 (ps2 ++ [qn2]) v2' j := fun j hj hx => by
    have := hlt1 j hj
    rcases hx with hx | hx | hx | hx
    ·exact dj j hj (.inl hx)
    ·exact dj j hj (.inr (.inl hx))
    ·rw [List.mem_append,List.mem_singleton] at hx
     rcases hx with hx | rfl
     ·exact dj j hj (.inr (.inr (.inl hx)))
     ·omega
    ·rcases hv2 j hx with hx | hx
     ·exact dj j hj (.inr (.inr (.inr hx)))
     ·omega
   have S3 : RSt w W3 R p bm q k (max d (tnM L (L ++ [nbB h (.bool false) i2]))) (H ++ [h]) (L ++ [nbB h (.bool false) i2]) (ps ++ [qn]) v' tv tl := by
    refine S''.frS f3 (fun j hj e => ?_) fun j hj => T.lo j hj
    rcases hj with hj | hj | hj
    ·exact dj j hj e
    ·rw [hj] at e
     exact T2.apart I2.plen S''.Y (by decide) (by decide) (by decide) e
    ·obtain ⟨cur,hc⟩ := S''.Q.block hj
     exact T2.apart I2.plen hc (by decide) (by decide) (by decide) e
   refine ⟨by rw [← hE,hz],fun j A t f' hj h1 h2 h3 h4 => f3.keeps (T2.apart I2.plen hj h1 h2 h3) hj,fun a' c' l' _ hs hn => hs.frx f3 hn,.inr ⟨hz,_,_,_,v',v2',by simp,I.snoc nb,I2.snoc nb2,g.snoc I.wf hl ri.s0 nb.ob nb.hi nb.up hbits,by rw [bkT_new]; rfl,turn_snoc I.wf I.one I.nh nb.ob nb.hi nb.up nb.new I.pos,rfl,S3,⟨by rw [List.length_append,List.length_singleton,T.plen]; simp,T3,fun j hj => ?_,dj3⟩⟩⟩
   rcases hj with hj | hj | hj | hj
   ·exact T.lo j (.inl hj)
   ·exact T.lo j (.inr (.inl hj))
   ·rw [List.mem_append,List.mem_singleton] at hj
    rcases hj with hj | rfl
    ·exact T.lo j (.inr (.inr (.inl hj)))
    ·omega
   ·rcases hv2 j hj with hj | hj
    ·exact T.lo j (.inr (.inr (.inr hj)))
    ·omega
theorem eq_told0 (W : World) : (Op.equalIn 10000 49 (.agg (tdC z32 0 false 0)) (.agg (tdC z32 0 false 0))).run Tryz.prog W = .ok true W := by kernel_rfl
theorem relaySubmits_any (every : Int) (span : Nat) (confirm : Int) (he : -9223372036854775808 ≤ every ∧ every ≤ 9223372036854775807) (hk : -9223372036854775808 ≤ confirm ∧ confirm ≤ 9223372036854775807) (hs : span < 4294967296) (a : Option Addr) (n c : Nat) (w : World) (hst : Stp w a n c) (hcub : Cub w) :
  Calls Tryz.prog 5 #[.int .i64 every,.int .u32 (span : Int),.int .i64 confirm,.slice a n c] w fun ed w' => ed = .returned (.bool true) ∧ Fr F0 w w' := by
 have HC := Lib.hid hcub
 have HL := Lib.hid (fun W (f : Fr F0 w W) => lives13_any W (hcub.fr f fun f => f))
 obtain ⟨E,hE,E2,E7⟩ : ∃ E,E = 2 + (every % 18446744073709551616).toNat % 6 ∧ 2 ≤ E ∧ E ≤ 7 := ⟨_,rfl,by omega,by omega⟩
 obtain ⟨kk,hkk,k1,k4⟩ : ∃ kk,kk = 1 + (confirm % 18446744073709551616).toNat % 4 ∧ 1 ≤ kk ∧ kk ≤ 4 := ⟨_,rfl,by omega,by omega⟩
 obtain ⟨s,hsp,s1,s2⟩ : ∃ s,s = 1 + span % 1000 ∧ 1 ≤ s ∧ s ≤ 1000 := ⟨_,rfl,by omega,by omega⟩
 have HR := Lib.hid (fun W (f : Fr F0 w W) => show Calls Tryz.prog 9 #[.int .i64 every,.int .u32 (span : Int),.int .i64 confirm] W fun e w' => e = .returned (.agg (ruC E s kk)) ∧ Fr F0 W w' from by
  have := Rules12_any hMineC every confirm span he hk hs W (hcub.fr f fun f => f)
  rw [← hE,← hkk,← hsp] at this
  exact this)
 have HN := Lib.hid (fun W (f : Fr F0 w W) => lNew_any E s kk (by omega) (by omega) (by omega) (by omega) (by omega) (by omega) W (hcub.fr f fun f => f))
 have HN2 := Lib.hid (fun W (f : Fr F0 w W) => kNew_any decC hCheckC hHashC workC E s kk (by omega) (by omega) (by omega) (by omega) (by omega) (by omega) (.bool false) rfl W (hcub.fr f fun f => f))
 have HLD := Lib.hid (fun W g (h : W.heap[g]? = some (.cells (ruC E s kk) 29 (0,0))) => first_load E s kk W g h)
 have hru := ruC_of E s kk (by omega)
 have HRU := Lib.hid (show RI (ruC E s kk) E s lim0 from ⟨⟨_,hru⟩,E2,by omega,by omega,lim0_P⟩)
 have sR := hru.size
 have oR := hru.one
 have c3 := hru.c3
 have HST := Lib.hid hst
 have HSR := Lib.hid sR
 generalize ruC E s kk = R at *
 have sF : Fh.cells.size = 68 := rfl
 obtain ⟨FC,hFC⟩ : ∃ FC,Fh.cells = FC := ⟨_,rfl⟩
 rw [hFC] at HLD sF
 have oF : rowOne FC := by rw [← hFC]; exact Hd.one
 have HFC := Lib.hid hFC
 have HC3 := Lib.hid c3
 clear hcub hst hE hsp he hs hk hkk hru hFC c3
 have F := Fr.refl F0 w
 go_enter Tryz.func5,Tryz.ntmps5
 go_wp2_with fail
 (with_reducible refine (HL.out _ F).mono ?_); rintro e1 w1 ⟨rfl,f⟩
 replace F := F.trans' f
 clear f
 by_cases h30 : 30 < n
 ·have h31 : (30 : Int) < (n : Int) := by omega
  go_wp2_with fail
  (with_reducible refine (HL.out _ F).mono ?_); rintro e1 w2 ⟨rfl,f⟩
  replace F := F.trans' f
  clear f
  go_wp2_with fail
  go_ret
  exact ⟨rfl,F⟩
 have h31 : decide ((30 : Int) < (n : Int)) = false := decide_eq_false (by omega)
 go_wp2_with fail
 (with_reducible refine (HR.out _ F).mono ?_); rintro e1 w2 ⟨rfl,f⟩
 replace F := F.trans' f
 clear f
 go_upto_region 4 with fail
 refine wp_put fun W3 N => ?_
 have r9 := N.new
 replace F := F.trans' N.fr
 clear N
 generalize w2.heap.size = g9 at *
 go_wp2_with fail
 (with_reducible refine (HN.out _ F).mono ?_); rintro e1 w4 ⟨⟨q,p,bm,qf,sl,rfl,T,Y,lo⟩,f⟩
 have hW3 := F.size
 replace r9 := keep_fr f r9
 replace F := F.trans' f
 have hW4 := F.size
 clear f
 go_wp2_with fail
 (with_reducible refine (HN2.out _ F).mono ?_); rintro e1 w5 ⟨⟨p2,bm2,qf2,sl2,rfl,T2,lo2⟩,f⟩
 replace r9 := keep_fr f r9
 replace F := F.trans' f
 have hW5 := F.size
 have ld9 := HLD.out _ _ r9
 have hbh := fun W => run_buildLHd W FC sF
 go_upto_region 9 with fail
 obtain ⟨W5,hW5e⟩ : ∃ W,W = w5.alloc (.cells FC 27) := ⟨_,rfl⟩
 refine wp_of_world W5 hW5e ?_
 have f9 : Fr F0 w5 W5 := by rw [hW5e]; exact (Fr.refl F0 w5).alloc _
 have rgt : W5.heap[w5.heap.size]? = some (.cells FC 27 (0,0)) := by rw [hW5e]; exact heap_alloc_new _ _
 obtain ⟨gt,hgt⟩ : ∃ g,w5.heap.size = g := ⟨_,rfl⟩
 rw [hgt] at rgt hW5 ⊢
 have I0 : TI [Fh] [b0 (.bool false)] [qf] := TI_first rfl qf
 have J0 : TI [Fh] [b0 (.bool false)] [qf2] := TI_first rfl qf2
 have hTlt := T.lt rfl
 have S0 : RSt w W5 R p bm q kk 0 [Fh] [b0 (.bool false)] [qf] (.slice (some ⟨sl,0,none⟩) 1 1) (.slice (some ⟨gt,0,none⟩) 1 1) [Fh] := by
  refine ⟨rfl,(T.fr f).fr f9,keep_fr f9 (keep_fr f Y),OwnHd.new1 _ Fh.ok (by rw [HFC.out]; exact rgt),F.trans' f9,fun k hk => ?_⟩
  rcases hk with (rfl | rfl | hk | hk) | rfl | hk
  ·omega
  ·omega
  ·rw [List.mem_singleton] at hk; omega
  ·cases hk; exact Nat.le_trans hW3 lo.2.2.2.1
  ·omega
  ·cases hk; exact hW5
 have T0 : T2S w W5 R p bm q [Fh] [b0 (.bool false)] [qf] (.slice (some ⟨sl,0,none⟩) 1 1) p2 bm2 [qf2] (.slice (some ⟨sl2,0,none⟩) 1 1) := by
  refine ⟨rfl,T2.fr f9,fun k hk => ?_,fun k hk hx => ?_⟩
  ·rcases hk with (rfl | rfl | hk | hk)
   ·omega
   ·omega
   ·rw [List.mem_singleton] at hk; omega
   ·cases hk; exact Nat.le_trans hW4 lo2.2.2.2
  ·have := hTlt k hk
   rcases hx with (rfl | rfl | hx | hx)
   ·omega
   ·omega
   ·rw [List.mem_singleton] at hx; omega
   ·cases hx; exact absurd (Nat.lt_of_lt_of_le this lo2.2.2.2) (Nat.lt_irrefl _)
 replace r9 := keep_fr f9 r9
 clear hW5e f9 rgt hW5 hgt T Y F lo hW3 ld9 hbh HN HR HLD HL HN2 T2 lo2 f hW4 hTlt
 go_upto_region 11 with fail
 go_loopw [14,15,70] (fun tv dv iv wr => ∃ (k d : Nat) (H : List Hd) (L : List Bk) (ps : List Nat) (v : Value) (tl : List Hd) (ps2 : List Nat) (v2 : Value),iv = .int .i64 (k : Int) ∧ dv = .int .i64 (d : Int) ∧ k ≤ n ∧ L.length ≤ 1 + k ∧ tl.length ≤ 1 + k ∧ 0 < tl.length ∧ TI H L ps ∧ TI H L ps2 ∧ GB L ∧ RSt w wr R p bm q kk d H L ps v tv tl ∧ T2S w wr R p bm q H L ps v p2 bm2 ps2 v2 ∧ wr.heap[g9]? = some (.cells R 29 (0,0))) (fun _ _ iv _ => n - (intOf iv).toNat)
 case atStart => exact ⟨0,0,[Fh],[b0 (.bool false)],[qf],_,[Fh],[qf2],_,rfl,rfl,by omega,by simp,by simp,by simp,I0,J0,GB_b0 (.bool false),S0,T0,r9⟩
 case round =>
  clear S0 I0 J0 T0 r9
  obtain ⟨k,d,H,L,ps,v,tl,ps2,v2,rfl,rfl,hk,hLk,htk,ht0,I,J,g,S,T,r9⟩ := hrel
  by_cases h1 : k < n
  ·have l1 : (k : Int) < (n : Int) := by omega
   obtain ⟨bs,offs,kind,ah,late,rt,ea,hld⟩ := HST.out.at_ k h1
   subst ea
   have lds := hld wr S.F
   obtain ⟨x,hx⟩ : ∃ x,(ah % 18446744073709551616).toNat = x := ⟨_,rfl⟩
   have wx : IntKind.u64.wrap ah = (x : Int) := by rw [IntKind.wrap_u64]; omega
   obtain ⟨j,hj⟩ : ∃ j,x % tl.length = j := ⟨_,rfl⟩
   have hjm : j < tl.length := by rw [← hj]; exact Nat.mod_lt _ ht0
   obtain ⟨bt,ct,et,hct,ldj⟩ := S.Q.load hjm
   have oj := S.Q.ok _ (hdT_mem hjm)
   subst et
   have HC2 := Lib.hid (fun W (f : Fr F0 wr W) h (o : Hd.Ok h) kind ah late rt => made13 HRU.out J (fun i hi => (g i hi).1) (T.T.fr f) ((S.cub HC.out).fr f fun f => f) h o kind ah late rt)
   have HK := Lib.hid (And.intro h1 (And.intro hLk (And.intro htk ht0)))
   have HS := Lib.hid (And.intro I (And.intro g S))
   have HT := Lib.hid (And.intro J T)
   have hjt : (x : Int).tmod (tl.length : Int) = (j : Int) := by rw [← hj]; exact (Int.ofNat_tmod x tl.length).symm
   obtain ⟨m,hm⟩ : ∃ m,tl.length = m := ⟨_,rfl⟩
   have HM := Lib.hid hm
   rw [hm] at hjm hjt htk ht0 ⊢
   have mw : IntKind.u64.wrap (m : Int) = (m : Int) := by rw [IntKind.wrap_u64]; omega
   have jw : IntKind.i64.wrap (j : Int) = (j : Int) := IntWalk.i64_in _ (by omega)
   have jm : (j : Int) < (m : Int) := by omega
   have m0 : ¬ (m : Int) = 0 := by omega
   have m1 : ¬ m = 0 := by omega
   have HLJ := Lib.hid ldj
   have HOJ := Lib.hid oj
   have oS : rowOne #[Value.int .i64 kind,.int .i64 ah,.int .i32 late,B8 rt] := by unfold rowOne; kernel_rfl
   have k1' : IntKind.i64.wrap ((k : Int) + 1) = ((k + 1 : Nat) : Int) := by rw [IntWalk.i64_in _ (by omega)]; rfl
   clear hx hj ldj oj hm I g S h1 hLk htk ht0 hld J T
   generalize hb8 : B8 rt = b8 at *
   have HB8 := Lib.hid hb8
   clear hb8
   go_upto_region 13 with fail
   refine wp_put fun W3 N => ?_
   have r12 := N.new
   replace r9 := N.old r9
   have F3 := N.fr
   clear N lds
   obtain ⟨g12,hg12⟩ : ∃ g,wr.heap.size = g := ⟨_,rfl⟩
   rw [hg12] at r12 ⊢
   clear hg12
   refine sb13 W3 (hdT tl j).cells (fun n => (mkH tl (bitA L E s lim0) kind late rt j n).cells) kind ah late b8 p2 g12 bt ct m x j
    (Lib.hid fun W f => HLJ.out W (F3.trans' f))
    (Lib.hid fun W f => by
     have := HC2.out W (F3.trans' f) (hdT tl j) HOJ.out kind ah late rt
     rw [HB8.out] at this
     exact this.mono fun e w' ⟨⟨n,hn,he,_⟩,f⟩ => ⟨⟨n,hn,he⟩,f⟩)
    (Lib.hid fun n hn => ⟨Hd.cells_size (mkH_ok (bitA_lt HS.out.1.wf _) hn HOJ.out),Hd.one⟩) oS wx mw hjt jw jm hjm m0 m1 r12 (Lib.hid ?_)
   rename_i w4
   rintro ⟨⟨g13,nn,rfl,hnn,hg13,r13⟩,f⟩
   replace r9 := keep_fr f r9
   have F4 := F3.trans' f
   have hg14 := Nat.le_trans F3.size hg13
   clear r12 F3 f HLJ HC2 hg13
   have oh := mkH_ok (kind := kind) (late := late) (rt := rt) (bitA_lt (e := E) (s := s) HS.out.1.wf (sha2 (hdT tl j).bytes)) hnn HOJ.out
   generalize mkH tl (bitA L E s lim0) kind late rt j nn = h at *
   have sh := Hd.cells_size oh
   have hoh : rowOne h.cells := Hd.one
   have S4 := HS.out.2.2.fr F4
   have T4 := HT.out.2.fr F4
   obtain ⟨a2,c2,W16,hap,o2,f2,hv2⟩ := S4.Q.app h oh (by have := HK.out.2.2.1; have := HM.out; omega) 35
   have n13 : ∀ i,(Value.slice (some ⟨bt,0,none⟩) tl.length ct).ownBlock = some i → i ≠ g13 := fun i hi e => by
    obtain ⟨cur,hc⟩ := HS.out.2.2.Q.block hi
    have := (Array.getElem?_eq_some_iff.1 hc).1
    omega
   have n9 : ∀ i,(Value.slice (some ⟨bt,0,none⟩) tl.length ct).ownBlock = some i → i ≠ g9 := fun i hi e => by
    obtain ⟨cur,hc⟩ := S4.Q.block hi
    exact cells_apart hc r9 (by decide) e
   have T16 := T4.try S4 f2
   have S16 := S4.try f2 o2 fun k hk => by rw [ablk_own] at hk; exact hv2 k hk
   have r18 := f2.keeps (fun e => n13 _ e rfl) r13
   replace r9 := f2.keeps (fun e => n9 _ e rfl) r9
   rw [HM.out] at hap
   have hcl := HS.out.1.chn_len
   have HLn := Lib.hid (fun W (f : Fr F0 W16 W) => line13_any HSR.out (T16.T.fr f) hcl.2 (by omega))
   have HLT := Lib.hid (And.intro (S16.T.lt S16.plen) (T16.T.lt T16.plen))
   have HS16 := Lib.hid (And.intro S16 T16)
   have hbh := fun W => run_buildLHd W h.cells sh
   have HBy := Lib.hid (by13 h oh)
   have HOH := Lib.hid oh
   obtain ⟨HCl,hHCl⟩ : ∃ HCl,h.cells = HCl := ⟨_,rfl⟩
   rw [hHCl] at hap sh hoh r13 r18 hbh HBy
   have HCe := Lib.hid hHCl
   obtain ⟨mc,hmc⟩ : ∃ mc,(chn L).length = mc := ⟨_,rfl⟩
   rw [hmc] at HLn
   have HMC := Lib.hid (show (chn L).length = mc ∧ 0 < mc ∧ mc ≤ 5000 from ⟨hmc,by omega,by omega⟩)
   clear S16 T16 S4 T4 o2 f2 hv2 n13 n9 hHCl oh hg14 F4 hcl hmc
   go_upto_region 15 with fail
   go_wp2_with fail
   (with_reducible refine (HLn.out _ (Fr.refl F0 W16)).mono ?_); rintro e1 w17 ⟨⟨a19,c19,rfl,hs19,hn19⟩,f⟩
   replace r9 := keep_fr f r9
   replace r18 := keep_fr f r18
   have G := f
   clear f r13
   go_wp2_with fail
   (with_reducible refine (HBy.out _).mono ?_); rintro e1 w18 ⟨a20,c20,rfl,hb20,f⟩
   replace r9 := keep_fr f r9
   replace r18 := keep_fr f r18
   replace hs19 := hs19.fr f
   replace G := G.trans' f
   have HSb := Lib.hid (both13 HRU.out HS.out.1 HT.out.1 HS.out.2.1 (by have := HK.out.2.1; omega) (HS16.out.1.fr G) (HS16.out.2.fr G) HC.out h HOH.out a20 c20 hb20)
   have HH19 := Lib.hid (And.intro hs19 hn19)
   clear hb20 f HBy hs19 hn19 G
   go_wp2_with fail
   (with_reducible refine HSb.out.mono ?_); rintro e1 w19 ⟨TT,EE,rfl,sTT,oTT,kp1,kh1,hsz1,had⟩
   replace r9 := kp1 _ _ _ _ r9 (by decide) (by decide) (by decide) (by decide)
   replace r18 := kp1 _ _ _ _ r18 (by decide) (by decide) (by decide) (by decide)
   have hs20 := kh1 _ _ _ (by have := HMC.out; omega) HH19.out.1 (fun j hj hx => by have := HLT.out.1 j hx; have := HH19.out.2 j hj; omega)
   go_upto_region 18 with fail
   refine wp_put fun W20 N => ?_
   have r21 := N.new
   replace r9 := N.old r9
   replace r18 := N.old r18
   have HAd := Lib.hid (had W20 N.fr)
   have hs21 := hs20.fr N.fr
   have hld21 : True := trivial
   clear N had kp1 kh1 HSb hs20
   rw [HCe.out] at HAd
   generalize w19.heap.size = g21 at *
   have H21 := Lib.hid hs21
   clear hs21
   go_wp2_with fail
   (with_reducible refine HAd.out.mono ?_); rintro e1 w21 ⟨rfl,kp2,kh2,hor⟩
   replace r9 := kp2 _ _ _ _ r9 (by decide) (by decide) (by decide) (by decide)
   replace r18 := kp2 _ _ _ _ r18 (by decide) (by decide) (by decide) (by decide)
   replace r21 := kp2 _ _ _ _ r21 (by decide) (by decide) (by decide) (by decide)
   have hs22 := kh2 _ _ _ (by have := HMC.out; omega) H21.out (fun j hj hx => by have := HLT.out.2 j hx; have := HH19.out.2 j hj; omega)
   have H22 := Lib.hid hs22
   clear kp2 kh2 HAd hs22 H21 HH19 HS16 HLT hap hsz1
   rcases hor with ⟨hne,rfl,S',T'⟩ | ⟨rfl,L',ps',ps2',v',v2',hl',I',J',g',hnew,htr,rfl,S',T'⟩
   ·have hz0 := fun W => run_buildTo W #[] _ built_told0
    have heqT := eq_told0
    generalize tdC z32 0 false 0 = ZZ at *
    have HX := Lib.hid (And.intro S' T')
    clear S' T' H22 r18
    go_wp2_with fail
    go_roundw
    case rel => exact ⟨k + 1,d,H,L,ps,v,tl ++ [h],ps2,v2,by go_num,rfl,by have := HK.out.1; omega,by have := HK.out.2.1; omega,by have := HK.out.2.2.1; simp; omega,by simp,HS.out.1,HT.out.1,HS.out.2.1,by rw [← HM.out]; exact HX.out.1,HX.out.2,r9⟩
    case measure => have := HK.out; simp [intOf]; omega
   ·have l32 : (sha2 h.bytes).length = 32 := by simp [sha2,sha_length]
    have hcl := I'.chn_len
    have hR := HSR.out
    have hHs := Lib.hid (fun W (f : Fr F0 w21 W) => show Calls Tryz.prog 22 #[.agg h.cells] W fun e w' => e = .returned (.agg (hc (sha2 h.bytes))) ∧ Fr F0 W w' from hHashC h HOH.out W ((S'.cub HC.out).fr f fun f => f))
    rw [HCe.out] at hHs
    have HKh := Lib.hid (fun W (f : Fr F0 w21 W) => kHeight_any hR J' (T'.T.fr f) L.length (by omega))
    rw [hnew] at HKh
    have HLn2 := Lib.hid (fun W (f : Fr F0 w21 W) => line13_any hR (T'.T.fr f) hcl.2 (by omega))
    have HB := Lib.hid (fun W (f : Fr F0 w21 W) => kBest_any hR (T'.T.fr f) (by rw [hcl.1]; omega) (by omega))
    rw [I'.at_best] at HB
    obtain ⟨tn,htn⟩ : ∃ tn,tnM L L' = tn := ⟨_,rfl⟩
    rw [htn] at htr S' r21
    have HTn := Lib.hid (fun W (h1 : Hs W a19 c19 (chn L)) a c (h2 : Hs W a c (chn L')) => turned13_any h1 (by have := HMC.out; omega) h2 (by omega))
    rw [htr,HMC.out.1] at HTn
    obtain ⟨mc2,hmc2⟩ : ∃ mc2,(chn L').length = mc2 := ⟨_,rfl⟩
    rw [hmc2] at HLn2 HTn
    obtain ⟨dm,hdm⟩ : ∃ dm,max d tn = dm := ⟨_,rfl⟩
    rw [hdm] at S'
    have hmx := fun ts t w => run_maxI ts t (d : Int) (tn : Int) (dm : Int) (by omega) w
    have heq1 := fun W => run_equalIn_hashJ W (sha2 h.bytes) (sha2 h.bytes) l32 l32
    rw [decide_eq_true rfl] at heq1
    have heq2 := fun W => run_equalIn_hashJ W (bkT L' (bestM L')).hash (sha2 h.bytes) (I'.at32 I'.best) l32
    obtain ⟨ht,hht⟩ : ∃ ht,heightM L' L.length = ht := ⟨_,rfl⟩
    obtain ⟨bb,hbb⟩ : ∃ bb,decide ((bkT L' (bestM L')).hash = sha2 h.bytes) = bb := ⟨_,rfl⟩
    rw [hht] at HKh r21
    rw [hbb] at heq2 r21
    have sTD := tdC_size l32 ht bb tn
    obtain ⟨c32,c33,c34⟩ := tdC_32 l32 ht bb tn
    have HLH := Lib.hid (fun (W : World) (hW : W.heap[g21]? = some (.cells (tdC (sha2 h.bytes) ht bb tn) 49 (0,0))) => show (loadRowAt 25 (.pointer (some ⟨g21,0,none⟩))).run Tryz.prog W = .ok (.agg (hc (sha2 h.bytes))) W from
     load_midH l32 fun j u hj => by
      have hlt : j < ((sha2 h.bytes).map B8).length := (List.getElem?_eq_some_iff.1 hj).1
      rw [Nat.zero_add,cell_of_row W g21 j _ _ _ hW,tdC,List.getElem?_toArray,List.getElem?_append_left hlt]
      exact hj)
    have sY := hc_size l32
    have oY := hc_one (sha2 h.bytes)
    generalize tdC (sha2 h.bytes) ht bb tn = TD at *
    generalize hc (sha2 h.bytes) = Y at *
    generalize hc (bkT L' (bestM L')).hash = V at *
    have HX := Lib.hid (And.intro S' T')
    have HI := Lib.hid (And.intro I' (And.intro J' (And.intro g' hl')))
    have G := Fr.refl F0 w21
    clear S' T' I' J' g' hl' hnew htr hcl hR hmc2 hdm hht hbb l32 htn
    go_wp2_with fail
    (with_reducible refine (hHs.out _ G).mono ?_); rintro e1 w22 ⟨rfl,f⟩
    replace r18 := keep_fr f r18
    replace r21 := keep_fr f r21
    replace G := G.trans' f
    clear f
    go_wp2_with fail
    (with_reducible refine (HKh.out _ G).mono ?_); rintro e1 w23 ⟨rfl,f⟩
    replace r18 := keep_fr f r18
    replace r21 := keep_fr f r21
    replace G := G.trans' f
    clear f
    go_wp2_with fail
    (with_reducible refine (HLn2.out _ G).mono ?_); rintro e1 w24 ⟨⟨a25,c25,rfl,hs25,_⟩,f⟩
    replace r18 := keep_fr f r18
    replace r21 := keep_fr f r21
    replace G := G.trans' f
    clear f
    have HT2 := Lib.hid (HTn.out w24 (H22.out.fr G) a25 c25 hs25)
    clear hs25
    go_wp2_with fail
    (with_reducible refine HT2.out.mono ?_); rintro e1 w25 ⟨rfl,f⟩
    replace r18 := keep_fr f r18
    replace r21 := keep_fr f r21
    replace G := G.trans' f
    clear f
    go_upto_region 27 with fail
    refine sb27 w25 TD HCl Y V g21 g13 p2 ht tn bb sTD c32 c33 c34 HLH (Lib.hid fun W f => hHs.out W (G.trans' f)) (Lib.hid fun W f => HB.out W (G.trans' f)) heq1 heq2 sh r21 r18 (Lib.hid ?_)
    rename_i w26
    rintro ⟨rfl,f⟩
    replace G := G.trans' f
    replace r9 := keep_fr G r9
    have HX2 := Lib.hid (And.intro (HX.out.1.fr G) (HX.out.2.fr G))
    clear G f r18 r21
    go_wp2_with fail
    go_roundw
    case rel => exact ⟨k + 1,dm,H ++ [h],L',ps',v',tl ++ [h],ps2',v2',by go_num,rfl,by have := HK.out.1; omega,by have := HK.out.2.1; have := HI.out.2.2.2; omega,by have := HK.out.2.2.1; simp; omega,by simp,HI.out.1,HI.out.2.1,HI.out.2.2.1,by rw [← HM.out]; exact HX2.out.1,HX2.out.2,r9⟩
    case measure => have := HK.out; simp [intOf]; omega
  ·have l1 : ¬ (k : Int) < (n : Int) := by omega
   generalize wr = wq at *
   have hcl := I.chn_len
   have hR := HSR.out
   have F := S.F
   have HLn := Lib.hid (fun W (f : Fr F0 wq W) => line13_any hR (T.T.fr f) hcl.2 (by omega))
   have HDe := Lib.hid (fun W (f : Fr F0 wq W) => show Calls Tryz.prog 27 #[.pointer (some ⟨q,0,none⟩)] W fun e w' => e = .returned (.int .i64 (d : Int)) ∧ Fr F0 W w' from (lDeepest_any (keep_fr f S.Y)).mono (by rintro e w' ⟨rfl,rfl⟩; exact ⟨rfl,Fr.refl _ _⟩))
   have HTr := Lib.hid (fun W (f : Fr F0 wq W) => show Calls Tryz.prog 17 #[.pointer (some ⟨q,0,none⟩)] W fun e w' => e = .returned (.pointer (some ⟨p,0,none⟩)) ∧ Fr F0 W w' from (lTree_any (keep_fr f S.Y)).mono (by rintro e w' ⟨rfl,rfl⟩; exact ⟨rfl,Fr.refl _ _⟩))
   have HB1 := Lib.hid (fun W (f : Fr F0 wq W) => kBest_any hR (S.T.fr f) (by rw [hcl.1]; omega) (by omega))
   have HB2 := Lib.hid (fun W (f : Fr F0 wq W) => kBest_any hR (T.T.fr f) (by rw [hcl.1]; omega) (by omega))
   rw [I.at_best] at HB1 HB2
   have HL1 := Lib.hid (fun W (f : Fr F0 wq W) => show Calls Tryz.prog 14 #[.pointer (some ⟨p,0,none⟩)] W fun e w' => e = .returned (.int .i64 (L.length : Int)) ∧ Fr F0 W w' from (kLen_any hR (S.T.fr f)).mono (by rintro e w' ⟨rfl,rfl⟩; exact ⟨rfl,Fr.refl _ _⟩))
   have HL2 := Lib.hid (fun W (f : Fr F0 wq W) => show Calls Tryz.prog 14 #[.pointer (some ⟨p2,0,none⟩)] W fun e w' => e = .returned (.int .i64 (L.length : Int)) ∧ Fr F0 W w' from (kLen_any hR (T.T.fr f)).mono (by rintro e w' ⟨rfl,rfl⟩; exact ⟨rfl,Fr.refl _ _⟩))
   have h32b := I.at32 I.best
   have heq := fun W => run_equalIn_hashJ W (bkT L (bestM L)).hash (bkT L (bestM L)).hash h32b h32b
   rw [decide_eq_true rfl] at heq
   have sX := hc_size h32b
   have oX := hc_one (bkT L (bestM L)).hash
   obtain ⟨mc,hmc⟩ : ∃ mc,(chn L).length = mc := ⟨_,rfl⟩
   rw [hmc] at HLn
   have HMC := Lib.hid (show (chn L).length = mc ∧ mc ≤ 5000 from ⟨hmc,by omega⟩)
   obtain ⟨bt,ct,et,_,_⟩ := S.Q.load ht0
   subst et
   obtain ⟨mt,hmt⟩ : ∃ mt,tl.length = mt := ⟨_,rfl⟩
   rw [hmt]
   have HMT := Lib.hid (show tl.length = mt ∧ mt ≤ 31 from ⟨hmt,by omega⟩)
   have HS := Lib.hid (And.intro I (And.intro J (And.intro S (And.intro T r9))))
   generalize hc (bkT L (bestM L)).hash = X at *
   generalize L.length = ln at *
   have G := Fr.refl F0 wq
   clear S T I J g r9 hmc hmt hcl h32b ht0 htk hLk hR
   go_wp2_with fail
   (with_reducible refine (HLn.out _ G).mono ?_); rintro e1 w5 ⟨⟨a27,c27,rfl,hs27,_⟩,f⟩
   replace G := G.trans' f
   have G5 := Fr.refl F0 w5
   have H27 := Lib.hid hs27
   clear f hs27
   go_wp2_with fail
   (with_reducible refine (HDe.out _ G).mono ?_); rintro e1 w6 ⟨rfl,f⟩
   replace G := G.trans' f
   replace G5 := G5.trans' f
   clear f
   go_wp2_with fail
   (with_reducible refine (HTr.out _ G).mono ?_); rintro e1 w7 ⟨rfl,f⟩
   replace G := G.trans' f
   replace G5 := G5.trans' f
   clear f
   go_wp2_with fail
   (with_reducible refine (HB1.out _ G).mono ?_); rintro e1 w8 ⟨rfl,f⟩
   replace G := G.trans' f
   replace G5 := G5.trans' f
   clear f
   go_wp2_with fail
   (with_reducible refine (HB2.out _ G).mono ?_); rintro e1 w9 ⟨rfl,f⟩
   replace G := G.trans' f
   replace G5 := G5.trans' f
   clear f
   go_wp2_with fail
   (with_reducible refine (HTr.out _ G).mono ?_); rintro e1 w10 ⟨rfl,f⟩
   replace G := G.trans' f
   replace G5 := G5.trans' f
   clear f
   go_wp2_with fail
   (with_reducible refine (HL1.out _ G).mono ?_); rintro e1 w11 ⟨rfl,f⟩
   replace G := G.trans' f
   replace G5 := G5.trans' f
   clear f
   go_wp2_with fail
   (with_reducible refine (HL2.out _ G).mono ?_); rintro e1 w12 ⟨rfl,f⟩
   replace G := G.trans' f
   replace G5 := G5.trans' f
   clear f
   go_upto_region 33 with fail
   refine sb33 w12 bt mt ct (Lib.hid ?_)
   rename_i w12b
   rintro ⟨rfl,rfl,rfl,hw⟩
   replace hw := hw.symm
   subst hw
   rename_i hk33
   refine hk33 _ _ ?_
   refine sbm2 w12 R q p2 g9 bt mt ct kk mc c27 a27 (chn L) (fun i => sha2 (hdT tl i).bytes) (fun i => (hdT tl i).cells) (fun i => htA L (sha2 (hdT tl i).bytes)) (fun i => decide (0 ≤ findM L (sha2 (hdT tl i).bytes)))
    (Lib.hid ⟨by have := HMT.out; omega,HMC.out.1,HMC.out.2⟩) HSR HC3.out (Lib.hid fun W i hi f => ?s1) (Lib.hid fun i hi => ?s2) (Lib.hid fun W i hi f => ?s3) (Lib.hid fun W i hi f => ?s4) (Lib.hid (H27.out.fr G5)) (Lib.hid fun W i hi f => ?s5) (Lib.hid fun W i hi f => ?s6) (keep_fr G HS.out.2.2.2.2) (Lib.hid ?_)
   case s1 =>
    obtain ⟨b,c,e,_,ld⟩ := HS.out.2.2.1.Q.load (show i < tl.length by have := HMT.out; omega)
    cases e
    exact ld W (G.trans' f)
   case s2 =>
    have oj := HS.out.2.2.1.Q.ok _ (hdT_mem (show i < tl.length by have := HMT.out; omega))
    exact ⟨Hd.cells_size oj,Hd.one,by simp [sha2,sha_length]⟩
   case s3 =>
    have oj := HS.out.2.2.1.Q.ok _ (hdT_mem (show i < tl.length by have := HMT.out; omega))
    exact hHashC _ oj W ((HS.out.2.2.1.cub HC.out).fr (G.trans' f) fun f => f)
   case s4 => exact kHeightA_any HSR.out HS.out.2.1 (HS.out.2.2.2.1.T.fr (G.trans' f)) _ (by simp [sha2,sha_length])
   case s5 =>
    have := lDepth_any HSR.out HS.out.1 (HS.out.2.2.1.T.fr (G.trans' f)) (keep_fr (G.trans' f) HS.out.2.2.1.Y) (sha2 (hdT tl i).bytes) (by simp [sha2,sha_length])
    rw [← dpN_chn HS.out.1.wf HS.out.1.nh HS.out.1.pos,HMC.out.1] at this
    exact this
   case s6 =>
    have := lConfirmed_any HSR.out HS.out.1 (HS.out.2.2.1.T.fr (G.trans' f)) (keep_fr (G.trans' f) HS.out.2.2.1.Y) (sha2 (hdT tl i).bytes) (by simp [sha2,sha_length])
    rw [cf_is,← dpN_chn HS.out.1.wf HS.out.1.nh HS.out.1.pos,HMC.out.1] at this
    exact this
   rename_i w13
   intro f
   have F13 := F.trans' (G.trans' f)
   go_wp2_with fail
   go_ret
   exact ⟨rfl,F13⟩
end Go.Proofs.YtedffdlkmpmdlaaGreatDoor
namespace Go.Proofs.YtedffdlkmpmdlaaGreatDoor
set_option maxRecDepth 100000
set_option linter.unusedVariables false
set_option linter.unusedSimpArgs false
open Go.RowKit
def nmZ (every : Int) (span : Nat) (confirm : Int) : Bool := decide (2 ≤ every) && (decide (every ≤ 2016) && (decide ((1 : Int) ≤ (span : Int)) && (decide ((span : Int) ≤ 2147483648) && (decide (1 ≤ confirm) && decide (confirm ≤ 100)))))
theorem jNumsA_any {C : Array Value} {every : Int} {span limit : Nat} {confirm : Int} (h : RuOf C every span limit confirm) (w : World) :
  Calls Tryz.prog 54 #[.agg C] w fun ed w' => ed = .returned (.bool (nmZ every span confirm)) ∧ Fr F0 w w' := by
 obtain ⟨s,c0,c1,_,c3,_,_,_⟩ := h
 have s0 : 0 < C.size := by omega
 have d0 := cell_is c0 s0
 have s1 : 1 < C.size := by omega
 have d1 := cell_is c1 s1
 have s3 : 3 < C.size := by omega
 have d3 := cell_is c3 s3
 have F := (Fr.refl F0 w).alloc (.cells C 29)
 unfold nmZ
 obtain ⟨b1,hb1⟩ : ∃ b,decide ((2 : Int) ≤ every) = b := ⟨_,rfl⟩
 obtain ⟨b2,hb2⟩ : ∃ b,decide (every ≤ 2016) = b := ⟨_,rfl⟩
 obtain ⟨b3,hb3⟩ : ∃ b,decide ((1 : Int) ≤ (span : Int)) = b := ⟨_,rfl⟩
 obtain ⟨b4,hb4⟩ : ∃ b,decide ((span : Int) ≤ 2147483648) = b := ⟨_,rfl⟩
 obtain ⟨b5,hb5⟩ : ∃ b,decide ((1 : Int) ≤ confirm) = b := ⟨_,rfl⟩
 obtain ⟨b6,hb6⟩ : ∃ b,decide (confirm ≤ 100) = b := ⟨_,rfl⟩
 rw [hb1,hb2,hb3,hb4,hb5,hb6]
 go_enter Tryz.func54,Tryz.ntmps54
 cases b1
 ·have l1 : ¬ (2 : Int) ≤ every := of_decide_eq_false hb1
  clear hb2 hb3 hb4 hb5 hb6
  go_wp2_with fail
  go_ret
  exact ⟨by first | rfl | simp [*],F⟩
 have l1 : (2 : Int) ≤ every := of_decide_eq_true hb1
 cases b2
 ·have l2 : ¬ every ≤ 2016 := of_decide_eq_false hb2
  clear hb3 hb4 hb5 hb6
  go_wp2_with fail
  go_ret
  exact ⟨by first | rfl | simp [*],F⟩
 have l2 : every ≤ 2016 := of_decide_eq_true hb2
 cases b3
 ·have l3 : ¬ (1 : Int) ≤ (span : Int) := of_decide_eq_false hb3
  clear hb4 hb5 hb6
  go_wp2_with fail
  go_ret
  exact ⟨by first | rfl | simp [*],F⟩
 have l3 : (1 : Int) ≤ (span : Int) := of_decide_eq_true hb3
 cases b4
 ·have l4 : ¬ (span : Int) ≤ 2147483648 := of_decide_eq_false hb4
  clear hb5 hb6
  go_wp2_with fail
  go_ret
  exact ⟨by first | rfl | simp [*],F⟩
 have l4 : (span : Int) ≤ 2147483648 := of_decide_eq_true hb4
 cases b5
 ·have l5 : ¬ (1 : Int) ≤ confirm := of_decide_eq_false hb5
  clear hb6
  go_wp2_with fail
  go_ret
  exact ⟨by first | rfl | simp [*],F⟩
 have l5 : (1 : Int) ≤ confirm := of_decide_eq_true hb5
 cases b6
 ·have l6 : ¬ confirm ≤ 100 := of_decide_eq_false hb6
  go_wp2_with fail
  go_ret
  exact ⟨by first | rfl | simp [*],F⟩
 have l6 : confirm ≤ 100 := of_decide_eq_true hb6
 go_wp2_with fail
 go_ret
 exact ⟨by first | rfl | simp [*],F⟩
theorem RuC_first {every : Int} {span limit : Nat} {confirm : Int} {h : Hd} (j : Nat) : (RuC every span limit confirm h)[4 + j]? = h.cells[j]? := by
 unfold RuC
 rw [List.getElem?_toArray,show 4 + j = j + 1 + 1 + 1 + 1 by omega,List.getElem?_cons_succ,List.getElem?_cons_succ,List.getElem?_cons_succ,List.getElem?_cons_succ,Array.getElem?_toList]
theorem RuC_load {every : Int} {span limit : Nat} {confirm : Int} {hd : Hd} (o : hd.Ok) (W : World) (g : Nat) {t : TypeId} {f : Nat × Nat} (h : W.heap[g]? = some (.cells (RuC every span limit confirm hd) t f)) : (loadRowAt 27 (.pointer (some ⟨g,4,none⟩))).run Tryz.prog W = .ok (.agg hd.cells) W := by
 have := run_loadAt_mid (P := Tryz.prog) W g 4 27 hd.cells.toList _ (fun j u hj => by
  rw [cell_of_row W g (4 + j) _ _ _ h,RuC_first j]
  simpa using hj) Tryz.underlying27 rfl (by rw [Array.length_toList,Hd.cells_size o]; kernel_rfl)
 rw [Array.toArray_toList] at this
 exact this
noncomputable def jcE (every : Int) (span limit : Nat) (confirm : Int) (h : Hd) : Int := if nmZ every span confirm = false then 1 else if topN limit = 0 then 6 else ckE h (topN limit)
theorem jCheckA_any {every : Int} {span limit : Nat} {confirm : Int} {h : Hd} (hru : RuOf (RuC every span limit confirm h) every span limit confirm) (o : h.Ok) (w : World) (hcub : Cub w) :
  Calls Tryz.prog 29 #[.agg (RuC every span limit confirm h)] w fun ed w' => ed = .returned (.int .i64 (jcE every span limit confirm h)) ∧ Fr F0 w w' := by
 have HTop := Lib.hid (jTop_any decC hru)
 have HN := Lib.hid (jNumsA_any hru)
 have HC := Lib.hid (hCheckC h o (topN limit) (topN_lt limit) _ rfl)
 have HCub := Lib.hid hcub
 have HLD := Lib.hid (fun W g (h : W.heap[g]? = some (.cells (RuC every span limit confirm h) 29 (0,0))) => RuC_load o W g h)
 have hz := rowEq_0 (topN limit) (topN_lt limit) _ rfl
 obtain ⟨JZ,hJ⟩ : ∃ JZ,jcE every span limit confirm h = JZ := ⟨_,rfl⟩
 have hJ2 : (nmZ every span confirm = false → JZ = 1) ∧ (nmZ every span confirm = true → (topN limit = 0 → JZ = 6) ∧ (¬ topN limit = 0 → JZ = ckE h (topN limit))) := by
  rw [← hJ]
  unfold jcE
  refine ⟨fun e => if_pos e,fun e => ⟨fun e2 => ?_,fun e2 => ?_⟩⟩
  ·rw [if_neg (by rw [e]; decide),if_pos e2]
  ·rw [if_neg (by rw [e]; decide),if_neg e2]
 rw [hJ]
 clear hJ
 have sR := hru.size
 have oR := hru.one
 generalize RuC every span limit confirm h = R at *
 generalize nmZ every span confirm = nb at *
 generalize ckE h (topN limit) = ce at *
 generalize topN limit = T at *
 generalize h.cells = X at *
 have HJ := Lib.hid hJ2
 clear hru hcub hJ2
 have r1 := heap_alloc_new w (.cells R 29)
 have F := (Fr.refl F0 w).alloc (.cells R 29)
 go_enter Tryz.func29,Tryz.ntmps29
 go_wp2_with fail
 generalize hW : w.alloc (.cells R 29) = W at *
 generalize w.heap.size = g1 at *
 (with_reducible refine (HTop.out _).mono ?_); rintro e1 w2 ⟨rfl,f⟩
 replace r1 := keep_fr f r1
 replace F := F.trans' f
 clear f hW
 go_upto_region 2 with fail
 refine wp_put fun W4 N4 => ?_
 have r3 := N4.new
 replace r1 := N4.old r1
 replace F := F.trans' N4.fr
 clear N4
 generalize w2.heap.size = g3 at *
 go_wp2_with fail
 (with_reducible refine (HN.out _).mono ?_); rintro e1 w3 ⟨rfl,f⟩
 replace r1 := keep_fr f r1
 replace r3 := keep_fr f r3
 replace F := F.trans' f
 clear f
 cases nb
 ·obtain rfl := HJ.out.1 rfl
  go_wp2_with fail
  go_ret
  exact ⟨rfl,F⟩
 by_cases hT : T = 0
 ·rw [decide_eq_true hT] at hz
  obtain rfl := (HJ.out.2 rfl).1 hT
  clear hT
  go_wp2_with fail
  go_ret
  exact ⟨rfl,F⟩
 ·rw [decide_eq_false hT] at hz
  obtain rfl := (HJ.out.2 rfl).2 hT
  have HT := Lib.hid hT
  clear hT
  have ld := HLD.out _ _ r1
  go_wp2_with fail
  (with_reducible refine (HC.out _ (HCub.out.fr F fun f => f)).mono ?_); rintro e1 w5 ⟨rfl,f⟩
  replace F := F.trans' f
  go_wp2_with fail
  go_ret
  exact ⟨rfl,F⟩
theorem jc_bits {every : Int} {span limit : Nat} {confirm : Int} {h : Hd} (e : jcE every span limit confirm h = 0) : btP h.bits := by
 unfold jcE at e
 split at e
 ·cases e
 split at e
 ·cases e
 unfold ckE at e
 split at e
 ·rename_i h1; exact h1.1
 ·cases e
theorem built_ktL (every confirm : Int) (span limit ver ti bi no bm : Nat) (A R : List UInt8) (hA : A.length = 32) (hR : R.length = 32) (a : Option Addr) (n c : Nat) :
  Tryz.prog.built 80 [(0,.agg (RuC every span limit confirm ⟨ver,A,R,ti,bi,no⟩)),(1,.map (some bm)),(2,.slice a n c),(3,.int .i64 1)] = some (treC (RuC every span limit confirm ⟨ver,A,R,ti,bi,no⟩) bm (.slice a n c) 1) := by
 obtain ⟨x0,x1,x2,x3,x4,x5,x6,x7,x8,x9,x10,x11,x12,x13,x14,x15,x16,x17,x18,x19,x20,x21,x22,x23,x24,x25,x26,x27,x28,x29,x30,x31,rfl⟩ := list32 A hA
 obtain ⟨y0,y1,y2,y3,y4,y5,y6,y7,y8,y9,y10,y11,y12,y13,y14,y15,y16,y17,y18,y19,y20,y21,y22,y23,y24,y25,y26,y27,y28,y29,y30,y31,rfl⟩ := list32 R hR
 kernel_rfl
theorem built_ktA {h : Hd} (o : h.Ok) (every : Int) (span limit : Nat) (confirm : Int) (bm : Nat) (a : Option Addr) (n c : Nat) :
  Tryz.prog.built 80 [(0,.agg (RuC every span limit confirm h)),(1,.map (some bm)),(2,.slice a n c),(3,.int .i64 1)] = some (treC (RuC every span limit confirm h) bm (.slice a n c) 1) :=
 built_ktL every confirm span limit h.ver h.time h.bits h.nonce bm h.ahead h.root o.ahead o.root a n c
theorem kNewA_any {every : Int} {span limit : Nat} {confirm : Int} {hd : Hd} (hru : RuOf (RuC every span limit confirm hd) every span limit confirm) (o : hd.Ok) (w : World) (hcub : Cub w) :
  Calls Tryz.prog 10 #[.agg (RuC every span limit confirm hd)] w fun ed w' => (jcE every span limit confirm hd ≠ 0 → ed = .returned (.tuple #[.pointer none,.int .i64 (jcE every span limit confirm hd)])) ∧ (jcE every span limit confirm hd = 0 → ∃ p,ed = .returned (.tuple #[.pointer (some ⟨p,0,none⟩),.int .i64 0])) ∧ Fr F0 w w' := by
 have hb0 := jc_bits (every := every) (span := span) (limit := limit) (confirm := confirm) (h := hd)
 obtain ⟨JZ,hJZ⟩ : ∃ JZ,jcE every span limit confirm hd = JZ := ⟨_,rfl⟩
 have HCk0 := fun W hc => jCheckA_any hru o W hc
 rw [hJZ] at HCk0 hb0 ⊢
 clear hJZ
 have HCk := Lib.hid HCk0
 clear HCk0
 have HHs := Lib.hid (hHashC hd o)
 have HTg := Lib.hid (fun hb => kTargetOf_any decC hd o hb)
 have HWk := Lib.hid (fun (hb : btP hd.bits) => workC (btT hd.bits) hb.2.2)
 have HCub := Lib.hid hcub
 have HLD := Lib.hid (fun W g (h : W.heap[g]? = some (.cells (RuC every span limit confirm hd) 29 (0,0))) => RuC_load o W g h)
 have l32 : (sha2 hd.bytes).length = 32 := by simp [sha2,sha_length]
 have hbd := fun W => run_buildKB W _ _ (built_kb1 hd o (sha2 hd.bytes) l32 (wkN (btT hd.bits)))
 have hbt := fun W bm a n c => run_buildKT W _ _ (built_ktA o every span limit confirm bm a n c)
 have hup := fun W bm v => run_updK0 (sha2 hd.bytes) l32 W bm v
 have hbl := fun W => run_buildLh W (hc (sha2 hd.bytes)) (hc_size l32)
 have HLH := Lib.hid (fun W q (hW : W.heap[q]? = some (.cells (blkC hd (sha2 hd.bytes) (.pointer none) 0 (wkN (btT hd.bits)) true) 77 (0,0))) => show (loadRowAt 25 (.pointer (some ⟨q,68,none⟩))).run Tryz.prog W = .ok (.agg (hc (sha2 hd.bytes))) W from
  load_midH l32 fun j x hj => by
   have hl : j < 32 := by have := (List.getElem?_eq_some_iff.1 hj).1; rw [List.length_map,l32] at this; exact this
   rw [cell_of_row W q (68 + j) _ _ _ hW,blkC_mid o l32 j hl]
   exact hj)
 have sX := hc_size l32
 have oX := hc_one (sha2 hd.bytes)
 have sB := blkC_size (up := .pointer none) (ht := 0) (wk := wkN (btT hd.bits)) (tip := true) o l32
 have oB := blkC_one (h := hd) (hs := sha2 hd.bytes) (up := .pointer none) (ht := 0) (wk := wkN (btT hd.bits)) (tip := true) rfl
 have sR := hru.size
 have oR := hru.one
 have hmm := @run_makeMap Tryz.prog
 change Hid (∀ w,Cub w → Calls Tryz.prog 22 #[.agg hd.cells] w fun e w' => e = .returned (.agg (hc (sha2 hd.bytes))) ∧ Fr F0 w w') at HHs
 generalize hc (sha2 hd.bytes) = X at *
 generalize blkC hd (sha2 hd.bytes) (.pointer none) 0 (wkN (btT hd.bits)) true = B at *
 generalize btT hd.bits = T at *
 generalize wkN T = wk at *
 generalize hd.cells = Y at *
 generalize RuC every span limit confirm hd = R at *
 have HB0 := Lib.hid hb0
 clear hru hcub l32 hb0
 have r1 := heap_alloc_new w (.cells R 29)
 have F := (Fr.refl F0 w).alloc (.cells R 29)
 have hg := Nat.le_refl w.heap.size
 go_enter Tryz.func10,Tryz.ntmps10
 go_wp2_with fail
 generalize hW : w.alloc (.cells R 29) = W at *
 obtain ⟨g1,hg1⟩ : ∃ g1,w.heap.size = g1 := ⟨_,rfl⟩
 rw [hg1] at r1 ⊢
 (with_reducible refine (HCk.out _ (HCub.out.fr F fun f => f)).mono ?_); rintro e1 w2 ⟨rfl,f⟩
 replace r1 := keep_fr f r1
 replace F := F.trans' f
 clear f hW hg1
 by_cases hz : JZ = 0
 case' neg =>
  have HZ := Lib.hid hz
  go_wp2_with fail
  go_ret2
  exact ⟨fun _ => rfl,fun h => absurd h HZ.out,F⟩
 have HTg2 := Lib.hid (HTg.out (HB0.out hz))
 have HWk2 := Lib.hid (HWk.out (HB0.out hz))
 subst hz
 clear HTg HWk HB0
 go_upto_region 4 with fail
 refine rbegin (S := (fun w' => (w'.heap[g1]? = some (.cells R 29 (0,0)) ∧ (loadRowAt 27 (.pointer (some ⟨g1,4,none⟩))).run Tryz.prog w' = .ok (.agg Y) w') ∧ Fr F0 w w')) ?_ fun hHeld => ?_
 ·((try dsimp only) <;> (exact ⟨⟨r1,HLD.out _ _ r1⟩,F.drew⟩))
 refine rtake 0 ?_
 refine rtake 1 ?_
 refine rtake 2 ?_
 refine rtake 3 ?_
 refine rtake 5 ?_
 refine rtake 6 ?_
 refine rone 4 fun K hK => ?_
 go_simp
 ((with_reducible refine (HHs.out _ (HCub.out.fr hHeld.2 fun f => f)).mono ?_); rintro e w5 ⟨rfl,f5⟩)
 refine hK.out _ _ ?_ (fun hHeld => ?_)
 ·((try dsimp only) <;> (first | exact hHeld | exact ⟨⟨keep_fr f5 hHeld.1.1,HLD.out _ _ (keep_fr f5 hHeld.1.1)⟩,hHeld.2.trans' f5⟩))
 clear hK K
 try (simp only [Act.put,aST]; dsimp only [aS0,aS1])
 refine rone 7 fun K hK => ?_
 go_simp
 ((with_reducible refine (HTg2.out _).mono ?_); rintro e w5 ⟨rfl,f5⟩)
 refine hK.out _ _ ?_ (fun hHeld => ?_)
 ·((try dsimp only) <;> (first | exact hHeld | exact ⟨⟨keep_fr f5 hHeld.1.1,HLD.out _ _ (keep_fr f5 hHeld.1.1)⟩,hHeld.2.trans' f5⟩))
 clear hK K
 try (simp only [Act.put,aST]; dsimp only [aS0,aS1])
 refine rone 8 fun K hK => ?_
 go_simp
 ((with_reducible refine (HWk2.out _).mono ?_); rintro e w5 ⟨rfl,f5⟩; have z5 := (hHeld.2.trans' f5).size)
 refine hK.out _ _ ?_ (fun hHeld => ?_)
 ·((try dsimp only) <;> (first | exact hHeld | exact ⟨⟨keep_fr f5 hHeld.1.1,HLD.out _ _ (keep_fr f5 hHeld.1.1)⟩,hHeld.2.trans' f5⟩))
 clear hK K
 try (simp only [Act.put,aST]; dsimp only [aS0,aS1])
 refine rtake 9 ?_
 refine rone 10 fun K hK => ?_
 go_simp
 refine hK.out _ _ ?_ (fun hHeld => ?_)
 ·((try dsimp only) <;> (first | exact hHeld | exact ⟨⟨keep_alloc hHeld.1.1,HLD.out _ _ (keep_alloc hHeld.1.1)⟩,hHeld.2.alloc _⟩))
 clear hK K
 try (simp only [Act.put,aST]; dsimp only [aS0,aS1])
 refine rtake 11 ?_
 refine rdone ?_
 all_goals
  clear r1 F
  have rq := heap_alloc_new w5 (.cells B 77)
  generalize hWW : w5.alloc (.cells B 77) = W at *
  obtain ⟨q,hq⟩ : ∃ q,w5.heap.size = q := ⟨_,rfl⟩
  rw [hq] at rq z5 ⊢
  clear hWW hq
  obtain ⟨⟨r1,_⟩,F⟩ := hHeld
  have HQ := Lib.hid (And.intro (Array.getElem?_eq_some_iff.1 rq).1 (And.intro z5 (And.intro F.size (Array.getElem?_eq_some_iff.1 r1).1)))
  go_upto_region 5 with fail
  refine rbegin (S := (fun w' => (w'.heap[g1]? = some (.cells R 29 (0,0)) ∧ w'.heap[q]? = some (.cells B 77 (0,0)) ∧ (loadRowAt 25 (.pointer (some ⟨q,68,none⟩))).run Tryz.prog w' = .ok (.agg X) w') ∧ Fr F0 W w')) ?_ fun hHeld => ?_
  ·((try dsimp only) <;> (exact ⟨⟨r1,rq,HLH.out _ _ rq⟩,(Fr.refl F0 W).drew⟩))
  refine rtake 0 ?_
  refine rtake 2 ?_
  refine rtake 3 ?_
  refine rtake 4 ?_
  refine rtake 5 ?_
  refine rtake 6 ?_
  refine rtake 9 ?_
  refine rtake 10 ?_
  refine rtake 11 ?_
  refine rtake 12 ?_
  refine wpAnyH_ready (rs := [1,13]) (by kernel_rfl) (by simp) ?_
  refine AllReadyH.cons (o := ⟨_,_,_,_,_,_⟩) rfl (fun K hK => ?_) (AllReadyH.cons (o := ⟨_,_,_,_,_,_⟩) rfl (fun K hK => ?_) AllReadyH.nil)
  go_simp
  refine hK.out _ _ ?_ (fun hHeld => ?_)
  ·((try dsimp only) <;> (first | exact hHeld | exact ⟨⟨keep_alloc hHeld.1.1,keep_alloc hHeld.1.2.1,HLH.out _ _ (keep_alloc hHeld.1.2.1)⟩,hHeld.2.alloc _⟩ | exact ⟨⟨setB_keep _ (by first | exact heap_alloc_new _ _ | exact keep_alloc (heap_alloc_new _ _) | exact heap_alloc_at _ _ (by simp)) hHeld.1.1 (by have := HQ.out; omega),setB_keep _ (by first | exact heap_alloc_new _ _ | exact keep_alloc (heap_alloc_new _ _) | exact heap_alloc_at _ _ (by simp)) hHeld.1.2.1 (by have := HQ.out; omega),HLH.out _ _ (setB_keep _ (by first | exact heap_alloc_new _ _ | exact keep_alloc (heap_alloc_new _ _) | exact heap_alloc_at _ _ (by simp)) hHeld.1.2.1 (by have := HQ.out; omega))⟩,hHeld.2.trans (setBlock_fr (by first | exact heap_alloc_new _ _ | exact keep_alloc (heap_alloc_new _ _) | exact heap_alloc_at _ _ (by simp)) _) (fun i hi e => by have := HQ.out; omega)⟩))
  clear hK K
  try (simp only [Act.put,aST]; dsimp only [aS0,aS1])
  refine wpAnyH_ready (rs := [7,13]) (by kernel_rfl) (by simp) ?_
  refine AllReadyH.cons (o := ⟨_,_,_,_,_,_⟩) rfl (fun K hK => ?_) (AllReadyH.cons (o := ⟨_,_,_,_,_,_⟩) rfl (fun K hK => ?_) AllReadyH.nil)
  go_simp
  refine hK.out _ _ ?_ (fun hHeld => ?_)
  ·((try dsimp only) <;> (first | exact hHeld | exact ⟨⟨keep_alloc hHeld.1.1,keep_alloc hHeld.1.2.1,HLH.out _ _ (keep_alloc hHeld.1.2.1)⟩,hHeld.2.alloc _⟩ | exact ⟨⟨setB_keep _ (by first | exact heap_alloc_new _ _ | exact keep_alloc (heap_alloc_new _ _) | exact heap_alloc_at _ _ (by simp)) hHeld.1.1 (by have := HQ.out; omega),setB_keep _ (by first | exact heap_alloc_new _ _ | exact keep_alloc (heap_alloc_new _ _) | exact heap_alloc_at _ _ (by simp)) hHeld.1.2.1 (by have := HQ.out; omega),HLH.out _ _ (setB_keep _ (by first | exact heap_alloc_new _ _ | exact keep_alloc (heap_alloc_new _ _) | exact heap_alloc_at _ _ (by simp)) hHeld.1.2.1 (by have := HQ.out; omega))⟩,hHeld.2.trans (setBlock_fr (by first | exact heap_alloc_new _ _ | exact keep_alloc (heap_alloc_new _ _) | exact heap_alloc_at _ _ (by simp)) _) (fun i hi e => by have := HQ.out; omega)⟩))
  clear hK K
  try (simp only [Act.put,aST]; dsimp only [aS0,aS1])
  refine rtake 8 ?_
  refine rone 13 fun K hK => ?_
  go_simp
  refine hK.out _ _ ?_ (fun hHeld => ?_)
  ·((try dsimp only) <;> (first | exact hHeld | exact ⟨⟨keep_alloc hHeld.1.1,keep_alloc hHeld.1.2.1,HLH.out _ _ (keep_alloc hHeld.1.2.1)⟩,hHeld.2.alloc _⟩ | exact ⟨⟨setB_keep _ (by first | exact heap_alloc_new _ _ | exact keep_alloc (heap_alloc_new _ _) | exact heap_alloc_at _ _ (by simp)) hHeld.1.1 (by have := HQ.out; omega),setB_keep _ (by first | exact heap_alloc_new _ _ | exact keep_alloc (heap_alloc_new _ _) | exact heap_alloc_at _ _ (by simp)) hHeld.1.2.1 (by have := HQ.out; omega),HLH.out _ _ (setB_keep _ (by first | exact heap_alloc_new _ _ | exact keep_alloc (heap_alloc_new _ _) | exact heap_alloc_at _ _ (by simp)) hHeld.1.2.1 (by have := HQ.out; omega))⟩,hHeld.2.trans (setBlock_fr (by first | exact heap_alloc_new _ _ | exact keep_alloc (heap_alloc_new _ _) | exact heap_alloc_at _ _ (by simp)) _) (fun i hi e => by have := HQ.out; omega)⟩))
  clear hK K
  try (simp only [Act.put,aST]; dsimp only [aS0,aS1])
  refine rtake 14 ?_
  refine rone 15 fun K hK => ?_
  go_simp
  refine hK.out _ _ ?_ (fun hHeld => ?_)
  ·((try dsimp only) <;> (first | exact hHeld | exact ⟨⟨keep_alloc hHeld.1.1,keep_alloc hHeld.1.2.1,HLH.out _ _ (keep_alloc hHeld.1.2.1)⟩,hHeld.2.alloc _⟩ | exact ⟨⟨setB_keep _ (by first | exact heap_alloc_new _ _ | exact keep_alloc (heap_alloc_new _ _) | exact heap_alloc_at _ _ (by simp)) hHeld.1.1 (by have := HQ.out; omega),setB_keep _ (by first | exact heap_alloc_new _ _ | exact keep_alloc (heap_alloc_new _ _) | exact heap_alloc_at _ _ (by simp)) hHeld.1.2.1 (by have := HQ.out; omega),HLH.out _ _ (setB_keep _ (by first | exact heap_alloc_new _ _ | exact keep_alloc (heap_alloc_new _ _) | exact heap_alloc_at _ _ (by simp)) hHeld.1.2.1 (by have := HQ.out; omega))⟩,hHeld.2.trans (setBlock_fr (by first | exact heap_alloc_new _ _ | exact keep_alloc (heap_alloc_new _ _) | exact heap_alloc_at _ _ (by simp)) _) (fun i hi e => by have := HQ.out; omega)⟩))
  clear hK K
  try (simp only [Act.put,aST]; dsimp only [aS0,aS1])
  refine rtake 16 ?_
  refine rtake 17 ?_
  refine rdone ?_
  rotate_left
  go_simp
  refine hK.out _ _ ?_ (fun hHeld => ?_)
  ·((try dsimp only) <;> (first | exact hHeld | exact ⟨⟨keep_alloc hHeld.1.1,keep_alloc hHeld.1.2.1,HLH.out _ _ (keep_alloc hHeld.1.2.1)⟩,hHeld.2.alloc _⟩ | exact ⟨⟨setB_keep _ (by first | exact heap_alloc_new _ _ | exact keep_alloc (heap_alloc_new _ _) | exact heap_alloc_at _ _ (by simp)) hHeld.1.1 (by have := HQ.out; omega),setB_keep _ (by first | exact heap_alloc_new _ _ | exact keep_alloc (heap_alloc_new _ _) | exact heap_alloc_at _ _ (by simp)) hHeld.1.2.1 (by have := HQ.out; omega),HLH.out _ _ (setB_keep _ (by first | exact heap_alloc_new _ _ | exact keep_alloc (heap_alloc_new _ _) | exact heap_alloc_at _ _ (by simp)) hHeld.1.2.1 (by have := HQ.out; omega))⟩,hHeld.2.trans (setBlock_fr (by first | exact heap_alloc_new _ _ | exact keep_alloc (heap_alloc_new _ _) | exact heap_alloc_at _ _ (by simp)) _) (fun i hi e => by have := HQ.out; omega)⟩))
  clear hK K
  try (simp only [Act.put,aST]; dsimp only [aS0,aS1])
  refine rone 7 fun K hK => ?_
  go_simp
  refine hK.out _ _ ?_ (fun hHeld => ?_)
  ·((try dsimp only) <;> (first | exact hHeld | exact ⟨⟨keep_alloc hHeld.1.1,keep_alloc hHeld.1.2.1,HLH.out _ _ (keep_alloc hHeld.1.2.1)⟩,hHeld.2.alloc _⟩ | exact ⟨⟨setB_keep _ (by first | exact heap_alloc_new _ _ | exact keep_alloc (heap_alloc_new _ _) | exact heap_alloc_at _ _ (by simp)) hHeld.1.1 (by have := HQ.out; omega),setB_keep _ (by first | exact heap_alloc_new _ _ | exact keep_alloc (heap_alloc_new _ _) | exact heap_alloc_at _ _ (by simp)) hHeld.1.2.1 (by have := HQ.out; omega),HLH.out _ _ (setB_keep _ (by first | exact heap_alloc_new _ _ | exact keep_alloc (heap_alloc_new _ _) | exact heap_alloc_at _ _ (by simp)) hHeld.1.2.1 (by have := HQ.out; omega))⟩,hHeld.2.trans (setBlock_fr (by first | exact heap_alloc_new _ _ | exact keep_alloc (heap_alloc_new _ _) | exact heap_alloc_at _ _ (by simp)) _) (fun i hi e => by have := HQ.out; omega)⟩))
  clear hK K
  try (simp only [Act.put,aST]; dsimp only [aS0,aS1])
  refine rtake 8 ?_
  refine rtake 14 ?_
  refine rone 15 fun K hK => ?_
  go_simp
  refine hK.out _ _ ?_ (fun hHeld => ?_)
  ·((try dsimp only) <;> (first | exact hHeld | exact ⟨⟨keep_alloc hHeld.1.1,keep_alloc hHeld.1.2.1,HLH.out _ _ (keep_alloc hHeld.1.2.1)⟩,hHeld.2.alloc _⟩ | exact ⟨⟨setB_keep _ (by first | exact heap_alloc_new _ _ | exact keep_alloc (heap_alloc_new _ _) | exact heap_alloc_at _ _ (by simp)) hHeld.1.1 (by have := HQ.out; omega),setB_keep _ (by first | exact heap_alloc_new _ _ | exact keep_alloc (heap_alloc_new _ _) | exact heap_alloc_at _ _ (by simp)) hHeld.1.2.1 (by have := HQ.out; omega),HLH.out _ _ (setB_keep _ (by first | exact heap_alloc_new _ _ | exact keep_alloc (heap_alloc_new _ _) | exact heap_alloc_at _ _ (by simp)) hHeld.1.2.1 (by have := HQ.out; omega))⟩,hHeld.2.trans (setBlock_fr (by first | exact heap_alloc_new _ _ | exact keep_alloc (heap_alloc_new _ _) | exact heap_alloc_at _ _ (by simp)) _) (fun i hi e => by have := HQ.out; omega)⟩))
  clear hK K
  try (simp only [Act.put,aST]; dsimp only [aS0,aS1])
  refine rtake 16 ?_
  refine rtake 17 ?_
  refine rdone ?_
  rotate_left
  go_simp
  refine hK.out _ _ ?_ (fun hHeld => ?_)
  ·((try dsimp only) <;> (first | exact hHeld | exact ⟨⟨keep_alloc hHeld.1.1,keep_alloc hHeld.1.2.1,HLH.out _ _ (keep_alloc hHeld.1.2.1)⟩,hHeld.2.alloc _⟩ | exact ⟨⟨setB_keep _ (by first | exact heap_alloc_new _ _ | exact keep_alloc (heap_alloc_new _ _) | exact heap_alloc_at _ _ (by simp)) hHeld.1.1 (by have := HQ.out; omega),setB_keep _ (by first | exact heap_alloc_new _ _ | exact keep_alloc (heap_alloc_new _ _) | exact heap_alloc_at _ _ (by simp)) hHeld.1.2.1 (by have := HQ.out; omega),HLH.out _ _ (setB_keep _ (by first | exact heap_alloc_new _ _ | exact keep_alloc (heap_alloc_new _ _) | exact heap_alloc_at _ _ (by simp)) hHeld.1.2.1 (by have := HQ.out; omega))⟩,hHeld.2.trans (setBlock_fr (by first | exact heap_alloc_new _ _ | exact keep_alloc (heap_alloc_new _ _) | exact heap_alloc_at _ _ (by simp)) _) (fun i hi e => by have := HQ.out; omega)⟩))
  clear hK K
  try (simp only [Act.put,aST]; dsimp only [aS0,aS1])
  refine rone 1 fun K hK => ?_
  go_simp
  refine hK.out _ _ ?_ (fun hHeld => ?_)
  ·((try dsimp only) <;> (first | exact hHeld | exact ⟨⟨keep_alloc hHeld.1.1,keep_alloc hHeld.1.2.1,HLH.out _ _ (keep_alloc hHeld.1.2.1)⟩,hHeld.2.alloc _⟩ | exact ⟨⟨setB_keep _ (by first | exact heap_alloc_new _ _ | exact keep_alloc (heap_alloc_new _ _) | exact heap_alloc_at _ _ (by simp)) hHeld.1.1 (by have := HQ.out; omega),setB_keep _ (by first | exact heap_alloc_new _ _ | exact keep_alloc (heap_alloc_new _ _) | exact heap_alloc_at _ _ (by simp)) hHeld.1.2.1 (by have := HQ.out; omega),HLH.out _ _ (setB_keep _ (by first | exact heap_alloc_new _ _ | exact keep_alloc (heap_alloc_new _ _) | exact heap_alloc_at _ _ (by simp)) hHeld.1.2.1 (by have := HQ.out; omega))⟩,hHeld.2.trans (setBlock_fr (by first | exact heap_alloc_new _ _ | exact keep_alloc (heap_alloc_new _ _) | exact heap_alloc_at _ _ (by simp)) _) (fun i hi e => by have := HQ.out; omega)⟩))
  clear hK K
  try (simp only [Act.put,aST]; dsimp only [aS0,aS1])
  refine rone 7 fun K hK => ?_
  go_simp
  refine hK.out _ _ ?_ (fun hHeld => ?_)
  ·((try dsimp only) <;> (first | exact hHeld | exact ⟨⟨keep_alloc hHeld.1.1,keep_alloc hHeld.1.2.1,HLH.out _ _ (keep_alloc hHeld.1.2.1)⟩,hHeld.2.alloc _⟩ | exact ⟨⟨setB_keep _ (by first | exact heap_alloc_new _ _ | exact keep_alloc (heap_alloc_new _ _) | exact heap_alloc_at _ _ (by simp)) hHeld.1.1 (by have := HQ.out; omega),setB_keep _ (by first | exact heap_alloc_new _ _ | exact keep_alloc (heap_alloc_new _ _) | exact heap_alloc_at _ _ (by simp)) hHeld.1.2.1 (by have := HQ.out; omega),HLH.out _ _ (setB_keep _ (by first | exact heap_alloc_new _ _ | exact keep_alloc (heap_alloc_new _ _) | exact heap_alloc_at _ _ (by simp)) hHeld.1.2.1 (by have := HQ.out; omega))⟩,hHeld.2.trans (setBlock_fr (by first | exact heap_alloc_new _ _ | exact keep_alloc (heap_alloc_new _ _) | exact heap_alloc_at _ _ (by simp)) _) (fun i hi e => by have := HQ.out; omega)⟩))
  clear hK K
  try (simp only [Act.put,aST]; dsimp only [aS0,aS1])
  refine rtake 8 ?_
  refine rtake 14 ?_
  refine rone 15 fun K hK => ?_
  go_simp
  refine hK.out _ _ ?_ (fun hHeld => ?_)
  ·((try dsimp only) <;> (first | exact hHeld | exact ⟨⟨keep_alloc hHeld.1.1,keep_alloc hHeld.1.2.1,HLH.out _ _ (keep_alloc hHeld.1.2.1)⟩,hHeld.2.alloc _⟩ | exact ⟨⟨setB_keep _ (by first | exact heap_alloc_new _ _ | exact keep_alloc (heap_alloc_new _ _) | exact heap_alloc_at _ _ (by simp)) hHeld.1.1 (by have := HQ.out; omega),setB_keep _ (by first | exact heap_alloc_new _ _ | exact keep_alloc (heap_alloc_new _ _) | exact heap_alloc_at _ _ (by simp)) hHeld.1.2.1 (by have := HQ.out; omega),HLH.out _ _ (setB_keep _ (by first | exact heap_alloc_new _ _ | exact keep_alloc (heap_alloc_new _ _) | exact heap_alloc_at _ _ (by simp)) hHeld.1.2.1 (by have := HQ.out; omega))⟩,hHeld.2.trans (setBlock_fr (by first | exact heap_alloc_new _ _ | exact keep_alloc (heap_alloc_new _ _) | exact heap_alloc_at _ _ (by simp)) _) (fun i hi e => by have := HQ.out; omega)⟩))
  clear hK K
  try (simp only [Act.put,aST]; dsimp only [aS0,aS1])
  refine rtake 16 ?_
  refine rtake 17 ?_
  refine rdone ?_
  rotate_left
  all_goals
   clear r1 rq
   have HH := Lib.hid hHeld
   clear hHeld
   go_wp2_with fail
   go_ret2
   have f := HH.out.2
   exact ⟨⟨_,rfl⟩,F.trans' f⟩
theorem lNewA_any {every : Int} {span limit : Nat} {confirm : Int} {hd : Hd} (hru : RuOf (RuC every span limit confirm hd) every span limit confirm) (o : hd.Ok) (w : World) (hcub : Cub w) :
  Calls Tryz.prog 16 #[.agg (RuC every span limit confirm hd)] w fun ed w' => (∃ x,ed = .returned (.tuple #[.pointer x,.int .i64 (jcE every span limit confirm hd)]) ∧ (x.isNone = true ↔ jcE every span limit confirm hd ≠ 0)) ∧ Fr F0 w w' := by
 have HN := Lib.hid (fun W (f : Fr F0 w W) => kNewA_any hru o W (hcub.fr f fun f => f))
 have sR := hru.size
 have oR := hru.one
 have c3 := hru.c3
 generalize jcE every span limit confirm hd = Z at *
 generalize RuC every span limit confirm hd = R at *
 have z3 : 3 < R.size := by omega
 have d3 := cell_is c3 z3
 have hbr := fun W p => show (buildRy #[(0,.pointer (some ⟨p,0,none⟩)),(1,.int .i64 confirm)]).run Tryz.prog W = .ok (.agg #[.pointer (some ⟨p,0,none⟩),.int .i64 confirm,.int .i64 0]) W from run_build W _ _ _ (by kernel_rfl)
 clear hru hcub
 have r1 := heap_alloc_new w (.cells R 29)
 have F := (Fr.refl F0 w).alloc (.cells R 29)
 go_enter Tryz.func16,Tryz.ntmps16
 go_wp2_with fail
 generalize hW : w.alloc (.cells R 29) = W at *
 generalize hg1 : w.heap.size = g1 at *
 clear hW
 (with_reducible refine (HN.out _ F).mono ?_); rintro e1 w2 ⟨h1,h2,f⟩
 replace r1 := keep_fr f r1
 replace F := F.trans' f
 clear f
 by_cases hz : Z = 0
 ·obtain ⟨p,rfl⟩ := h2 hz
  subst hz
  clear h1 h2
  go_wp2_with fail
  go_ret2
  exact ⟨⟨_,rfl,by simp⟩,F.alloc _⟩
 ·obtain rfl := h1 hz
  have HZ := Lib.hid hz
  clear h1 h2
  go_wp2_with fail
  go_ret2
  exact ⟨⟨_,rfl,by have := HZ.out; simp [this]⟩,F⟩
theorem relayRules_any {every : Int} {span limit : Nat} {confirm : Int} {hd : Hd} (hru : RuOf (RuC every span limit confirm hd) every span limit confirm) (o : hd.Ok) (w : World) (hcub : Cub w) :
  Calls Tryz.prog 7 #[.agg (RuC every span limit confirm hd)] w fun ed w' => ed = .returned (.bool true) ∧ Fr F0 w w' := by
 have HC := Lib.hid hcub
 have HL := Lib.hid (fun W (f : Fr F0 w W) => lives13_any W (hcub.fr f fun f => f))
 have HN := Lib.hid (fun W (f : Fr F0 w W) => lNewA_any hru o W (hcub.fr f fun f => f))
 have HK := Lib.hid (fun W (f : Fr F0 w W) => jCheckA_any hru o W (hcub.fr f fun f => f))
 have sR := hru.size
 have oR := hru.one
 generalize jcE every span limit confirm hd = Z at *
 generalize RuC every span limit confirm hd = R at *
 clear hru hcub
 have r1 := heap_alloc_new w (.cells R 29)
 have F := (Fr.refl F0 w).alloc (.cells R 29)
 go_enter Tryz.func7,Tryz.ntmps7
 go_wp2_with fail
 generalize hW : w.alloc (.cells R 29) = W at *
 generalize hg1 : w.heap.size = g1 at *
 clear hW
 (with_reducible refine (HN.out _ F).mono ?_); rintro e1 w2 ⟨⟨x,rfl,hx⟩,f⟩
 replace r1 := keep_fr f r1
 replace F := F.trans' f
 clear f
 go_wp2_with fail
 (with_reducible refine (HL.out _ F).mono ?_); rintro e1 w3 ⟨rfl,f⟩
 replace r1 := keep_fr f r1
 replace F := F.trans' f
 clear f
 go_wp2_with fail
 (with_reducible refine (HK.out _ F).mono ?_); rintro e1 w4 ⟨rfl,f⟩
 replace F := F.trans' f
 clear f
 by_cases hz : Z = 0
 ·subst hz
  cases x with
  |none => exact absurd rfl (hx.1 rfl)
  |some a =>
   clear hx
   go_wp2_with fail
   go_ret
   exact ⟨by first | rfl | simp,F⟩
 ·cases x with
  |some a => exact absurd (hx.2 hz) (by simp)
  |none =>
   have HZ := Lib.hid hz
   clear hx
   go_wp2_with fail
   go_ret
   exact ⟨by first | rfl | simp [HZ.out] | simp,F⟩
end Go.Proofs.YtedffdlkmpmdlaaGreatDoor
namespace Go.Proofs.YtedffdlkmpmdlaaGreatDoor
set_option maxRecDepth 100000
end Go.Proofs.YtedffdlkmpmdlaaGreatDoor
