import Derived.Test.YthoaalnjmklclaaZ12
import Derived.Test.YthoaalnjmklclaaZ13
import Derived.Test.YthoaalnjmklclaaZ1
import Derived.Test.YthoaalnjmklclaaZ2
/- Layer 9 (tx): pieces of the law TxPays. -/
namespace Go.Proofs.Ythoaalnjmklclaa
set_option linter.unusedVariables false
set_option linter.unusedSimpArgs false
open Go.RowKit

/-- A sum so far: what was summed, or told that it can't be; the rest. -/
def Acc (L : List Nat) (V : Nat) (E : Int) (rest : List Nat) : Prop := V < 18446744073709551616 ∧ ((E = 0 ∧ toV 0 L = toV V rest ∧ toE 0 L = toE V rest) ∨ (E ≠ 0 ∧ toV 0 L = V ∧ toE 0 L = E))
theorem Acc.start (L : List Nat) : Acc L 0 0 L := ⟨by decide, .inl ⟨rfl, rfl, rfl⟩⟩
theorem Acc.add {L r : List Nat} {V x : Nat} (h : Acc L V 0 (x :: r)) : Acc L (adV V x) (adE V x) r := by
  obtain ⟨hV, ⟨_, h1, h2⟩ | ⟨h1, _⟩⟩ := h
  · rw [toV_cons] at h1
    rw [toE_cons] at h2
    by_cases he : adE V x = 0
    · rw [if_pos he] at h1 h2
      rw [adV_ok he, he]
      have := adE_ok he
      exact ⟨by omega, .inl ⟨rfl, h1, h2⟩⟩
    · rw [if_neg he] at h1 h2
      rw [adV_no he]
      exact ⟨by decide, .inr ⟨he, h1, h2⟩⟩
  · exact absurd rfl h1
theorem Acc.stay {L r : List Nat} {V x : Nat} {E : Int} (h : Acc L V E (x :: r)) (hE : E ≠ 0) : Acc L V E r := by
  obtain ⟨hV, ⟨h1, _⟩ | h1⟩ := h
  · exact absurd h1 hE
  · exact ⟨hV, .inr h1⟩
theorem Acc.fin {L : List Nat} {V : Nat} {E : Int} (h : Acc L V E []) : V = toV 0 L ∧ E = toE 0 L := by
  obtain ⟨hV, ⟨rfl, h1, h2⟩ | ⟨_, h1, h2⟩⟩ := h
  · rw [toV_nil] at h1
    rw [toE_nil] at h2
    exact ⟨h1.symm, h2.symm⟩
  · exact ⟨h1.symm, h2.symm⟩
theorem pays_drop (p : Int × List UInt8 × List UInt8 → Bool) (l : List TO) (k : Nat) (hk : k < l.length) : pays p (l.drop k) = if p (lkP l[k].m.lk) = true then l[k].m.py :: pays p (l.drop (k + 1)) else pays p (l.drop (k + 1)) := by
  rw [List.drop_eq_getElem_cons hk, pays, chsn, List.filter_cons]
  split
  · rfl
  · rfl
theorem tags_take (l : List TO) (k : Nat) (hk : k < l.length) : tagsOf (l.take (k + 1)) = if pTag (lkP l[k].m.lk) = true then tagsOf (l.take k) ++ [(lkP l[k].m.lk).2.2] else tagsOf (l.take k) := by
  rw [List.take_succ_eq_append_getElem hk, tagsOf, chsn, List.filter_append, List.map_append]
  split
  · rename_i h
    simp [tagsOf, chsn, h]
  · rename_i h
    simp [tagsOf, chsn, h]

set_option maxRecDepth 100000 in
set_option maxHeartbeats 8000000 in
theorem tp14 {s0 s1 s2 s4 s5 s6 s7 s8 s9 s10 s11 s13 s14 s15 s17 s18 s19 s20 s21 s22 s23 s24 s25 s26 s27 s28 s29 s30 s31 s32 s33 s34 s35 s36 s37 s38 s39 s40 s41 s42 s43 s44 s45 s46 s47 s48 s49 s50 s51 s52 s53 s54 s55 s56 s57 s58 s59 s60 s61 s62 s63 s64 s65 s66 s67 s68 s69 s70 s71 s72 s73 s74 s75 s76 s77 s78 s79 s80 s81 s82 s83 s84 s85 s86 s87 s88 s89 s90 s91 s92 s93 s94 s95 s96 s97 s98 s99 s100 s101 s102 s103 s104 s105 s106 s107 s108 s109 s110 s111 s112 s113 s114 s115 s116 s117 s118 s119 s120 s121 s122 s123 s124 s125 s126 s127 s128 s129 s130 s131 s132 s133 s134 s135 s136 s137 s138 s139 s140 s141 s142 s143 s144 s145 s146 s147 s148 s149 s150 s151 s152 s153 s154 s155 s156 s157 : Value} {K : Act → World → Prop} {Q : Exit → Act → World → Prop} (w : World) (g3 g16 : Nat) (A B : List UInt8) (k E1 : Int) (C : Array Value) (hA : A.length = 20) (hB : B.length = 20) (vt : Value) (HLk : LkC k B vt C) (r3 : w.heap[g3]? = some (.cells (A.map B8).toArray 47 (0, 0))) (r16 : w.heap[g16]? = some (.cells C 58 (0, 0))) (b : Bool) (hb : b = (decide (k = 1) && (decide (B = A) && decide (E1 = 0))))
    (hK : RowKit.Hid (∀ {u62 u63 u64 u65 u66 u67 u68 u69 u70 u71 u72 u73 u74 : Value} {w' : World}, (u74 = .bool b ∧ w' = w) → K ⟨#[s0, s1, s2, .pointer (some ⟨g3, 0, none⟩), s4, s5, s6, s7, s8, s9, s10, s11, .int .i64 E1, s13, s14, s15, .pointer (some ⟨g16, 0, none⟩), s17, s18, s19, s20, s21, s22, s23, s24, s25, s26, s27, s28, s29, s30, s31, s32, s33, s34, s35, s36, s37, s38, s39, s40, s41, s42, s43, s44, s45, s46, s47, s48, s49, s50, s51, s52, s53, s54, s55, s56, s57, s58, s59, s60, s61, u62, u63, u64, u65, u66, u67, u68, u69, u70, u71, u72, u73, u74, s75, s76, s77, s78, s79, s80, s81, s82, s83, s84, s85, s86, s87, s88, s89, s90, s91, s92, s93, s94, s95, s96, s97, s98, s99, s100, s101, s102, s103, s104, s105, s106, s107, s108, s109, s110, s111, s112, s113, s114, s115, s116, s117, s118, s119, s120, s121, s122, s123, s124, s125, s126, s127, s128, s129, s130, s131, s132, s133, s134, s135, s136, s137, s138, s139, s140, s141, s142, s143, s144, s145, s146, s147, s148, s149, s150, s151, s152, s153, s154, s155, s156, s157], []⟩ w')) :
    Code.wp Try.prog ((Try.f5.body.bind (findRegion 14)).getD .skip) (Exit.then K Q) ⟨#[s0, s1, s2, .pointer (some ⟨g3, 0, none⟩), s4, s5, s6, s7, s8, s9, s10, s11, .int .i64 E1, s13, s14, s15, .pointer (some ⟨g16, 0, none⟩), s17, s18, s19, s20, s21, s22, s23, s24, s25, s26, s27, s28, s29, s30, s31, s32, s33, s34, s35, s36, s37, s38, s39, s40, s41, s42, s43, s44, s45, s46, s47, s48, s49, s50, s51, s52, s53, s54, s55, s56, s57, s58, s59, s60, s61, s62, s63, s64, s65, s66, s67, s68, s69, s70, s71, s72, s73, s74, s75, s76, s77, s78, s79, s80, s81, s82, s83, s84, s85, s86, s87, s88, s89, s90, s91, s92, s93, s94, s95, s96, s97, s98, s99, s100, s101, s102, s103, s104, s105, s106, s107, s108, s109, s110, s111, s112, s113, s114, s115, s116, s117, s118, s119, s120, s121, s122, s123, s124, s125, s126, s127, s128, s129, s130, s131, s132, s133, s134, s135, s136, s137, s138, s139, s140, s141, s142, s143, s144, s145, s146, s147, s148, s149, s150, s151, s152, s153, s154, s155, s156, s157], []⟩ w := by
  conv => arg 2; whnf
  obtain ⟨z0, c0, c21, x1⟩ := HLk
  have heq := fun w => run_equalIn_address w B A hB hA
  have hsz : (A.map B8).toArray.size = 20 := by simp [hA]
  rw [← x1] at heq
  have d0 := cell_is c0 (by omega)
  obtain ⟨D, hD⟩ : ∃ D, D = decide (B = A) := ⟨_, rfl⟩
  rw [← hD] at hb heq
  clear hD c21 x1 c0
  generalize (A.map B8).toArray = Y at *
  by_cases h1 : k = 1
  · subst h1
    have l1 : ((1 : Int) == 1) = true := rfl
    rw [decide_eq_true rfl, Bool.true_and] at hb
    cases D with
    | true =>
      rw [Bool.true_and] at hb
      by_cases h2 : E1 = 0
      · subst h2
        rw [decide_eq_true rfl] at hb
        subst hb
        go_wp2_with fail
        exact hK.out ⟨rfl, rfl⟩
      · rw [decide_eq_false h2] at hb
        subst hb
        have l2 : (E1 == 0) = false := beq_false_of_ne h2
        clear h2
        go_wp2_with fail
        exact hK.out ⟨rfl, rfl⟩
    | false =>
      rw [Bool.false_and] at hb
      subst hb
      go_wp2_with fail
      exact hK.out ⟨rfl, rfl⟩
  · have l1 : (k == 1) = false := beq_false_of_ne h1
    rw [decide_eq_false h1, Bool.false_and] at hb
    subst hb
    clear h1
    go_wp2_with fail
    exact hK.out ⟨rfl, rfl⟩
end Go.Proofs.Ythoaalnjmklclaa

/- Layer 9 (tx): the law TxPays, walked. -/
namespace Go.Proofs.Ythoaalnjmklclaa
set_option linter.unusedVariables false
set_option linter.unusedSimpArgs false
open Go.RowKit

theorem TT.shapeZ (t : TT) : ∃ (x0 x3 : Int) (ia oa : Option Addr) (n m ic oc : Nat), t.cells = #[.int .u32 x0, .slice ia n ic, .slice oa m oc, .int .u32 x3] ∧ n = t.ins.length ∧ m = t.outs.length ∧ ia = t.ia ∧ oa = t.oa ∧ ic = t.ic ∧ oc = t.oc :=
  ⟨_, _, _, _, _, _, _, _, rfl, rfl, rfl, rfl, rfl, rfl, rfl⟩
theorem tagsOf_len (l : List TO) (k : Nat) : (tagsOf (l.take k)).length ≤ l.length := by
  rw [tagsOf, List.length_map, chsn]
  have := List.length_filter_le (fun t : TO => pTag (lkP t.m.lk)) (l.take k)
  simp only [List.length_take] at this
  omega
theorem OwnSs.not_old {B g : Nat} {w : World} {v : Value} {l : List (List UInt8)} (h : OwnSs B w v l) (hg : g < B) : ¬ v.ownBlock = some g := fun e => by have := h.blk g e; omega
theorem OwnSs.not_new {B g : Nat} {w : World} {v : Value} {l : List (List UInt8)} (h : OwnSs B w v l) (hg : w.heap.size ≤ g) : ¬ v.ownBlock = some g := fun e => by have := h.lt g e; omega
theorem lkP_tag_len (b : List UInt8) : (lkP b).2.2.length ≤ b.length := by
  unfold lkP
  split
  · simp
  · split
    · simp
    · simp
theorem pTo_eq (A b : List UInt8) : pTo A (lkP b) = (decide ((lkP b).1 = 1) && decide ((lkP b).2.1 = A)) := by rw [pTo, Bool.eq_iff_iff]; simp

set_option maxRecDepth 100000 in
set_option maxHeartbeats 16000000 in
theorem txPays_any (t : TT) (w : World) (h : t.Ok w) (A : List UInt8) (hA : A.length = 20) :
    Calls Try.prog 5 #[.agg t.cells, .agg (A.map B8).toArray] w fun e w' => e = .returned (.bool true) ∧ Fr F0 w w' := by
  have HL := Lib.hid lives09_any
  have HT := Lib.hid h
  have HFw := Lib.hid (fun w' (f : Fr F0 w w') => Few09_any t w' (h.fr f))
  have HI := h.ins
  have HO := h.outs
  obtain ⟨x0, x3, ia, oa, n, m, ic, oc, hC, hn, hm, hia, hoa, hic, hoc⟩ := t.shapeZ
  rw [← hia, ← hic] at HI
  rw [← hoa, ← hoc] at HO
  rw [hC] at HFw ⊢
  have rI := HI.sl.room
  have rO := HO.sl.room
  have m1 := HI.most
  have m2 := HO.most
  rw [← hn] at m1 rI
  rw [← hm] at m2 rO
  replace HI := Lib.hid HI
  replace HO := Lib.hid HO
  replace hn := Lib.hid hn
  replace hm := Lib.hid hm
  replace hC := Lib.hid hC
  obtain ⟨sm, hsm⟩ : ∃ s, s = t.m.small := ⟨_, rfl⟩
  rw [← hsm] at HFw
  replace hsm := Lib.hid hsm
  have hA' := Lib.hid hA
  have szA : (A.map B8).toArray.size = 20 := by simp [hA]
  clear h hia hoa hic hoc hA
  obtain ⟨Y, hY⟩ : ∃ Y, Y = (A.map B8).toArray := ⟨_, rfl⟩
  rw [← hY] at szA ⊢
  replace hY := Lib.hid hY
  go_enter Try.func5, Try.ntmps5
  go_upto_region 1 with fail
  refine wp_new fun W1 N1 => ?_
  have r3 := N1.new
  have r2 := N1.old (heap_alloc_new w (.cells #[.int .u32 x0, .slice ia n ic, .slice oa m oc, .int .u32 x3] 28))
  have F := ((Fr.refl F0 w).alloc (.cells #[.int .u32 x0, .slice ia n ic, .slice oa m oc, .int .u32 x3] 28)).trans' N1.fr
  rw [World.size_alloc] at r3
  clear N1
  obtain ⟨g3, hg3⟩ : ∃ g, g = w.heap.size + 1 := ⟨_, rfl⟩
  obtain ⟨g2, hg2⟩ : ∃ g, g = w.heap.size := ⟨_, rfl⟩
  rw [← hg3] at r3 ⊢
  rw [← hg2] at r2 ⊢
  clear hg3 hg2
  go_wp2_with fail
  (with_reducible refine (HL.out _).mono ?_); rintro e w2 ⟨rfl, f⟩
  replace r2 := keep_fr f r2
  replace r3 := keep_fr f r3
  replace F := F.trans' f
  clear f
  go_wp2_with fail
  (with_reducible refine (HFw.out _ F).mono ?_); rintro e w3 ⟨rfl, f⟩
  replace r2 := keep_fr f r2
  replace r3 := keep_fr f r3
  replace F := F.trans' f
  clear f HFw
  cases sm with
  | false =>
    go_wp2_with fail
    (with_reducible refine (HL.out _).mono ?_); rintro e w4 ⟨rfl, f⟩
    go_wp2
    go_ret
    exact ⟨rfl, F.trans' f⟩
  | true =>
  have hs := hsm.out.symm
  rw [MT.small, decide_eq_true_iff] at hs
  obtain ⟨s1, s2, s3, s4⟩ := hs
  have hs70 : t.outs.length ≤ 70 := by simpa [TT.m] using s2
  have hsK : ∀ x ∈ t.ins, x.m.ky.length ≤ 1000 := fun x hx => Nat.le_trans (s3 x.m (by simp only [TT.m, List.mem_map]; exact ⟨x, hx, rfl⟩)) (by omega)
  have hsL : ∀ x ∈ t.outs, x.m.lk.length ≤ 1000 := fun x hx => Nat.le_trans (s4 x.m (by simp only [TT.m, List.mem_map]; exact ⟨x, hx, rfl⟩)) (by omega)
  have HPd := Lib.hid (fun w' (f : Fr F0 w w') => tPaid_any t A hA'.out w' (HT.out.fr f) hsL)
  have HTo := Lib.hid (fun w' (f : Fr F0 w w') => tTotal_any t w' (HT.out.fr f) hsL)
  have HTg := Lib.hid (fun w' (f : Fr F0 w w') => tTags_any t w' (HT.out.fr f) hsL hs70)
  have HSp := Lib.hid (fun w' (f : Fr F0 w w') => tSpends_any t A hA'.out w' (HT.out.fr f) hsK)
  rw [hC.out] at HPd HTo HTg HSp
  rw [← hY.out] at HPd HSp
  replace hsL := Lib.hid hsL
  replace hsK := Lib.hid hsK
  replace hs70 := Lib.hid hs70
  clear s1 s2 s3 s4 hsm
  obtain ⟨L1, hL1⟩ : ∃ L, L = pays (pTo A) t.outs := ⟨_, rfl⟩
  obtain ⟨L2, hL2⟩ : ∃ L, L = pays pAll t.outs := ⟨_, rfl⟩
  rw [← hL1] at HPd
  rw [← hL2] at HTo
  have hA1 := Lib.hid (Acc.start L1)
  have hA2 := Lib.hid (Acc.start L2)
  obtain ⟨U1, hU1⟩ : ∃ V, V = toV 0 L1 := ⟨_, rfl⟩
  obtain ⟨D1, hD1⟩ : ∃ V, V = toE 0 L1 := ⟨_, rfl⟩
  obtain ⟨U2, hU2⟩ : ∃ V, V = toV 0 L2 := ⟨_, rfl⟩
  obtain ⟨D2, hD2⟩ : ∃ V, V = toE 0 L2 := ⟨_, rfl⟩
  rw [← hU1, ← hD1] at HPd
  rw [← hU2, ← hD2] at HTo
  replace hL1 := Lib.hid hL1
  replace hL2 := Lib.hid hL2
  replace hU1 := Lib.hid (And.intro hU1 hD1)
  replace hU2 := Lib.hid (And.intro hU2 hD2)
  clear hD1 hD2
  go_wp2_with fail
  (with_reducible refine (HPd.out _ F).mono ?_); rintro e w4 ⟨rfl, f⟩
  replace r2 := keep_fr f r2
  replace r3 := keep_fr f r3
  replace F := F.trans' f
  clear f HPd
  go_wp2_with fail
  (with_reducible refine (HTo.out _ F).mono ?_); rintro e w5 ⟨rfl, f⟩
  replace r2 := keep_fr f r2
  replace r3 := keep_fr f r3
  replace F := F.trans' f
  clear f HTo
  go_wp2_with fail
  go_loopw [9, 10, 11, 12, 13, 46] (fun mv sv tv wv hv iv wr => ∃ (k V1 V2 : Nat) (E1 E2 : Int), k ≤ m ∧ iv = .int .i64 k ∧ mv = .int .u64 (V1 : Int) ∧ sv = .int .u64 (V2 : Int) ∧ wv = .int .i64 E1 ∧ hv = .int .i64 E2 ∧ Hid (Acc L1 V1 E1 (pays (pTo A) (t.outs.drop k))) ∧ Hid (Acc L2 V2 E2 (pays pAll (t.outs.drop k))) ∧ OwnSs w5.heap.size wr tv (tagsOf (t.outs.take k)) ∧ Fr F0 w5 wr) (fun _ _ _ _ _ iv _ => m - (intOf iv).toNat)
  case atStart => exact ⟨0, 0, 0, 0, 0, Nat.zero_le _, rfl, rfl, rfl, rfl, rfl, by rw [Hid, List.drop_zero, ← hL1.out]; exact hA1.out, by rw [Hid, List.drop_zero, ← hL2.out]; exact hA2.out, OwnSs.nil _ _, Fr.refl F0 _⟩
  case round =>
    obtain ⟨k, V1, V2, E1, E2, hk, rfl, rfl, rfl, rfl, rfl, HA1, HA2, hT, hf⟩ := hrel
    by_cases hkm : k < m
    · have hkl : k < t.outs.length := by have := hm.out; omega
      obtain ⟨hok, bb, off, rfl, hc⟩ := (HO.out.fr (F.trans' hf)).get k hkl
      have hl := load_out (w := wr) (b := bb) (o := off + k * 2) hc
      obtain ⟨x, hx⟩ : ∃ x, x = t.outs[k] := ⟨_, rfl⟩
      have ht2 := tags_take t.outs k hkl
      have hp1 := pays_drop (pTo A) t.outs k hkl
      have hp2 : pays pAll (t.outs.drop k) = t.outs[k].m.py :: pays pAll (t.outs.drop (k + 1)) := (pays_drop pAll t.outs k hkl).trans (if_pos rfl)
      rw [← hx] at hl ht2 hp1 hp2 hok
      have HP := Lib.hid (fun W (f : Fr F0 wr W) => lParseN x.m.lk x.a x.m.lk.length x.c W (Bs.fr7 hok.b f) rfl (hsL.out x (by rw [hx]; exact List.getElem_mem hkl)))
      have hpy := Lib.hid hok.m.py
      obtain ⟨⟨py, lk⟩, xa, xc⟩ := x
      simp only [TO.row] at hl
      simp only at ht2 hp1 hp2 HP hpy
      rw [pTo_eq] at hp1
      obtain ⟨kn, hkn2⟩ : ∃ n, n = lk.length := ⟨_, rfl⟩
      rw [← hkn2] at hl HP
      replace hkn2 := Lib.hid hkn2
      have o2 := row2_one (py : Int) xa kn xc
      have n2 := Lib.hid (hT.not_old (Array.getElem?_eq_some_iff.1 r2).1)
      have n3 := Lib.hid (hT.not_old (Array.getElem?_eq_some_iff.1 r3).1)
      have hTl := Lib.hid hT
      have n15 := Lib.hid (hT.not_new (Nat.le_refl _))
      replace r2 := keep_fr hf r2
      replace r3 := keep_fr hf r3
      have l3 : (k : Int) < (m : Int) := by omega
      replace ht2 := Lib.hid ht2
      replace hp1 := Lib.hid hp1
      replace hp2 := Lib.hid hp2
      clear hc hok hx
      go_upto_region 11 with fail
      first | refine wp_new fun W4 N4 => ?_ | refine wp_put fun W4 N4 => ?_
      have r15 := N4.new
      replace r2 := N4.old r2
      replace r3 := N4.old r3
      have f4 := N4.fr
      clear N4 hl
      generalize wr.heap.size = g15 at *
      go_wp2_with fail
      (with_reducible refine (HP.out _ f4).mono ?_); rintro e w6 ⟨a6, n6, c6, rfl, hn6, hb6, f6, _⟩
      replace r2 := keep_fr f6 r2
      replace r3 := keep_fr f6 r3
      replace r15 := keep_fr f6 r15
      have HLk := LkC.of (k := (lkP lk).1) (lkP_len lk) (.slice a6 n6 c6)
      have oC := lkC_one (k := (lkP lk).1) (A := (lkP lk).2.1) (a := a6) (n := n6) (c := c6)
      obtain ⟨LC, hLC⟩ : ∃ LC, LC = lkC (lkP lk).1 (lkP lk).2.1 (.slice a6 n6 c6) := ⟨_, rfl⟩
      rw [← hLC] at HLk oC ⊢
      have sC := HLk.size
      clear hLC HP
      go_upto_region 12 with fail
      refine wp_put fun W7 N7 => ?_
      have n16 := Lib.hid (hTl.out.not_new (f4.trans' f6).size)
      have r16 := N7.new
      replace r2 := N7.old r2
      replace r3 := N7.old r3
      replace r15 := N7.old r15
      have f7 := (f4.trans' f6).trans' N7.fr
      replace hb6 := Bs.fr7 hb6 N7.fr
      clear N7
      generalize w6.heap.size = g16 at *
      replace hT := hT.fr0 f7
      replace hf := hf.trans' f7
      clear f4 f6 f7
      have HLk' := Lib.hid HLk
      have d0 := cell_is HLk.c0 (by omega)
      have d21 := cell_is HLk.c21 (by omega)
      clear HLk
      obtain ⟨kd, hkd⟩ : ∃ z, z = (lkP lk).1 := ⟨_, rfl⟩
      obtain ⟨AD, hAD⟩ : ∃ z, z = (lkP lk).2.1 := ⟨_, rfl⟩
      obtain ⟨TGb, hTGb⟩ : ∃ z, z = (lkP lk).2.2 := ⟨_, rfl⟩
      have hADl := Lib.hid (show AD.length = 20 by rw [hAD]; exact lkP_len lk)
      rw [← hkd] at d0 HLk' hp1
      rw [← hAD] at HLk' hp1
      rw [← hTGb] at ht2 hn6 hb6
      have hpt := Lib.hid (show pTag (lkP lk) = decide (kd = 2) by rw [hkd]; rfl)
      rw [hpt.out] at ht2
      replace hkd := Lib.hid hkd
      replace hAD := Lib.hid hAD
      replace hTGb := Lib.hid hTGb
      replace hn6 := Lib.hid hn6
      by_cases h2k : kd = 2
      focus
        have l8 : (kd == 2) = true := by rw [h2k]; rfl
        have hcv := bs_str7 hb6 hn6.out
        obtain ⟨a8, c8, w8, happ, hT8, f8, hs8⟩ := hT.app TGb hf.size (by have := hs70.out; have := tagsOf_len t.outs k; omega) 53
        have e8 := ht2.out
        rw [if_pos (decide_eq_true h2k)] at e8
        rw [← e8] at hT8
        have hf8 : Fr F0 w5 w8 := hf.trans f8 fun i hi e => by have := hT.blk i e; omega
        have k15 := f8.keeps n15.out r15
        have k16 := f8.keeps n16.out r16
        have k2 := f8.keeps n2.out r2
        have k3 := f8.keeps n3.out r3
        obtain ⟨tl, htl⟩ : ∃ n, n = (tagsOf (List.take k t.outs)).length + 1 := ⟨_, rfl⟩
        rw [← htl] at happ hT8
        replace htl := Lib.hid htl
        replace hT8 := Lib.hid hT8
        clear hT hf hTl f8 hs8 hs70 e8
        unfold sv at happ
        go_upto_region 14 with fail
        replace r2 := k2
        replace r3 := k3
        replace r15 := k15
        replace r16 := k16
        replace hT8 := hT8.out
        clear k2 k3 k15 k16 happ hcv d21 hb6
      rotate_left
      focus
        have l8 : (kd == 2) = false := beq_false_of_ne h2k
        obtain ⟨w8, h8⟩ : ∃ v, v = W7 := ⟨_, rfl⟩
        subst h8
        have e8 := ht2.out
        rw [if_neg (by simpa using h2k)] at e8
        have hT8 := hT
        rw [← e8] at hT8
        have hf8 := hf
        clear hT hf d21 hb6
        go_upto_region 14 with fail
      all_goals
        obtain ⟨b, hb⟩ : ∃ b, b = (decide (kd = 1) && (decide (AD = A) && decide (E1 = 0))) := ⟨_, rfl⟩
        refine tp14 w8 g3 g16 A AD kd E1 LC hA'.out hADl.out (.slice a6 n6 c6) HLk'.out (by rw [← hY.out]; exact r3) r16 b hb (Lib.hid ?_)
        rename_i wq
        rintro ⟨rfl, hw⟩; replace hw := hw.symm; subst hw
        replace hb := Lib.hid hb
        cases b with
        | true =>
          have hb2 := hb.out.symm
          rw [Bool.and_eq_true, Bool.and_eq_true, decide_eq_true_iff, decide_eq_true_iff, decide_eq_true_iff] at hb2
          obtain ⟨hb3, hb4, rfl⟩ := hb2
          have HA1' := Lib.hid (Acc.add (by have := hp1.out; rw [if_pos (by rw [hb3, hb4]; simp)] at this; rw [← this]; exact HA1.out))
          have HAe := Lib.hid (aAdd_any V1 py HA1.out.1 hpy.out)
          clear hb3 hb4
          go_wp2_with fail
          (with_reducible refine (HAe.out _).mono ?_); rintro e wz ⟨rfl, fz⟩
          replace hT8 := hT8.fr0 fz
          replace hf8 := hf8.trans' fz
          replace r15 := keep_fr fz r15
          clear HAe fz r2 r3 r16
          by_cases h2 : E2 = 0
          · subst h2
            have HA2' := Lib.hid (Acc.add (by rw [← hp2.out]; exact HA2.out))
            have HAd := Lib.hid (aAdd_any V2 py HA2.out.1 hpy.out)
            go_wp2_with fail
            (with_reducible refine (HAd.out _).mono ?_); rintro e w9 ⟨rfl, f9⟩
            replace hT8 := hT8.fr0 f9
            replace hf8 := hf8.trans' f9
            clear HAd f9
            go_wp2
            go_roundw
            case rel => exact ⟨k + 1, adV V1 py, adV V2 py, adE V1 py, adE V2 py, by omega, by go_num, rfl, rfl, rfl, rfl, HA1', HA2', hT8, hf8⟩
            case measure => simp [intOf]; omega
          · have HA2' := Lib.hid (Acc.stay (by rw [← hp2.out]; exact HA2.out) h2)
            have l9 : (E2 == 0) = false := beq_false_of_ne h2
            go_wp2
            go_roundw
            case rel => exact ⟨k + 1, adV V1 py, V2, adE V1 py, E2, by omega, by go_num, rfl, rfl, rfl, rfl, HA1', HA2', hT8, hf8⟩
            case measure => simp [intOf]; omega
        | false =>
          have HA1' : Hid (Acc L1 V1 E1 (pays (pTo A) (t.outs.drop (k + 1)))) := by
            have h9 := hp1.out
            by_cases hch : (decide (kd = 1) && decide (AD = A)) = true
            · rw [if_pos hch] at h9
              have hE1 : E1 ≠ 0 := fun e => by
                have := hb.out
                rw [Bool.and_eq_true] at hch
                rw [hch.1, hch.2, decide_eq_true e] at this
                cases this
              exact Acc.stay (by rw [← h9]; exact HA1.out) hE1
            · rw [if_neg hch] at h9
              rw [Hid, ← h9]
              exact HA1.out
          clear r2 r3 r16
          by_cases h2 : E2 = 0
          · subst h2
            have HA2' := Lib.hid (Acc.add (by rw [← hp2.out]; exact HA2.out))
            have HAd := Lib.hid (aAdd_any V2 py HA2.out.1 hpy.out)
            go_wp2_with fail
            (with_reducible refine (HAd.out _).mono ?_); rintro e w9 ⟨rfl, f9⟩
            replace hT8 := hT8.fr0 f9
            replace hf8 := hf8.trans' f9
            clear HAd f9
            go_wp2
            go_roundw
            case rel => exact ⟨k + 1, V1, adV V2 py, E1, adE V2 py, by omega, by go_num, rfl, rfl, rfl, rfl, HA1', HA2', hT8, hf8⟩
            case measure => simp [intOf]; omega
          · have HA2' := Lib.hid (Acc.stay (by rw [← hp2.out]; exact HA2.out) h2)
            have l9 : (E2 == 0) = false := beq_false_of_ne h2
            go_wp2
            go_roundw
            case rel => exact ⟨k + 1, V1, V2, E1, E2, by omega, by go_num, rfl, rfl, rfl, rfl, HA1', HA2', hT8, hf8⟩
            case measure => simp [intOf]; omega
    · obtain rfl : m = k := by omega
      have hd9 : t.outs.drop m = [] := List.drop_eq_nil_of_le (by have := hm.out; omega)
      have ht9 : t.outs.take m = t.outs := List.take_of_length_le (by have := hm.out; omega)
      have a1 := Acc.fin (show Acc L1 V1 E1 [] by have := HA1.out; rw [hd9] at this; exact this)
      have a2 := Acc.fin (show Acc L2 V2 E2 [] by have := HA2.out; rw [hd9] at this; exact this)
      rw [ht9] at hT
      obtain rfl : U1 = V1 := hU1.out.1.trans a1.1.symm
      obtain rfl : D1 = E1 := hU1.out.2.trans a1.2.symm
      obtain rfl : U2 = V2 := hU2.out.1.trans a2.1.symm
      obtain rfl : D2 = E2 := hU2.out.2.trans a2.2.symm
      obtain ⟨w6, hw6⟩ : ∃ v, v = wr := ⟨_, rfl⟩
      subst hw6
      replace r2 := keep_fr hf r2
      replace r3 := keep_fr hf r3
      replace F := F.trans' hf
      obtain ⟨TL, hTL⟩ : ∃ L, L = tagsOf t.outs := ⟨_, rfl⟩
      rw [← hTL] at hT HTg
      have hTL70 := Lib.hid (show TL.length ≤ 70 by have := tagsOf_len t.outs t.outs.length; rw [List.take_length, ← hTL] at this; have := hs70.out; omega)
      have hTLb := Lib.hid (show ∀ b ∈ TL, b.length ≤ 1000 from fun b hb => by
        rw [hTL, tagsOf, List.mem_map] at hb
        obtain ⟨x, hx, rfl⟩ := hb
        exact Nat.le_trans (lkP_tag_len x.m.lk) (hsL.out x (List.mem_filter.1 hx).1))
      replace hTL := Lib.hid hTL
      clear hf a1 a2 hd9 ht9 HA1 HA2 hA1 hA2 hk hkm hL1 hL2 hU1 hU2 hs70 hsL
      go_wp2_with fail
      (with_reducible refine (HTg.out _ F).mono ?_); rintro e w7 ⟨gt, TGl, rfl, hTI, hTm, f⟩
      replace r2 := keep_fr f r2
      replace r3 := keep_fr f r3
      replace F := F.trans' f
      replace hT := hT.fr0 f
      clear HTg f
      obtain ⟨vt, ht3, ht4⟩ := hTI
      have HAl := Lib.hid (all09_any _ gt vt TGl w7 ⟨ht3, ht4⟩ (fun x hx => hTLb.out _ (by rw [← hTm]; exact List.mem_map_of_mem hx)) (by have := congrArg List.length hTm; rw [List.length_map] at this; have := hTL70.out; omega))
      rw [hTm] at HAl
      clear ht3 ht4 hTm
      go_wp2_with fail
      (with_reducible refine HAl.out.mono ?_); rintro e w8 ⟨s, rfl, hS, f⟩
      replace r2 := keep_fr f r2
      replace r3 := keep_fr f r3
      replace F := F.trans' f
      replace hT := hT.fr0 f
      clear HAl f
      obtain ⟨aS, cS, rfl, slS⟩ := hS.is
      obtain ⟨aT, cT, e9, slT⟩ := hT.is
      subst e9
      clear hS hT
      obtain ⟨n9, hn9⟩ : ∃ n, n = TL.length := ⟨_, rfl⟩
      rw [← hn9] at slS slT ⊢
      have r9S := slS.room
      have r9T := slT.room
      have m9 : n9 ≤ 70 := by have := hTL70.out; omega
      have HSl := Lib.hid (And.intro slS slT)
      replace hn9 := Lib.hid hn9
      clear slS slT hTL70 hTLb
      go_wp2_with fail
      go_loopw [120] (fun iv wr => ∃ (k : Nat), k ≤ n9 ∧ iv = .int .i64 k ∧ Fr F0 w8 wr) (fun iv _ => n9 - (intOf iv).toNat)
      case atStart => exact ⟨0, Nat.zero_le _, rfl, Fr.refl F0 _⟩
      case round =>
        obtain ⟨k, hk, rfl, hf⟩ := hrel
        by_cases hkn : k < n9
        · have hkl : k < TL.length := by have := hn9.out; omega
          have e1 : (TL.map sv)[k]? = some (.string (strOf TL[k])) := by rw [List.getElem?_map, List.getElem?_eq_getElem hkl]; rfl
          have slS := HSl.out.1.fr7 hf
          have slT := HSl.out.2.fr7 hf
          obtain ⟨bS, oS, rfl, cS1⟩ := slS.cell k _ e1
          obtain ⟨bT, oT, rfl, cT1⟩ := slT.cell k _ e1
          rw [cell_at] at cS1 cT1
          generalize strOf TL[k] = X at *
          have l3 : (k : Int) < (n9 : Int) := by omega
          clear e1 slS slT
          go_upto_region 27 with fail
          refine wp_region_noPanic ?_
          refine wp_region_held_drew (S := (fun w' => (Obj.cellAt (oS + k) w'.heap[bS]? = some (.string X) ∧ Obj.cellAt (oT + k) w'.heap[bT]? = some (.string X)) ∧ Fr F0 wr w')) (by kernel_rfl) ?_ (fun hHeld => ?_)
          · ((try dsimp only) <;> (first | exact ⟨⟨cS1, cT1⟩, (Fr.refl F0 wr).drew⟩ | exact hHeld))
          refine rtake 0 ?_
          refine rtake 1 ?_
          refine rtake 2 ?_
          refine rtake 3 ?_
          refine rtake 4 ?_
          refine rtake 5 ?_
          refine rtake 6 ?_
          refine rtake 7 ?_
          refine rtake 8 ?_
          refine wpAnyH_done (by kernel_rfl) ?_ _
          refine NoPanic.normal ?_
          go_wp2
          go_roundw
          case rel => exact ⟨k + 1, by omega, by go_num, hf.trans' hHeld.2⟩
          case measure => simp [intOf]; omega
        · obtain rfl : n9 = k := by omega
          replace r2 := keep_fr hf r2
          replace r3 := keep_fr hf r3
          replace F := F.trans' hf
          obtain ⟨w9, hw9⟩ : ∃ v, v = wr := ⟨_, rfl⟩
          subst hw9
          clear hf hk hkn
          go_wp2_with fail
          go_loopw [19, 136] (fun lv iv wr => ∃ (k : Nat) (b : Bool), k ≤ n ∧ iv = .int .i64 k ∧ lv = .bool b ∧ Hid (b = (t.ins.take k).any (pSp A)) ∧ Fr F0 w9 wr) (fun _ iv _ => n - (intOf iv).toNat)
          case atStart => exact ⟨0, false, Nat.zero_le _, rfl, rfl, by simp [Hid], Fr.refl F0 _⟩
          case round =>
            obtain ⟨k, b, hk, rfl, rfl, HK, hf⟩ := hrel
            by_cases hkn : k < n
            · have hkl : k < t.ins.length := by have := hn.out; omega
              obtain ⟨hok, bb, off, rfl, hc⟩ := (HI.out.fr (F.trans' hf)).get k hkl
              have hl := load_in (w := wr) (b := bb) (o := off + k * 35) hok.m hc
              have K := TI.cellsOf hok.m
              obtain ⟨x, hx⟩ : ∃ x, x = t.ins[k] := ⟨_, rfl⟩
              rw [← hx] at hl K hok
              have hlx := hsK.out x (by rw [hx]; exact List.getElem_mem hkl)
              have HO := Lib.hid (fun w' (f : Fr F0 wr w') => lOpenerC x.m.ky x.a x.m.ky.length x.c w' (Bs.fr7 hok.b f) rfl hlx)
              have heq := fun w => run_equalIn_address w (opA x.m.ky) A (opA_length _) hA'.out
              have sz2 : ((opA x.m.ky).map B8).toArray.size = 20 := by simp [opA_length]
              have on2 : rowOne ((opA x.m.ky).map B8).toArray := one_B8s _
              have HN : (t.ins.take (k + 1)).any (pSp A) = ((t.ins.take k).any (pSp A) || (opO x.m.ky && decide (opA x.m.ky = A))) := by
                rw [List.take_succ_eq_append_getElem hkl, List.any_append, ← hx]
                simp [pSp]
              rw [← HK.out] at HN
              have sz := K.size
              have o1 := K.one
              have c33 := K.c33
              rw [← hY.out] at heq
              replace r3 := keep_fr hf r3
              generalize x.row.toArray = C at *
              generalize x.m.ky.length = kn at *
              generalize ((opA x.m.ky).map B8).toArray = X at *
              generalize decide (opA x.m.ky = A) = D at *
              generalize opO x.m.ky = o at *
              have d33 := cell_is c33 (by omega)
              have l3 : (k : Int) < (n : Int) := by omega
              replace HN := Lib.hid HN
              clear hc hok K r2 hx hlx HK
              go_upto_region 34 with fail
              refine wp_put fun W4 N4 => ?_
              have r4 := N4.new
              have f4 := N4.fr
              replace r3 := N4.old r3
              clear N4 hl
              generalize wr.heap.size = g4 at *
              go_wp2_with fail
              (with_reducible refine (HO.out _ f4).mono ?_); rintro e w5 ⟨rfl, f⟩
              replace r3 := keep_fr f r3
              replace r4 := keep_fr f r4
              replace hf := (hf.trans' f4).trans' f
              clear HO f f4
              go_upto_region 35 with fail
              refine wp_put fun W6 N6 => ?_
              have r6 := N6.new
              replace r3 := N6.old r3
              replace hf := hf.trans' N6.fr
              clear N6 r4
              generalize w5.heap.size = g6 at *
              cases o with
              | true =>
                cases D with
                | true =>
                  go_wp2
                  go_roundw
                  case rel => exact ⟨k + 1, true, by omega, by go_num, rfl, by rw [Hid, HN.out]; simp, hf⟩
                  case measure => simp [intOf]; omega
                | false =>
                  go_wp2
                  go_roundw
                  case rel => exact ⟨k + 1, b, by omega, by go_num, rfl, by rw [Hid, HN.out]; simp, hf⟩
                  case measure => simp [intOf]; omega
              | false =>
                go_wp2
                go_roundw
                case rel => exact ⟨k + 1, b, by omega, by go_num, rfl, by rw [Hid, HN.out]; simp, hf⟩
                case measure => simp [intOf]; omega
            · obtain rfl : n = k := by omega
              have HK2 := HK.out
              rw [hn.out, List.take_length] at HK2
              rw [← HK2] at HSp
              replace r2 := keep_fr hf r2
              replace r3 := keep_fr hf r3
              replace F := F.trans' hf
              clear hf HK HK2 hk hkn
              go_wp2_with fail
              (with_reducible refine (HSp.out _ F).mono ?_); rintro e w9 ⟨rfl, f⟩
              go_wp2
              go_ret
              exact ⟨by simp, F.trans' f⟩
end Go.Proofs.Ythoaalnjmklclaa
