import Derived.Test.YtjpglipjmnbniaaZ8
import Derived.Deep.Cut
import Derived.Deep.CutBlock
import Derived.Test.YtjpglipjmnbniaaZ6
import Derived.ProofKit
import Derived.Deep.Slices
import Derived.Deep.Fields
import Derived.OpenShut
import Derived.Below
/- Layer 17 (oracle): tellings in memory; the piece on bounds, any price. -/
namespace Go.Proofs.Ytjpglipjmnbniaa
set_option maxRecDepth 100000
set_option linter.unusedVariables false
set_option linter.unusedSimpArgs false
open Go.RowKit

theorem Try.szOTell : (Try.prog.info? 39).map (·.size) = some 3 := by kernel_rfl
@[go_sem ↓ high] theorem load_otell (p : Value) : Instr.loadAt 39 p = loadRowAt 39 p := rfl
@[go_sem ↓ high] theorem store_otell (p v : Value) : Instr.storeAt 39 p v = storeRowAt 39 p v := rfl
@[go_sem] theorem run_load_otell (w : World) (g : Nat) : (loadRowAt 39 (.pointer (some ⟨g, 0, none⟩))).run Try.prog w = rowOut Try.prog 39 (.pointer (some ⟨g, 0, none⟩)) w 3 w.heap[g]? :=
  run_loadRowAt w _ g 3 _ Try.underlying39 rfl Try.szOTell
@[go_sem] theorem run_store_otell (w : World) (g : Nat) (cells : Array Value) : (storeRowAt 39 (.pointer (some ⟨g, 0, none⟩)) (.agg cells)).run Try.prog w = rowIn Try.prog 39 (.pointer (some ⟨g, 0, none⟩)) cells g w 3 w.heap[g]? :=
  run_storeRowAt w _ g 3 cells Try.szOTell
/-- Tellings, in memory. -/
structure TellsD (w : World) (a : Option Addr) (n : Nat) : Prop where
  at_ : ∀ k, k < n → ∃ b off q now ask, a = some ⟨b, off, none⟩ ∧ q < 18446744073709551616 ∧ now < 18446744073709551616 ∧ ask < 18446744073709551616 ∧ ∀ W, Fr F0 w W → (loadRowAt 39 (.pointer (some ⟨b, off + k * 3, none⟩))).run Try.prog W = .ok (.agg #[.int .u64 (q : Nat), .int .u64 (now : Nat), .int .u64 (ask : Nat)]) W

/-- Six ways through the bounds. -/
theorem ways21 {m x q lo hi : Nat} (hlo : loN m x = lo) (hhi : hiN m x = hi) : ∃ o : Bool, (decide ((max x q - min x q) * 1000 ≤ x * m) = o) ∧
    (q < 1 ∨ (¬ q < 1 ∧ 1099511627776 < q) ∨ (¬ q < 1 ∧ ¬ 1099511627776 < q ∧ lo ≤ q ∧ q ≤ hi ∧ x = 0) ∨ (¬ q < 1 ∧ ¬ 1099511627776 < q ∧ ¬ lo ≤ q ∧ ¬ x = 0 ∧ o = false) ∨
      (¬ q < 1 ∧ ¬ 1099511627776 < q ∧ lo ≤ q ∧ ¬ q ≤ hi ∧ ¬ x = 0 ∧ o = false) ∨ (¬ q < 1 ∧ ¬ 1099511627776 < q ∧ lo ≤ q ∧ q ≤ hi ∧ ¬ x = 0 ∧ o = true)) := by
  refine ⟨_, rfl, ?_⟩
  by_cases h1 : q < 1
  · exact .inl h1
  by_cases h2 : 1099511627776 < q
  · exact .inr (.inl ⟨h1, h2⟩)
  by_cases h3 : x = 0
  · subst h3
    rw [loN_0] at hlo
    rw [hiN_0] at hhi
    exact .inr (.inr (.inl ⟨h1, h2, by omega, by omega, rfl⟩))
  · have b := bounds_is (m := m) (x := x) (q := q) (by omega) (by omega) (by omega)
    rw [hlo, hhi] at b
    by_cases h4 : lo ≤ q
    · by_cases h5 : q ≤ hi
      · exact .inr (.inr (.inr (.inr (.inr ⟨h1, h2, h4, h5, h3, decide_eq_true (b.1 ⟨h4, h5⟩)⟩))))
      · exact .inr (.inr (.inr (.inr (.inl ⟨h1, h2, h4, h5, h3, decide_eq_false fun h => h5 (b.2 h).2⟩))))
    · exact .inr (.inr (.inr (.inl ⟨h1, h2, h4, h3, decide_eq_false fun h => h4 (b.2 h).1⟩)))

set_option maxRecDepth 100000 in
set_option maxHeartbeats 16000000 in
theorem og21 {s0 s1 s3 s4 s5 s6 s8 s9 s11 s14 s15 s16 s17 s18 s19 s20 s21 s22 s23 s24 s25 s26 s27 s28 s29 s30 s31 s32 s33 s34 s35 s36 s37 s38 s39 s40 s41 s42 s43 s44 s45 s46 s47 s48 s49 s50 s51 s52 s53 s54 s55 s56 s57 s58 s59 s60 s61 s62 s63 s64 s65 s66 s67 s68 s69 s70 s71 s72 s73 s74 s75 s76 s77 s78 s79 s80 s81 s82 s83 s84 s85 s86 s87 s88 s89 s90 s91 s92 s93 s94 s95 s96 s97 s98 s99 s100 s101 s102 s103 s104 s105 s106 s107 s108 s109 s110 s111 s112 s113 s114 s115 s116 s117 s118 s119 s120 s121 s122 s123 s124 s125 s126 s127 s128 s129 s130 s131 s132 s133 s134 s135 s136 s137 s138 s139 s140 s141 s142 s143 s144 s145 s146 s147 s148 s149 s150 s151 s152 s153 s154 s155 s156 s157 s158 s159 s160 s161 s162 s163 s164 s165 s166 s167 s168 s169 s170 s171 s172 s173 s174 s175 s176 s177 s178 s179 s180 s181 s182 s183 s184 s185 s186 s187 s188 s189 s190 s191 s192 s193 s194 s195 s196 s197 s198 s199 s200 s201 s202 s203 s204 s205 s206 s207 s208 s209 s210 s211 s212 s213 s214 s215 s216 s217 s218 s219 s220 s221 s222 s223 s224 s225 s226 s227 s228 s229 s230 s231 s232 s233 s234 s235 s236 s237 s238 s239 s240 s241 s242 s243 s244 s245 s246 s247 s248 s249 s250 s251 s252 s253 s254 s255 s256 s257 s258 s259 s260 s261 s262 s263 s264 s265 s266 s267 s268 s269 s270 s271 s272 s273 s274 s275 : Value} {K : Act → World → Prop} {Q : Exit → Act → World → Prop} (m a x q now ask B rb lo hi : Nat) (hx : x < 18446744073709551616) (hq : q < 18446744073709551616) (hm : m < 18446744073709551616) (hlo : loN m x = lo) (hhi : hiN m x = hi) (w : World) (rB : w.heap[B]? = some (.cells #[.int .u64 (q : Int), .int .u64 (now : Int), .int .u64 (ask : Int)] 39 (0, 0))) (rr : w.heap[rb]? = some (.cells #[.int .u64 (m : Int), .int .u64 (a : Int)] 30 (0, 0)))
    (hK : RowKit.Hid (∀ {u107 u108 u109 u110 u111 u112 u113 u114 u115 u116 u117 u118 u119 u120 u121 u122 u123 u124 u125 u126 u127 u128 u129 u130 u131 u132 u133 u134 u135 u136 u137 : Value} {w' : World}, (u137 = .bool false ∧ Fr F0 w w') → K ⟨#[s0, s1, .pointer (some ⟨rb, 0, none⟩), s3, s4, s5, s6, .int .u64 (x : Int), s8, s9, .pointer (some ⟨B, 0, none⟩), s11, .int .u64 (lo : Int), .int .u64 (hi : Int), s14, s15, s16, s17, s18, s19, s20, s21, s22, s23, s24, s25, s26, s27, s28, s29, s30, s31, s32, s33, s34, s35, s36, s37, s38, s39, s40, s41, s42, s43, s44, s45, s46, s47, s48, s49, s50, s51, s52, s53, s54, s55, s56, s57, s58, s59, s60, s61, s62, s63, s64, s65, s66, s67, s68, s69, s70, s71, s72, s73, s74, s75, s76, s77, s78, s79, s80, s81, s82, s83, s84, s85, s86, s87, s88, s89, s90, s91, s92, s93, s94, s95, s96, s97, s98, s99, s100, s101, s102, s103, s104, s105, s106, u107, u108, u109, u110, u111, u112, u113, u114, u115, u116, u117, u118, u119, u120, u121, u122, u123, u124, u125, u126, u127, u128, u129, u130, u131, u132, u133, u134, u135, u136, u137, s138, s139, s140, s141, s142, s143, s144, s145, s146, s147, s148, s149, s150, s151, s152, s153, s154, s155, s156, s157, s158, s159, s160, s161, s162, s163, s164, s165, s166, s167, s168, s169, s170, s171, s172, s173, s174, s175, s176, s177, s178, s179, s180, s181, s182, s183, s184, s185, s186, s187, s188, s189, s190, s191, s192, s193, s194, s195, s196, s197, s198, s199, s200, s201, s202, s203, s204, s205, s206, s207, s208, s209, s210, s211, s212, s213, s214, s215, s216, s217, s218, s219, s220, s221, s222, s223, s224, s225, s226, s227, s228, s229, s230, s231, s232, s233, s234, s235, s236, s237, s238, s239, s240, s241, s242, s243, s244, s245, s246, s247, s248, s249, s250, s251, s252, s253, s254, s255, s256, s257, s258, s259, s260, s261, s262, s263, s264, s265, s266, s267, s268, s269, s270, s271, s272, s273, s274, s275], []⟩ w')) :
    Code.wp Try.prog ((((Try.f4.body.bind (findRegion 21)).getD .skip))) (Exit.then K Q) ⟨#[s0, s1, .pointer (some ⟨rb, 0, none⟩), s3, s4, s5, s6, .int .u64 (x : Int), s8, s9, .pointer (some ⟨B, 0, none⟩), s11, .int .u64 (lo : Int), .int .u64 (hi : Int), s14, s15, s16, s17, s18, s19, s20, s21, s22, s23, s24, s25, s26, s27, s28, s29, s30, s31, s32, s33, s34, s35, s36, s37, s38, s39, s40, s41, s42, s43, s44, s45, s46, s47, s48, s49, s50, s51, s52, s53, s54, s55, s56, s57, s58, s59, s60, s61, s62, s63, s64, s65, s66, s67, s68, s69, s70, s71, s72, s73, s74, s75, s76, s77, s78, s79, s80, s81, s82, s83, s84, s85, s86, s87, s88, s89, s90, s91, s92, s93, s94, s95, s96, s97, s98, s99, s100, s101, s102, s103, s104, s105, s106, s107, s108, s109, s110, s111, s112, s113, s114, s115, s116, s117, s118, s119, s120, s121, s122, s123, s124, s125, s126, s127, s128, s129, s130, s131, s132, s133, s134, s135, s136, s137, s138, s139, s140, s141, s142, s143, s144, s145, s146, s147, s148, s149, s150, s151, s152, s153, s154, s155, s156, s157, s158, s159, s160, s161, s162, s163, s164, s165, s166, s167, s168, s169, s170, s171, s172, s173, s174, s175, s176, s177, s178, s179, s180, s181, s182, s183, s184, s185, s186, s187, s188, s189, s190, s191, s192, s193, s194, s195, s196, s197, s198, s199, s200, s201, s202, s203, s204, s205, s206, s207, s208, s209, s210, s211, s212, s213, s214, s215, s216, s217, s218, s219, s220, s221, s222, s223, s224, s225, s226, s227, s228, s229, s230, s231, s232, s233, s234, s235, s236, s237, s238, s239, s240, s241, s242, s243, s244, s245, s246, s247, s248, s249, s250, s251, s252, s253, s254, s255, s256, s257, s258, s259, s260, s261, s262, s263, s264, s265, s266, s267, s268, s269, s270, s271, s272, s273, s274, s275], []⟩ w := by
  conv => arg 2; whnf
  obtain ⟨o, ho, hc⟩ := ways21 (q := q) hlo hhi
  have HM := moves17_any x q m hx hq hm o ho
  rcases hc with h1 | ⟨h1, h2⟩ | ⟨h1, h2, h3, h4, h5⟩ | ⟨h1, h2, h3, h5, rfl⟩ | ⟨h1, h2, h3, h4, h5, rfl⟩ | ⟨h1, h2, h3, h4, h5, rfl⟩
  · exact oga m a x q now ask B rb lo hi h1 w rB rr hK
  · exact ogb m a x q now ask B rb lo hi h1 h2 w rB rr hK
  · exact ogc m a x q now ask B rb lo hi h1 h2 h3 h4 h5 w rB rr hK
  · exact ogd m a x q now ask B rb lo hi h1 h2 h3 h5 (Lib.hid HM) w rB rr hK
  · exact oge m a x q now ask B rb lo hi h1 h2 h3 h4 h5 (Lib.hid HM) w rB rr hK
  · exact ogf m a x q now ask B rb lo hi h1 h2 h3 h4 h5 (Lib.hid HM) w rB rr hK

/-- What is told at a tick, three ways. -/
theorem pr_ways (a x t ask : Nat) : (prE a x t ask = 0 ∧ prV a x t ask = x ∧ 0 < x) ∨ (¬ prE a x t ask = 0 ∧ prV a x t ask = 0 ∧ 0 < x) ∨ (¬ prE a x t ask = 0 ∧ prV a x t ask = 0 ∧ x = 0) := by
  by_cases h : 0 < x
  · by_cases h1 : ask < t
    · rw [(pr_early h h1).1, (pr_early h h1).2]
      exact .inr (.inl ⟨by decide, rfl, h⟩)
    · by_cases h2 : a < ask - t
      · rw [(pr_stale h h1 h2).1, (pr_stale h h1 h2).2]
        exact .inr (.inl ⟨by decide, rfl, h⟩)
      · rw [(pr_good h h1 h2).1, (pr_good h h1 h2).2]
        exact .inl ⟨rfl, rfl, h⟩
  · obtain rfl : x = 0 := by omega
    rw [(pr_none a t ask).1, (pr_none a t ask).2]
    exact .inr (.inr ⟨by decide, rfl, rfl⟩)
end Go.Proofs.Ytjpglipjmnbniaa

/- Layer 17's law OraclePlays, walked. -/
namespace Go.Proofs.Ytjpglipjmnbniaa
set_option maxRecDepth 100000
set_option linter.unusedVariables false
set_option linter.unusedSimpArgs false
open Go.RowKit

/-- A feed's own block is none of the caller's. -/
theorem Fr.feed {w W W' : World} {g : Nat} (f : Fr F0 w W) (k : Fr (fun k => k = g) W W') (h : w.heap.size ≤ g) : Fr F0 w W' :=
  f.trans k fun i hi e => absurd (show i = g from e) (Nat.ne_of_lt (Nat.lt_of_lt_of_le hi h))

set_option maxRecDepth 100000 in
set_option maxHeartbeats 64000000 in
theorem oraclePlays_any {w : World} {m a : Nat} {ad : Option Addr} {n c : Nat} (hm : m < 18446744073709551616) (ha : a < 18446744073709551616) (h1 : TellsD w ad n) :
    Calls Try.prog 4 #[.agg #[.int .u64 (m : Int), .int .u64 (a : Int)], .slice ad n c] w fun e w' => e = .returned (.bool true) ∧ Fr F0 w w' := by
  have HT := Lib.hid h1
  have HL := Lib.hid (fun W => lives17_any W)
  have HM := Lib.hid hm
  obtain ⟨rb, hrb⟩ : ∃ rb, w.heap.size = rb := ⟨_, rfl⟩
  have F0w : Fr F0 w (w.alloc (.cells #[.int .u64 (m : Int), .int .u64 (a : Int)] 30)) := (Fr.refl F0 w).alloc _
  clear h1 hm ha
  by_cases hb1 : 40 < n
  · have g1 : 40 < n := hb1
    clear HM hb1 hrb
    have FA := Lib.hid F0w
    clear F0w
    go_enter Try.func4, Try.ntmps4
    go_wp2_with fail
    (with_reducible refine (HL.out _).mono ?_); rintro e w1 ⟨rfl, f1⟩
    have F1 := Lib.hid (FA.out.trans' f1)
    clear f1
    go_wp2_with fail
    (with_reducible refine (HL.out w1).mono ?_); rintro e w2 ⟨rfl, f2⟩
    have F2 := Lib.hid (F1.out.trans' f2)
    clear f2
    go_wp2_with fail
    go_ret
    exact ⟨rfl, F2.out⟩
  have b1 : n ≤ 40 := by omega
  have l1 : ¬ 40 < n := by omega
  clear hb1
  have r2 : (w.alloc (.cells #[.int .u64 (m : Int), .int .u64 (a : Int)] 30)).heap[rb]? = some (.cells #[.int .u64 (m : Int), .int .u64 (a : Int)] 30 (0, 0)) := by rw [← hrb]; exact heap_alloc_new _ _
  have hsz : (w.alloc (.cells #[.int .u64 (m : Int), .int .u64 (a : Int)] 30)).heap.size = rb + 1 := by rw [← hrb]; exact World.size_alloc _ _
  have HR := Lib.hid hrb
  have FA := Lib.hid (And.intro F0w (And.intro hsz r2))
  clear F0w hsz r2
  by_cases hr : m ≤ 1000 ∧ a ≤ 1099511627776
  · have HN := Lib.hid (oNew_ok m a hr.1 hr.2)
    have l2 : ¬ (1000 : Int) < (m : Int) := by omega
    have l3 : ¬ (1099511627776 : Int) < (a : Int) := by omega
    have d2 : decide ((1000 : Int) < (m : Int)) = false := decide_eq_false l2
    have d3 : decide ((1099511627776 : Int) < (a : Int)) = false := decide_eq_false l3
    clear hr
    go_enter Try.func4, Try.ntmps4
    go_wp2_with fail
    (with_reducible refine (HL.out _).mono ?_); rintro e w1 ⟨rfl, f1⟩
    have r2 := keep_fr f1 FA.out.2.2
    have F1 := Lib.hid (And.intro (FA.out.1.trans' f1) (Nat.le_trans (Nat.le_of_eq FA.out.2.1.symm) f1.size))
    clear f1
    clear hrb
    go_wp2_with fail
    refine (HN.out _).mono ?_; rintro e w2 ⟨g, rfl, d2, f2, hg⟩
    replace r2 := keep_fr f2 r2
    have H2 := Lib.hid (And.intro d2 (And.intro (F1.out.1.trans' f2) (And.intro r2 (show rb + 1 ≤ g from Nat.le_trans F1.out.2 hg))))
    clear d2 f2 hg
    go_wp2_with fail
    go_loopw [7, 8, 63] (fun xv tv iv wr => ∃ k x t : Nat, iv = .int .i64 (k : Int) ∧ xv = .int .u64 (x : Int) ∧ tv = .int .u64 (t : Int) ∧ k ≤ n ∧ FD wr g m a x t ∧ wr.heap[rb]? = some (.cells #[.int .u64 (m : Int), .int .u64 (a : Int)] 30 (0, 0)) ∧ Fr F0 w wr) (fun _ _ iv _ => n - (intOf iv).toNat)
    case atStart => exact ⟨0, 0, 0, rfl, rfl, rfl, Nat.zero_le _, H2.out.1, H2.out.2.2.1, H2.out.2.1⟩
    case round =>
      clear r2
      obtain ⟨k, x, t, rfl, rfl, rfl, hk, D, rr, F⟩ := hrel
      by_cases h1 : k < n
      · have l1 : (k : Int) < (n : Int) := by omega
        obtain ⟨b, off, q, now, ask, rfl, hq, hnow, hask, hld⟩ := HT.out.at_ k h1
        have lds := hld wr F
        have oS : rowOne #[Value.int .u64 (q : Int), .int .u64 (now : Int), .int .u64 (ask : Int)] := by unfold rowOne; kernel_rfl
        have k1 : IntKind.i64.wrap ((k : Int) + 1) = ((k + 1 : Nat) : Int) := by rw [IntWalk.i64_in _ (by omega)]; omega
        have HX := Lib.hid (show x < 18446744073709551616 by have := D.last; omega)
        have HD := Lib.hid D
        have HQ := Lib.hid (And.intro hq (And.intro hnow hask))
        have HF := Lib.hid (And.intro F h1)
        clear hld hq hnow hask D F h1 hk
        go_upto_region 13 with fail
        refine wp_put fun W3 N => ?_
        have rB := N.new
        have rr3 := N.old rr
        have nB := N.ne rr
        have nG := N.ne HD.out.at_
        have F3 := N.fr
        clear N lds rr
        obtain ⟨B, hB⟩ : ∃ g, wr.heap.size = g := ⟨_, rfl⟩
        rw [hB] at rB nB nG ⊢
        have H3 := Lib.hid (And.intro (HD.out.fr0 F3) (And.intro (HF.out.1.trans' F3) (And.intro nB nG)))
        clear hB F3 nB nG
        go_upto_block 2 with fail
        obtain ⟨E, hE⟩ : ∃ E, seE m x t q now = E := ⟨_, rfl⟩
        refine ob2 m a x t q now ask B rb HX.out HQ.out.1 HM.out E hE W3 rB rr3 (Lib.hid ?_)
        rename_i w4
        rintro ⟨rfl, f4⟩
        replace rB := keep_fr f4 rB
        replace rr3 := keep_fr f4 rr3
        have H4 := Lib.hid (And.intro (H3.out.1.fr0 f4) (And.intro (H3.out.2.1.trans' f4) H3.out.2.2))
        clear f4 H3 HD
        have HE := Lib.hid hE
        clear hE
        have HBo := Lib.hid (oBounds_any H4.out.1)
        obtain ⟨lo, hlo⟩ : ∃ n, loN m x = n := ⟨_, rfl⟩
        obtain ⟨hi, hhi⟩ : ∃ n, hiN m x = n := ⟨_, rfl⟩
        rw [hlo, hhi] at HBo
        have HLH := Lib.hid (And.intro hlo hhi)
        clear hlo hhi
        go_wp2_with fail
        (with_reducible refine HBo.out.mono ?_); rintro e w5 ⟨rfl, f5⟩
        replace rB := keep_fr f5 rB
        replace rr3 := keep_fr f5 rr3
        have H5 := Lib.hid (And.intro (H4.out.1.fr0 f5) (And.intro (H4.out.2.1.trans' f5) H4.out.2.2))
        clear f5 H4 HBo
        go_upto_region 21 with fail
        refine og21 m a x q now ask B rb lo hi HX.out HQ.out.1 HM.out HLH.out.1 HLH.out.2 w5 rB rr3 (Lib.hid ?_)
        rename_i w6
        rintro ⟨rfl, f6⟩
        replace rB := keep_fr f6 rB
        replace rr3 := keep_fr f6 rr3
        have H6 := Lib.hid (And.intro (H5.out.1.fr0 f6) (And.intro (H5.out.2.1.trans' f6) H5.out.2.2))
        clear f6 H5
        obtain ⟨x', t', hc, HS⟩ := oSet_any H6.out.1 q now
        rw [HE.out] at hc HS
        replace HS := Lib.hid HS
        go_wp2_with fail
        refine HS.out.mono ?_; rintro e w7 ⟨rfl, D7, f7⟩
        have rB7 := f7.keeps (show ¬ B = g from H6.out.2.2.2.symm) rB
        have rr7 := f7.keeps (show ¬ rb = g from Nat.ne_of_lt H2.out.2.2.2) rr3
        have H7 := Lib.hid (And.intro D7 (H6.out.2.1.feed f7 (Nat.le_trans (show w.heap.size ≤ rb from Nat.le_of_eq HR.out) (Nat.le_trans (Nat.le_succ rb) H2.out.2.2.2))))
        have h7 := D7.told
        clear f7 H6 rB rr3 HS HLH D7
        obtain ⟨bb, hbb⟩ : ∃ b, decide (0 < x') = b := ⟨_, rfl⟩
        obtain ⟨G, hG⟩ : ∃ G, prE a x' t' ask = G := ⟨_, rfl⟩
        obtain ⟨V, hV⟩ : ∃ V, prV a x' t' ask = V := ⟨_, rfl⟩
        have HP := Lib.hid (fun (W : World) (f : Fr F0 w7 W) => oPrice_any (H7.out.1.fr0 f) ask HQ.out.2.2)
        have HLa := Lib.hid (fun (W : World) (f : Fr F0 w7 W) => oLast_any (H7.out.1.fr0 f) bb hbb)
        have hp := pr_ways a x' t' ask
        rw [hG, hV] at HP hp
        have HG := Lib.hid (And.intro h7 hG)
        have HW := Lib.hid hp
        have HB := Lib.hid hbb
        clear hp hG hV hbb h7
        have HR7 := Lib.hid (And.intro rB7 rr7)
        rcases hc with ⟨he, hx2, ht2, hq1⟩ | ⟨he, hx2, ht2⟩
        · have hx2 := hx2.symm
          have ht2 := ht2.symm
          subst hx2
          subst ht2
          subst he
          have HO := Lib.hid hq1
          clear hq1
          go_wp2_with fail
          go_region
          go_wp2_with fail
          have FQ := Lib.hid (Fr.refl F0 w7).drew
          replace rB7 := (congrArg (fun h : Array Obj => h[B]?) (heap_drew w7)).trans HR7.out.1
          replace rr7 := (congrArg (fun h : Array Obj => h[rb]?) (heap_drew w7)).trans HR7.out.2
          (with_reducible refine (HP.out _ FQ.out).mono ?_); rintro e w8 ⟨rfl, f8⟩
          replace rB7 := keep_fr f8 rB7
          replace rr7 := keep_fr f8 rr7
          have F8 := Lib.hid (FQ.out.trans' f8)
          clear f8
          go_upto_block 3 with fail
          refine ob3 m a q now q now ask B rb HG.out.1 HQ.out.2.2 G HG.out.2 w8 rB7 rr7 (Lib.hid ?_)
          rename_i w9
          rintro ⟨rfl, hw⟩; replace hw := hw.symm; subst hw
          go_wp2_with fail
          (with_reducible refine (HLa.out _ F8.out).mono ?_); rintro e w10 ⟨rfl, f10⟩
          have H10 := Lib.hid (And.intro (H7.out.1.fr0 (F8.out.trans' f10)) (And.intro (H7.out.2.trans' (F8.out.trans' f10)) (keep_fr f10 rr7)))
          clear f10 rB7 rr7
          rcases HW.out with ⟨g1, g2, g3⟩ | ⟨g1, g2, g3⟩ | ⟨g1, g2, g3⟩
          · subst g1
            replace g2 := g2.symm
            subst g2
            have n4 : (0 : Int) < (q : Int) := by omega
            have o4 : decide ((0 : Int) < (q : Int)) = true := decide_eq_true n4
            obtain rfl : bb = true := by rw [← HB.out]; exact decide_eq_true g3
            go_wp2_with fail
            go_roundw
            case rel => exact ⟨k + 1, q, now, rfl, rfl, rfl, HF.out.2, H10.out.1, H10.out.2.2, H10.out.2.1⟩
            case measure => have := HF.out.2; simp [intOf]; omega
          · subst g2
            have n1 : (G == 0) = false := by rw [beq_eq_false_iff_ne]; exact g1
            have n2 : (G != 0) = true := by rw [bne_iff_ne]; exact g1
            have n3 : ((0 : Int) == (q : Int)) = false := by rw [beq_eq_false_iff_ne]; omega
            have n3n : (0 == q) = false := by rw [beq_eq_false_iff_ne]; omega
            have n4 : (0 : Int) < (q : Int) := by omega
            have o4 : decide ((0 : Int) < (q : Int)) = true := decide_eq_true n4
            obtain rfl : bb = true := by rw [← HB.out]; exact decide_eq_true g3
            go_wp2_with fail
            go_roundw
            case rel => exact ⟨k + 1, q, now, rfl, rfl, rfl, HF.out.2, H10.out.1, H10.out.2.2, H10.out.2.1⟩
            case measure => have := HF.out.2; simp [intOf]; omega
          · exact absurd HO.out (by omega)
        · have hx2 := hx2.symm
          have ht2 := ht2.symm
          subst hx2
          subst ht2
          have m1 : (E == 0) = false := by rw [beq_eq_false_iff_ne]; exact he
          go_wp2_with fail
          have FQ := Lib.hid (Fr.refl F0 w7)
          (with_reducible refine (HP.out _ FQ.out).mono ?_); rintro e w8 ⟨rfl, f8⟩
          replace rB7 := keep_fr f8 rB7
          replace rr7 := keep_fr f8 rr7
          have F8 := Lib.hid (FQ.out.trans' f8)
          clear f8
          go_upto_block 3 with fail
          refine ob3 m a x t q now ask B rb HG.out.1 HQ.out.2.2 G HG.out.2 w8 rB7 rr7 (Lib.hid ?_)
          rename_i w9
          rintro ⟨rfl, hw⟩; replace hw := hw.symm; subst hw
          go_wp2_with fail
          (with_reducible refine (HLa.out _ F8.out).mono ?_); rintro e w10 ⟨rfl, f10⟩
          have H10 := Lib.hid (And.intro (H7.out.1.fr0 (F8.out.trans' f10)) (And.intro (H7.out.2.trans' (F8.out.trans' f10)) (keep_fr f10 rr7)))
          clear f10 rB7 rr7
          rcases HW.out with ⟨g1, g2, g3⟩ | ⟨g1, g2, g3⟩ | ⟨g1, g2, g3⟩
          · subst g1
            replace g2 := g2.symm
            subst g2
            have n4 : (0 : Int) < (x : Int) := by omega
            have o4 : decide ((0 : Int) < (x : Int)) = true := decide_eq_true n4
            obtain rfl : bb = true := by rw [← HB.out]; exact decide_eq_true g3
            go_wp2_with fail
            go_roundw
            case rel => exact ⟨k + 1, x, t, rfl, rfl, rfl, HF.out.2, H10.out.1, H10.out.2.2, H10.out.2.1⟩
            case measure => have := HF.out.2; simp [intOf]; omega
          · subst g2
            have n1 : (G == 0) = false := by rw [beq_eq_false_iff_ne]; exact g1
            have n2 : (G != 0) = true := by rw [bne_iff_ne]; exact g1
            have n3 : ((0 : Int) == (x : Int)) = false := by rw [beq_eq_false_iff_ne]; omega
            have n3n : (0 == x) = false := by rw [beq_eq_false_iff_ne]; omega
            have n4 : (0 : Int) < (x : Int) := by omega
            have o4 : decide ((0 : Int) < (x : Int)) = true := decide_eq_true n4
            obtain rfl : bb = true := by rw [← HB.out]; exact decide_eq_true g3
            go_wp2_with fail
            go_roundw
            case rel => exact ⟨k + 1, x, t, rfl, rfl, rfl, HF.out.2, H10.out.1, H10.out.2.2, H10.out.2.1⟩
            case measure => have := HF.out.2; simp [intOf]; omega
          · subst g2
            subst g3
            have n1 : (G == 0) = false := by rw [beq_eq_false_iff_ne]; exact g1
            have n2 : (G != 0) = true := by rw [bne_iff_ne]; exact g1
            obtain rfl : bb = false := by rw [← HB.out]; rfl
            go_wp2_with fail
            go_roundw
            case rel => exact ⟨k + 1, 0, t, rfl, rfl, rfl, HF.out.2, H10.out.1, H10.out.2.2, H10.out.2.1⟩
            case measure => have := HF.out.2; simp [intOf]; omega
      · have l1 : ¬ (k : Int) < (n : Int) := by omega
        have hk2 : k = n := by omega
        subst hk2
        have HC := Lib.hid (oCopy_any D)
        have HS := Lib.hid (fun (W : World) (q' y : Nat) (d : FD W q' m a x t) => show ∃ x' t' : Nat, _ ∧ Calls Try.prog 7 #[.pointer (some ⟨q', 0, none⟩), .int .u64 (y : Int), .int .u64 1099511627776] W (OsQ W q' m a x' t' (seE m x t y 1099511627776)) from oSet_any d y 1099511627776)
        obtain ⟨bb, hbb⟩ : ∃ b, decide (0 < x) = b := ⟨_, rfl⟩
        have HLa := Lib.hid (fun (W : World) (f : Fr F0 wr W) => oLast_any (D.fr0 f) bb hbb)
        have HPn := Lib.hid (fun W => show Calls Try.prog 11 #[.pointer none, .int .u64 0] W _ from oPrice_nil 0 W)
        have HSn := Lib.hid (fun W => show Calls Try.prog 7 #[.pointer none, .int .u64 1, .int .u64 0] W _ from oSet_nil 1 0 W)
        have HF := Lib.hid F
        obtain ⟨y, hy⟩ : ∃ y, max x 1 = y := ⟨_, rfl⟩
        have q1 := fun ts t w => show (Builtin.max_ ts t #[.int .u64 (x : Int), .int .u64 1]).run Try.prog w = _ from run_omax ts t x 1 y hy w
        clear D F hk h1 hbb hy rr HL
        go_wp2_with fail
        (with_reducible refine HC.out.mono ?_); rintro e w3 ⟨q', rfl, d3, f3, hq'⟩
        have H3 := Lib.hid (And.intro f3 hq')
        obtain ⟨x', t', -, hs⟩ := HS.out w3 q' y d3
        have HS3 := Lib.hid hs
        generalize seE m x t y 1099511627776 = E at *
        clear d3 f3 hq' hs HS HC
        go_wp2_with fail
        refine HS3.out.mono ?_; rintro e w4 ⟨rfl, -, f4⟩
        have F4 := Lib.hid (H3.out.1.feed f4 H3.out.2)
        clear f4
        go_wp2_with fail
        (with_reducible refine (HLa.out _ F4.out).mono ?_); rintro e w5 ⟨rfl, f5⟩
        have F5 := Lib.hid (HF.out.trans' (F4.out.trans' f5))
        clear f5
        go_wp2_with fail
        (with_reducible refine (HPn.out _).mono ?_); rintro e w6 ⟨rfl, hw⟩; replace hw := hw.symm; subst hw
        go_wp2_with fail
        (with_reducible refine (oLast_nil _).mono ?_); rintro e w6 ⟨rfl, hw⟩; replace hw := hw.symm; subst hw
        go_wp2_with fail
        (with_reducible refine (oBounds_nil _).mono ?_); rintro e w6 ⟨rfl, hw⟩; replace hw := hw.symm; subst hw
        go_wp2_with fail
        (with_reducible refine (HSn.out _).mono ?_); rintro e w6 ⟨rfl, hw⟩; replace hw := hw.symm; subst hw
        go_wp2_with fail
        (with_reducible refine (oCopy_nil _).mono ?_); rintro e w6 ⟨rfl, hw⟩; replace hw := hw.symm; subst hw
        go_wp2_with fail
        go_ret
        exact ⟨rfl, F5.out⟩
  · have HN := Lib.hid (oNew_no m a hr)
    have hc : (1000 < m) ∨ (¬ 1000 < m ∧ 1099511627776 < a) := by omega
    clear hr
    rcases hc with c1 | ⟨c1, c2⟩
    · have l2 : (1000 : Int) < (m : Int) := by omega
      have d2 : decide ((1000 : Int) < (m : Int)) = true := decide_eq_true l2
      go_enter Try.func4, Try.ntmps4
      go_wp2_with fail
      (with_reducible refine (HL.out _).mono ?_); rintro e w1 ⟨rfl, f1⟩
      have r2 := keep_fr f1 FA.out.2.2
      have F1 := Lib.hid (FA.out.1.trans' f1)
      clear f1 hrb
      go_wp2_with fail
      (with_reducible refine (HN.out _).mono ?_); rintro e w2 ⟨rfl, f2⟩
      replace r2 := keep_fr f2 r2
      have F2 := Lib.hid (F1.out.trans' f2)
      clear f2
      go_wp2_with fail
      go_ret
      exact ⟨rfl, F2.out⟩
    · have l2 : ¬ (1000 : Int) < (m : Int) := by omega
      have d2 : decide ((1000 : Int) < (m : Int)) = false := decide_eq_false l2
      have l3 : (1099511627776 : Int) < (a : Int) := by omega
      have d3 : decide ((1099511627776 : Int) < (a : Int)) = true := decide_eq_true l3
      go_enter Try.func4, Try.ntmps4
      go_wp2_with fail
      (with_reducible refine (HL.out _).mono ?_); rintro e w1 ⟨rfl, f1⟩
      have r2 := keep_fr f1 FA.out.2.2
      have F1 := Lib.hid (FA.out.1.trans' f1)
      clear f1 hrb
      go_wp2_with fail
      (with_reducible refine (HN.out _).mono ?_); rintro e w2 ⟨rfl, f2⟩
      replace r2 := keep_fr f2 r2
      have F2 := Lib.hid (F1.out.trans' f2)
      clear f2
      go_wp2_with fail
      go_ret
      exact ⟨rfl, F2.out⟩
end Go.Proofs.Ytjpglipjmnbniaa

/- Arguments that are a feed's rules and tellings, opened. -/
namespace Go.Proofs.Ytjpglipjmnbniaa
set_option maxRecDepth 100000
set_option linter.unusedVariables false
set_option linter.unusedSimpArgs false
open Go.RowKit Go.ChangeShapes Go.WideShapes Go.Deep

theorem split3o (cs : List Value) (h : cs.length = 3) : cs = (cs.drop 0).take 1 ++ ((cs.drop 1).take 1 ++ (cs.drop 2).take 1) := by
  match cs, h with
  | [a, b, c], _ => rfl
theorem two_wordsO (cs : List Value) (z0 z1 : Int) (h0 : (cs.drop 0).take 1 = [.int .u64 z0]) (h1 : (cs.drop 1).take 1 = [.int .u64 z1]) (hl : cs.length = 2)
    (b0 : 0 ≤ z0 ∧ z0 < 18446744073709551616) (b1 : 0 ≤ z1 ∧ z1 < 18446744073709551616) :
    ∃ x y : Nat, (x < 18446744073709551616 ∧ y < 18446744073709551616) ∧ cs.toArray = #[.int .u64 (x : Int), .int .u64 (y : Int)] := by
  match cs, hl with
  | [c0, c1], _ =>
    simp at h0 h1
    subst h0 h1
    obtain ⟨x0, rfl⟩ := Int.eq_ofNat_of_zero_le b0.1
    obtain ⟨x1, rfl⟩ := Int.eq_ofNat_of_zero_le b1.1
    exact ⟨x0, x1, by omega, rfl⟩
section
variable {H : Type} {enc : TypeId × Value → H} {W : World} {base : Nat} {sp : Nat → Bool} {held : Bool}

theorem open_orules {r : Reach} {b0 : Nat} {v : Value} {d : DataW H} {ps : List MemPlace} (hd : DataW.Trod enc Try.prog W base sp held 30 v d ps) (hv : Value.okWide Try.prog W r b0 30 v) :
    ∃ x y : Nat, (x < 18446744073709551616 ∧ y < 18446744073709551616) ∧ v = .agg #[.int .u64 (x : Int), .int .u64 (y : Int)] := by
  simp only [Value.okWide, Try.underlying30] at hv
  obtain ⟨cs, rfl, hs, _⟩ := hv
  obtain ⟨fuel, hf⟩ := hd
  obtain ⟨xs, n, _, _, hl, hlen, hc⟩ := DataW.trod_struct Try.underlying30 hf
  have hc2 : Try.prog.cellsOf 30 = 2 := by kernel_rfl
  have hc1 : Try.prog.cellsOf 22 = 1 := by kernel_rfl
  match xs, hlen with
  | [y0, y1], _ =>
    have h0 : DataW.trod enc Try.prog W base sp held n 22 ((cs.toList.drop 0).take (Try.prog.cellsOf 22)) = some y0 := hc 0 _ rfl
    have h1 : DataW.trod enc Try.prog W base sp held n 22 ((cs.toList.drop 1).take (Try.prog.cellsOf 22)) = some y1 := hc 1 _ rfl
    rw [hc1] at h0 h1
    obtain ⟨z0, e0, _, w0⟩ := DataW.trod_int Try.underlying22 h0
    obtain ⟨z1, e1, _, w1⟩ := DataW.trod_int Try.underlying22 h1
    obtain ⟨x, y, hb, ex⟩ := two_wordsO cs.toList z0 z1 e0 e1 (by rw [← hc2, ← hl]; rfl) (bounds_u64' w0) (bounds_u64' w1)
    exact ⟨x, y, hb, by rw [← ex]⟩
end
section
variable {H : Type} {enc : TypeId × Value → H} {w : World} {base : Nat} {spare : Nat → Bool} {held : Bool}

set_option maxRecDepth 100000 in
theorem cells_tell {fuel : Nat} {cs : List Value} {y : DataW H × List MemPlace} (hf : DataW.trod enc Try.prog w base spare held fuel 39 cs = some y) : ∃ q now ask : Nat, q < 18446744073709551616 ∧ now < 18446744073709551616 ∧ ask < 18446744073709551616 ∧ cs = [.int .u64 (q : Int), .int .u64 (now : Int), .int .u64 (ask : Int)] := by
  obtain ⟨xs, n, _, _, hl, hlen, hc⟩ := DataW.trod_struct Try.underlying39 hf
  have h4 : Try.prog.cellsOf 39 = 3 := by kernel_rfl
  have h1 : Try.prog.cellsOf 23 = 1 := by kernel_rfl
  have h2 : Try.prog.cellsOf 22 = 1 := by kernel_rfl
  match xs, hlen with
  | [y0, y1, y2], _ =>
    have k0 : DataW.trod enc Try.prog w base spare held n 23 ((cs.drop 0).take (Try.prog.cellsOf 23)) = some y0 := hc 0 _ rfl
    have k1 : DataW.trod enc Try.prog w base spare held n 22 ((cs.drop 1).take (Try.prog.cellsOf 22)) = some y1 := hc 1 _ rfl
    have k3 : DataW.trod enc Try.prog w base spare held n 22 ((cs.drop 2).take (Try.prog.cellsOf 22)) = some y2 := hc 2 _ rfl
    rw [h1] at k0
    rw [h2] at k1 k3
    have hl' : cs.length = 3 := by rw [← h4, ← hl]
    obtain ⟨x0, e0, _, w0⟩ := DataW.trod_int Try.underlying23 k0
    obtain ⟨x1, e1, _, w1⟩ := DataW.trod_int Try.underlying22 k1
    obtain ⟨x3, e3, _, w3⟩ := DataW.trod_int Try.underlying22 k3
    have b0 : 0 ≤ x0 ∧ x0 ≤ 18446744073709551615 := bounds_u64 w0
    have b1 : 0 ≤ x1 ∧ x1 ≤ 18446744073709551615 := bounds_u64 w1
    have b3 : 0 ≤ x3 ∧ x3 ≤ 18446744073709551615 := bounds_u64 w3
    obtain ⟨n0, rfl⟩ := Int.eq_ofNat_of_zero_le b0.1
    obtain ⟨n1, rfl⟩ := Int.eq_ofNat_of_zero_le b1.1
    obtain ⟨n3, rfl⟩ := Int.eq_ofNat_of_zero_le b3.1
    refine ⟨n0, n1, n3, by omega, by omega, by omega, ?_⟩
    have := split3o cs hl'
    rw [e0, e1, e3] at this
    rw [this]
    rfl
set_option maxRecDepth 100000 in
theorem open_tells {fuel : Nat} {a : Option Addr} {n c : Nat} {x : DataW H × List MemPlace} (h : DataW.trod enc Try.prog w base spare held fuel 37 [.slice a n c] = some x) : TellsD w a n := by
  rcases open_slice Try.underlying37 h with ⟨hcs, _⟩ | ⟨ad, len, cap, m, k, D, Pl, hcs, _, hl, hm, hmm, _, hi⟩
  · simp only [List.cons.injEq, Value.slice.injEq, and_true] at hcs
    obtain ⟨rfl, rfl, rfl⟩ := hcs
    exact ⟨fun k hk => absurd hk (by omega)⟩
  · simp only [List.cons.injEq, Value.slice.injEq, and_true] at hcs
    obtain ⟨rfl, rfl, rfl⟩ := hcs
    have hnm : n ≤ m := by rw [hmm]; split <;> omega
    have hC : Try.prog.cellsOf 39 = 3 := by kernel_rfl
    refine ⟨fun k hk => ?_⟩
    obtain ⟨cs, h1, h2⟩ := hi k (by omega)
    rw [hC] at h1
    obtain ⟨_, hlen, hat⟩ := World.cells?_some h1
    obtain ⟨q, now, ask, hq, hn, hz, rfl⟩ := cells_tell h2
    obtain ⟨cs0, g1, g2⟩ := hi 0 (by omega)
    rw [hC] at g1
    obtain ⟨_, glen, gat⟩ := World.cells?_some g1
    have hs0 := World.cell?_spot ((gat 0 (by omega)).trans (List.getElem?_eq_getElem (show 0 < cs0.length by omega)))
    obtain ⟨b, off, spot⟩ := ad
    simp [Addr.add] at hs0
    subst hs0
    refine ⟨b, off, q, now, ask, rfl, hq, hn, hz, fun W f => ?_⟩
    exact run_loadAt_mid (P := Try.prog) W b (off + k * 3) 39 [.int .u64 (q : Int), .int .u64 (now : Int), .int .u64 (ask : Int)] _ (fun j u hj => by
      have hj' : j < 3 := by have := (List.getElem?_eq_some_iff.1 hj).1; simpa using this
      have := (hat j hj').trans hj
      rw [Addr.add_lit, Addr.add_lit] at this
      exact f.cell (fun e => e) this) Try.underlying39 rfl (by rw [Try.szOTell]; rfl)
end
theorem oraclePlays_at (m a : Nat) (ad : Option Addr) (n c : Nat) (h : m < 18446744073709551616 ∧ a < 18446744073709551616) (w : World) (h1 : TellsD w ad n) :
    Calls Try.prog 4 #[.agg #[.int .u64 (m : Int), .int .u64 (a : Int)], .slice ad n c] w fun e w' => e = .returned (.bool true) ∧ Fr F0 w w' := oraclePlays_any h.1 h.2 h1
end Go.Proofs.Ytjpglipjmnbniaa

/- Layer 17 (oracle): all that its two laws need. -/
namespace Go.Proofs.Ytjpglipjmnbniaa
set_option maxRecDepth 100000
end Go.Proofs.Ytjpglipjmnbniaa
