import Derived.Test.YtedffdlkmpmdlaaGreatDoorFz18
import Derived.Test.YtedffdlkmpmdlaaGreatDoorFz16
import Derived.Test.YtedffdlkmpmdlaaGreatDoorFz13
import Derived.Test.YtedffdlkmpmdlaaGreatDoorFz19
set_option maxRecDepth 100000
set_option maxHeartbeats 64000000
namespace Go.Proofs.YtedffdlkmpmdlaaGreatDoor
set_option maxRecDepth 100000
set_option linter.unusedVariables false
set_option linter.unusedSimpArgs false
open Go.RowKit
def Fh0 : Hd := { ver := 1,ahead := zero7,root := zero7,time := 1000,bits := 545259519,nonce := 0 }
theorem Fh0.ok : Fh0.Ok := ⟨by decide,rfl,rfl,by decide,by decide,by decide⟩
def Fh : Hd := Fh0.with 1
theorem Fh.ok : Fh.Ok := ⟨by decide,rfl,rfl,by decide,by decide,by decide⟩
def hashF0 : List UInt8 := [61,203,117,189,137,197,20,104,21,221,192,209,215,49,76,183,70,25,253,247,43,253,106,115,55,132,161,91,255,182,29,187]
def hashF : List UInt8 := [64,212,44,169,105,242,46,26,213,113,80,86,103,22,131,220,56,26,102,175,166,60,188,192,220,97,234,162,38,110,30,39]
theorem Fh0.sum : sha2 (Fh0.with 0).bytes = hashF0 := by
 rw [sha2,sha_is,sha_is]
 decide +kernel
theorem Fh.sum : sha2 Fh.bytes = hashF := by
 rw [sha2,sha_is,sha_is]
 decide +kernel
theorem Fh0.meets : mtH (Fh0.with 0) = false := by
 rw [mtH,hsh,Fh0.sum]
 decide +kernel
theorem Fh.meets : mtH (Fh0.with 1) = true := by
 rw [mtH,hsh,show Fh0.with 1 = Fh from rfl,Fh.sum]
 decide +kernel
theorem Fh.mine : mineN Fh0 1000 0 = some 1 := by
 rw [show (1000 : Nat) = 999 + 1 from rfl,mineN,Fh0.meets,if_neg (by decide),if_neg (by decide),show (999 : Nat) = 998 + 1 from rfl,mineN,show (0 + 1 : Nat) = 1 from rfl,Fh.meets,if_pos rfl]
theorem Fh.mineH : mineH Fh0 1000 = Fh ∧ mineO Fh0 1000 = true := by
 unfold Go.Proofs.YtedffdlkmpmdlaaGreatDoor.mineH mineO
 rw [show Fh0.nonce = 0 from rfl,Fh.mine]
 exact ⟨rfl,rfl⟩
def buildRuT (parts : Array (Nat × Value)) : Sem Value := Instr.build 29 parts
@[go_sem ↓ high] theorem build_rulesT (p : Array (Nat × Value)) : Instr.build 29 p = buildRuT p := rfl
theorem run_buildRuT (w : World) (parts : Array (Nat × Value)) (cells : Array Value) (h : Tryz.prog.built 29 parts.toList = some cells) : (buildRuT parts).run Tryz.prog w = .ok (.agg cells) w := run_build w _ parts cells h
def ruC (e s k : Nat) : Array Value := (Value.int .i64 (e : Int) :: .int .u32 (s : Int) :: .int .u32 545259519 :: .int .i64 (k : Int) :: Fh.cells.toList).toArray
theorem ruC_of (e s k : Nat) (hs : s < 4294967296) : RuOf (ruC e s k) e s 545259519 k := by
 refine ⟨rfl,rfl,rfl,rfl,rfl,?_,hs,by omega⟩
 unfold rowOne; kernel_rfl
theorem built_ruC (e s k : Nat) : Tryz.prog.built 29 [(0,.int .i64 (e : Int)),(1,.int .u32 (s : Int)),(2,.int .u32 545259519),(3,.int .i64 (k : Int)),(4,.agg Fh.cells)] = some (ruC e s k) := by
 kernel_rfl
theorem built_fh0 : Tryz.prog.built 27 [(0,.int .u32 1),(3,.int .u32 1000),(4,.int .u32 545259519)] = some Fh0.cells := by kernel_rfl
theorem Rules12_any (HM : HMineC) (every confirm : Int) (span : Nat) (he : -9223372036854775808 ≤ every ∧ every ≤ 9223372036854775807) (hk : -9223372036854775808 ≤ confirm ∧ confirm ≤ 9223372036854775807) (hs : span < 4294967296) (w : World) (hcub : Cub w) :
  Calls Tryz.prog 9 #[.int .i64 every,.int .u32 (span : Int),.int .i64 confirm] w fun e w' => e = .returned (.agg (ruC (2 + (every % 18446744073709551616).toNat % 6) (1 + span % 1000) (1 + (confirm % 18446744073709551616).toNat % 4))) ∧ Fr F0 w w' := by
 have HC := Lib.hid hcub
 have H1 := Lib.hid (HM Fh0 Fh0.ok 1000 (by omega))
 rw [Fh.mineH.1,Fh.mineH.2] at H1
 change Hid (∀ w,Cub w → Calls Tryz.prog 31 #[.agg Fh0.cells,.int .u32 1000] w fun e w' => e = .returned (.tuple #[.agg Fh.cells,.bool true]) ∧ Fr F0 w w') at H1
 have hb0 : ∀ w,(buildHd #[(0,.int .u32 1),(3,.int .u32 1000),(4,.int .u32 545259519)]).run Tryz.prog w = .ok (.agg Fh0.cells) w := fun w => run_buildHd w _ _ built_fh0
 obtain ⟨q1,hq1⟩ : ∃ q : Nat,q = (every % 18446744073709551616).toNat := ⟨_,rfl⟩
 obtain ⟨q2,hq2⟩ : ∃ q : Nat,q = (confirm % 18446744073709551616).toNat := ⟨_,rfl⟩
 have m1 : IntKind.u64.wrap every = (q1 : Int) := by rw [IntKind.wrap_u64]; omega
 have m2 : IntKind.u64.wrap confirm = (q2 : Int) := by rw [IntKind.wrap_u64]; omega
 rw [← hq1,← hq2]
 have hb1 : ∀ w,(buildRuT #[(0,.int .i64 (2 + (q1 : Int) % 6)),(1,.int .u32 (1 + (span : Int) % 1000)),(2,.int .u32 545259519),(3,.int .i64 (1 + (q2 : Int) % 4)),(4,.agg Fh.cells)]).run Tryz.prog w = .ok (.agg (ruC (2 + q1 % 6) (1 + span % 1000) (1 + q2 % 4))) w := fun w => by
  rw [show 2 + (q1 : Int) % 6 = ((2 + q1 % 6 : Nat) : Int) by omega,show 1 + (span : Int) % 1000 = ((1 + span % 1000 : Nat) : Int) by omega,show 1 + (q2 : Int) % 4 = ((1 + q2 % 4 : Nat) : Int) by omega]
  exact run_buildRuT w _ _ (built_ruC _ _ _)
 have s0 : Fh0.cells.size = 68 := rfl
 have s1 : Fh.cells.size = 68 := rfl
 have s2 : (ruC (2 + q1 % 6) (1 + span % 1000) (1 + q2 % 4)).size = 72 := rfl
 have o1 : rowOne Fh.cells := Hd.one
 have o2 := (ruC_of (2 + q1 % 6) (1 + span % 1000) (1 + q2 % 4) (by omega)).one
 generalize ruC (2 + q1 % 6) (1 + span % 1000) (1 + q2 % 4) = R at *
 generalize Fh.cells = C at *
 generalize Fh0.cells = C0 at *
 clear hcub HM hq1 hq2 he hk
 go_enter Tryz.func9,Tryz.ntmps9
 have zz : Tryz.zeroCells29.size = 72 := by kernel_rfl
 go_wp2_with fail
 generalize Tryz.zeroCells29 = Z at *
 refine calls_new fun W1 N1 => ?_
 have r0 := N1.new
 have F := N1.fr
 have hg0 : ∃ g0,g0 = w.heap.size := ⟨_,rfl⟩
 obtain ⟨g0,hg0⟩ := hg0
 rw [← hg0] at r0 ⊢
 replace hg0 := Lib.hid hg0
 clear N1
 (with_reducible refine (H1.out _ (HC.out.fr F fun f => f)).mono ?_); rintro e w2 ⟨rfl,f⟩
 replace r0 := keep_fr f r0
 replace F := F.trans' f
 clear f
 go_upto_region 2 with fail
 refine wp_put fun W2 N2 => ?_
 have r1 := N2.new
 have ne := N2.ne r0
 replace r0 := N2.old r0
 replace F := F.trans' N2.fr
 generalize w2.heap.size = g1 at *
 clear N2
 go_wp2_with fail
 refine bodyPost_ret (results_cell_row rfl _ _ g0 _ _ _ _ rfl (by rw [heap_setRow_at,r0]; rfl) Tryz.underlying29 rfl (by rw [Tryz.szRules,s2])) rfl ⟨rfl,?_⟩
 exact F.setRow (fun h => by have := hg0.out; omega) _
end Go.Proofs.YtedffdlkmpmdlaaGreatDoor
namespace Go.Proofs.YtedffdlkmpmdlaaGreatDoor
set_option maxRecDepth 100000
set_option linter.unusedVariables false
set_option linter.unusedSimpArgs false
def hw0 : List Nat := [1087646889,1777479194,3580973142,1729528796,941254319,2788998336,3697404578,644750887]
theorem hw0_ok : hw0.length = 8 ∧ (∀ x ∈ hw0,x < 2 ^ 32) ∧ hw0.flatMap byN = hashF := by decide +kernel
def lan : List Nat := List.range 256
def one8 : Nat := pf lan fun _ => 1
def all8 : Nat := mk32 lan
def N1 : List Nat := [0,0,3,2,0,0,0,1,0,0,1,1,3,0,5,2,1,0,0,2,2,3,3,0,1,3,2,2,0,1,0,1,0,0,2,0,0,7,1,2,1,1,1,1,0,1,1,0,1,1,1,3,1,0,0,2,1,0,0,1,1,2,2,3,0,0,3,0,1,3,2,4,1,1,0,0,0,5,0,2,0,0,1,0,1,0,0,0,5,3,1,2,2,0,0,4,1,2,1,0,1,0,1,0,0,0,1,0,0,4,0,0,0,1,0,1,7,0,1,2,0,0,3,0,3,0,0,3,0,0,1,3,2,0,1,4,0,0,0,0,0,0,0,1,1,1,2,1,2,0,1,0,0,0,0,0,0,2,1,0,1,0,1,0,2,0,0,1,0,0,0,2,5,1,3,1,1,0,3,1,0,0,2,0,1,2,0,2,0,1,0,0,2,2,2,0,0,0,0,0,0,0,1,2,1,0,1,1,0,1,0,1,0,0,3,2,0,0,7,0,1,0,0,2,0,1,0,0,2,1,1,2,1,2,1,0,3,1,3,0,2,0,1,0,2,1,1,2,0,0,0,0,0,0,3,1]
def K1 : List Nat := [246694224,780067686,1895641159,3719751418,2678884405,3952566394,1901680964,557551441,4174403347,1015682603,1615999477,974722925,3906825392,31768508,2729957648,1658405961,1718283624,26892314,2391411284,2785020682,3434596271,2105979807,3258349603,316530235,979622814,2402940801,3389288058,371315236,2637325614,4013752860,20773165,3645739961,3554503868,726885378,1462567126,814087279,662179922,699034308,4019104363,945225941,220100930,3053504267,3550687848,3033443216,2166881869,760211526,9677517,4117890930,3135495130,1280010192,3523522744,2206086710,2192704301,374408026,2380099137,2646044295,976051842,784623798,4144728283,2395653743,696708050,3614946714,1627581766,2898813748,1923354670,1575032041,3493602745,1623188462,362691399,3393147388,2569663114,731093703,1241813332,651709319,2157732606,3173399538,687670412,1238532844,1753516083,4240634974,1344977382,877766783,2709074659,3971061876,1464794772,2986647089,136748001,3971193858,2967420293,643864403,530030049,2909111280,3007355377,1451543838,4239578984,3035264835,2067688817,586683006,3933814329,1048877177,2283030234,148027256,2500063864,2291589479,986531243,4233693306,713864739,283590084,1948401656,1934558510,3043588886,3393673458,1411086292,31053621,3124383555,2994034397,372416030,2298386290,2439957406,2658938536,2891924222,3616888164,1502462407,2976673674,4170260032,593935301,2217469927,726669708,3371016648,1013487404,2376568548,507467149,2362213122,528264164,760622919,4114802854,3041622466,3195987243,3097421426,2300811983,1550687693,3143811323,991248921,2144328280,1568069305,2053183260,554306992,2678284943,2417001041,2530090109,4114657520,2982093406,1173132138,1138905578,3006163009,3153507438,1027643556,1148577685,2537677194,1014719360,1898974806,1219812406,2666671314,552321412,1528681493,4215055303,278170890,2911262412,2439809540,3784476117,1912841750,4142865264,2923822958,3275893521,670376164,1747271761,3233785422,2956380808,383831592,370057471,2526212117,3815610201,3657965277,432583507,3858477730,2074823847,2546557202,2664343851,2534876108,2062065081,954568279,1151257775,2360966144,4147630730,2493149333,2687844430,3995294743,6435807,2198377171,2922888438,2632169834,3861437570,149278933,953889304,1384136096,147576411,1417585146,998967013,1249718221,2717201675,1049525438,1151896630,3368167757,2421698997,3201351860,810584637,3634173535,754861379,2469999672,3928478468,499228191,892599510,2434604564,4246347619,1820264133,2223033816,884987708,1488093858,2294055089,2355050922,2437714116,691872802,2705152230,1950626257,3536967112,3570937387,2318673152,3679927151,3642621782,4113181326,3326887474,3920671502,452937881,1250024730,4180989657,2121386969,3797749096,1248448808,3669747367,3499090010,3798378295,452667461,4279881228,2603246108,232285825,4210394197]
def fN1 (s : Nat) : Nat := N1.getD s 0
def ro8 (s : Nat) : UInt8 := UInt8.ofNat s
def mid1 : List Nat := vM all8 one8 (hw0.map fun c => Nat.mul c one8) (pf lan fun s => wd4 (ro8 s) 0 0 0)
def ah1 (s : Nat) : List Nat := hsW hw0 (ro8 s) 1010 (fN1 s)
def out1 : List Nat := vN all8 one8 mid1 1010 (pf lan fun s => leW (fN1 s))
theorem N1_map : lan.map fN1 = N1 := by decide +kernel
theorem K1_map : (lan.map fun s => K1.getD s 0) = K1 := by decide +kernel
theorem N1_lt : ∀ s ∈ lan,fN1 s < 8 := by decide +kernel
theorem hw0_vec : (hw0.map fun c => Nat.mul c one8) = vec lan fun _ => hw0 := by
 unfold vec hw0 one8
 simp only [List.map_cons,List.map_nil,← pf_const]
 rfl
theorem chk_1 : chks all8 one8 mid1 1010 N1 (List.range 8) = true := by decide +kernel
theorem key_1 : keys (out1.getD 0 0) K1 = true := by decide +kernel
theorem mid1_is (n : Nat → Nat) : mid1 = vec lan fun s => hs1 hw0 (ro8 s) 1010 (n s) := by
 unfold mid1
 rw [hw0_vec]
 exact vM_is lan (fun _ => hw0_ok.1) (fun _ => hw0_ok.2.1) ro8 1010 n
theorem out1_is : out1 = vec lan ah1 := by
 unfold out1
 rw [mid1_is fN1]
 exact vN_is lan (fun _ => hw0_ok.1) (fun _ => hw0_ok.2.1) ro8 1010 fN1
theorem first_mined : ∀ s,s < 256 → mineN (lh hw0 (ro8 s) 1010 0) 400 0 = some (fN1 s) ∧ (ah1 s).getD 0 0 = K1.getD s 0 := by
 intro s hs
 have hm : s ∈ lan := List.mem_range.2 hs
 refine ⟨mined lan (ah := fun _ => hw0) (fun _ => hw0_ok.1) (fun _ => hw0_ok.2.1) ro8 1010 fN1 8 (by decide) ?_ N1_lt s hm,?_⟩
 ·rw [N1_map,← hw0_vec]
  exact chk_1
 ·have h := key_1
  rw [out1_is,vec_get lan _ 0 (by omega),← K1_map] at h
  exact keys_is lan (fun s => by
   show (ah1 s).getD 0 0 < 2 ^ 64
   rw [List.getD_eq_getElem?_getD]
   cases h : (ah1 s)[0]? with
   |none => exact (by decide : 0 < 2 ^ 64)
   |some x => exact Nat.lt_trans ((hsW_ok _ _ _ _).2 x (List.mem_of_getElem? h)) (by decide)) h s hm
end Go.Proofs.YtedffdlkmpmdlaaGreatDoor
