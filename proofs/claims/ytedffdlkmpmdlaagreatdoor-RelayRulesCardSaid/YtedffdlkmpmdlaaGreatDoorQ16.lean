import Derived.Test.YtedffdlkmpmdlaaGreatDoorQ15
import Derived.Test.YtedffdlkmpmdlaaGreatDoorQ10
import Derived.ProofKit
import Derived.LaidMore
import Derived.OpenShut
import Derived.Stop.Joined
import Derived.MakeChecks
import Derived.FnData
set_option maxRecDepth 100000
set_option maxHeartbeats 64000000
namespace Go.Proofs.YtedffdlkmpmdlaaGreatDoor
set_option maxRecDepth 100000
set_option linter.unusedVariables false
set_option linter.unusedSimpArgs false
open Go.RowKit
theorem Double_any (a : Option Addr) (n c : Nat) (bs : List UInt8) (hn : n = bs.length) (hl : bs.length ≤ 140737488355000) (w : World) (h : Bs w a c bs) (hcub : Cub w) :
  Calls Tryz.prog 50 #[.slice a n c] w fun e w' => e = .returned (.agg ((sha2 bs).map B8).toArray) ∧ Fr F0 w w' := by
 subst hn
 have hz1 : ((sha bs).map B8).toArray.size = 32 := by simp [sha_length]
 have hz2 : ((sha2 bs).map B8).toArray.size = 32 := by simp [sha2,sha_length]
 have HB := Lib.hid h
 have HC := Lib.hid hcub
 clear h hcub
 go_enter Tryz.func50,Tryz.ntmps50
 go_wp2_with fail
 refine (Sum_any a _ c bs rfl hl _ (Sl.fr HB.out ((Fr.refl F0 w).alloc _) fun _ _ f => f) (HC.out.fr ((Fr.refl F0 w).alloc _) fun f => f)).mono ?_
 rintro e w1 ⟨rfl,h1⟩
 have h1s := h1.size
 simp only [World.size_alloc] at h1s
 go_wp2_with (refine wpList_store_row rfl 25 (.tmp 3) (.tmp 5) rfl w1.heap.size _ rfl rfl 25 _ (heap_alloc_new w1 _) (by rw [Tryz.sz32,hz1]) (by rw [hz1]; rfl) (oneB_map _) ?_)
 generalize hY : w1.heap.size = Y at *
 have hF2 : Fr F0 w ((w1.alloc (.cells #[.int .u8 0,.int .u8 0,.int .u8 0,.int .u8 0,.int .u8 0,.int .u8 0,.int .u8 0,.int .u8 0,.int .u8 0,.int .u8 0,.int .u8 0,.int .u8 0,.int .u8 0,.int .u8 0,.int .u8 0,.int .u8 0,.int .u8 0,.int .u8 0,.int .u8 0,.int .u8 0,.int .u8 0,.int .u8 0,.int .u8 0,.int .u8 0,.int .u8 0,.int .u8 0,.int .u8 0,.int .u8 0,.int .u8 0,.int .u8 0,.int .u8 0,.int .u8 0] 25)).setRow Y ((sha bs).map B8).toArray) := ((((Fr.refl F0 w).alloc _).trans' h1).alloc _).setRow (fun h => by omega) _
 have hY2 := setRow_heap _ _ _ ((sha bs).map B8).toArray _ _ (show (w1.alloc (.cells #[.int .u8 0,.int .u8 0,.int .u8 0,.int .u8 0,.int .u8 0,.int .u8 0,.int .u8 0,.int .u8 0,.int .u8 0,.int .u8 0,.int .u8 0,.int .u8 0,.int .u8 0,.int .u8 0,.int .u8 0,.int .u8 0,.int .u8 0,.int .u8 0,.int .u8 0,.int .u8 0,.int .u8 0,.int .u8 0,.int .u8 0,.int .u8 0,.int .u8 0,.int .u8 0,.int .u8 0,.int .u8 0,.int .u8 0,.int .u8 0,.int .u8 0,.int .u8 0] 25)).heap[Y]? = some (.cells _ 25 (0,0)) by rw [← hY]; exact heap_alloc_new w1 _)
 have hR : ∃ cs,((w1.alloc (.cells #[.int .u8 0,.int .u8 0,.int .u8 0,.int .u8 0,.int .u8 0,.int .u8 0,.int .u8 0,.int .u8 0,.int .u8 0,.int .u8 0,.int .u8 0,.int .u8 0,.int .u8 0,.int .u8 0,.int .u8 0,.int .u8 0,.int .u8 0,.int .u8 0,.int .u8 0,.int .u8 0,.int .u8 0,.int .u8 0,.int .u8 0,.int .u8 0,.int .u8 0,.int .u8 0,.int .u8 0,.int .u8 0,.int .u8 0,.int .u8 0,.int .u8 0,.int .u8 0] 25)).setRow Y ((sha bs).map B8).toArray).heap[w.heap.size]? = some (.cells cs 25 (0,0)) ∧ cs.size = 32 := ⟨_,by rw [setRow_other _ _ _ _ (by omega),heap_alloc_old _ _ (by omega)]; exact h1.keeps (fun f => f) (heap_alloc_new w _),rfl⟩
 generalize (w1.alloc (.cells #[.int .u8 0,.int .u8 0,.int .u8 0,.int .u8 0,.int .u8 0,.int .u8 0,.int .u8 0,.int .u8 0,.int .u8 0,.int .u8 0,.int .u8 0,.int .u8 0,.int .u8 0,.int .u8 0,.int .u8 0,.int .u8 0,.int .u8 0,.int .u8 0,.int .u8 0,.int .u8 0,.int .u8 0,.int .u8 0,.int .u8 0,.int .u8 0,.int .u8 0,.int .u8 0,.int .u8 0,.int .u8 0,.int .u8 0,.int .u8 0,.int .u8 0,.int .u8 0] 25)).setRow Y ((sha bs).map B8).toArray = w2 at *
 obtain ⟨cs,hR,hRz⟩ := hR
 have hx := Bs.of_row hY2 (by rw [sha_length]; unfold maxLen; omega)
 rw [sha_length] at hx
 refine (Sum_any _ 32 32 (sha bs) (sha_length _).symm (by rw [sha_length]; omega) _ hx (HC.out.fr hF2 fun f => f)).mono ?_
 rintro e w3 ⟨rfl,h3⟩
 go_wp2_with (refine wpList_store_row rfl 25 (.tmp 2) (.tmp 7) rfl w.heap.size _ rfl rfl 25 _ (h3.keeps (fun f => f) hR) (by rw [Tryz.sz32]; exact congrArg some hz2.symm) (by rw [hRz]; exact hz2.symm) (oneB_map _) ?_)
 refine bodyPost_ret (results_cell_row rfl _ _ w.heap.size _ _ _ _ rfl (setRow_heap _ _ _ _ _ _ (h3.keeps (fun f => f) hR)) Tryz.underlying25 rfl (by rw [Tryz.sz32]; exact congrArg some hz2.symm)) rfl ⟨rfl,?_⟩
 exact (hF2.trans' h3).setRow (fun h => by omega) _
end Go.Proofs.YtedffdlkmpmdlaaGreatDoor
namespace Go.Proofs.YtedffdlkmpmdlaaGreatDoor
set_option maxRecDepth 100000
set_option linter.unusedVariables false
set_option linter.unusedSimpArgs false
def rN (x k j : Nat) : Nat := Nat.lor (Nat.shiftRight x k) (Nat.mod (Nat.shiftLeft x j) 4294967296)
theorem rN_rotr (x : Wd) (k : Nat) : (rotr x k).toNat = rN x.toNat k (32 - k) := by
 unfold rotr rN
 rw [BitVec.toNat_or,BitVec.toNat_ushiftRight,BitVec.toNat_shiftLeft]
 rfl
def s0N (x : Nat) : Nat := Nat.xor (Nat.xor (rN x 7 25) (rN x 18 14)) (Nat.shiftRight x 3)
def s1N (x : Nat) : Nat := Nat.xor (Nat.xor (rN x 17 15) (rN x 19 13)) (Nat.shiftRight x 10)
theorem s0N_sig0 (x : Wd) : (sig0 x).toNat = s0N x.toNat := by
 unfold sig0 s0N
 rw [BitVec.toNat_xor,BitVec.toNat_xor,rN_rotr,rN_rotr,BitVec.toNat_ushiftRight]
 rfl
theorem s1N_sig1 (x : Wd) : (sig1 x).toNat = s1N x.toNat := by
 unfold sig1 s1N
 rw [BitVec.toNat_xor,BitVec.toNat_xor,rN_rotr,rN_rotr,BitVec.toNat_ushiftRight]
 rfl
def nxN (a b c d : Nat) : Nat := Nat.mod (Nat.add (Nat.add (Nat.add a (s0N b)) c) (s1N d)) 4294967296
theorem nxN_is (a b c d : Wd) : (a + sig0 b + c + sig1 d).toNat = nxN a.toNat b.toNat c.toNat d.toNat := by
 show _ = (a.toNat + s0N b.toNat + c.toNat + s1N d.toNat) % 4294967296
 simp only [BitVec.toNat_add,s0N_sig0,s1N_sig1,Nat.mod_add_mod]
def t1N (e f g h k w : Nat) : Nat := Nat.add (Nat.add (Nat.add (Nat.add h (Nat.xor (Nat.xor (rN e 6 26) (rN e 11 21)) (rN e 25 7))) (Nat.xor (Nat.land e f) (Nat.land (Nat.sub 4294967295 e) g))) k) w
def t2N (a b c : Nat) : Nat := Nat.add (Nat.xor (Nat.xor (rN a 2 30) (rN a 13 19)) (rN a 22 10)) (Nat.xor (Nat.xor (Nat.land a b) (Nat.land a c)) (Nat.land b c))
theorem t1N_is (e f g h k w : Wd) : (h + (rotr e 6 ^^^ rotr e 11 ^^^ rotr e 25) + (e &&& f ^^^ ~~~ e &&& g) + k + w).toNat = t1N e.toNat f.toNat g.toNat h.toNat k.toNat w.toNat % 4294967296 := by
 show _ = (h.toNat + ((rN e.toNat 6 26 ^^^ rN e.toNat 11 21) ^^^ rN e.toNat 25 7) + ((e.toNat &&& f.toNat) ^^^ ((4294967295 - e.toNat) &&& g.toNat)) + k.toNat + w.toNat) % 4294967296
 simp only [BitVec.toNat_add,BitVec.toNat_xor,BitVec.toNat_and,BitVec.toNat_not,rN_rotr,Nat.mod_add_mod]
theorem t2N_is (a b c : Wd) : (((rotr a 2 ^^^ rotr a 13 ^^^ rotr a 22) + (a &&& b ^^^ a &&& c ^^^ b &&& c) : Wd)).toNat = t2N a.toNat b.toNat c.toNat % 4294967296 := by
 show _ = (((rN a.toNat 2 30 ^^^ rN a.toNat 13 19) ^^^ rN a.toNat 22 10) + (((a.toNat &&& b.toNat) ^^^ (a.toNat &&& c.toNat)) ^^^ (b.toNat &&& c.toNat))) % 4294967296
 simp only [BitVec.toNat_add,BitVec.toNat_xor,BitVec.toNat_and,rN_rotr]
def goN : List Nat → Nat → Nat → Nat → Nat → Nat → Nat → Nat → Nat → Nat → Nat → Nat → Nat → Nat → Nat → Nat → Nat → Nat → Nat → Nat → Nat → Nat → Nat → Nat → Nat → List Nat
 |[],a,b,c,d,e,f,g,h,_,_,_,_,_,_,_,_,_,_,_,_,_,_,_,_ => [a,b,c,d,e,f,g,h]
 |k :: ks,a,b,c,d,e,f,g,h,w0,w1,w2,w3,w4,w5,w6,w7,w8,w9,w10,w11,w12,w13,w14,w15 =>
  goN ks (Nat.mod (Nat.add (t1N e f g h k w0) (t2N a b c)) 4294967296) a b c (Nat.mod (Nat.add d (t1N e f g h k w0)) 4294967296) e f g w1 w2 w3 w4 w5 w6 w7 w8 w9 w10 w11 w12 w13 w14 w15 (nxN w0 w1 w9 w14)
def wSc (b : List UInt8) (t : Nat) : Wd := (sch b (t + 1)).getD t 0
theorem wSc_at (b : List UInt8) (n t : Nat) (h : t < n) : (sch b n).getD t 0 = wSc b t := sch_get b (t + 1) n t (by omega) (by omega)
theorem wSc_next (b : List UInt8) (t : Nat) : wSc b (t + 16) = wSc b t + sig0 (wSc b (t + 1)) + wSc b (t + 9) + sig1 (wSc b (t + 14)) := by
 have e : wSc b (t + 16) = nextW (sch b (t + 16)) (t + 16) := by
  rw [wSc,sch,List.getD_eq_getElem?_getD,List.getElem?_append_right (by rw [sch_length]; exact Nat.le_refl _),sch_length,Nat.sub_self,if_neg (by omega)]
  rfl
 rw [e,nextW,show t + 16 - 16 = t by omega,show t + 16 - 15 = t + 1 by omega,show t + 16 - 7 = t + 9 by omega,show t + 16 - 2 = t + 14 by omega,wSc_at _ _ _ (by omega),wSc_at _ _ _ (by omega),wSc_at _ _ _ (by omega),wSc_at _ _ _ (by omega)]
theorem wSc_first (b : List UInt8) (t : Nat) (h : t < 16) : wSc b t = wordAt b t := by
 rw [wSc,sch,List.getD_eq_getElem?_getD,List.getElem?_append_right (by rw [sch_length]; exact Nat.le_refl _),sch_length,Nat.sub_self,if_pos h]
 rfl
theorem cubes_nat : ∀ t,t < 64 → (cubesL.getD t 0).toNat = cubesN.getD t 0 := by decide +kernel
theorem goN_is (b : List UInt8) (s : List Wd) (hs : s.length = 8) : ∀ u t,t + u = 64 → ∀ A B C D E F G H,rnds b s t = [A,B,C,D,E,F,G,H] →
  goN (cubesN.drop t) A.toNat B.toNat C.toNat D.toNat E.toNat F.toNat G.toNat H.toNat (wSc b t).toNat (wSc b (t + 1)).toNat (wSc b (t + 2)).toNat (wSc b (t + 3)).toNat (wSc b (t + 4)).toNat (wSc b (t + 5)).toNat (wSc b (t + 6)).toNat (wSc b (t + 7)).toNat
   (wSc b (t + 8)).toNat (wSc b (t + 9)).toNat (wSc b (t + 10)).toNat (wSc b (t + 11)).toNat (wSc b (t + 12)).toNat (wSc b (t + 13)).toNat (wSc b (t + 14)).toNat (wSc b (t + 15)).toNat = (rnds b s 64).map BitVec.toNat
 |0,t,ht,A,B,C,D,E,F,G,H,h => by
  obtain rfl : t = 64 := by omega
  rw [h,show cubesN.drop 64 = [] by decide]
  rfl
 |u + 1,t,ht,A,B,C,D,E,F,G,H,h => by
  have hd : cubesN.drop t = cubesN.getD t 0 :: cubesN.drop (t + 1) := by
   have hl : t < cubesN.length := by show t < 64; omega
   rw [List.drop_eq_getElem_cons hl]
   simp [List.getD,List.getElem?_eq_getElem hl]
  have hn := wSc_next b t
  have hr : rnds b s (t + 1) = stp (cubesL.getD t 0) (wSc b t) [A,B,C,D,E,F,G,H] := by rw [rnds,h,wSc_at _ _ _ (by omega)]
  have h1 := t1N_is E F G H (cubesL.getD t 0) (wSc b t)
  have h2 := t2N_is A B C
  have hk := cubes_nat t (by omega)
  simp only [stp] at hr
  have ih := goN_is b s hs u (t + 1) (by omega) _ _ _ _ _ _ _ _ hr
  rw [← ih,hd,goN]
  have e1 : (H + (rotr E 6 ^^^ rotr E 11 ^^^ rotr E 25) + (E &&& F ^^^ ~~~ E &&& G) + cubesL.getD t 0 + wSc b t + ((rotr A 2 ^^^ rotr A 13 ^^^ rotr A 22) + (A &&& B ^^^ A &&& C ^^^ B &&& C))).toNat
    = Nat.mod (Nat.add (t1N E.toNat F.toNat G.toNat H.toNat (cubesN.getD t 0) (wSc b t).toNat) (t2N A.toNat B.toNat C.toNat)) 4294967296 := by
   rw [BitVec.toNat_add,h1,h2,← hk]
   exact (Nat.add_mod _ _ _).symm
  have e2 : (D + (H + (rotr E 6 ^^^ rotr E 11 ^^^ rotr E 25) + (E &&& F ^^^ ~~~ E &&& G) + cubesL.getD t 0 + wSc b t)).toNat
    = Nat.mod (Nat.add D.toNat (t1N E.toNat F.toNat G.toNat H.toNat (cubesN.getD t 0) (wSc b t).toNat)) 4294967296 := by
   rw [BitVec.toNat_add,h1,← hk]
   exact Nat.add_mod_mod _ _ _
  have e3 : (wSc b (t + 1 + 15)).toNat = nxN (wSc b t).toNat (wSc b (t + 1)).toNat (wSc b (t + 9)).toNat (wSc b (t + 14)).toNat := by
   rw [show t + 1 + 15 = t + 16 by omega,hn,nxN_is]
  rw [e1,e2,e3]
def wdN (b : List UInt8) (i : Nat) : Nat := Nat.lor (Nat.lor (Nat.lor (Nat.mod (Nat.shiftLeft (b.getD (4 * i) 0).toNat 24) 4294967296) (Nat.mod (Nat.shiftLeft (b.getD (4 * i + 1) 0).toNat 16) 4294967296)) (Nat.mod (Nat.shiftLeft (b.getD (4 * i + 2) 0).toNat 8) 4294967296)) (b.getD (4 * i + 3) 0).toNat
theorem w8_nat (x : UInt8) : (w8 x).toNat = x.toNat := by
 unfold w8
 rw [BitVec.toNat_setWidth]
 have := x.toNat_lt
 exact Nat.mod_eq_of_lt (show x.toNat < 2 ^ 32 by omega)
theorem wdN_is (b : List UInt8) (i : Nat) : (wordAt b i).toNat = wdN b i := by
 unfold wordAt wdN
 simp only [BitVec.toNat_or,BitVec.toNat_shiftLeft,w8_nat]
 rfl
def cmN (b : List UInt8) : List Nat → List Nat
 |[a,b',c,d,e,f,g,h] => List.zipWith (fun x y => Nat.mod (Nat.add x y) 4294967296) [a,b',c,d,e,f,g,h]
   (goN cubesN a b' c d e f g h (wdN b 0) (wdN b 1) (wdN b 2) (wdN b 3) (wdN b 4) (wdN b 5) (wdN b 6) (wdN b 7) (wdN b 8) (wdN b 9) (wdN b 10) (wdN b 11) (wdN b 12) (wdN b 13) (wdN b 14) (wdN b 15))
 |l => l
theorem zip_nat : ∀ (l m : List Wd),List.zipWith (fun x y => Nat.mod (Nat.add x y) 4294967296) (l.map BitVec.toNat) (m.map BitVec.toNat) = (List.zipWith (· + ·) l m).map BitVec.toNat
 |[],_ => rfl
 |_ :: _,[] => rfl
 |x :: l,y :: m => by
  simp only [List.map_cons,List.zipWith_cons_cons,zip_nat l m,BitVec.toNat_add]
  rfl
theorem cmN_is (b : List UInt8) (s : List Wd) (hs : s.length = 8) : cmN b (s.map BitVec.toNat) = (compress b s).map BitVec.toNat := by
 obtain ⟨A,B,C,D,E,F,G,H,rfl⟩ := eight hs
 have h := goN_is b [A,B,C,D,E,F,G,H] rfl 64 0 rfl A B C D E F G H rfl
 simp only [Nat.zero_add,List.drop_zero,wSc_first b 0 (by omega),wSc_first b 1 (by omega),wSc_first b 2 (by omega),wSc_first b 3 (by omega),wSc_first b 4 (by omega),wSc_first b 5 (by omega),wSc_first b 6 (by omega),wSc_first b 7 (by omega),wSc_first b 8 (by omega),wSc_first b 9 (by omega),
  wSc_first b 10 (by omega),wSc_first b 11 (by omega),wSc_first b 12 (by omega),wSc_first b 13 (by omega),wSc_first b 14 (by omega),wSc_first b 15 (by omega),wdN_is] at h
 rw [compress,← zip_nat,← h]
 rfl
def rnN (m : List UInt8) : Nat → List Nat
 |0 => squaresN
 |n + 1 => cmN (blk m n) (rnN m n)
theorem rnN_is (m : List UInt8) : ∀ n,rnN m n = (runB m H0 n).map BitVec.toNat
 |0 => by show squaresN = H0.map BitVec.toNat; decide +kernel
 |n + 1 => by rw [rnN,rnN_is m n,cmN_is _ _ (by rw [runB_length,H0_length]),runB]
def byN (x : Nat) : List UInt8 := [UInt8.ofNat (Nat.shiftRight x 24),UInt8.ofNat (Nat.shiftRight x 16),UInt8.ofNat (Nat.shiftRight x 8),UInt8.ofNat x]
theorem lo8_nat (x : Wd) : lo8 x = UInt8.ofNat x.toNat := by
 unfold lo8
 apply UInt8.toNat_inj.1
 simp [UInt8.toNat_ofNat']
theorem byN_one (x : Wd) : byN x.toNat = [lo8 (x >>> 24),lo8 (x >>> 16),lo8 (x >>> 8),lo8 x] := by
 simp only [lo8_nat,BitVec.toNat_ushiftRight,byN]
 rfl
theorem byN_is (s : List Wd) : (s.map BitVec.toNat).flatMap byN = bytesOf s := by
 induction s with
 |nil => rfl
 |cons x s ih =>
  simp only [bytesOf,List.map_cons,List.flatMap_cons,byN_one] at *
  rw [ih]
def shaN (bs : List UInt8) : List UInt8 := (rnN (pad bs) ((pad bs).length / 64)).flatMap byN
theorem sha_is (bs : List UInt8) : sha bs = shaN bs := by rw [shaN,rnN_is,byN_is,sha]
end Go.Proofs.YtedffdlkmpmdlaaGreatDoor
namespace Go.Proofs.YtedffdlkmpmdlaaGreatDoor
set_option maxRecDepth 100000
set_option linter.unusedVariables false
set_option linter.unusedSimpArgs false
open Go.ChangeShapes Go.WideShapes Go.ChangeAt Go.RowKit
abbrev laidC : List (String × DataW Unit) := [("pontage/digest.cubes", Rows.laid_pontage_digest_cubes)]
theorem gCubes : Tryz.prog.globalNamed "pontage/digest.cubes" = some 0 := by kernel_rfl
theorem tCubes : (Tryz.prog.globals[0]?).map (·.type) = some 174 := by kernel_rfl
theorem cubes_data : Rows.laid_pontage_digest_cubes (H := Unit) = .agg (cubesN.map fun n : Nat => .lit (.int .u32 (n : Int))) := by rfl
theorem cubes_wi : ∀ i,i < 64 → wi (cubesL.getD i 0) = ((cubesN.getD i 0 : Nat) : Int) := by decide +kernel
theorem door_met (os : Os) (args : Array Value) : laidMetH Tryz.prog laidC ((World.doorLaid Tryz.prog 400 os).forCall (fun _ _ => 0) ⟨#[],args,[]⟩).memory :=
 laidMetH_of_parts3 (fuel := 8) (laidMet_of_run' 8 (by kernel_rfl) (by kernel_rfl)) (by kernel_rfl) (by kernel_rfl)
theorem Cub.of_laid {W : World} (h : laidMetH Tryz.prog laidC W) : Cub W := by
 rw [MakeChecks.laidMetH_plain _ _ _ (by kernel_rfl)] at h
 obtain ⟨ps,⟨g0,t0,cs0,f0,p0,q0,hg0,ht0,hv0,hd0,_,_⟩,_,_⟩ := h
 obtain rfl := Option.some.inj (gCubes.symm.trans hg0)
 obtain rfl := Option.some.inj (tCubes.symm.trans ht0)
 intro j hj
 obtain ⟨xs,m,rfl,hx,hlen,hn,hel⟩ := DataW.trod_array Tryz.underlying174 hd0
 have c1 : Tryz.prog.cellsOf 23 = 1 := by kernel_rfl
 have hxj := hel j hj
 rw [c1,Nat.mul_one] at hxj
 have hjx : j < xs.length := by omega
 rw [List.getElem?_eq_getElem hjx] at hxj
 obtain ⟨k,e1,e2,_⟩ := DataW.trod_int Tryz.underlying23 hxj
 simp only [Prod.mk.injEq] at hx
 have hx1 := hx.1
 rw [cubes_data,DataW.agg.injEq] at hx1
 have hk := congrArg (fun l => l[j]?) hx1
 simp only [List.getElem?_map,List.getElem?_eq_getElem hjx,Option.map_some] at hk
 have hcl : j < cubesN.length := by show j < 64; exact hj
 rw [List.getElem?_eq_getElem hcl,Option.map_some,e2] at hk
 have hk2 : (cubesN[j] : Int) = k := by simpa using hk
 rw [World.var?_cell hg0 hv0 j,cubes_wi j hj]
 have hcs : cs0.toList.drop j ≠ [] := by intro e; rw [e] at e1; simp at e1
 have hjl : j < cs0.toList.length := by
  rcases Nat.lt_or_ge j cs0.toList.length with h | h
  ·exact h
  ·exact absurd (List.drop_eq_nil_of_le h) hcs
 rw [List.drop_eq_getElem_cons hjl] at e1
 simp only [List.take_succ_cons,List.take_zero,List.cons.injEq,and_true] at e1
 rw [show cubesN.getD j 0 = cubesN[j] by simp [List.getD,List.getElem?_eq_getElem hcl],hk2,← e1]
 simp at hjl
 simp [hjl]
end Go.Proofs.YtedffdlkmpmdlaaGreatDoor
