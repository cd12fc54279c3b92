import Derived.Test.YtjlelckefiannaaGreatDoorZ20
import Derived.Test.YtjlelckefiannaaGreatDoorZ2
import Derived.Test.YtjlelckefiannaaGreatDoorZ1
import Derived.Test.YtjlelckefiannaaGreatDoorZ9
import Derived.Sort.CutIn
import Derived.RangeFuncFrom
import Derived.Scope
set_option maxRecDepth 100000
set_option maxHeartbeats 64000000
namespace Go.Proofs.YtjlelckefiannaaGreatDoor
set_option linter.unusedVariables false
set_option linter.unusedSimpArgs false
open Go.RowKit
theorem atx(n:Nat)(h:1≤n)(h2:n≤65536):Lib.bitLen (n-1)=rows n:=by
 induction n using Nat.strongRecOn with
 |_ n ih =>
  by_cases h1:n=1
  ·subst h1;rw[adt (Nat.le_refl 1)];rfl
  ·rw[Lib.bitLen_half (n-1) aPl (by have:(2:Nat) ^ 64=18446744073709551616:=rfl;omega),af8 aPl,show(n-1)/2=(n+1)/2-1 by omega,ih ((n+1)/2) aPl aPl aPl]
   omega
theorem au5:∀(k n:Nat),n≤2 ^ k→rows n≤k
 |0,n,h=>by rw[adt (by simpa using h)];omega
 |k+1,n,h=>by
  by_cases h1:n≤1
  ·rw[adt h1];omega
  ·rw[af8 aPl]
   have:=au5 k ((n+1)/2) (by have:2 ^ (k+1)=2*2 ^ k:=(by rw[Nat.pow_succ,Nat.mul_comm]);omega)
   omega
theorem afk(n:Nat)(h:n≤65536):rows n≤16:=au5 16 n h
def arw(n:Int):Int:=if n≤0 then 16 else if 65536<n then 3 else 0
theorem abm(n:Int)(w:World):Calls Tryz.prog 95 #[.int .i64 n] w λe w'=>e = .returned (.int .i64 (arw n))∧w'=w:=by
 unfold arw
 by_cases h1:n≤0
 ·rw[if_pos h1]
  go_enter Tryz.func95,Tryz.ntmps95
  go_wp2
  go_ret
  exact⟨rfl,rfl⟩
 ·rw[if_neg h1]
  by_cases h2:65536<n
  ·rw[if_pos h2]
   have l1:decide (n≤0)=false:=decide_eq_false h1
   clear h1
   go_enter Tryz.func95,Tryz.ntmps95
   go_wp2
   go_ret
   exact⟨rfl,rfl⟩
  ·rw[if_neg h2]
   have l1:decide (n≤0)=false:=decide_eq_false h1
   have l2:decide (65536<n)=false:=decide_eq_false h2
   clear h1 h2
   go_enter Tryz.func95,Tryz.ntmps95
   go_wp2
   go_ret
   exact⟨rfl,rfl⟩
theorem acv(i n:Int)(w:World):Calls Tryz.prog 108 #[.int .i64 i,.int .i64 n] w λe w'=>e = .returned (.bool (decide (0≤i∧i<n)))∧w'=w:=by
 by_cases h1:0≤i
 ·have l1:decide (0≤i)=true:=decide_eq_true h1
  by_cases h2:i<n
  ·have l2:decide (i<n)=true:=decide_eq_true h2
   rw[decide_eq_true ⟨h1,h2⟩]
   clear h1 h2
   go_enter Tryz.func108,Tryz.ntmps108
   go_wp2
   go_ret
   exact⟨rfl,rfl⟩
  ·have l2:decide (i<n)=false:=decide_eq_false h2
   rw[decide_eq_false (λh=>h2 h.2)]
   clear h1 h2
   go_enter Tryz.func108,Tryz.ntmps108
   go_wp2
   go_ret
   exact⟨rfl,rfl⟩
 ·have l1:decide (0≤i)=false:=decide_eq_false h1
  rw[decide_eq_false (λh=>h1 h.1)]
  clear h1
  go_enter Tryz.func108,Tryz.ntmps108
  go_wp2
  go_ret
  exact⟨rfl,rfl⟩
theorem apt(n m:Nat)(h:n≤1000000)(hm:m=(n+1)/2)(w:World):Calls Tryz.prog 150 #[.int .i64 (n:Int)] w λe w'=>e = .returned (.int .i64 (m:Int))∧w'=w:=by
 have ew:IntKind.i64.wrap ((n:Int)+1)=(n:Int)+1:=by rw[IntKind.wrap_i64];omega
 have en:((n:Int)+1).tdiv 2=(m:Int):=by rw[Int.tdiv_eq_ediv_of_nonneg aPl];omega
 have ewm:IntKind.i64.wrap (m:Int)=(m:Int):=by rw[IntKind.wrap_i64];omega
 clear hm
 go_enter Tryz.func150,Tryz.ntmps150
 go_wp2
 go_ret
 exact⟨rfl,rfl⟩
theorem aew(n:Nat)(h:1≤n)(h2:n≤65536)(w:World):Calls Tryz.prog 96 #[.int .i64 (n:Int)] w λe w'=>e = .returned (.int .i64 (rows n:Nat))∧w'=w:=by
 have hb:=atx n h h2
 have H:=Lib.hid (λw=>av7 (n-1) aPl w)
 rw[hb]at H
 have HC:=Lib.hid (λw=>abm (n:Int) w)
 rw[show arw (n:Int)=0 by rw[arw,if_neg aPl,if_neg aPl]]at HC
 have ew:IntKind.i64.wrap ((n:Int)-1)=((n-1:Nat):Int):=by rw[IntKind.wrap_i64];omega
 have eu:IntKind.u64.wrap ((n-1:Nat):Int)=((n-1:Nat):Int):=by rw[IntKind.wrap_u64];omega
 generalize n-1=k at *
 generalize rows n=R at *
 clear hb h h2
 go_enter Tryz.func96,Tryz.ntmps96
 go_wp2_with fail
 (with_reducible refine(HC.out _).mono ?_);rintro e w1 ⟨rfl,hw⟩;replace hw:=hw.symm;subst hw
 go_wp2_with fail
 (with_reducible refine(H.out _).mono ?_);rintro e w1 ⟨rfl,hw⟩;subst hw
 go_wp2
 go_ret
 exact⟨rfl,rfl⟩
theorem Tryz.szPlace:(Tryz.prog.info? 190).map (·.size)=some 3:=by kernel_rfl
@[go_sem ↓ high] theorem aPd (p:Value):Instr.loadAt 190 p=iq 190 p:=rfl
@[go_sem ↓ high] theorem aN5 (p v:Value):Instr.storeAt 190 p v=ji 190 p v:=rfl
@[go_sem] theorem aEh (w:World) (g:Nat):(iq 190 (.pointer (some ⟨g,0,none⟩))).run Tryz.prog w=aa8 Tryz.prog 190 (.pointer (some ⟨g,0,none⟩)) w 3 w.heap[g]? :=
 qc w _ g 3 _ Tryz.underlying190 rfl Tryz.szPlace
@[go_sem] theorem aD0 (w:World) (g:Nat) (cells:Array Value):(ji 190 (.pointer (some ⟨g,0,none⟩)) (.agg cells)).run Tryz.prog w=aeg Tryz.prog 190 (.pointer (some ⟨g,0,none⟩)) cells g w 3 w.heap[g]? :=
 oq w _ g 3 cells Tryz.szPlace
def plC(r i n:Nat):Array Value:=#[.int .i64 (r:Int),.int .i64 (i:Int),.int .i64 (n:Int)]
theorem amn(r i n:Nat)(hn:1≤n)(hb:n≤1000000)(w:World):Calls Tryz.prog 122 #[.agg (plC r i n)] w λe w'=>e = .returned (.bool (alone i n))∧Fr F0 w w':=by
 unfold plC
 obtain⟨b,hb⟩:∃b,b=alone i n:=⟨_,rfl⟩
 rw[←hb]
 by_cases h1:n % 2=1
 ·have l1:((n:Int) % 2==1)=true:=by rw[beq_iff_eq];omega
  have hw:IntKind.i64.wrap ((n:Int)-1)=(n:Int)-1:=by rw[IntKind.wrap_i64];omega
  by_cases h2:i+1=n
  ·have l2:((i:Int)==(n:Int)-1)=true:=by rw[beq_iff_eq];omega
   have e:alone i n=true:=by rw[alone,decide_eq_true_iff];exact⟨h1,h2⟩
   rw[e]at hb
   subst hb
   clear h1 h2 e
   go_enter Tryz.func122,Tryz.ntmps122
   go_wp2
   go_ret
   exact⟨rfl,(Fr.refl F0 w).alloc _⟩
  ·have l2:((i:Int)==(n:Int)-1)=false:=by rw[beq_eq_false_iff_ne];omega
   have e:alone i n=false:=by rw[alone,decide_eq_false_iff_not];exact λh=>h2 h.2
   rw[e]at hb
   subst hb
   clear h1 h2 e
   go_enter Tryz.func122,Tryz.ntmps122
   go_wp2
   go_ret
   exact⟨rfl,(Fr.refl F0 w).alloc _⟩
 ·have l1:((n:Int) % 2==1)=false:=by rw[beq_eq_false_iff_ne];omega
  have e:alone i n=false:=by rw[alone,decide_eq_false_iff_not];exact λh=>h1 h.1
  rw[e]at hb
  subst hb
  clear h1 e
  go_enter Tryz.func122,Tryz.ntmps122
  go_wp2
  go_ret
  exact⟨rfl,(Fr.refl F0 w).alloc _⟩
theorem aLe(i:Nat):i ^^^ 1=if i % 2=1 then i-1 else i+1:=by
 have h1:(i ^^^ 1)/2=i/2:=by rw[Nat.xor_div_two];simp
 have h2:(i ^^^ 1) % 2=1↔¬(i % 2=1↔1 % 2=1):=Nat.xor_mod_two_eq_one
 by_cases h:i % 2=1
 ·rw[if_pos h]
  have:¬(i ^^^ 1) % 2=1:=by rw[h2];simp[h]
  omega
 ·rw[if_neg h]
  have:(i ^^^ 1) % 2=1:=by rw[h2];simp[h]
  omega
theorem arf(a b:Nat)(ha:a<4611686018427387904)(hb:b<4611686018427387904):bits .xor .i64 (a:Int) (b:Int)=((a ^^^ b:Nat):Int):=by
 have hx:a ^^^ b<2 ^ 62:=Nat.xor_lt_two_pow aPl aPl
 have h1:(BitVec.ofInt 64 (a:Int)).toNat=a:=by
  rw[BitVec.ofInt_natCast,BitVec.toNat_ofNat];exact Nat.mod_eq_of_lt aPl
 have h2:(BitVec.ofInt 64 (b:Int)).toNat=b:=by
  rw[BitVec.ofInt_natCast,BitVec.toNat_ofNat];exact Nat.mod_eq_of_lt aPl
 show IntKind.i64.wrap ((BitVec.ofInt 64 (a:Int) ^^^ BitVec.ofInt 64 (b:Int)).toNat:Int)=_
 rw[BitVec.toNat_xor,h1,h2,IntKind.wrap_i64]
 omega
theorem axt(r i n:Nat)(hi:i<n)(hn:1≤n)(hb:n≤1000000)(w:World):Calls Tryz.prog 110 #[.agg (plC r i n)] w λe w'=>e = .returned (.int .i64 (oth i n:Nat))∧Fr F0 w w':=by
 have HA:=Lib.hid (λw=>amn r i n hn hb w)
 obtain⟨b,hb⟩:∃b,b=alone i n:=⟨_,rfl⟩
 rw[←hb]at HA
 have ho:oth i n=if b=true then i else if i % 2=1 then i-1 else i+1:=by rw[oth,hb]
 obtain⟨o,hoo⟩:∃o,o=oth i n:=⟨_,rfl⟩
 rw[←hoo]at ho ⊢
 clear hoo hb
 unfold plC at *
 go_enter Tryz.func110,Tryz.ntmps110
 go_wp2_with fail
 refine ru λW1 N1=>?_
 have r1:=N1.new
 replace F:=N1.fr
 clear N1
 generalize w.heap.size=g1 at *
 (with_reducible refine(HA.out _).mono ?_);rintro e w2 ⟨rfl,f⟩
 replace r1:=au f r1
 replace F:=F.trans' f
 clear f HA
 cases b with
 |true =>
  rw[if_pos rfl]at ho
  subst ho
  go_wp2
  go_ret
  exact⟨rfl,F⟩
 |false =>
  rw[if_neg (by decide),←aLe]at ho
  have hx:bits .xor .i64 (i:Int) 1=(o:Int):=by rw[ho];exact arf i 1 aPl aPl
  clear ho
  go_wp2
  go_ret
  exact⟨rfl,F⟩
theorem akr(i n:Nat)(w:World):Calls Tryz.prog 109 #[.int .i64 (i:Int),.int .i64 (n:Int)] w λe w'=>∃g1 g2,e = .returned (.func (.func 158) #[] #[.pointer (some ⟨g1,0,none⟩),.pointer (some ⟨g2,0,none⟩)]) ∧
  w'.heap[g1]? = some (.cells #[.int .i64 (i:Int)] 3 (0,0))∧w'.heap[g2]? = some (.cells #[.int .i64 (n:Int)] 3 (0,0))∧Fr F0 w w'∧w.heap.size≤g1∧w.heap.size≤g2:=by
 have hmf:∀(fn:Fn) (first cap:Array Value) (w:World),(Instr.makeFunc fn first cap).run Tryz.prog w = .ok (.func fn first cap) w:=λ_ _ _ _=>rfl
 go_enter Tryz.func109,Tryz.ntmps109
 go_wp2
 go_ret
 refine⟨w.heap.size,w.heap.size+1,rfl,?_,?_,((Fr.refl F0 w).alloc _).alloc _,Nat.le_refl _,Nat.le_succ _⟩
 ·exact bg (heap_alloc_new w _)
 ·have:=heap_alloc_new (w.alloc (.cells #[.int .i64 (i:Int)] 3)) (.cells #[.int .i64 (n:Int)] 3)
  rw[World.size_alloc]at this
  exact this
end Go.Proofs.YtjlelckefiannaaGreatDoor
namespace Go.Proofs.YtjlelckefiannaaGreatDoor
set_option linter.unusedVariables false
set_option linter.unusedSimpArgs false
open Go.RowKit Go.Shelf
def Kb(b:Nat)(W W':World):Prop:=∀o,W.heap[b]? = some o→W'.heap[b]? = some o
theorem Kb.trans{b:Nat}{X Y Z:World}(h:Kb b X Y)(k:Kb b Y Z):Kb b X Z:=λo ho=>k o (h o ho)
theorem Kb.put{b g:Nat}{W:World}{o:Obj}(h:g≠b):Kb b W (W.putObj g o):=λo' ho=>(World.putObj_heap_other aPl).trans ho
theorem Kb.fr{b:Nat}{S:Nat→Prop}{W W':World}(f:Fr S W W')(hs:¬S b):Kb b W W':=λo ho=>f.keeps hs ho
def SeqP{α:Type}(P:Program)(gf:Nat)(lb:Array Value)(encs:α→Array Value)(Kq:Nat→World→World→Prop)(C:List α→World→Prop)(Nx:List α→α→World→World→Prop)(S:List α→Prop):Prop :=
 ∀(l:Nat) (J Jx:List α→World→Prop) (W:World),OwnFrom W.heap.size J→OwnFrom W.heap.size Jx→(∀pre W',J pre W'→C pre W') →
  (∀pre A cs,J pre A→W.heap.size<A.heap.size→J pre (A.setRow W.heap.size cs)) →
  (∀pre x W0 W1,J pre W0→Fr F0 W0 W1→W.heap.size<W1.heap.size→Nx pre x W0 W1→af6 P l (encs x) W1 λe W'=>(e = .returned (.bool true)∧J (pre ++ [x]) W'∧Kq W.heap.size W1 W')∨(e = .returned (.bool false)∧Jx (pre ++ [x]) W'∧Kq W.heap.size W1 W')) →
  J [] W →
  Calls P gf (#[.func (.yield l) #[] #[]]++lb) W λe W'=>(∃v,e = .returned v)∧((∃xs,S xs∧J xs W')∨(∃pre,Jx pre W'))
section
variable {n:Nat} {P:Program}
theorem amf{α:Type}{g:Operand}{ps:Array Tmp}{assign body:Code}{Q:Exit→Act→World→Prop}{a:Act}{w:World}
  {gf:Nat} {lb:Array Value} (hg:a.eval g = .func (.func gf) #[] lb) (eg:∀args w,(callFunc gf args).run P w = .ok (.enter gf args) w)
  {encs:α→Array Value} {Kq:Nat→World→World→Prop} {C:List α→World→Prop} {Nx:List α→α→World→World→Prop} {S:List α→Prop} (hseq:SeqP P gf lb encs Kq C Nx S) (hps:∀x,(encs x).size=ps.size)
  (hKt:∀{X Y Z:World},Kq (w.heap.size+2) X Y→Kq (w.heap.size+2) Y Z→Kq (w.heap.size+2) X Z) (hKp:∀(W:World) (o:Obj),Kq (w.heap.size+2) W (W.putObj (w.heap.size+1) o))
  (I:List α→World→Prop) (Ix:Code→List α→World→Prop) (hI:OwnFrom w.heap.size I) (hIx:∀c,OwnFrom w.heap.size (Ix c)) (hIC:∀pre W,I pre W→C pre W) (hI4:∀pre A cs,I pre A→w.heap.size+2<A.heap.size→I pre (A.setRow (w.heap.size+2) cs)) (h0:I [] w)
  (Ax:List α→α→Act→World→Prop) (hAx:∀pre x a',OwnFrom w.heap.size (fun(_:Unit) W=>Ax pre x a' W))
  (hassign:∀(l:Nat) (pre:List α) (x:α) (W0 W:World) (K:Act→World→Prop),I pre W0→Fr F0 W0 W→w.heap.size+2<W.heap.size→Nx pre x W0 W→(∀a' W',KeepsFrom w.heap.size W W'→Kq (w.heap.size+2) W W'→I pre W'→Ax pre x a' W'→K a' W') →
   assign.wpIn (Fence.wide.inRound l) (n-1-1) P (Exit.then K (λ_ _ _=>False)) { tmps:=(ps.zip (encs x)).foldl (λt (p,v)=>t.setIfInBounds p v) a.tmps,defers := [] } W)
  (hbody:∀(l:Nat) (pre:List α) (x:α) (a':Act) (W:World),I pre W→Ax pre x a' W→body.wpIn (Fence.wide.inRound l) (n-1-1) P (ownPostG w.heap.size (Kq (w.heap.size+2)) I (λc p W'=>Ix c p W'∧Kq (w.heap.size+2) W W') (pre ++ [x]) W) a' W)
  (hdone:∀(D:Nat) (xs:List α) (W:World),w.heap.size≤D→S xs→I xs W→W.heap[D]? = some (.deferred (some []))→Q .normal { a with defers := { target := .collected D,args:=#[] }::a.defers } W)
  (hstop:∀(D:Nat) (c:Code) (pre:List α) (W:World),w.heap.size≤D→Ix c pre W→W.heap[D]? = some (.deferred (some []))→c.wpIn Fence.wide n P Q { a with defers := { target := .collected D,args:=#[] }::a.defers } W) :
  (Code.rangeFunc g ps assign body).wpIn Fence.wide n P Q a w:=by
 refine wpIn_rangeFunc λfn hfn=>?_
 rw[show Fence.wide.round=none from rfl]
 generalize hB:w.heap.size=B at *
 obtain⟨R,hR⟩:∃R:LoopState→Option Code→Obj,R=λst pe => .loop { state:=st,pending:=pe,fn,tmps:=a.tmps,params:=ps,assign,body,defers:=B }:=⟨_,rfl⟩
 obtain⟨V,hV⟩:∃V,V=(w.alloc (.deferred (some []))).alloc (R .ready none):=⟨_,rfl⟩
 have hVl:V.heap[B+1]? = some (R .ready none):=by
  rw[hV,←hB];have:=World.alloc_heap_new (w.alloc (.deferred (some []))) (R .ready none);rwa [World.size_alloc]at this
 have hVd:V.heap[B]? = some (.deferred (some [])):=by
  rw[hV,←hB];exact(Below.heap_alloc _ _ _ (by simp)).trans (World.alloc_heap_new w _)
 have hVs:V.heap.size=B+1+1:=by rw[hV,←hB];simp
 refine⟨B+1,[{ target := .collected B,args:=#[] }],V,{ target := .fn (.func gf) lb,args:=#[.func (.yield (B+1)) #[] #[]] },V,gf,#[.func (.yield (B+1)) #[] #[]]++lb,V,?_,?_,?_,?_,(λh=>by cases h),?_⟩
 ·rw[hV,hR,←hB];exact run_enterLoop_outer _ _ _ _ _
 ·simp only[resolve,hg]
  simp[go_sem]
 ·intro f' hf'
  trivial
 ·simp[invoke,go_sem,eg]
 ·have H:=hseq (B+1) (λpre W=>(I pre W∧W.heap[B+1]? = some (R .ready none))∧W.heap[B]? = some (.deferred (some [])))
   (λpre W=>∃c,(Ix c pre W∧W.heap[B+1]? = some (R .done (some c)))∧W.heap[B]? = some (.deferred (some []))) V
   (abp _ _ _ aPl _ (abp _ _ _ aPl _ (aic hI aPl)))
   (λs A D row hs hgr hr=>by
    obtain⟨c,hc⟩:=hs
    exact⟨c,abp _ _ _ aPl _ (abp _ _ _ aPl _ (aic (hIx c) aPl)) s A D row hc hgr hr⟩)
   (λpre W' h=>hIC pre W' h.1.1) (λpre A cs h hA=>by rw[hVs]at hA ⊢;exact⟨⟨hI4 pre A cs h.1.1 hA,(iy _ _ _ _ aPl).trans h.1.2⟩,(iy _ _ _ _ aPl).trans h.2⟩) ?_ ⟨⟨by rw[hV];exact hI.alloc _ (hI.alloc _ h0),hVl⟩,hVd⟩
  ·refine(callsIn_wide.2 H).mono ?_
   rintro e U ⟨⟨v,rfl⟩,(⟨xs,hS,⟨hi,hl⟩,hk⟩|⟨pre,c,⟨hi,hl⟩,hk⟩)⟩
   ·rw[hR]at hl
    exact⟨none,_,run_endLoop (P:=P) hl (by simp),hdone _ xs _ (Nat.le_refl _) hS (hI.putObj _ hi aPl hl rfl) ((World.putObj_heap_other aPl).trans hk)⟩
   ·rw[hR]at hl
    exact⟨some c,_,run_endLoop (P:=P) hl (by simp),hstop _ c pre _ (Nat.le_refl _) ((hIx c).putObj _ hi aPl hl rfl) ((World.putObj_heap_other aPl).trans hk)⟩
  ·rintro pre x W0 W hj0 f0 hsz hnx
   rw[hVs]at hsz
   have hj1:=aap (abp _ _ _ aPl _ (abp _ _ _ aPl _ (aic hI (by omega:B≤B+1+1)))) hj0 f0
   obtain⟨⟨hi,hl⟩,hk⟩:=hj1
   rw[hR]at hl
   have hy:=run_yield (P:=P) (args:=encs x) hl (hps x)
   refine af6.of (m:=n-1-1) ⟨fn,_,assign,body,hy,roundIn_of_wpIn hfn (hassign _ pre x W0 W _ hj0.1.1 f0 hsz hnx ?_)⟩
   clear hy
   intro a' Wa hka hqa hia hax
   replace hl:=hka.same _ _ aPl hl rfl
   replace hk:=hka.same _ _ (Nat.le_refl _) hk rfl
   have hlt:B+1<Wa.heap.size:=(Array.getElem?_eq_some_iff.1 hl).1
   refine⟨_,run_beginRound hl rfl,?_⟩
   obtain⟨bz,hbz⟩:∃bz:Loop,bz = { state := .busy,pending:=none,fn,tmps:=a.tmps,params:=ps,assign,body,defers:=B }:=⟨_,rfl⟩
   have hl2:(Wa.putObj (B+1) (.loop bz)).heap[B+1]? = some (.loop bz):=World.putObj_heap_same hlt
   have hk2:(Wa.putObj (B+1) (.loop bz)).heap[B]? = some (.deferred (some [])):=(World.putObj_heap_other aPl).trans hk
   rw[←hbz]
   refine wpIn_mono (hbody _ pre x a' _ (hI.putObj _ hia aPl hl rfl) ((hAx pre x a').putObj (s:=()) _ hax aPl hl rfl)) ?_
   have fin:∀(j:Option Code) (U:World),KeepsFrom B (Wa.putObj (B+1) (.loop bz)) U→U.heap[B+1]? = some (.loop bz) ∧
     (Instr.endRound (B+1) j).run P U = .ok (.bool j.isNone) (U.putObj (B+1) (R (if j.isNone then .ready else .done) j)) ∧
     (U.putObj (B+1) (R (if j.isNone then .ready else .done) j)).heap[B+1]? = some (R (if j.isNone then .ready else .done) j) ∧
     (U.putObj (B+1) (R (if j.isNone then .ready else .done) j)).heap[B]? = some (.deferred (some [])):=λj U hk3=>by
    have hl3:=hk3.same _ _ aPl hl2 rfl
    refine⟨hl3,?_,World.putObj_heap_same (Array.getElem?_eq_some_iff.1 hl3).1,(World.putObj_heap_other aPl).trans (hk3.same _ _ (Nat.le_refl _) hk2 rfl)⟩
    have:=run_endRound (P:=P) j hl3
    rw[hbz]at this
    rw[hR]
    exact this
   rintro e a3 U hp
   cases e with
   |normal =>
    obtain⟨hl3,hr,hl4,hk4⟩:=fin none U hp.1
    exact⟨_,_,hr,.inl ⟨rfl,⟨⟨hI.putObj _ hp.2.2 aPl hl3 rfl,hl4⟩,hk4⟩,by rw[hVs];exact hKt hqa (hKt (hKt (hKp _ _) hp.2.1) (hKp _ _))⟩⟩
   |ret =>
    obtain⟨hl3,hr,hl4,hk4⟩:=fin (some .ret) U hp.1
    exact⟨_,_,hr,.inr ⟨rfl,⟨.ret,⟨(hIx _).putObj _ hp.2.1 aPl hl3 rfl,hl4⟩,hk4⟩,by rw[hVs];exact hKt hqa (hKt (hKt (hKp _ _) hp.2.2) (hKp _ _))⟩⟩
   |exit id =>
    obtain⟨hl3,hr,hl4,hk4⟩:=fin (some (.exit id)) U hp.1
    exact⟨_,_,hr,.inr ⟨rfl,⟨.exit id,⟨(hIx _).putObj _ hp.2.1 aPl hl3 rfl,hl4⟩,hk4⟩,by rw[hVs];exact hKt hqa (hKt (hKt (hKp _ _) hp.2.2) (hKp _ _))⟩⟩
   |goto t =>
    obtain⟨hl3,hr,hl4,hk4⟩:=fin (some (.goto t)) U hp.1
    exact⟨_,_,hr,.inr ⟨rfl,⟨.goto t,⟨(hIx _).putObj _ hp.2.1 aPl hl3 rfl,hl4⟩,hk4⟩,by rw[hVs];exact hKt hqa (hKt (hKt (hKp _ _) hp.2.2) (hKp _ _))⟩⟩
   |panic ch=>exact hp.elim
   |outgrown=>exact hp.elim
end
def plk(i n:Nat):Nat→Nat×Nat×Nat
 |0=>(0,i,n)
 |k+1=>((plk i n k).1+1,(plk i n k).2.1/2,((plk i n k).2.2+1)/2)
theorem aK7(i n:Nat):∀k,(plk i n k).1=k
 |0=>rfl
 |k+1=>by rw[plk,aK7 i n k]
theorem ag1(i n:Nat):∀k,k≤rows n→rows (plk i n k).2.2+k=rows n
 |0,_=>rfl
 |k+1,h=>by
  have IH:=ag1 i n k aPl
  have h1:1<(plk i n k).2.2:=Classical.byContradiction λhn=>by rw[adt aPl]at IH;omega
  rw[af8 h1]at IH
  show rows (((plk i n k).2.2+1)/2)+(k+1)=rows n
  omega
theorem aui(i n:Nat)(h:i<n):∀k,(plk i n k).2.1<(plk i n k).2.2
 |0=>h
 |k+1=>by
  have:=aui i n h k
  show(plk i n k).2.1/2<((plk i n k).2.2+1)/2
  omega
theorem azo(i n:Nat):∀k,(plk i n k).2.2≤n+1
 |0=>Nat.le_succ _
 |k+1=>by
  have:=azo i n k
  show((plk i n k).2.2+1)/2≤n+1
  omega
theorem asc(i n:Nat)(h:1≤n):∀k,1≤(plk i n k).2.2
 |0=>h
 |k+1=>by
  have:=asc i n h k
  show 1≤((plk i n k).2.2+1)/2
  omega
def pls(i n k:Nat):List (Nat×Nat×Nat):=(List.range k).map (plk i n)
theorem aGm(i n k:Nat):pls i n (k+1)=pls i n k ++ [plk i n k]:=by simp[pls,List.range_succ]
theorem afl(i n k:Nat):(pls i n k).length=k:=by simp[pls]
abbrev encP (x:Nat×Nat×Nat):Array Value:=#[.agg (plC x.1 x.2.1 x.2.2)]
theorem an0(a b c:Int):jh #[.int .i64 a,.int .i64 b,.int .i64 c]:=by
 unfold jh
 rw[Array.all_eq_true_iff_forall_mem]
 intro v hv
 simp only[List.mem_toArray,List.mem_cons,List.not_mem_nil,or_false]at hv
 rcases hv with rfl|rfl|rfl<;>rfl
theorem apa{F:Fence}{n:Nat}{P:Program}{c:Code}{Q:Exit→Act→World→Prop}{a:Act}{w:World}{z cs:Array Value}{t:TypeId}(k:∀W,adh w W w.heap.size cs t→Code.wpIn F n P c Q a W):Code.wpIn F n P c Q a ((w.alloc (.cells z t)).setRow w.heap.size cs):=k _ (aa9 w z cs t)
theorem ag4{F:Fence}{n:Nat}{P:Program}{c:Code}{Q:Exit→Act→World→Prop}{a:Act}{w:World}{z:Array Value}{t:TypeId}(k:∀W,adh w W w.heap.size z t→Code.wpIn F n P c Q a W):Code.wpIn F n P c Q a (w.alloc (.cells z t)):=k _ ⟨heap_alloc_new _ _,λh=>bg h,(Fr.refl F0 w).alloc _,λh=>by have:=(Array.getElem?_eq_some_iff.1 h).1;omega⟩
def NextP(i n:Nat)(pre:List (Nat×Nat×Nat))(x:Nat×Nat×Nat)(_ _:World):Prop:=∃k,k<rows n∧pre=pls i n k∧x=plk i n k
theorem amj(g1 g2 i n:Nat)(hi:i<n)(hn:1≤n)(hb:n≤65536):
  SeqP Tryz.prog 158 #[.pointer (some ⟨g1,0,none⟩),.pointer (some ⟨g2,0,none⟩)] encP Kb (λpre W=>pre = []→W.heap[g1]? = some (.cells #[.int .i64 (i:Int)] 3 (0,0))∧W.heap[g2]? = some (.cells #[.int .i64 (n:Int)] 3 (0,0)))
   (NextP i n) (λxs=>xs=pls i n (rows n)):=by
 intro lp J Jx W oJ oX hC hJ4 hY h0
 refine(callsIn_wide (n:=6)).1 ?_
 refine callsIn_of_wp Tryz.func158 rfl trivial ?_ rfl
 simp only[Tryz.ntmps158,List.size_toArray,List.length_cons,List.length_nil,Nat.reduceAdd,Nat.reduceSub,Array.replicate_succ,Array.replicate_zero,List.push_toArray,List.append_toArray,List.nil_append,List.cons_append]
 obtain⟨r1,r2⟩:=hC _ _ h0 rfl
 have HR:=Lib.hid (λw=>aew n hn hb w)
 have aK3:=afk n hb
 have HH:=Lib.hid (And.intro hJ4 (And.intro oJ hY))
 obtain⟨R,hR⟩:∃R,R=rows n:=⟨_,rfl⟩
 rw[←hR]at HR aK3 ⊢
 replace hR:=Lib.hid hR
 have hbl:∀(w:World),(Instr.build 190 #[(1,.int .i64 (i:Int)),(2,.int .i64 (n:Int))]).run Tryz.prog w = .ok (.agg #[.int .i64 0,.int .i64 (i:Int),.int .i64 (n:Int)]) w:=λw=>run_build w _ _ _ (by kernel_rfl)
 clear oX hC hY hJ4
 have o3:=an0 0 (i:Int) (n:Int)
 gi_upto_region 1 with fail
 refine apa λW1 N1=>?_
 have r4:=N1.new
 replace r2:=N1.old r2
 have hJ1:=aap oJ h0 N1.fr
 clear N1 r1 h0 oJ
 obtain⟨g4,hg4⟩:∃g,g=W.heap.size:=⟨_,rfl⟩
 rw[←hg4]at r4 HH ⊢
 clear hg4
 gi_wp2
 refine⟨trivial,?_⟩
 (with_reducible refine(callsIn_wide.2 (HR.out _)).mono ?_);rintro e w2 ⟨rfl,hw⟩;replace hw:=hw.symm;subst hw
 replace r2:True:=trivial
 gi_wp2
 gi_loopw [10] (λiv wr=>∃(k:Nat),k≤R∧iv = .int .i64 (k:Int)∧J (pls i n k) wr∧wr.heap[g4]? = some (.cells (plC (plk i n k).1 (plk i n k).2.1 (plk i n k).2.2) 190 (0,0))) (λiv _=>R-(intOf iv).toNat)
 case atStart=>exact⟨0,Nat.zero_le _,rfl,hJ1,r4⟩
 case round =>
  clear r4 hJ1 o3
  obtain⟨k,hk,rfl,hJ,q4⟩:=hrel
  by_cases hlt:k<R
  ·have l1:(k:Int)<(R:Int):=by omega
   obtain⟨fn,tmps,assign,body,hy,hY⟩:=(HH.out.2.2 (pls i n k) (plk i n k) wr wr hJ (Fr.refl F0 wr) (Array.getElem?_eq_some_iff.1 q4).1 ⟨k,by have:=hR.out;omega,rfl,rfl⟩).plain (m:=5)
   have hK:=Lib.hid (aGm i n k)
   rw[←hK.out]at hY
   have hP:=Lib.hid (show plk i n (k+1)=((plk i n k).1+1,(plk i n k).2.1/2,((plk i n k).2.2+1)/2)from rfl)
   have p1:=aK7 i n k
   have p2:=aui i n hi k
   have p3:=azo i n k
   have p4:=asc i n hn k
   obtain⟨at_,hat⟩:∃x,x=(plk i n k).2.1:=⟨_,rfl⟩
   obtain⟨wd,hwd⟩:∃x,x=(plk i n k).2.2:=⟨_,rfl⟩
   simp only[encP]at hy
   rw[p1,←hat,←hwd]at hy q4 hP
   rw[←hwd]at p3 p4 p2
   rw[←hat]at p2
   replace hY:=Lib.hid hY
   clear p1 hat hwd
   unfold plC at q4 hy
   obtain⟨a2,ha2⟩:∃x,x=at_/2:=⟨_,rfl⟩
   obtain⟨m2,hm2⟩:∃x,x=(wd+1)/2:=⟨_,rfl⟩
   rw[←ha2,←hm2]at hP
   have HF:=Lib.hid (λw=>apt wd m2 aPl hm2 w)
   have hq:(at_:Int).tdiv 2=(a2:Int):=by rw[Int.tdiv_eq_ediv_of_nonneg aPl];omega
   have hbl2:∀(w:World),(Instr.build 190 #[(0,.int .i64 ((k:Int)+1)),(1,.int .i64 (a2:Int)),(2,.int .i64 (m2:Int))]).run Tryz.prog w = .ok (.agg #[.int .i64 ((k:Int)+1),.int .i64 (a2:Int),.int .i64 (m2:Int)]) w:=λw=>run_build w _ _ _ (by kernel_rfl)
   have o3:=an0 ((k:Int)+1) (a2:Int) (m2:Int)
   have hw1:IntKind.i64.wrap ((k:Int)+1)=(k:Int)+1:=by rw[IntKind.wrap_i64];omega
   have hwa:IntKind.i64.wrap (a2:Int)=(a2:Int):=by rw[IntKind.wrap_i64];omega
   clear ha2 hm2 hbl p2
   gi_wp2
   refine hY.out.mono ?_
   rintro e W5 (⟨rfl,hJ5,hK5⟩|⟨rfl,hJx,_⟩)
   ·have q5:=hK5 _ q4
    have q5l:=Lib.hid (Array.getElem?_eq_some_iff.1 q5).1
    have hJ6:=HH.out.1 _ _ #[.int .i64 ((k:Int)+1),.int .i64 (a2:Int),.int .i64 (m2:Int)] (aap HH.out.2.1 hJ5 (Fr.refl F0 W5).drew) q5l.out
    have q6:=Lib.hid (setRow_heap W5.drew g4 _ #[Value.int .i64 ((k:Int)+1),.int .i64 (a2:Int),.int .i64 (m2:Int)] _ _ q5)
    obtain⟨W6,hW6⟩:∃V,V=W5.drew.setRow g4 #[Value.int .i64 ((k:Int)+1),.int .i64 (a2:Int),.int .i64 (m2:Int)]:=⟨_,rfl⟩
    rw[←hW6]at q6 hJ6
    have HRl:=Lib.hid (show ∃(k':Nat),k'≤R∧(Value.int .i64 ((k:Int)+1)) = .int .i64 (k':Int)∧J (pls i n k') W6∧W6.heap[g4]? = some (.cells (plC (plk i n k').1 (plk i n k').2.1 (plk i n k').2.2) 190 (0,0))from
     ⟨k+1,by omega,by go_num,hJ6,by rw[hP.out];exact q6.out⟩)
    replace hW6:=hW6.symm
    clear hY hK5 q4 hJ hy
    gi_upto_region 4 with fail
    refine wpIn_wide.2 ?_
    refine jm (S:=(λ_=>True)) ?_ λak=>?_
    ·exact aIn
    refine aj 0 ?_
    refine aj 3 ?_
    refine aj 6 ?_
    refine rdy [1,4,7] ?_
    refine rco (λK hK=>?_) (rco (λK hK=>?_) (rco (λK hK=>?_) AllReadyH.nil))
    go_simp
    refine rpu hK aIn λak=>?_
    clear hK K
    refine aj 2 ?_
    refine rdy [4,7] ?_
    refine rco (λK hK=>?_) (rco (λK hK=>?_) AllReadyH.nil)
    go_simp
    refine rpu hK aIn λak=>?_
    clear hK K
    refine aj 5 ?_
    refine jf 7 λK hK=>?_
    go_simp
    refine rpu hK aIn λak=>?_
    clear hK K
    refine jf 8 λK hK=>?_
    go_simp
    ((with_reducible refine(HF.out _).mono ?_);rintro e w6 ⟨rfl,rfl⟩)
    refine rpu hK aIn λak=>?_
    clear hK K
    refine aj 9 ?_
    refine jf 10 λK hK=>?_
    go_simp
    refine rpu hK aIn λak=>?_
    clear hK K
    refine jg ?_
    rotate_left
    go_simp
    refine rpu hK aIn λak=>?_
    clear hK K
    refine rdy [4,8] ?_
    refine rco (λK hK=>?_) (rco (λK hK=>?_) AllReadyH.nil)
    go_simp
    refine rpu hK aIn λak=>?_
    clear hK K
    refine aj 5 ?_
    refine jf 8 λK hK=>?_
    go_simp
    ((with_reducible refine(HF.out _).mono ?_);rintro e w6 ⟨rfl,rfl⟩)
    refine rpu hK aIn λak=>?_
    clear hK K
    refine aj 9 ?_
    refine jf 10 λK hK=>?_
    go_simp
    refine rpu hK aIn λak=>?_
    clear hK K
    refine jg ?_
    rotate_left
    go_simp
    ((with_reducible refine(HF.out _).mono ?_);rintro e w6 ⟨rfl,rfl⟩)
    refine rpu hK aIn λak=>?_
    clear hK K
    refine jf 4 λK hK=>?_
    go_simp
    refine rpu hK aIn λak=>?_
    clear hK K
    refine aj 5 ?_
    refine aj 9 ?_
    refine jf 10 λK hK=>?_
    go_simp
    refine rpu hK aIn λak=>?_
    clear hK K
    refine jg ?_
    rotate_left
    go_simp
    refine rpu hK aIn λak=>?_
    clear hK K
    refine aj 5 ?_
    refine rdy [1,7] ?_
    refine rco (λK hK=>?_) (rco (λK hK=>?_) AllReadyH.nil)
    go_simp
    refine rpu hK aIn λak=>?_
    clear hK K
    refine aj 2 ?_
    refine jf 7 λK hK=>?_
    go_simp
    refine rpu hK aIn λak=>?_
    clear hK K
    refine jf 8 λK hK=>?_
    go_simp
    ((with_reducible refine(HF.out _).mono ?_);rintro e w6 ⟨rfl,rfl⟩)
    refine rpu hK aIn λak=>?_
    clear hK K
    refine aj 9 ?_
    refine jf 10 λK hK=>?_
    go_simp
    refine rpu hK aIn λak=>?_
    clear hK K
    refine jg ?_
    rotate_left
    go_simp
    refine rpu hK aIn λak=>?_
    clear hK K
    refine rdy [1,8] ?_
    refine rco (λK hK=>?_) (rco (λK hK=>?_) AllReadyH.nil)
    go_simp
    refine rpu hK aIn λak=>?_
    clear hK K
    refine aj 2 ?_
    refine jf 8 λK hK=>?_
    go_simp
    ((with_reducible refine(HF.out _).mono ?_);rintro e w6 ⟨rfl,rfl⟩)
    refine rpu hK aIn λak=>?_
    clear hK K
    refine aj 9 ?_
    refine jf 10 λK hK=>?_
    go_simp
    refine rpu hK aIn λak=>?_
    clear hK K
    refine jg ?_
    rotate_left
    go_simp
    ((with_reducible refine(HF.out _).mono ?_);rintro e w6 ⟨rfl,rfl⟩)
    refine rpu hK aIn λak=>?_
    clear hK K
    refine jf 1 λK hK=>?_
    go_simp
    refine rpu hK aIn λak=>?_
    clear hK K
    refine aj 2 ?_
    refine aj 9 ?_
    refine jf 10 λK hK=>?_
    go_simp
    refine rpu hK aIn λak=>?_
    clear hK K
    refine jg ?_
    rotate_left
    go_simp
    refine rpu hK aIn λak=>?_
    clear hK K
    refine rdy [1,4,8] ?_
    refine rco (λK hK=>?_) (rco (λK hK=>?_) (rco (λK hK=>?_) AllReadyH.nil))
    go_simp
    refine rpu hK aIn λak=>?_
    clear hK K
    refine aj 2 ?_
    refine rdy [4,8] ?_
    refine rco (λK hK=>?_) (rco (λK hK=>?_) AllReadyH.nil)
    go_simp
    refine rpu hK aIn λak=>?_
    clear hK K
    refine aj 5 ?_
    refine jf 8 λK hK=>?_
    go_simp
    ((with_reducible refine(HF.out _).mono ?_);rintro e w6 ⟨rfl,rfl⟩)
    refine rpu hK aIn λak=>?_
    clear hK K
    refine aj 9 ?_
    refine jf 10 λK hK=>?_
    go_simp
    refine rpu hK aIn λak=>?_
    clear hK K
    refine jg ?_
    rotate_left
    go_simp
    ((with_reducible refine(HF.out _).mono ?_);rintro e w6 ⟨rfl,rfl⟩)
    refine rpu hK aIn λak=>?_
    clear hK K
    refine jf 4 λK hK=>?_
    go_simp
    refine rpu hK aIn λak=>?_
    clear hK K
    refine aj 5 ?_
    refine aj 9 ?_
    refine jf 10 λK hK=>?_
    go_simp
    refine rpu hK aIn λak=>?_
    clear hK K
    refine jg ?_
    rotate_left
    go_simp
    refine rpu hK aIn λak=>?_
    clear hK K
    refine aj 5 ?_
    refine rdy [1,8] ?_
    refine rco (λK hK=>?_) (rco (λK hK=>?_) AllReadyH.nil)
    go_simp
    refine rpu hK aIn λak=>?_
    clear hK K
    refine aj 2 ?_
    refine jf 8 λK hK=>?_
    go_simp
    ((with_reducible refine(HF.out _).mono ?_);rintro e w6 ⟨rfl,rfl⟩)
    refine rpu hK aIn λak=>?_
    clear hK K
    refine aj 9 ?_
    refine jf 10 λK hK=>?_
    go_simp
    refine rpu hK aIn λak=>?_
    clear hK K
    refine jg ?_
    rotate_left
    go_simp
    ((with_reducible refine(HF.out _).mono ?_);rintro e w6 ⟨rfl,rfl⟩)
    refine rpu hK aIn λak=>?_
    clear hK K
    refine jf 1 λK hK=>?_
    go_simp
    refine rpu hK aIn λak=>?_
    clear hK K
    refine aj 2 ?_
    refine aj 9 ?_
    refine jf 10 λK hK=>?_
    go_simp
    refine rpu hK aIn λak=>?_
    clear hK K
    refine jg ?_
    rotate_left
    go_simp
    ((with_reducible refine(HF.out _).mono ?_);rintro e w6 ⟨rfl,rfl⟩)
    refine rpu hK aIn λak=>?_
    clear hK K
    refine rdy [1,4] ?_
    refine rco (λK hK=>?_) (rco (λK hK=>?_) AllReadyH.nil)
    go_simp
    refine rpu hK aIn λak=>?_
    clear hK K
    refine aj 2 ?_
    refine jf 4 λK hK=>?_
    go_simp
    refine rpu hK aIn λak=>?_
    clear hK K
    refine aj 5 ?_
    refine aj 9 ?_
    refine jf 10 λK hK=>?_
    go_simp
    refine rpu hK aIn λak=>?_
    clear hK K
    refine jg ?_
    rotate_left
    go_simp
    refine rpu hK aIn λak=>?_
    clear hK K
    refine aj 5 ?_
    refine jf 1 λK hK=>?_
    go_simp
    refine rpu hK aIn λak=>?_
    clear hK K
    refine aj 2 ?_
    refine aj 9 ?_
    refine jf 10 λK hK=>?_
    go_simp
    refine rpu hK aIn λak=>?_
    clear hK K
    refine jg ?_
    rotate_left
    all_goals
     clear hW6
     gi_wp2
     go_roundw
     case rel=>exact HRl.out
     case measure=>simp[intOf];omega
   ·gi_wp2
    refine bodyPost_ret (results_none rfl _ _ _) rfl ?_
    exact⟨⟨_,rfl⟩,.inr ⟨_,hJx⟩⟩
  ·obtain rfl:k=R:=by omega
   gi_wp2
   go_end0
   exact⟨⟨_,rfl⟩,.inl ⟨_,by rw[hR.out],hJ⟩⟩
end Go.Proofs.YtjlelckefiannaaGreatDoor
namespace Go.Proofs.YtjlelckefiannaaGreatDoor
set_option linter.unusedVariables false
set_option linter.unusedSimpArgs false
open Go.RowKit Go.Shelf
theorem aMn{P:Program}{ts:Array TypeId}{t:TypeId}{a b n:Int}(h:n=if a<b then a else b)(w:World):(Builtin.min_ ts t #[.int .i64 a,.int .i64 b]).run P w = .ok (.int .i64 n) w:=by
 rw[run_min_int2,show(if b<a then b else a)=n by rw[h];split<;>split<;>omega]
def cn(N k:Nat):Nat:=if 2*k+1<N then 2 else 1
abbrev encK (N:Nat) (a:Option Addr) (k:Nat):Array Value:=#[.slice (a.map λx=>⟨x.block,x.off+2*k*32,none⟩) (cn N k) (cn N k)]
def NextK(N:Nat)(pre:List Nat)(x:Nat)(_ _:World):Prop:=x=pre.length∧pre=List.range x∧2*x<N
theorem ayd(bx by_:Nat)(a:Option Addr)(N c:Nat)(hN:N≤1000000)(hc:N≤c)(ha:0<N→∃b off,a=some ⟨b,off,none⟩):
  aOy Tryz.prog 177 #[.pointer (some ⟨bx,0,none⟩),.pointer (some ⟨by_,0,none⟩)] (encK N a) (λ_ _ _=>True) (λ_ W=>W.heap[bx]? = some (.cells #[.slice a N c] 26 (0,0))∧W.heap[by_]? = some (.cells #[.int .i64 2] 3 (0,0)))
   (NextK N) (λxs=>xs=List.range ((N+1)/2)):=by
 intro lp J Jx W oJ oX hC hY h0
 refine(callsIn_wide (n:=6)).1 ?_
 refine callsIn_of_wp Tryz.func177 rfl trivial ?_ rfl
 simp only[Tryz.ntmps177,List.size_toArray,List.length_cons,List.length_nil,Nat.reduceAdd,Nat.reduceSub,Array.replicate_succ,Array.replicate_zero,List.push_toArray,List.append_toArray,List.nil_append,List.cons_append]
 have HH:=Lib.hid (And.intro oJ (And.intro hC hY))
 have HA:=Lib.hid ha
 clear oJ oX hC hY ha
 gi_wp2
 gi_loopw [4] (λiv wr=>∃(k p:Nat),Hid (p=2*k)∧k≤(N+1)/2∧iv = .int .i64 (p:Int)∧J (List.range k) wr) (λiv _=>N+1-(intOf iv).toNat)
 case atStart=>exact⟨0,0,rfl,Nat.zero_le _,rfl,h0⟩
 case round =>
  clear h0
  obtain⟨k,p,hp,hk,rfl,hJ⟩:=hrel
  obtain⟨r1,r2⟩:=HH.out.2.1 _ _ hJ
  by_cases hlt:p<N
  ·have l1:(p:Int)<(N:Int):=by omega
   obtain⟨b,off,rfl⟩:=HA.out aPl
   have hJd:=aap HH.out.1 hJ (Fr.refl F0 wr).drew
   obtain⟨fn,tmps,assign,body,hy,hY⟩:=(HH.out.2.2 (List.range k) k wr.drew wr.drew hJd (Fr.refl F0 _) ⟨by simp,rfl,by have:=hp.out;omega⟩).plain (m:=5)
   obtain⟨m,hm⟩:∃m,m=cn N k:=⟨_,rfl⟩
   obtain⟨q,hq⟩:∃q,q=p+m:=⟨_,rfl⟩
   simp only[encK,Option.map]at hy
   rw[←hm,←hp.out]at hy
   rw[←List.range_succ]at hY
   have hmin:=λts t w=>aMn (P:=Tryz.prog) (ts:=ts) (t:=t) (a:=2) (b:=((N-p:Nat):Int)) (n:=(m:Int)) (by rw[hm,cn,←hp.out];split<;>split<;>omega) w
   have hpm:p+m≤N:=by rw[hm,cn,←hp.out];split<;>omega
   have hm0:0<m:=by rw[hm,cn];split<;>omega
   replace hY:=Lib.hid hY
   replace hm:=Lib.hid hm
   gi_upto_region 3 with fail
   refine wpIn_wide.2 ?_
   have l2:p≤N:=by omega
   have l3:¬c=p:=by omega
   refine jm (S:=(λw'=>w'.heap[bx]? = some (.cells #[.slice (some ⟨b,off,none⟩) N c] 26 (0,0))∧w'.heap[by_]? = some (.cells #[.int .i64 2] 3 (0,0)))) ?_ λak=>?_
   ·exact(by((try dsimp only)<;>(exact⟨r1,r2⟩)))
   refine aj 0 ?_
   refine aj 1 ?_
   refine aj 2 ?_
   refine aj 3 ?_
   refine aj 4 ?_
   refine jf 5 λK hK=>?_
   go_simp
   refine rpu hK abz λak=>?_
   clear hK K
   refine aj 6 ?_
   refine jg ?_
   have r1':=ak.1
   have r2':=ak.2
   have hw1:IntKind.i64.wrap ((p:Int)+(m:Int))=(q:Int):=by rw[IntKind.wrap_i64];omega
   have hqc:(q:Int)≤(c:Int):=by omega
   have hpq:(p:Int)≤(q:Int):=by omega
   have hqp:q-p=m:=by omega
   have hqn:¬q=p:=by omega
   clear r1 r2 ak hq hJ hJd
   generalize wr.drew=wd at *
   gi_wp2
   refine hY.out.mono ?_
   rintro e W5 (⟨rfl,hJ5,_⟩|⟨rfl,hJx,_⟩)
   ·obtain⟨s1,s2⟩:=HH.out.2.1 _ _ hJ5
    have hw2:IntKind.i64.wrap ((p:Int)+2)=(p:Int)+2:=by rw[IntKind.wrap_i64];omega
    have HR:=Lib.hid (show ∃(k' p':Nat),Hid (p'=2*k')∧k'≤(N+1)/2∧(Value.int .i64 ((p:Int)+2)) = .int .i64 (p':Int)∧J (List.range k') W5 from
     ⟨k+1,p+2,by rw[Hid,hp.out];omega,by have:=hp.out;omega,by go_num,hJ5⟩)
    clear hY r1' r2' hy hmin hw1 hqc hpq hqp hqn
    gi_wp2
    go_roundw
    case rel=>exact HR.out
    case measure=>simp[intOf];omega
   ·clear hY r1' r2' hy hmin hw1 hqc hpq hqp hqn
    gi_wp2
    refine bodyPost_ret (results_none rfl _ _ _) rfl ?_
    exact⟨⟨_,rfl⟩,.inr ⟨_,hJx⟩⟩
  ·have l1:¬(p:Int)<(N:Int):=by omega
   have e1:k=(N+1)/2:=by have:=hp.out;omega
   rw[e1]at hJ
   clear e1
   gi_wp2
   go_end0
   first|exact⟨⟨_,rfl⟩,.inl hJ⟩|exact⟨⟨_,rfl⟩,.inl ⟨_,rfl,hJ⟩⟩
theorem ayn(a:Option Addr)(N c:Nat)(w:World):
  Calls Tryz.prog 151 #[.slice a N c,.int .i64 2] w λe w'=>∃bx by_,e = .returned (.func (.func 177) #[] #[.pointer (some ⟨bx,0,none⟩),.pointer (some ⟨by_,0,none⟩)])∧w'.heap[bx]? = some (.cells #[.slice a N c] 26 (0,0))∧w'.heap[by_]? = some (.cells #[.int .i64 2] 3 (0,0))∧Fr F0 w w'∧w.heap.size≤bx∧w.heap.size≤by_:=by
 have hmf:∀(fn:Fn) (first cap:Array Value) (w:World),(Instr.makeFunc fn first cap).run Tryz.prog w = .ok (.func fn first cap) w:=λ_ _ _ _=>rfl
 go_enter Tryz.func151,Tryz.ntmps151
 go_wp2
 go_ret
 refine⟨w.heap.size,w.heap.size+1,rfl,?_,?_,((Fr.refl F0 w).alloc _).alloc _,Nat.le_refl _,Nat.le_succ _⟩
 ·exact bg (heap_alloc_new w _)
 ·have:=heap_alloc_new (w.alloc (.cells #[.slice a N c] 26)) (.cells #[.int .i64 2] 3)
  rw[World.size_alloc]at this
  exact this
end Go.Proofs.YtjlelckefiannaaGreatDoor
namespace Go.Proofs.YtjlelckefiannaaGreatDoor
set_option linter.unusedVariables false
set_option linter.unusedSimpArgs false
open Go.RowKit Go.Shelf
attribute [local go_sem] Oper.semAt_some
theorem aj7{A D:World}{row:Option Nat}(hg:A.grownBy D row):Fr (λk=>row=some k) A D:=(Fr.refl _ A).grown hg λk hk _=>hk
theorem anw{A:World}{B:Nat}{row:Option Nat}{e0 size n:Nat}{v:Value}{xs:List Value}(hr:∀r,row=some r→B≤r∧∃o:Obj,A.heap[r]? = some o∧o.isCells=false)(h:A.ownsRow 0 e0 size v n xs):∀k,v.ownBlock=some k→¬row=some k:=λk hk e=>by
 obtain⟨_,o,ho,hcl⟩:=hr k e
 rcases h.2 with⟨rfl,_⟩|⟨g,cap,cur,rfl,_,hg,_⟩
 ·cases hk
 ·cases hk
  rw[hg]at ho
  cases ho
  cases hcl
theorem aaq{B:Nat}{A D:World}{row:Option Nat}{k:Nat}{cs:Array Value}{t:TypeId}{fr:Nat×Nat}(hs:A.heap[k]? = some (.cells cs t fr))(hg:A.grownBy D row)(hr:∀r,row=some r→B≤r∧∃o:Obj,A.heap[r]? = some o∧o.isCells=false):D.heap[k]? = some (.cells cs t fr) :=
 (aj7 hg).keeps (λe=>by
  obtain⟨_,o,ho,hcl⟩:=hr k e
  rw[hs]at ho
  cases ho
  cases hcl) hs
theorem abh.grown{et B B':Nat}{v:Value}{l:List (List UInt8)}{A D:World}{row:Option Nat}(h:abh et B A v l)(hg:A.grownBy D row)(hr:∀r,row=some r→B'≤r∧∃o:Obj,A.heap[r]? = some o∧o.isCells=false):abh et B D v l:=h.frS (aj7 hg) (anw hr h.own)
def UpI(B bx by_ g3:Nat)(l:List (List UInt8))(W:World):Prop:=∃v,W.heap[g3]? = some (.cells #[v] 26 (0,0))∧abh 24 B W v l∧∀k,v.ownBlock=some k→k≠bx∧k≠by_∧k≠g3
theorem amo(l:List (List UInt8))(a:Option Addr)(n c:Nat)(w:World)(h:Hs w a c l)(hn:n=l.length)(hl:l.length≤1000)(zn:Cub w):
  Calls Tryz.prog 97 #[.slice a n c] w (aQr (up l) w):=by
 have hmf:∀(fn:Fn) (first cap:Array Value) (w:World),(Instr.makeFunc fn first cap).run Tryz.prog w = .ok (.func fn first cap) w:=λ_ _ _ _=>rfl
 have HS:=Lib.hid h
 have HC:=Lib.hid zn
 have hro:=h.room
 rw[←hn]at hro
 have hn1:n≤1000:=by omega
 obtain⟨m,hm⟩:∃m,m=(n+1)/2:=⟨_,rfl⟩
 have HHf:=Lib.hid (λw=>apt n m aPl hm w)
 obtain⟨CC,hmk,hown⟩:=amc w m aPl
 have HCh:=Lib.hid (λW=>ayn a n c W)
 have HQ:=Lib.hid (λbx by_=>ayd bx by_ a n c aPl hro.1 (λh0=>by
  obtain⟨b,off,e,_⟩:=h.get 0 aPl
  exact⟨b,off,e⟩))
 replace hn:=Lib.hid hn
 replace hm:=Lib.hid hm
 clear h zn hl
 refine callsIn_wide (n:=6) |>.1 ?_
 refine callsIn_of_wp_marks Tryz.func97 rfl trivial ?_ rfl
 simp only[Tryz.ntmps97,List.size_toArray,List.length_cons,List.length_nil,Nat.reduceAdd,Nat.reduceSub,Array.replicate_succ,Array.replicate_zero,List.push_toArray,List.append_toArray,List.nil_append,List.cons_append]
 gi_wp2
 refine⟨trivial,?_⟩
 (with_reducible refine(callsIn_wide.2 (HHf.out _)).mono ?_);rintro e w1 ⟨rfl,hw⟩;replace hw:=hw.symm;subst hw
 gi_upto_region 2 with fail
 refine ag4 λW1 N1=>?_
 have r3:=N1.new
 have O1:=hown.fr0 N1.fr
 have F1:=((Fr.refl F0 w).alloc (.cells CC 24)).trans' N1.fr
 clear N1 hown hmk
 rw[World.size_alloc]at r3
 have s1:=Lib.hid (Array.getElem?_eq_some_iff.1 r3).1
 have hg3:w.heap.size≠w.heap.size+1:=by omega
 obtain⟨g3,aK1⟩:∃g,g=w.heap.size+1:=⟨_,rfl⟩
 obtain⟨g1,am1⟩:∃g,g=w.heap.size:=⟨_,rfl⟩
 rw[←aK1]at r3 hg3 ⊢
 rw[←am1]at O1 hg3 r3 ⊢
 replace hg3:=Lib.hid hg3
 have h31:=Lib.hid (show ¬g3<w.heap.size by omega)
 replace aK1:=Lib.hid aK1
 replace am1:=Lib.hid am1
 gi_wp2
 refine⟨trivial,?_⟩
 (with_reducible refine(callsIn_wide.2 (HCh.out _)).mono ?_);rintro e w2 ⟨bx,by_,rfl,r5,r6,f2,gx,gy⟩
 replace r3:=au f2 r3
 replace O1:=O1.fr0 f2
 have F:=F1.trans' f2
 have hbx:=Lib.hid (And.intro (show g1≠bx by have:=s1.out;have:=am1.out;have:=aK1.out;omega) (And.intro (show g1≠by_ by have:=s1.out;have:=am1.out;have:=aK1.out;omega) (And.intro (show bx≠g3 by have:=s1.out;have:=am1.out;have:=aK1.out;omega) (show by_≠g3 by have:=s1.out;have:=am1.out;have:=aK1.out;omega))))
 have hbl:=Lib.hid (And.intro (Array.getElem?_eq_some_iff.1 r5).1 (And.intro (Array.getElem?_eq_some_iff.1 r6).1 (Array.getElem?_eq_some_iff.1 r3).1))
 clear F1 f2 HCh gx gy s1
 have hwz:=Lib.hid F.size
 have hbl9:=hbl
 gi_wp2
 have hOI:OwnFrom w2.heap.size (fun(pre:List Nat) W'=>((W'.heap[bx]? = some (.cells #[.slice a n c] 26 (0,0))∧W'.heap[by_]? = some (.cells #[.int .i64 2] 3 (0,0)))∧UpI g1 bx by_ g3 ((up l).take pre.length) W')∧Below w.heap.size w2 W') :=
  OwnFrom.and (OwnFrom.and (OwnFrom.and (og (β:=List Nat) w2.heap.size bx (λ_=>#[.slice a n c]) 26 (0,0)) (og (β:=List Nat) w2.heap.size by_ (λ_=>#[.int .i64 2]) 3 (0,0))) (λs A D row h hgr hr=>by
   obtain⟨v,h3,ho,hd⟩:=h
   exact⟨v,aaq h3 hgr hr,ho.grown hgr hr,hd⟩)) (own_below (β:=List Nat) w2.heap.size w.heap.size w2 (Nat.le_refl _) hwz.out)
 have hFr:=Lib.hid (show ∀W',Below w.heap.size w2 W'→Fr F0 w W' from λW' b=>F.trans (Fr.uz b) λi hi hk=>by omega)
 refine adi (gf:=177) (lb:=#[.pointer (some ⟨bx,0,none⟩),.pointer (some ⟨by_,0,none⟩)]) rfl (enters_of Tryz.func177 (by kernel_rfl) rfl) (HQ.out bx by_) (λ_=>rfl) (λ_ _=>trivial) (λ_ _=>trivial)
  (fun(pre:List Nat) W'=>((W'.heap[bx]? = some (.cells #[.slice a n c] 26 (0,0))∧W'.heap[by_]? = some (.cells #[.int .i64 2] 3 (0,0)))∧UpI g1 bx by_ g3 ((up l).take pre.length) W')∧Below w.heap.size w2 W')
  (λ_ _ _=>False)
  hOI (λcc=>yx _ _)
  (λpre W' h=>⟨h.1.1.1,h.1.1.2⟩)
  ⟨⟨⟨r5,r6⟩,⟨_,r3,O1,λk hk=>by cases hk;exact⟨hbx.out.1,hbx.out.2.1,hg3.out⟩⟩⟩,Below.refl _ _⟩
  (λpre x a' W'=>2*x<n∧x=pre.length∧∃v,a' = { tmps:=#[.slice a n c,undef,.slice none 0 0,.pointer (some ⟨g3,0,none⟩),.slice (a.map λy=>⟨y.block,y.off+2*x*32,none⟩) (cn n x) (cn n x),.slice a n c,.int .i64 (n:Int),.int .i64 (m:Int),.slice (some ⟨g1,0,none⟩) 0 m,.slice a n c,.func (.func 177) #[] #[.pointer (some ⟨bx,0,none⟩),.pointer (some ⟨by_,0,none⟩)],.slice (a.map λy=>⟨y.block,y.off+2*x*32,none⟩) (cn n x) (cn n x),undef,undef,undef,undef,undef,undef,undef,undef,undef,undef,undef,undef,undef,undef],defers := [] }∧W'.heap[g3]? = some (.cells #[v] 26 (0,0))∧abh 24 g1 W' v ((up l).take pre.length)∧∀k,v.ownBlock=some k→k≠bx∧k≠by_∧k≠g3)
  (λpre x a' sx A D row h hgr hr=>by
   obtain⟨hx,hx2,v,e,h3,ho,hd⟩:=h
   exact⟨hx,hx2,v,e,aaq h3 hgr hr,ho.grown hgr hr,hd⟩) ?assign ?body ?done ?stop
 case assign =>
  intro l2 pre x W0 W' K hi0 f0 hn2 hK
  gi_wp2
  have hi4:=aap hOI hi0 f0
  refine hK _ _ (KeepsFrom.refl _ _) trivial hi4 ?_
  obtain⟨v,q3,ho,hd⟩:=hi4.1.2
  exact⟨hn2.2.2,hn2.1,v,rfl,q3,ho,hd⟩
 case body =>
  rintro l2 pre x a' W' hi ⟨hx,hxp,v,rfl,q3,ho,hd⟩
  have hkl:2*x<l.length:=by have:=hn.out;omega
  have hT:=aLf l x hkl
  have hAl:=HS.out.ok.get hkl
  have hMl:(mate l x).length=32:=by rw[mate];split;exact HS.out.ok.get (by assumption);exact hAl
  obtain⟨z,hz⟩:∃z,z=cn n x-1:=⟨_,rfl⟩
  obtain⟨bb,off,rfl,HL1,_⟩:=HS.out.load (2*x) hkl
  have HL2:∀W,Fr F0 w W→(iq 24 (.pointer (some ⟨bb,off+2*x*32+z*32,none⟩))).run Tryz.prog W = .ok (.agg (hc (mate l x))) W:=by
   by_cases h2:2*x+1<l.length
   ·obtain⟨b',off',e,h3,_⟩:=HS.out.load (2*x+1) h2
    cases e
    have ez:z=1:=by rw[hz,cn,if_pos (by have:=hn.out;omega)]
    rw[mate,if_pos h2,ez,show off+2*x*32+1*32=off+(2*x+1)*32 by omega]
    exact h3
   ·have ez:z=0:=by rw[hz,cn,if_neg (by have:=hn.out;omega)]
    rw[mate,if_neg h2,ez,Nat.zero_mul,Nat.add_zero]
    exact HL1
  have hkn:1≤cn n x:=by rw[cn];split<;>omega
  simp only[Option.map_some]
  obtain⟨kn,hkn2⟩:∃k,k=cn n x:=⟨_,rfl⟩
  rw[←hkn2]at hz hkn ⊢
  obtain⟨o,hoe⟩:∃o,o=off+2*x*32:=⟨_,rfl⟩
  rw[←hoe]at HL1 HL2 ⊢
  obtain⟨A0,hA0⟩:∃A0,A0=l.getD (2*x) []:=⟨_,rfl⟩
  obtain⟨M,hMM⟩:∃M,M=mate l x:=⟨_,rfl⟩
  rw[←hA0]at HL1 hT hAl
  rw[←hMM]at HL2 hT hMl
  have hk2:kn≤2:=by rw[hkn2,cn];split<;>omega
  have hw1:IntKind.i64.wrap ((kn:Int)-1)=(z:Int):=by rw[IntKind.wrap_i64];omega
  have l1:0<kn:=by omega
  have l3:z<kn:=by omega
  have l2:(z:Int)<(kn:Int):=by omega
  clear hkn2 hoe hA0 hMM hz hkn
  have HJ:=Lib.hid (λW (f:Fr F0 w W)=>agp A0 M hAl hMl W (HC.out.fr f λe=>e))
  have hRl:=aez A0 M
  obtain⟨R,hR⟩:∃R,R=hh A0 M:=⟨_,rfl⟩
  rw[←hR]at hT hRl HJ
  have sR:=jl hRl
  have oR:=qg R
  have fW:=Lib.hid (hFr.out _ hi.2)
  have hlen:((up l).take pre.length).length≤1000:=by rw[List.length_take,zx];have:=hn.out;omega
  have HO:=Lib.hid (λW (f:Fr F0 W' W)=>(ho.fr0 f).appH R hRl zz36 aPl 26)
  obtain⟨tl,htl⟩:∃k,k=((up l).take pre.length).length+1:=⟨_,rfl⟩
  rw[←htl]at HO
  have hbl:=λW=>aa3 W (hc R) sR
  have HD:=Lib.hid (And.intro hd (And.intro ho hi))
  have hnv:=Lib.hid (show ∀i,v.ownBlock=some i→¬i<w.heap.size from λi e=>by have:=ho.blk i e;have:=am1.out;omega)
  replace HL1:=Lib.hid HL1
  replace HL2:=Lib.hid HL2
  replace htl:=Lib.hid htl
  replace hT:=Lib.hid hT
  replace hR:=Lib.hid hR
  clear hlen hi ho hd hAl hMl
  generalize hc A0=X at *
  generalize hc M=Y at *
  gi_upto_region 4 with fail
  refine ad8 (S:=(λw'=>((iq 24 (.pointer (some ⟨bb,o,none⟩))).run Tryz.prog w' = .ok (.agg X) w'∧(iq 24 (.pointer (some ⟨bb,o+z*32,none⟩))).run Tryz.prog w' = .ok (.agg Y) w')∧Fr F0 w w')) (by kernel_rfl) (by kernel_rfl) (λ_ _ h=>h) ?_ (λak=>?_)
  ·exact(by((try dsimp only)<;>(exact⟨⟨HL1.out _ fW.out.drew,HL2.out _ fW.out.drew⟩,fW.out.drew⟩)))
  refine aj 1 ?_
  refine aj 2 ?_
  refine aj 3 ?_
  refine aj 4 ?_
  refine aj 5 ?_
  refine aj 6 ?_
  refine aj 7 ?_
  refine aj 8 ?_
  refine aj 9 ?_
  refine rdy [0,10] ?_
  refine rco (λK hK=>?_) (rco (λK hK=>?_) AllReadyH.nil)
  go_simp
  refine rpu hK aub λak=>?_
  clear hK K
  refine jf 10 λK hK=>?_
  go_simp
  ((with_reducible refine(HJ.out _ ak.2).mono ?_);rintro e w3 ⟨rfl,f5⟩;obtain⟨a5,c5,w5,happ,ho5,f6,hs5,hb5⟩:=HO.out w3 ((Fr.refl F0 W').drew.trans' f5);have q3a:=au ((Fr.refl F0 W').drew.trans' f5) q3;have q3b:=bg (o := .cells (hc R) 24) q3a;have q35:=f6.keeps (λe=>(HD.out.1 _ e).2.2 rfl) q3a;have f7:Fr F0 w w5:=(ak.2.trans' f5).trans f6 (λi hi e=>hnv.out i e hi);have f8:=Lib.hid (f7.setCell (p:=⟨g3,0,none⟩) (λh=>absurd h h31.out) (.slice a5 tl c5));have f56:=Lib.hid (And.intro f5 (And.intro f6 (And.intro ho5 hb5))))
  refine rpu hK aub λak=>?_
  clear hK K
  refine jf 11 λK hK=>?_
  go_simp
  refine rpu hK aub λak=>?_
  clear hK K
  refine jf 12 λK hK=>?_
  go_simp
  refine rpu hK aub λak=>?_
  clear hK K
  refine jf 13 λK hK=>?_
  go_simp
  refine rpu hK aub λak=>?_
  clear hK K
  refine jg ?_
  rotate_left
  go_simp
  ((with_reducible refine(HJ.out _ ak.2).mono ?_);rintro e w3 ⟨rfl,f5⟩;obtain⟨a5,c5,w5,happ,ho5,f6,hs5,hb5⟩:=HO.out w3 ((Fr.refl F0 W').drew.trans' f5);have q3a:=au ((Fr.refl F0 W').drew.trans' f5) q3;have q3b:=bg (o := .cells (hc R) 24) q3a;have q35:=f6.keeps (λe=>(HD.out.1 _ e).2.2 rfl) q3a;have f7:Fr F0 w w5:=(ak.2.trans' f5).trans f6 (λi hi e=>hnv.out i e hi);have f8:=Lib.hid (f7.setCell (p:=⟨g3,0,none⟩) (λh=>absurd h h31.out) (.slice a5 tl c5));have f56:=Lib.hid (And.intro f5 (And.intro f6 (And.intro ho5 hb5))))
  refine rpu hK aub λak=>?_
  clear hK K
  refine rdy [0,11] ?_
  refine rco (λK hK=>?_) (rco (λK hK=>?_) AllReadyH.nil)
  go_simp
  refine rpu hK aub λak=>?_
  clear hK K
  refine jf 11 λK hK=>?_
  go_simp
  refine rpu hK aub λak=>?_
  clear hK K
  refine jf 12 λK hK=>?_
  go_simp
  refine rpu hK aub λak=>?_
  clear hK K
  refine jf 13 λK hK=>?_
  go_simp
  refine rpu hK aub λak=>?_
  clear hK K
  refine jg ?_
  rotate_left
  go_simp
  refine rpu hK aub λak=>?_
  clear hK K
  refine jf 0 λK hK=>?_
  go_simp
  refine rpu hK aub λak=>?_
  clear hK K
  refine jf 12 λK hK=>?_
  go_simp
  refine rpu hK aub λak=>?_
  clear hK K
  refine jf 13 λK hK=>?_
  go_simp
  refine rpu hK aub λak=>?_
  clear hK K
  refine jg ?_
  rotate_left
  all_goals
   have hB5:=f56.out
   have g13:Fr F0 W' w3:=(Fr.refl F0 W').drew.trans' hB5.1
   have kp1:KeepsFrom w2.heap.size W' w3:=⟨g13.size,λk o hk ho2 hc2=>g13.keeps (λe=>e) ho2⟩
   have ho3:=HD.out.2.1.fr0 g13
   have kp2:KeepsFrom w2.heap.size w3 w5:=⟨hB5.2.1.size,λk o hk ho2 hc2=>hB5.2.1.keeps (λe=>anw (A:=w3) (row:=some k) (B:=0) (λr e9=>by cases e9;exact⟨Nat.zero_le _,o,ho2,hc2⟩) ho3.own k e rfl) ho2⟩
   have f9:Fr (λk=>k=g3) w5 (w5.setCell ⟨g3,0,none⟩ (.slice a5 tl c5)):=(Fr.refl (λk=>k=g3) w5).setCell (p:=⟨g3,0,none⟩) (λ_=>rfl) _
   have p5:=f9.keeps hbx.out.2.2.1 (hB5.2.1.keeps (λe=>(HD.out.1 _ e).1 rfl) (au g13 HD.out.2.2.1.1.1))
   have p6:=f9.keeps hbx.out.2.2.2 (hB5.2.1.keeps (λe=>(HD.out.1 _ e).2.1 rfl) (au g13 HD.out.2.2.1.1.2))
   have hd5:∀k,(Value.slice a5 tl c5).ownBlock=some k→k≠bx∧k≠by_∧k≠g3:=λk hk=>by
    rw[qm]at hk
    rcases hB5.2.2.2 k hk with e|e
    ·exact HD.out.1 k e
    ·have h1:=g13.size
     have h2:=HD.out.2.2.2.size
     have h3:=hbl9.out
     omega
   have hbe:Below w.heap.size w2 (w5.setCell ⟨g3,0,none⟩ (.slice a5 tl c5)) :=
    ((HD.out.2.2.2.trans (g13.below (Nat.le_trans hwz.out HD.out.2.2.2.size) λk hk e=>e)).trans (hB5.2.1.below (Nat.le_trans hwz.out (Nat.le_trans HD.out.2.2.2.size g13.size)) λk hk e=>hnv.out k e hk)).trans
     (f9.below (Nat.le_trans hwz.out (Nat.le_trans HD.out.2.2.2.size (Nat.le_trans g13.size hB5.2.1.size))) λk hk e=>h31.out aru)
   have HPo:=Lib.hid (show KeepsFrom w2.heap.size W' (w5.setCell ⟨g3,0,none⟩ (.slice a5 tl c5))∧True∧(((w5.setCell ⟨g3,0,none⟩ (.slice a5 tl c5)).heap[bx]? = some (.cells #[.slice (some ⟨bb,off,none⟩) n c] 26 (0,0))∧(w5.setCell ⟨g3,0,none⟩ (.slice a5 tl c5)).heap[by_]? = some (.cells #[.int .i64 2] 3 (0,0)))∧UpI g1 bx by_ g3 ((up l).take (pre ++ [x]).length) (w5.setCell ⟨g3,0,none⟩ (.slice a5 tl c5)))∧Below w.heap.size w2 (w5.setCell ⟨g3,0,none⟩ (.slice a5 tl c5))from
    ⟨(kp1.trans kp2).trans ((KeepsOthers.setCell w5 ⟨g3,0,none⟩ _).from _),trivial,⟨⟨p5,p6⟩,_,by rw[gq,q35];rfl,by
     rw[List.length_append,List.length_singleton,←hxp,hT.out,hxp]
     exact hB5.2.2.1.frS f9 λk hk e=>(hd5 k hk).2.2 e,hd5⟩,hbe⟩)
   clear hB5 g13 kp1 ho3 kp2 f9 p5 p6 hd5 hbe
   gi_wp2
   exact HPo.out
 case done =>
  rintro D ys W' hD hy hi hK
  have h9:=hOI.putObj (.deferred none) hi hD hK rfl
  obtain⟨v,q3,ho,hd⟩:=hi.1.2
  obtain⟨v',q3',ho',hd'⟩:=h9.1.2
  have es:v'=v:=by
   have hDg:D≠g3:=λe=>by have:=hbl.out.2.2;omega
   rw[World.putObj_heap_other (λe=>hDg e.symm),q3]at q3'
   simpa using q3'.symm
  subst es
  rw[show ys.length=(up l).length by rw[hy,List.length_range,zx,hn.out],List.take_length,am1.out]at ho'
  have R:=Lib.hid (ho'.new_ (hFr.out _ h9.2))
  clear ho' hd' q3' h9 hOI ho hd hi
  gi_wp2
  refine⟨by simp,.inl ⟨_,_,rfl,run_takeDeferred hK,?_⟩⟩
  refine⟨_,results_tmp rfl _ _ _,?_⟩
  exact R.out
 case stop =>
  rintro D cc pre W' hD h hK
  exact h.elim
end Go.Proofs.YtjlelckefiannaaGreatDoor
namespace Go.Proofs.YtjlelckefiannaaGreatDoor
set_option linter.unusedVariables false
set_option linter.unusedSimpArgs false
open Go.RowKit Go.Shelf
theorem azm{n:Nat}(h:rows n=0):n≤1:=Classical.byContradiction λhn=>by rw[af8 aPl]at h;omega
theorem aCk(l:List (List UInt8))(a:Option Addr)(n c:Nat)(w:World)(h:Hs w a c l)(hn:n=l.length)(h0:0<l.length)(hl:l.length≤1000)(zn:Cub w):
  Calls Tryz.prog 53 #[.slice a n c] w λe w'=>e = .returned (.tuple #[.agg (hc (aan l)),.int .i64 0])∧Fr F0 w w':=by
 obtain⟨T,hT⟩:∃T,T=aan l:=⟨_,rfl⟩
 have hTl:T.length=32:=by rw[hT];exact ae5 l h.ok h0
 have hro:=h.room
 rw[←hn]at hro
 rw[←hT]
 have sT:=jl hTl
 have oT:=qg T
 have HN:=Lib.hid (λw=>abm (n:Int) w)
 rw[show arw (n:Int)=0 by rw[arw,if_neg aPl,if_neg aPl]]at HN
 have HR:=Lib.hid (λw=>aew n aPl aPl w)
 obtain⟨R,hR⟩:∃R,R=rows n:=⟨_,rfl⟩
 rw[←hR]at HR
 replace hR:=Lib.hid hR
 replace hT:=Lib.hid hT
 have HC:=Lib.hid zn
 have HH:=Lib.hid (And.intro h (And.intro hn (And.intro h0 hl)))
 have aK3:=afk n aPl
 rw[←hR.out]at aK3
 clear h hn h0 hl zn
 go_enter Tryz.func53,Tryz.ntmps53
 go_upto_region 1 with fail
 refine aiy λW1 Z sZ N1=>?_
 have r2:=Lib.hid N1.new
 have F1:=Lib.hid N1.fr
 clear N1
 obtain⟨g2,hg2⟩:∃g,g=w.heap.size:=⟨_,rfl⟩
 rw[←hg2]at r2 ⊢
 have g2l:Hid (¬g2<w.heap.size):=by rw[Hid];omega
 clear hg2
 have hs0:=Lib.hid (HH.out.1.fr F1.out)
 go_wp2_with fail
 (with_reducible refine(HN.out _).mono ?_);rintro e w2 ⟨rfl,hw⟩;replace hw:=hw.symm;subst hw
 go_wp2_with fail
 (with_reducible refine(HR.out _).mono ?_);rintro e w2 ⟨rfl,hw⟩;replace hw:=hw.symm;subst hw
 go_wp2
 go_loopw [5,17] (λrv kv wr=>∃(row:List (List UInt8)) (k m:Nat) (b:Option Addr) (d:Nat),rv = .slice b m d∧kv = .int .i64 (k:Int)∧k≤R∧Hid (m=row.length)∧Hid (Hs wr b d row)∧Hid (aan row=T)∧Hid (rows m+k=R)∧0<m∧m≤1000∧m≤d∧Fr F0 W1 wr) (λ_ kv _=>R-(intOf kv).toNat)
 case atStart=>exact⟨l,0,n,a,c,rfl,rfl,Nat.zero_le _,HH.out.2.1,hs0,hT.out.symm,by rw[Hid,hR.out,Nat.add_zero],by have:=HH.out;omega,by have:=HH.out;omega,hro.1,Fr.refl _ _⟩
 case round =>
  obtain⟨row,k,m,b,d,rfl,rfl,hk,hm,hs,hrt,hrk,m0,m1,md,fo⟩:=hrel
  by_cases hkR:k<R
  ·have l1:(k:Int)<(R:Int):=by omega
   have h1:1<m:=Classical.byContradiction λhn=>by have:=hrk.out;rw[adt aPl]at this;omega
   have HU:=Lib.hid (amo row b m d wr hs.out hm.out arj (HC.out.fr (F1.out.trans' fo) λe=>e))
   have hrm:=af8 h1
   go_wp2_with fail
   (with_reducible refine HU.out.mono ?_);rintro e w3 ⟨a3,c3,rfl,hs3,f3,_⟩
   have hm3:(up row).length=(m+1)/2:=by rw[zx,←hm.out]
   have hd3:=hs3.room.1
   obtain⟨m3,hm3'⟩:∃k,k=(up row).length:=⟨_,rfl⟩
   rw[←hm3']at hm3 hd3 ⊢
   replace hm3':=Lib.hid hm3'
   replace hs3:=Lib.hid hs3
   have hrt3:=Lib.hid (show aan (up row)=T by rw[←au8 arj];exact hrt.out)
   have hrk3:=Lib.hid (show rows m3+(k+1)=R by rw[hm3];have:=hrk.out;omega)
   replace hm3:=Lib.hid hm3
   clear hrm HU
   go_wp2
   go_roundw
   case rel=>exact⟨up row,k+1,m3,a3,c3,rfl,by go_num,by omega,hm3',hs3,hrt3,hrk3,by have:=hm3.out;omega,by have:=hm3.out;omega,hd3,fo.trans' f3⟩
   case measure=>simp[intOf];omega
  ·have l1:¬(k:Int)<(R:Int):=by omega
   have h1:m≤1:=azm (by have:=hrk.out;omega)
   obtain rfl:m=1:=by omega
   obtain⟨bb,off,rfl,HL,_⟩:=hs.out.load 0 arj
   have HL0:=HL wr (Fr.refl _ _)
   rw[Nat.zero_mul,Nat.add_zero,show row.getD 0 []=T from by rw[←hrt.out,ajw arj]]at HL0
   have q2:=au fo r2.out
   have F9:=Lib.hid ((F1.out.trans' fo).setRow (λh=>absurd h g2l.out) (hc T))
   have q6:=Lib.hid (setRow_heap _ _ _ (hc T) _ _ q2)
   clear HL hs hrt fo hs0
   go_wp2
   refine bodyPost_ret (cu rfl _ _ g2 _ _ _ _ rfl q6.out Tryz.underlying24 rfl (by rw[Tryz.szHashJ,sT])) rfl ⟨rfl,F9.out⟩
end Go.Proofs.YtjlelckefiannaaGreatDoor
namespace Go.Proofs.YtjlelckefiannaaGreatDoor
set_option linter.unusedVariables false
set_option linter.unusedSimpArgs false
open Go.RowKit Go.Shelf
attribute [local go_sem] Oper.semAt_some
structure ayw (B g7 g8 gp i n:Nat) (T:List (List UInt8)) (k:Nat) (W:World) (v:Value) (out row:List (List UInt8)) (b:Option Addr) (d:Nat):Prop where
 h7:W.heap[g7]? = some (.cells #[v] 26 (0,0))
 h8:W.heap[g8]? = some (.cells #[.slice b row.length d] 26 (0,0))
 own:abh 24 B W v out
 hs:Hs W b d row
 len:row.length=(plk i n k).2.2
 len1:row.length≤1000
 way:out++alr row (plk i n k).2.1=T
 d1:∀k,v.ownBlock=some k→k≠g7∧k≠g8∧k≠gp
 d2:∀k,ql b=some k→k≠g7∧k≠g8∧k≠gp∧v.ownBlock≠some k
 pos:0<row.length
def WayI(B g7 g8 gp i n:Nat)(T:List (List UInt8))(k:Nat)(W:World):Prop:=∃v out row b d,ayw B g7 g8 gp i n T k W v out row b d
theorem Hs.aRv{a:Option Addr}{c:Nat}{l:List (List UInt8)}{B':Nat}{A D:World}{row:Option Nat}(h:Hs A a c l)(h0:0<l.length)(hg:A.grownBy D row)(hr:∀r,row=some r→B'≤r∧∃o:Obj,A.heap[r]? = some o∧o.isCells=false):Hs D a c l :=
 h.frx (aj7 hg) λk hk e=>by
  obtain⟨b,off,rfl,hcl⟩:=h.get 0 h0
  cases hk
  have hl:=h.ok.get h0
  have h1:=hcl 0 _ (List.getElem?_eq_getElem (by rw[List.length_map,hl];omega))
  rw[jq]at h1
  obtain⟨_,o,ho,hn⟩:=hr _ e
  rw[ho]at h1
  cases o<;>first|(exfalso;simp[Obj.cellAt]at h1;done)|(exfalso;simp[Obj.isCells]at hn;done)
theorem ayw.grown{B B' g7 g8 gp i n k:Nat}{T:List (List UInt8)}{A D:World}{row:Option Nat}{v:Value}{out rw_:List (List UInt8)}{b:Option Addr}{d:Nat}(h:ayw B g7 g8 gp i n T k A v out rw_ b d)(hg:A.grownBy D row)(hr:∀r,row=some r→B'≤r∧∃o:Obj,A.heap[r]? = some o∧o.isCells=false):ayw B g7 g8 gp i n T k D v out rw_ b d :=
 ⟨aaq h.h7 hg hr,aaq h.h8 hg hr,h.own.grown hg hr,h.hs.aRv h.pos hg hr,h.len,h.len1,h.way,h.d1,h.d2,h.pos⟩
theorem ayw.frS{B g7 g8 gp i n k:Nat}{T:List (List UInt8)}{A D:World}{v:Value}{out rw_:List (List UInt8)}{b:Option Addr}{d:Nat}(h:ayw B g7 g8 gp i n T k A v out rw_ b d)(f:Fr (λx=>x=gp) A D)(n7:g7≠gp)(n8:g8≠gp):ayw B g7 g8 gp i n T k D v out rw_ b d :=
 ⟨f.keeps n7 h.h7,f.keeps n8 h.h8,h.own.frS f λk hk=>(h.d1 k hk).2.2,h.hs.frx f λk hk=>(h.d2 k hk).2.2.1,h.len,h.len1,h.way,h.d1,h.d2,h.pos⟩
theorem ayw.fr0{B g7 g8 gp i n k:Nat}{T:List (List UInt8)}{A D:World}{v:Value}{out rw_:List (List UInt8)}{b:Option Addr}{d:Nat}(h:ayw B g7 g8 gp i n T k A v out rw_ b d)(f:Fr F0 A D):ayw B g7 g8 gp i n T k D v out rw_ b d :=
 ⟨au f h.h7,au f h.h8,h.own.fr0 f,h.hs.fr f,h.len,h.len1,h.way,h.d1,h.d2,h.pos⟩
theorem awd{P:World→Prop}{w:World}{z cs:Array Value}{t:TypeId}(k:∀W,adh w W w.heap.size cs t→P W):P ((w.alloc (.cells z t)).setRow w.heap.size cs):=k _ (aa9 w z cs t)
theorem aea{P:Program}{n l:Nat}{f:FuncId}{args:Array Value}{w:World}{R:Ending→World→Prop}(h:Calls P f args w R):CallsIn (Fence.wide.inRound l) n P f args w R:=(callsIn_wide (n:=n)).2 h
theorem aAp(r i n:Nat):jh (plC r i n):=an0 _ _ _
theorem aG3(l:List (List UInt8))(a:Option Addr)(n c i:Nat)(w:World)(h:Hs w a c l)(hn:n=l.length)(hi:i<n)(hl:l.length≤1000)(zn:Cub w):
  Calls Tryz.prog 60 #[.slice a n c,.int .i64 (i:Int)] w λe w'=>∃b d,e = .returned (.tuple #[.slice b (alr l i).length d,.int .i64 0])∧Hs w' b d (alr l i)∧Fr F0 w w'∧∀k,ql b=some k→w.heap.size≤k:=by
 obtain⟨T,hT⟩:∃T,T=alr l i:=⟨_,rfl⟩
 have hTl:T.length=rows n:=by rw[hT,akf,hn]
 rw[←hT]
 have HN:=Lib.hid (λw=>abm (n:Int) w)
 rw[show arw (n:Int)=0 by rw[arw,if_neg aPl,if_neg aPl]]at HN
 have HP:=Lib.hid (λw=>acv (i:Int) (n:Int) w)
 rw[decide_eq_true (show 0≤(i:Int)∧(i:Int)<(n:Int) by omega)]at HP
 have HR:=Lib.hid (λw=>aew n aPl aPl w)
 have aK3:=afk n aPl
 have HPl:=Lib.hid (λW=>akr i n W)
 have HQ:=Lib.hid (λg1 g2=>amj g1 g2 i n hi aPl aPl)
 obtain⟨R,hR⟩:∃R,R=rows n:=⟨_,rfl⟩
 rw[←hR]at HR hTl aK3 HQ
 obtain⟨CC,hmk,hown⟩:=amc w R aPl
 have hlow:=h.low aPl
 have HS:=Lib.hid h
 have HC:=Lib.hid zn
 have hro:=h.room
 rw[←hn]at hro
 have hn1:n≤1000:=by omega
 have hi2:=hi
 replace hn:=Lib.hid hn
 replace hT:=Lib.hid hT
 replace hR:=Lib.hid hR
 replace hTl:=Lib.hid hTl
 clear h zn hl
 refine callsIn_wide (n:=6) |>.1 ?_
 refine callsIn_of_wp_marks Tryz.func60 rfl trivial ?_ rfl
 simp only[Tryz.ntmps60,List.size_toArray,List.length_cons,List.length_nil,Nat.reduceAdd,Nat.reduceSub,Array.replicate_succ,Array.replicate_zero,List.push_toArray,List.append_toArray,List.nil_append,List.cons_append]
 gi_wp2
 refine⟨trivial,?_⟩
 (with_reducible refine(callsIn_wide.2 (HN.out _)).mono ?_);rintro e w1 ⟨rfl,hw⟩;replace hw:=hw.symm;subst hw
 gi_wp2
 refine⟨trivial,?_⟩
 (with_reducible refine(callsIn_wide.2 (HP.out _)).mono ?_);rintro e w1 ⟨rfl,hw⟩;replace hw:=hw.symm;subst hw
 gi_wp2
 refine⟨trivial,?_⟩
 (with_reducible refine(callsIn_wide.2 (HR.out _)).mono ?_);rintro e w1 ⟨rfl,hw⟩;replace hw:=hw.symm;subst hw
 gi_upto_region 7 with fail
 refine ag4 λW1 N1=>?_
 have r7:=N1.new
 have O1:=hown.fr0 N1.fr
 have F1:=((Fr.refl F0 w).alloc (.cells CC 24)).trans' N1.fr
 clear N1 hown hmk
 rw[World.size_alloc]at r7
 have hg7:w.heap.size≠w.heap.size+1:=by omega
 obtain⟨g7,aOq⟩:∃g,g=w.heap.size+1:=⟨_,rfl⟩
 obtain⟨g1,am1⟩:∃g,g=w.heap.size:=⟨_,rfl⟩
 rw[←aOq]at r7 hg7 ⊢
 rw[←am1]at O1 hg7 r7 hlow ⊢
 replace hg7:=Lib.hid hg7
 have h71:=Lib.hid (show ¬g7<w.heap.size by omega)
 have s1:=Lib.hid (Array.getElem?_eq_some_iff.1 r7).1
 replace aOq:=Lib.hid aOq
 replace am1:=Lib.hid am1
 gi_upto_region 8 with fail
 refine ag4 λW2 N2=>?_
 have r8:=N2.new
 replace r7:=N2.old r7
 replace O1:=O1.fr0 N2.fr
 replace F1:=F1.trans' N2.fr
 clear N2
 obtain⟨g8,hg8e⟩:∃g,g=W1.heap.size:=⟨_,rfl⟩
 rw[←hg8e]at r8 ⊢
 have h81:=Lib.hid (show ¬g8<w.heap.size by have:=aOq.out;have:=s1.out;omega)
 have g78:=Lib.hid (And.intro (show g7≠g8 by have:=s1.out;omega) (show g1≠g8 by have:=s1.out;have:=am1.out;have:=aOq.out;omega))
 replace hg8e:=Lib.hid hg8e
 gi_wp2
 refine⟨trivial,?_⟩
 (with_reducible refine(callsIn_wide.2 (HPl.out _)).mono ?_);rintro e w3 ⟨gi,gn,rfl,r5,r6,f3,_,_⟩
 replace r7:=au f3 r7
 replace r8:=au f3 r8
 replace O1:=O1.fr0 f3
 have F:=F1.trans' f3
 clear F1 f3 HPl
 have hgs:=Lib.hid (And.intro (Array.getElem?_eq_some_iff.1 r7).1 (And.intro (Array.getElem?_eq_some_iff.1 r8).1 (And.intro (Array.getElem?_eq_some_iff.1 r5).1 (Array.getElem?_eq_some_iff.1 r6).1)))
 have hwz:=Lib.hid F.size
 obtain⟨gp,hgp⟩:∃g,g=w3.heap.size+2:=⟨_,rfl⟩
 have hS0:ayw g1 g7 g8 gp i n T 0 w3 (.slice (some ⟨g1,0,none⟩) 0 R) [] l a c:=⟨r7,by rw[←hn.out];exact r8,O1,HS.out.fr F,hn.out.symm,by have:=hn.out;omega,hT.out.symm,(λk hk=>by cases hk;exact⟨hg7.out,g78.out.2,show g1≠gp by have:=hgs.out.1;have:=aOq.out;have:=am1.out;omega⟩),
  (λk hk=>by have h1:=hlow k hk;have h2:=am1.out;have h3:=h71.out;have h4:=h81.out;have h5:=hwz.out;exact⟨by omega,by omega,by omega,λe=>by have e2:=Option.some.inj (show some g1=some k from e);omega⟩),by have:=hn.out;omega⟩
 have hOI:OwnFrom w3.heap.size (fun(pre:List (Nat×Nat×Nat)) W'=>((pre = []→W'.heap[gi]? = some (.cells #[.int .i64 (i:Int)] 3 (0,0))∧W'.heap[gn]? = some (.cells #[.int .i64 (n:Int)] 3 (0,0)))∧WayI g1 g7 g8 gp i n T pre.length W')∧Below w.heap.size w3 W') :=
  OwnFrom.and (OwnFrom.and (λs A D row h hgr hr e=>⟨aaq (h e).1 hgr hr,aaq (h e).2 hgr hr⟩) (λs A D row h hgr hr=>by
   obtain⟨v,out,rw_,b,d,hh⟩:=h
   exact⟨v,out,rw_,b,d,hh.grown hgr hr⟩)) (own_below (β:=List (Nat×Nat×Nat)) w3.heap.size w.heap.size w3 (Nat.le_refl _) hwz.out)
 have hFr:=Lib.hid (show ∀W',Below w.heap.size w3 W'→Fr F0 w W' from λW' b=>F.trans (Fr.uz b) λi hi hk=>by omega)
 clear r7 r8 O1 F
 gi_wp2
 refine amf (gf:=158) (lb:=#[.pointer (some ⟨gi,0,none⟩),.pointer (some ⟨gn,0,none⟩)]) rfl (enters_of Tryz.func158 (by kernel_rfl) rfl) (HQ.out gi gn) (λ_=>rfl) (λh k=>Kb.trans h k) (λW o=>Kb.put aPl)
  (fun(pre:List (Nat×Nat×Nat)) W'=>((pre = []→W'.heap[gi]? = some (.cells #[.int .i64 (i:Int)] 3 (0,0))∧W'.heap[gn]? = some (.cells #[.int .i64 (n:Int)] 3 (0,0)))∧WayI g1 g7 g8 gp i n T pre.length W')∧Below w.heap.size w3 W')
  (λ_ _ _=>False)
  hOI (λcc=>yx _ _)
  (λpre W' h=>h.1.1)
  (λpre A cs h hA=>by
   have f:Fr (λk=>k=gp) A (A.setRow (w3.heap.size+2) cs):=by rw[←hgp];exact(Fr.refl (λk=>k=gp) A).setRow (g:=gp) (λ_=>rfl) cs
   obtain⟨⟨h1,v,out,rw_,b,d,h2⟩,h3⟩:=h
   exact⟨⟨λe=>⟨f.keeps (by have:=hgs.out.2.2.1;omega) (h1 e).1,f.keeps (by have:=hgs.out.2.2.2;omega) (h1 e).2⟩,v,out,rw_,b,d,h2.frS f (by have:=hgs.out.1;omega) (by have:=hgs.out.2.1;omega)⟩,
    h3.trans (f.below (Nat.le_trans hwz.out h3.size) λk hk e=>by have:=hwz.out;omega)⟩)
  ⟨⟨λ_=>⟨r5,r6⟩,_,_,_,_,_,hS0⟩,Below.refl _ _⟩
  (λpre x a' W'=>∃g9 v out row b d,a' = { tmps:=#[.slice a n c,.int .i64 (i:Int),undef,undef,.slice none 0 0,.int .i64 0,.int .i64 0,.pointer (some ⟨g7,0,none⟩),.pointer (some ⟨g8,0,none⟩),.pointer (some ⟨g9,0,none⟩),.slice a n c,.int .i64 (n:Int),.int .i64 0,.int .i64 0,.bool false,undef,.int .i64 (i:Int),.slice a n c,.int .i64 (n:Int),.bool true,.bool false,.slice a n c,.int .i64 (n:Int),.int .i64 (R:Int),.slice (some ⟨g1,0,none⟩) 0 R,.slice a n c,.int .i64 (i:Int),.slice a n c,.int .i64 (n:Int),.func (.func 158) #[] #[.pointer (some ⟨gi,0,none⟩),.pointer (some ⟨gn,0,none⟩)],.agg (plC x.1 x.2.1 x.2.2),undef,undef,undef,undef,undef,undef,undef,undef,undef,undef,undef],defers := [] } ∧
   W'.heap[g9]? = some (.cells (plC x.1 x.2.1 x.2.2) 190 (0,0))∧ayw g1 g7 g8 gp i n T pre.length W' v out row b d∧v.ownBlock≠some g9∧ql b≠some g9∧g9≠g7∧g9≠g8∧gp<W'.heap.size∧x=plk i n pre.length∧pre.length<R)
  (λpre x a' sx A D row h hgr hr=>by
   obtain⟨g9,v,out,rw_,b,d,e,h9,hs,r⟩:=h
   exact⟨g9,v,out,rw_,b,d,e,aaq h9 hgr hr,hs.grown hgr hr,r.1,r.2.1,r.2.2.1,r.2.2.2.1,Nat.lt_of_lt_of_le r.2.2.2.2.1 hgr.size,r.2.2.2.2.2⟩) ?assign ?body ?done ?stop
 case assign =>
  intro l2 pre x W0 W' K hi0 f0 hsz hnx hK
  obtain⟨k,hkR,hpre,hxk⟩:=hnx
  have hpl:pre.length=k:=by rw[hpre,afl]
  have sP:(plC x.1 x.2.1 x.2.2).size=3:=rfl
  have oP:=aAp x.1 x.2.1 x.2.2
  have hx2:=hxk
  clear hxk
  obtain⟨P,hP⟩:∃P,P=plC x.1 x.2.1 x.2.2:=⟨_,rfl⟩
  rw[←hP]at sP oP
  simp only[encP]
  rw[←hP]at hK ⊢
  replace hP:=Lib.hid hP
  have hi4:=aap hOI hi0 f0
  gi_wp2
  refine awd (P:=K _) λW4 N4=>?_
  obtain⟨v,out,row,b,d,hs⟩:=hi4.1.2
  have hs4:=hs.fr0 N4.fr
  have hi5:=aap hOI hi0 (f0.trans' N4.fr)
  refine hK _ _ ⟨N4.fr.size,λk o _ ho2 _=>N4.old ho2⟩ (Kb.fr N4.fr λe=>e) hi5 ?_
  have hg7':=(Array.getElem?_eq_some_iff.1 hs.h7).1
  have hg8':=(Array.getElem?_eq_some_iff.1 hs.h8).1
  exact⟨_,v,out,row,b,d,rfl,N4.new,hs4,λe=>Nat.lt_irrefl _ (hs.own.lt _ e),λe=>Nat.lt_irrefl _ (hs.hs.low hs.pos _ e),by omega,by omega,by have:=N4.fr.size;omega,by rw[hpl];exact hx2,by rw[hpl,hR.out];exact hkR⟩
 case body =>
  rintro l2 pre x a' W' hi ⟨g9,v,out,row,b,d,rfl,q9,S,n9,nb9,n97,n98,hgpl,hxk,hkR⟩
  obtain⟨r_,at_,wd_⟩:=x
  simp only at q9 ⊢
  have e1:at_=(plk i n pre.length).2.1:=by rw[←hxk]
  have e2:wd_=(plk i n pre.length).2.2:=by rw[←hxk]
  have hlen:row.length=wd_:=by rw[S.len,e2]
  have hat:at_<wd_:=by rw[e1,e2];exact aui i n hi2 _
  have hrk:=ag1 i n pre.length (by rw[←hR.out];omega)
  rw[←e2,←hR.out]at hrk
  have hwd:1<wd_:=Classical.byContradiction λhn=>by rw[adt aPl]at hrk;omega
  have arq:=S.way
  rw[←e1,az4 aPl,hlen]at arq
  have hwd1:wd_≤1000:=by rw[←hlen];exact S.len1
  have HOt:=Lib.hid (λW=>axt r_ at_ wd_ hat aPl aPl W)
  obtain⟨q,hq⟩:∃q,q=oth at_ wd_:=⟨_,rfl⟩
  have hqm:q<wd_:=by rw[hq];exact aRh hat
  rw[←hq]at HOt arq
  have hXl:=S.hs.ok.get (show q<row.length by omega)
  obtain⟨bb,off,rfl,HLq,_⟩:=S.hs.load q aPl
  have HLw:=Lib.hid (λW (h:Hs W (some ⟨bb,off,none⟩) d row)=>by
   obtain⟨b',off',e,h1,_⟩:=h.load q aPl
   cases e
   exact h1 W (Fr.refl _ _):∀W,Hs W (some ⟨bb,off,none⟩) d row→(iq 24 (.pointer (some ⟨bb,off+q*32,none⟩))).run Tryz.prog W = .ok (.agg (hc (row.getD q []))) W)
  obtain⟨X,hX⟩:∃X,X=row.getD q []:=⟨_,rfl⟩
  rw[←hX]at HLq hXl arq HLw
  have sX:=jl hXl
  have oX:=qg X
  have hol:out.length≤1000:=by have:=congrArg List.length arq;rw[List.length_append]at this;have:=hTl.out;omega
  have HO:=Lib.hid (λW (f:Fr F0 W' W)=>(S.own.fr0 f).appH X hXl zz36 aPl 26)
  obtain⟨tl,htl⟩:∃k,k=out.length+1:=⟨_,rfl⟩
  rw[←htl]at HO
  have hbl:=λW=>aa3 W (hc X) sX
  have q7:=S.h7
  have q8:=S.h8
  rw[hlen]at q8
  have fW:=Lib.hid (hFr.out _ hi.2)
  have hnv:=Lib.hid (show ∀i,v.ownBlock=some i→¬i<w.heap.size from λi e=>by have:=S.own.blk i e;have:=am1.out;omega)
  have l1:q<wd_:=hqm
  have hPn:=Lib.hid (show plk i n (pre.length+1)=(r_+1,at_/2,(wd_+1)/2) by rw[plk,←hxk])
  replace HLq:=Lib.hid HLq
  replace htl:=Lib.hid htl
  replace S:=Lib.hid S
  replace arq:=Lib.hid arq
  replace hlen:=Lib.hid hlen
  replace hol:=Lib.hid hol
  clear hxk e1 e2 hrk hq hX hat hqm hXl
  have sP:(plC r_ at_ wd_).size=3:=rfl
  generalize plC r_ at_ wd_=P at *
  have HPo:Hid (∀(w4 w5 w7:World) (a5:Option Addr) (c5:Nat) (a7:Option Addr) (c7:Nat),Fr F0 W' w4→abh 24 g1 w5 (.slice a5 tl c5) (out ++ [X])→Fr (λk=>v.ownBlock=some k) w4 w5→(∀k,ql a5=some k→v.ownBlock=some k∨w4.heap.size≤k) →
    Fr F0 (w5.setCell ⟨g7,0,none⟩ (.slice a5 tl c5)) w7→Hs w7 a7 c7 (up row)→(∀k,ql a7=some k→(w5.setCell ⟨g7,0,none⟩ (.slice a5 tl c5)).heap.size≤k) →
    KeepsFrom w3.heap.size W' (w7.setCell ⟨g8,0,none⟩ (.slice a7 (up row).length c7))∧Kb (w3.heap.size+2) W' (w7.setCell ⟨g8,0,none⟩ (.slice a7 (up row).length c7))∧(((pre ++ [(r_,at_,wd_)] = []→(w7.setCell ⟨g8,0,none⟩ (.slice a7 (up row).length c7)).heap[gi]? = some (.cells #[.int .i64 (i:Int)] 3 (0,0))∧(w7.setCell ⟨g8,0,none⟩ (.slice a7 (up row).length c7)).heap[gn]? = some (.cells #[.int .i64 (n:Int)] 3 (0,0))) ∧
     WayI g1 g7 g8 gp i n T (pre ++ [(r_,at_,wd_)]).length (w7.setCell ⟨g8,0,none⟩ (.slice a7 (up row).length c7)))∧Below w.heap.size w3 (w7.setCell ⟨g8,0,none⟩ (.slice a7 (up row).length c7)))):=by
   intro w4 w5 w7 a5 c5 a7 c7 f4 ho5 f5 hb5 f7 hs7 hb7
   have S':=S.out
   have z0:=hi.2.size
   have z1:=f4.size
   have z2:=f5.size
   have hg:=hgs.out
   have f6:Fr (λk=>k=g7) w5 (w5.setCell ⟨g7,0,none⟩ (.slice a5 tl c5)):=(Fr.refl (λk=>k=g7) w5).setCell (p:=⟨g7,0,none⟩) (λ_=>rfl) _
   have z3:=f6.size
   have z4:=f7.size
   have f8:Fr (λk=>k=g8) w7 (w7.setCell ⟨g8,0,none⟩ (.slice a7 (up row).length c7)):=(Fr.refl (λk=>k=g8) w7).setCell (p:=⟨g8,0,none⟩) (λ_=>rfl) _
   have ho4:=S'.own.fr0 f4
   have hd5:∀k,ql a5=some k→k≠g7∧k≠g8∧k≠gp:=λk hk=>by
    rcases hb5 k hk with e|e
    ·exact S'.d1 k e
    ·omega
   have hd7:∀k,ql a7=some k→k≠g7∧k≠g8∧k≠gp∧w5.heap.size≤k:=λk hk=>by have:=hb7 k hk;omega
   have q7:w5.heap[g7]? = some (.cells #[v] 26 (0,0)):=f5.keeps (λe=>(S'.d1 _ e).1 rfl) (au f4 S'.h7)
   have q8:w7.heap[g8]? = some (.cells #[.slice (some ⟨bb,off,none⟩) row.length d] 26 (0,0)):=au f7 (f6.keeps (λe=>g78.out.1 e.symm) (f5.keeps (λe=>(S'.d1 _ e).2.1 rfl) (au f4 S'.h8)))
   have q76:(w5.setCell ⟨g7,0,none⟩ (.slice a5 tl c5)).heap[g7]? = some (.cells #[.slice a5 tl c5] 26 (0,0)):=by rw[gq,q7];rfl
   have aOn:∀k,(Value.slice a5 tl c5).ownBlock=some k→k≠g7∧k≠g8∧k≠gp:=λk hk=>hd5 k (by rw[qm]at hk;exact hk)
   have hpl:(pre ++ [(r_,at_,wd_)]).length=pre.length+1:=by simp
   refine⟨⟨by have:=f8.size;omega,λk o hk ho2 hc2=>?_⟩,?_,⟨λe=>absurd e (by simp),.slice a5 tl c5,out ++ [X],up row,a7,c7,?_⟩,?_⟩
   ·have e4:w4.heap[k]? = some o:=au f4 ho2
    have e5:w5.heap[k]? = some o:=f5.keeps (λe=>anw (A:=w4) (row:=some k) (B:=0) (λr e9=>by cases e9;exact⟨Nat.zero_le _,o,e4,hc2⟩) ho4.own k e rfl) e4
    exact f8.keeps aPl (au f7 (f6.keeps aPl e5))
   ·have n1:¬v.ownBlock=some (w3.heap.size+2):=λe=>(S'.d1 _ e).2.2 hgp.symm
    intro o ho2
    exact f8.keeps aPl (au f7 (f6.keeps aPl (f5.keeps n1 (au f4 ho2))))
   ·refine⟨f8.keeps g78.out.1 (au f7 q76),by rw[gq,q8];rfl,((ho5.frS f6 λk hk=>(aOn k hk).1).fr0 f7).frS f8 λk hk=>(aOn k hk).2.1,hs7.frx f8 λk hk=>(hd7 k hk).2.1,?_,?_,?_,aOn,λk hk=>⟨(hd7 k hk).1,(hd7 k hk).2.1,(hd7 k hk).2.2.1,λe=>by have h1:=ho5.lt k e;have h2:=(hd7 k hk).2.2.2;omega⟩,?_⟩
    ·rw[hpl,hPn.out,zx,hlen.out]
    ·rw[zx];have:=S'.len1;omega
    ·rw[hpl,hPn.out,List.append_assoc,List.singleton_append];exact arq.out
    ·rw[zx];have:=S'.pos;omega
   ·have b1:=hi.2.trans (f4.below (B:=w.heap.size) (Nat.le_trans hwz.out z0) λk hk e=>e)
    have b2:=b1.trans (f5.below (B:=w.heap.size) aOj λk hk e=>hnv.out k e hk)
    have b3:=b2.trans (f6.below (B:=w.heap.size) aOj λk hk e=>h71.out aru)
    have b4:=b3.trans (f7.below (B:=w.heap.size) aOj λk hk e=>e)
    exact b4.trans (f8.below (B:=w.heap.size) aOj λk hk e=>h81.out aru)
  have HUp:=Lib.hid (λW (h:Hs W (some ⟨bb,off,none⟩) d row) (f:Fr F0 w W)=>amo row (some ⟨bb,off,none⟩) wd_ d W h hlen.out.symm (by have:=hlen.out;omega) (HC.out.fr f λe=>e))
  have h87:=g78.out.1
  gi_upto_region 10 with fail
  refine ad8 (S:=(λw'=>w'.heap[g8]? = some (.cells #[.slice (some ⟨bb,off,none⟩) wd_ d] 26 (0,0))∧w'.heap[g9]? = some (.cells P 190 (0,0))∧(iq 24 (.pointer (some ⟨bb,off+q*32,none⟩))).run Tryz.prog w' = .ok (.agg (hc X)) w')) (by kernel_rfl) (by kernel_rfl) (λ_ _ h=>h) ?_ (λak=>?_)
  ·exact(by((try dsimp only)<;>(exact⟨q8,q9,HLq.out _ (Fr.refl F0 W').drew⟩)))
  refine aj 1 ?_
  refine aj 2 ?_
  refine rdy [0,3] ?_
  refine rco (λK hK=>?_) (rco (λK hK=>?_) AllReadyH.nil)
  go_simp
  refine rpu hK aEo λak=>?_
  clear hK K
  refine jf 3 λK hK=>?_
  go_simp
  ((with_reducible refine(HOt.out _).mono ?_);rintro e w4 ⟨rfl,f5⟩;have g4:Fr F0 W' w4:=(Fr.refl F0 W').drew.trans' f5;obtain⟨a5,c5,w5,happ,ho5,f6,hs5,hb5⟩:=HO.out w4 g4;have q7a:=au g4 q7;have q7b:=bg (o := .cells (hc X) 24) q7a;have q75:=f6.keeps (λe=>(S.out.d1 _ e).1 rfl) q7a;have p8:=f6.keeps (λe=>(S.out.d1 _ e).2.1 rfl) (au g4 q8);have p9:=f6.keeps (λe=>n9 e) (au g4 q9);have aKy:=Lib.hid ((S.out.hs.fr g4).frx f6 (λk hk e=>(S.out.d2 k hk).2.2.2 e));have f8:Fr (λk=>k=g7) w5 (w5.setCell ⟨g7,0,none⟩ (.slice a5 tl c5)):=(Fr.refl (λk=>k=g7) w5).setCell (p:=⟨g7,0,none⟩) (λ_=>rfl) _;have p86:=f8.keeps (λe=>h87 e.symm) p8;have p96:=f8.keeps (λe=>n97 e) p9;have aOo:=Lib.hid (aKy.out.frx f8 (λk hk e=>(S.out.d2 k hk).1 e));have G:=Lib.hid (And.intro g4 (And.intro ho5 (And.intro f6 hb5)));replace f8:=Lib.hid f8)
  refine rpu hK zz17 λak=>?_
  clear hK K
  refine aj 4 ?_
  refine aj 5 ?_
  refine jf 6 λK hK=>?_
  go_simp
  refine rpu hK aEo λak=>?_
  clear hK K
  refine jf 7 λK hK=>?_
  go_simp
  refine rpu hK zz13 λak=>?_
  clear hK K
  refine jf 8 λK hK=>?_
  go_simp
  refine rpu hK aEo λak=>?_
  clear hK K
  refine jg ?_
  rotate_left
  go_simp
  ((with_reducible refine(HOt.out _).mono ?_);rintro e w4 ⟨rfl,f5⟩;have g4:Fr F0 W' w4:=(Fr.refl F0 W').drew.trans' f5;obtain⟨a5,c5,w5,happ,ho5,f6,hs5,hb5⟩:=HO.out w4 g4;have q7a:=au g4 q7;have q7b:=bg (o := .cells (hc X) 24) q7a;have q75:=f6.keeps (λe=>(S.out.d1 _ e).1 rfl) q7a;have p8:=f6.keeps (λe=>(S.out.d1 _ e).2.1 rfl) (au g4 q8);have p9:=f6.keeps (λe=>n9 e) (au g4 q9);have aKy:=Lib.hid ((S.out.hs.fr g4).frx f6 (λk hk e=>(S.out.d2 k hk).2.2.2 e));have f8:Fr (λk=>k=g7) w5 (w5.setCell ⟨g7,0,none⟩ (.slice a5 tl c5)):=(Fr.refl (λk=>k=g7) w5).setCell (p:=⟨g7,0,none⟩) (λ_=>rfl) _;have p86:=f8.keeps (λe=>h87 e.symm) p8;have p96:=f8.keeps (λe=>n97 e) p9;have aOo:=Lib.hid (aKy.out.frx f8 (λk hk e=>(S.out.d2 k hk).1 e));have G:=Lib.hid (And.intro g4 (And.intro ho5 (And.intro f6 hb5)));replace f8:=Lib.hid f8)
  refine rpu hK zz17 λak=>?_
  clear hK K
  refine aj 4 ?_
  refine aj 5 ?_
  refine rdy [0,6] ?_
  refine rco (λK hK=>?_) (rco (λK hK=>?_) AllReadyH.nil)
  go_simp
  refine rpu hK aEo λak=>?_
  clear hK K
  refine jf 6 λK hK=>?_
  go_simp
  refine rpu hK aEo λak=>?_
  clear hK K
  refine jf 7 λK hK=>?_
  go_simp
  refine rpu hK zz13 λak=>?_
  clear hK K
  refine jf 8 λK hK=>?_
  go_simp
  refine rpu hK aEo λak=>?_
  clear hK K
  refine jg ?_
  rotate_left
  go_simp
  refine rpu hK aEo λak=>?_
  clear hK K
  refine jf 0 λK hK=>?_
  go_simp
  refine rpu hK aEo λak=>?_
  clear hK K
  refine jf 7 λK hK=>?_
  go_simp
  refine rpu hK zz13 λak=>?_
  clear hK K
  refine jf 8 λK hK=>?_
  go_simp
  refine rpu hK aEo λak=>?_
  clear hK K
  refine jg ?_
  rotate_left
  all_goals
   have fW6:Fr F0 w (w5.setCell ⟨g7,0,none⟩ (.slice a5 tl c5)):=((fW.out.trans' G.out.1).trans G.out.2.2.1 (λi hi e=>hnv.out i e hi)).setCell (p:=⟨g7,0,none⟩) (λh=>absurd h h71.out) _
   have hU:=Lib.hid (HUp.out _ aOo.out fW6)
   have HP1:=Lib.hid (λw7 a7 c7 f7 hs7 hb7=>HPo.out w4 w5 w7 a5 c5 a7 c7 G.out.1 G.out.2.1 G.out.2.2.1 G.out.2.2.2 f7 hs7 hb7)
   have r86:=ak.1
   clear ak HPo p86 p96 aOo f8 p8 p9 aKy q75 fW6 hOI
   generalize w5.setCell ⟨g7,0,none⟩ (.slice a5 tl c5)=w6 at *
   gi_wp2
   refine⟨trivial,?_⟩
   (with_reducible refine(aea hU.out).mono ?_);rintro e w7 ⟨a7,c7,rfl,hs7,f7,hb7⟩
   have q87:=au f7 r86
   have HP2:=Lib.hid (HP1.out w7 a7 c7 f7 hs7 hb7)
   obtain⟨u,hu⟩:∃k,k=(up row).length:=⟨_,rfl⟩
   rw[←hu]at HP2 ⊢
   clear hu HP1 hU hs7 f7 hb7
   gi_wp2
   exact HP2.out
 case done =>
  rintro D ys W' hD hy hi hK
  have h9:=hOI.putObj (.deferred none) hi hD hK rfl
  obtain⟨v,out,row,b,d,hs⟩:=hi.1.2
  obtain⟨v',out',row',b',d',hs'⟩:=h9.1.2
  have es:v'=v:=by
   have hDg:D≠g7:=λe=>by have:=hgs.out.1;omega
   have q:=hs'.h7
   rw[World.putObj_heap_other (λe=>hDg e.symm),hs.h7]at q
   simpa using q.symm
  subst es
  have hy2:ys.length=R:=by rw[hy,afl]
  have hrw:row'.length≤1:=azm (by rw[hs'.len,hy2];have:=ag1 i n R (by rw[hR.out];exact Nat.le_refl _);have:=hR.out;omega)
  have e3:=hs'.way
  rw[auv hrw,List.append_nil]at e3
  obtain⟨b5,d5,ev,hs5⟩:=hs'.own.is
  have hb5:=hs'.own.blk
  rw[e3]at ev hs5
  rw[ev,am1.out]at hb5
  have q7:=hs.h7
  rw[ev]at q7
  have aP1:=Lib.hid (show ∃b d,(.returned (.tuple #[.slice b5 T.length d5,.int .i64 0]):Ending) = .returned (.tuple #[.slice b T.length d,.int .i64 0])∧Hs (W'.putObj D (.deferred none)) b d T∧Fr F0 w (W'.putObj D (.deferred none))∧∀k,ql b=some k→w.heap.size≤k from
   ⟨b5,d5,rfl,hs5,hFr.out _ h9.2,λk hk=>hb5 k ak9⟩)
  clear hs hs' h9 hOI hi ev hs5 hb5 e3 hrw
  gi_wp2
  refine⟨by simp,.inl ⟨_,_,rfl,run_takeDeferred hK,?_⟩⟩
  refine⟨_,results_tmp2 rfl _ _ _,?_⟩
  exact aP1.out
 case stop =>
  rintro D cc pre W' hD h hK
  exact h.elim
end Go.Proofs.YtjlelckefiannaaGreatDoor
namespace Go.Proofs.YtjlelckefiannaaGreatDoor
set_option linter.unusedVariables false
set_option linter.unusedSimpArgs false
open Go.RowKit Go.Shelf
theorem aNg{n:Int}(h:¬(1≤n∧n≤65536)):arw n≠0:=by
 unfold arw
 split
 ·decide
 ·split
  ·decide
  ·omega
theorem axv(h:List UInt8)(i n:Int)(b:Option Addr)(m d:Nat)(w:World)(hl:h.length=32)(hno:¬((1≤n∧n≤65536)∧(0≤i∧i<n))):
  Calls Tryz.prog 69 #[.agg (hc h),.int .i64 i,.int .i64 n,.slice b m d] w λe w'=>e = .returned (.tuple #[.agg (hc z32),.int .i64 1])∧Fr F0 w w':=by
 have HN:=Lib.hid (λw=>abm n w)
 have HP:=Lib.hid (λw=>acv i n w)
 have sz:=jl yg
 have oz:=qg z32
 obtain⟨X,hX⟩:∃X,X=hc h:=⟨_,rfl⟩
 rw[←hX]
 obtain⟨cv,hcv⟩:∃c,c=arw n:=⟨_,rfl⟩
 obtain⟨pv,hpv⟩:∃p,p=decide (0≤i∧i<n):=⟨_,rfl⟩
 rw[←hcv]at HN
 rw[←hpv]at HP
 have hor:cv≠0∨pv=false:=by
  by_cases h1:1≤n∧n≤65536
  ·right;rw[hpv,decide_eq_false_iff_not];exact λh2=>hno ⟨h1,h2⟩
  ·left;rw[hcv];exact aNg h1
 clear hcv hpv hno hl hX
 go_enter Tryz.func69,Tryz.ntmps69
 go_upto_region 1 with fail
 refine aiy λW1 Z sZ N1=>?_
 have r8:=N1.new
 have F:=(((Fr.refl F0 w).alloc (.cells X 24)).alloc (.cells #[.slice b m d] 26)).trans' N1.fr
 clear N1
 rw[World.size_alloc,World.size_alloc]at r8
 have g8l:Hid (¬w.heap.size+1+1<w.heap.size):=by rw[Hid];omega
 obtain⟨g8,hg8⟩:∃g,g=w.heap.size+1+1:=⟨_,rfl⟩
 rw[←hg8]at r8 g8l ⊢
 clear hg8
 have q8:=Lib.hid (setRow_heap _ _ _ (hc z32) _ _ r8)
 have F9:=Lib.hid (F.setRow (λh=>absurd h g8l.out) (hc z32))
 replace g8l:=Lib.hid g8l
 clear F
 refine wp_scope_straight ?_
 go_wp2_with fail
 (with_reducible refine(HN.out _).mono ?_);rintro e w2 ⟨rfl,hw⟩;replace hw:=hw.symm;subst hw
 by_cases hc0:cv=0
 ·subst hc0
  obtain rfl:pv=false:=hor.resolve_left (λh=>h rfl)
  clear hor
  go_wp2_with fail
  (with_reducible refine(HP.out _).mono ?_);rintro e w2 ⟨rfl,hw⟩;replace hw:=hw.symm;subst hw
  go_wp2
  try rw[Exit.noGoto_ret]
  refine bodyPost_ret (cu rfl _ _ g8 _ _ _ _ rfl q8.out Tryz.underlying24 rfl aOg) rfl ⟨rfl,F9.out⟩
 ·have l1:((cv:Int) != 0)=true:=bne_iff_ne.2 hc0
  clear hor hc0
  go_wp2
  try rw[Exit.noGoto_ret]
  refine bodyPost_ret (cu rfl _ _ g8 _ _ _ _ rfl q8.out Tryz.underlying24 rfl aOg) rfl ⟨rfl,F9.out⟩
theorem axu(h:List UInt8)(i n:Nat)(b:Option Addr)(m d:Nat)(w:World)(hl:h.length=32)(hi:i<n)(hb:n≤65536)(hm:m≠rows n)(hmm:m≤1000000):
  Calls Tryz.prog 69 #[.agg (hc h),.int .i64 (i:Int),.int .i64 (n:Int),.slice b m d] w λe w'=>e = .returned (.tuple #[.agg (hc z32),.int .i64 14])∧Fr F0 w w':=by
 have HN:=Lib.hid (λw=>abm (n:Int) w)
 rw[show arw (n:Int)=0 by rw[arw,if_neg aPl,if_neg aPl]]at HN
 have HP:=Lib.hid (λw=>acv (i:Int) (n:Int) w)
 rw[decide_eq_true (show 0≤(i:Int)∧(i:Int)<(n:Int) by omega)]at HP
 have HR:=Lib.hid (λw=>aew n aPl hb w)
 have l1:((m:Int) != (rows n:Nat))=true:=bne_iff_ne.2 aPl
 generalize rows n=R at *
 have sz:=jl yg
 have oz:=qg z32
 generalize hc h=X at *
 clear hi hm hl hb
 go_enter Tryz.func69,Tryz.ntmps69
 go_upto_region 1 with fail
 refine aiy λW1 Z sZ N1=>?_
 have r8:=N1.new
 have r7:=N1.old (heap_alloc_new (w.alloc (.cells X 24)) (.cells #[.slice b m d] 26))
 have F:=(((Fr.refl F0 w).alloc (.cells X 24)).alloc (.cells #[.slice b m d] 26)).trans' N1.fr
 clear N1
 rw[World.size_alloc,World.size_alloc]at r8
 rw[World.size_alloc]at r7
 have g8l:Hid (¬w.heap.size+1+1<w.heap.size):=by rw[Hid];omega
 obtain⟨g8,hg8⟩:∃g,g=w.heap.size+1+1:=⟨_,rfl⟩
 obtain⟨g7,hg7⟩:∃g,g=w.heap.size+1:=⟨_,rfl⟩
 rw[←hg8]at r8 g8l ⊢
 rw[←hg7]at r7 ⊢
 clear hg8 hg7
 have q8:=Lib.hid (setRow_heap _ _ _ (hc z32) _ _ r8)
 have F9:=Lib.hid (F.setRow (λh=>absurd h g8l.out) (hc z32))
 refine wp_scope_straight ?_
 go_wp2_with fail
 (with_reducible refine(HN.out _).mono ?_);rintro e w2 ⟨rfl,hw⟩;replace hw:=hw.symm;subst hw
 go_wp2_with fail
 (with_reducible refine(HP.out _).mono ?_);rintro e w2 ⟨rfl,hw⟩;replace hw:=hw.symm;subst hw
 go_upto_region 3 with fail
 refine jm (S:=(λw'=>w'.heap[g7]? = some (.cells #[.slice b m d] 26 (0,0)))) ?_ λak=>?_
 ·exact(by((try dsimp only)<;>(exact r7)))
 refine aj 0 ?_
 refine aj 1 ?_
 refine aj 2 ?_
 refine jf 3 λK hK=>?_
 go_simp
 ((with_reducible refine(HR.out _).mono ?_);rintro e w3 ⟨rfl,rfl⟩)
 refine rpu hK abz λak=>?_
 clear hK K
 refine aj 4 ?_
 refine jg ?_
 have q9:=Lib.hid (setRow_heap W1.drew _ _ (hc z32) _ _ r8)
 have F8:=Lib.hid (F.drew.setRow (λh=>absurd h g8l.out) (hc z32))
 have r8':W1.drew.heap[g8]? = some (.cells Z 24 (0,0)):=r8
 clear r7 r8 ak q8 F9 F
 generalize W1.drew=W2 at *
 go_wp2
 try rw[Exit.noGoto_ret]
 refine bodyPost_ret (cu rfl _ _ g8 _ _ _ _ rfl q9.out Tryz.underlying24 rfl aOg) rfl ⟨rfl,F8.out⟩
end Go.Proofs.YtjlelckefiannaaGreatDoor
namespace Go.Proofs.YtjlelckefiannaaGreatDoor
set_option linter.unusedVariables false
set_option linter.unusedSimpArgs false
open Go.RowKit Go.Shelf
attribute [local go_sem] Oper.semAt_some
structure ClS (g4 g7 g8 g10:Nat) (Z:Array Value) (wy:List (List UInt8)) (b:Option Addr) (d i n:Nat) (T:Option (List UInt8)) (k:Nat) (W:World) (H:List UInt8):Prop where
 h4:W.heap[g4]? = some (.cells (hc H) 24 (0,0))
 h7:W.heap[g7]? = some (.cells #[.slice b wy.length d] 26 (0,0))
 h8:W.heap[g8]? = some (.cells Z 24 (0,0))
 h10:W.heap[g10]? = some (.cells #[.int .i64 0] 37 (0,0))
 len:H.length=32
 way:zo (wy.drop k) H (plk i n k).2.1 (plk i n k).2.2=T
theorem ClS.frS{g4 g7 g8 g10:Nat}{Z:Array Value}{wy:List (List UInt8)}{b:Option Addr}{d i n:Nat}{T:Option (List UInt8)}{k:Nat}{A D:World}{H:List UInt8}{S:Nat→Prop}(h:ClS g4 g7 g8 g10 Z wy b d i n T k A H)(f:Fr S A D)(n4:¬S g4)(n7:¬S g7)(n8:¬S g8)(n10:¬S g10):ClS g4 g7 g8 g10 Z wy b d i n T k D H :=
 ⟨f.keeps n4 h.h4,f.keeps n7 h.h7,f.keeps n8 h.h8,f.keeps n10 h.h10,h.len,h.way⟩
theorem ClS.fr0{g4 g7 g8 g10:Nat}{Z:Array Value}{wy:List (List UInt8)}{b:Option Addr}{d i n:Nat}{T:Option (List UInt8)}{k:Nat}{A D:World}{H:List UInt8}(h:ClS g4 g7 g8 g10 Z wy b d i n T k A H)(f:Fr F0 A D):ClS g4 g7 g8 g10 Z wy b d i n T k D H:=h.frS f (λe=>e) (λe=>e) (λe=>e) (λe=>e)
theorem ClS.grown{g4 g7 g8 g10 B':Nat}{Z:Array Value}{wy:List (List UInt8)}{b:Option Addr}{d i n:Nat}{T:Option (List UInt8)}{k:Nat}{A D:World}{row:Option Nat}{H:List UInt8}(h:ClS g4 g7 g8 g10 Z wy b d i n T k A H)(hg:A.grownBy D row)(hr:∀r,row=some r→B'≤r∧∃o:Obj,A.heap[r]? = some o∧o.isCells=false):ClS g4 g7 g8 g10 Z wy b d i n T k D H :=
 ⟨aaq h.h4 hg hr,aaq h.h7 hg hr,aaq h.h8 hg hr,aaq h.h10 hg hr,h.len,h.way⟩
structure ClX (g4 g8 g10:Nat) (Z:Array Value) (T:Option (List UInt8)) (W:World):Prop where
 h4:W.heap[g4]? = some (.cells (hc z32) 24 (0,0))
 h8:W.heap[g8]? = some (.cells Z 24 (0,0))
 h10:W.heap[g10]? = some (.cells #[.int .i64 14] 37 (0,0))
 way:T=none
theorem axw(h:List UInt8)(i n:Nat)(wy:List (List UInt8))(b:Option Addr)(m d:Nat)(w:World)(hs:Hs w b d wy)(hm:m=wy.length)(hl:h.length=32)(hi:i<n)(hb:n≤65536)(hr:m=rows n)(zn:Cub w):
  Calls Tryz.prog 69 #[.agg (hc h),.int .i64 (i:Int),.int .i64 (n:Int),.slice b m d] w λe w'=>e = .returned (.tuple #[.agg (hc ((zo wy h i n).getD z32)),.int .i64 (if(zo wy h i n).isSome then 0 else 14)])∧Fr F0 w w':=by
 obtain⟨T,hT⟩:∃T,T=zo wy h i n:=⟨_,rfl⟩
 rw[←hT]
 have hT32:∀v,T=some v→v.length=32:=λv e=>ad9 wy h v i n hl (by rw[←hT];exact e)
 have HN:=Lib.hid (λw=>abm (n:Int) w)
 rw[show arw (n:Int)=0 by rw[arw,if_neg aPl,if_neg aPl]]at HN
 have HP:=Lib.hid (λw=>acv (i:Int) (n:Int) w)
 rw[decide_eq_true (show 0≤(i:Int)∧(i:Int)<(n:Int) by omega)]at HP
 have HR:=Lib.hid (λw=>aew n aPl hb w)
 have aK3:=afk n hb
 have HPl:=Lib.hid (λW=>akr i n W)
 have HQ:=Lib.hid (λg1 g2=>amj g1 g2 i n hi aPl hb)
 rw[←hr]at HR HQ aK3
 have sh:=jl hl
 have oh:=qg h
 have sz:=jl yg
 have oz:=qg z32
 have HS:=Lib.hid hs
 have HC:=Lib.hid zn
 have hro:=hs.room
 rw[←hm]at hro
 have hl':=hl
 obtain⟨X,hX⟩:∃X,X=hc h:=⟨_,rfl⟩
 rw[←hX]at sh oh ⊢
 have HH:=Lib.hid (And.intro hm (And.intro hl (And.intro hi (And.intro hb hr))))
 replace hT:=Lib.hid hT
 replace hT32:=Lib.hid hT32
 replace hX:=Lib.hid hX
 clear hs zn hl hl' hi hb hr hm
 refine callsIn_wide (n:=6) |>.1 ?_
 refine callsIn_of_wp_marks Tryz.func69 rfl trivial ?_ rfl
 simp only[Tryz.ntmps69,List.size_toArray,List.length_cons,List.length_nil,Nat.reduceAdd,Nat.reduceSub,Array.replicate_succ,Array.replicate_zero,List.push_toArray,List.append_toArray,List.nil_append,List.cons_append]
 refine wpIn_wide.2 ?_
 go_upto_region 1 with fail
 refine aiy λW1 Z sZ N1=>?_
 have r8:=N1.new
 have r7:=N1.old (heap_alloc_new (w.alloc (.cells X 24)) (.cells #[.slice b m d] 26))
 have r4:=N1.old (bg (o := .cells #[.slice b m d] 26) (heap_alloc_new w (.cells X 24)))
 have F:=(((Fr.refl F0 w).alloc (.cells X 24)).alloc (.cells #[.slice b m d] 26)).trans' N1.fr
 clear N1
 rw[World.size_alloc,World.size_alloc]at r8
 rw[World.size_alloc]at r7
 have hgg:∀x,x=w.heap.size→¬x<w.heap.size:=λx e=>by omega
 obtain⟨g8,hg8⟩:∃g,g=w.heap.size+1+1:=⟨_,rfl⟩
 obtain⟨g7,hg7⟩:∃g,g=w.heap.size+1:=⟨_,rfl⟩
 obtain⟨g4,hg4⟩:∃g,g=w.heap.size:=⟨_,rfl⟩
 rw[←hg8]at r8 ⊢
 rw[←hg7]at r7 ⊢
 rw[←hg4]at r4 ⊢
 have hgs:=Lib.hid (And.intro hg4 (And.intro hg7 hg8))
 clear hg4 hg7 hg8 hgg
 refine wp_scope_straight ?_
 go_wp2_with fail
 (with_reducible refine(HN.out _).mono ?_);rintro e w2 ⟨rfl,hw⟩;replace hw:=hw.symm;subst hw
 go_wp2_with fail
 (with_reducible refine(HP.out _).mono ?_);rintro e w2 ⟨rfl,hw⟩;replace hw:=hw.symm;subst hw
 go_upto_region 3 with fail
 refine jm (S:=(λw'=>w'.heap[g7]? = some (.cells #[.slice b m d] 26 (0,0)))) ?_ λak=>?_
 ·exact(by((try dsimp only)<;>(exact r7)))
 refine aj 0 ?_
 refine aj 1 ?_
 refine aj 2 ?_
 refine jf 3 λK hK=>?_
 go_simp
 ((with_reducible refine(HR.out _).mono ?_);rintro e w3 ⟨rfl,rfl⟩)
 refine rpu hK abz λak=>?_
 clear hK K
 refine aj 4 ?_
 refine jg ?_
 have r8':W1.drew.heap[g8]? = some (.cells Z 24 (0,0)):=r8
 have r7':W1.drew.heap[g7]? = some (.cells #[.slice b m d] 26 (0,0)):=r7
 have r4':W1.drew.heap[g4]? = some (.cells X 24 (0,0)):=r4
 replace F:=F.drew
 clear r7 r8 r4 ak HN HP HR
 generalize W1.drew=W2 at *
 go_wp2_with fail
 refine lu λW3 N3=>?_
 have r10:=N3.new
 replace r4:=N3.old r4'
 replace r7:=N3.old r7'
 replace r8:=N3.old r8'
 have aJa:=Lib.hid (And.intro (N3.ne r4') (And.intro (N3.ne r7') (N3.ne r8')))
 have aOr:=Lib.hid (show ¬W2.heap.size<w.heap.size from λe=>by have:=F.size;omega)
 replace F:=F.trans' N3.fr
 clear N3 r4' r7' r8'
 obtain⟨g10,aQe⟩:∃g,g=W2.heap.size:=⟨_,rfl⟩
 rw[←aQe]at r10 aJa aOr ⊢
 clear aQe
 refine wp_label ?_
 go_wp2_with fail
 (with_reducible refine(HPl.out _).mono ?_);rintro e w3 ⟨gi,gn,rfl,r5,r6,f3,gi1,gn1⟩
 have hgi:=Lib.hid (show g4<w3.heap.size∧g7<w3.heap.size∧g8<w3.heap.size∧g10<w3.heap.size from by
  have h1:=(Array.getElem?_eq_some_iff.1 r4).1;have h2:=(Array.getElem?_eq_some_iff.1 r7).1;have h3:=(Array.getElem?_eq_some_iff.1 r8).1;have h4:=(Array.getElem?_eq_some_iff.1 r10).1;have h5:=f3.size
  omega)
 have hgi2:=Lib.hid (And.intro (Array.getElem?_eq_some_iff.1 r5).1 (Array.getElem?_eq_some_iff.1 r6).1)
 replace r4:=au f3 r4
 replace r7:=au f3 r7
 replace r8:=au f3 r8
 replace r10:=au f3 r10
 replace F:=F.trans' f3
 clear f3 HPl gi1 gn1
 have hwz:=Lib.hid F.size
 obtain⟨gp,hgp⟩:∃g,g=w3.heap.size+2:=⟨_,rfl⟩
 have hS0:ClS g4 g7 g8 g10 Z wy b d i n T 0 w3 h:=⟨by rw[←hX.out];exact r4,by rw[←HH.out.1];exact r7,r8,r10,HH.out.2.1,hT.out.symm⟩
 have hOI:OwnFrom w3.heap.size (fun(pre:List (Nat×Nat×Nat)) W'=>((pre = []→W'.heap[gi]? = some (.cells #[.int .i64 (i:Int)] 3 (0,0))∧W'.heap[gn]? = some (.cells #[.int .i64 (n:Int)] 3 (0,0)))∧∃H,ClS g4 g7 g8 g10 Z wy b d i n T pre.length W' H)∧Below w.heap.size w3 W') :=
  OwnFrom.and (OwnFrom.and (λs A D row h hgr hr e=>⟨aaq (h e).1 hgr hr,aaq (h e).2 hgr hr⟩) (λs A D row h hgr hr=>by
   obtain⟨H,hh⟩:=h
   exact⟨H,hh.grown hgr hr⟩)) (own_below (β:=List (Nat×Nat×Nat)) w3.heap.size w.heap.size w3 (Nat.le_refl _) hwz.out)
 have hOX:∀c:Code,OwnFrom w3.heap.size (fun(pre:List (Nat×Nat×Nat)) W'=>(c = .exit 0∧ClX g4 g8 g10 Z T W')∧Below w.heap.size w3 W'):=λc =>
  OwnFrom.and (λs A D row h hgr hr=>⟨h.1,aaq h.2.h4 hgr hr,aaq h.2.h8 hgr hr,aaq h.2.h10 hgr hr,h.2.way⟩) (own_below (β:=List (Nat×Nat×Nat)) w3.heap.size w.heap.size w3 (Nat.le_refl _) hwz.out)
 have hFr:=Lib.hid (show ∀W',Below w.heap.size w3 W'→Fr F0 w W' from λW' b=>F.trans (Fr.uz b) λi hi hk=>by omega)
 clear r4 r7 r8 r10 F
 go_wp2_with fail
 refine(wpIn_wide (n:=6)).1 ?_
 refine amf (gf:=158) (lb:=#[.pointer (some ⟨gi,0,none⟩),.pointer (some ⟨gn,0,none⟩)]) rfl (enters_of Tryz.func158 (by kernel_rfl) rfl) (HQ.out gi gn) (λ_=>rfl) (λh k=>Kb.trans h k) (λW o=>Kb.put aPl)
  (fun(pre:List (Nat×Nat×Nat)) W'=>((pre = []→W'.heap[gi]? = some (.cells #[.int .i64 (i:Int)] 3 (0,0))∧W'.heap[gn]? = some (.cells #[.int .i64 (n:Int)] 3 (0,0)))∧∃H,ClS g4 g7 g8 g10 Z wy b d i n T pre.length W' H)∧Below w.heap.size w3 W')
  (λc pre W'=>(c = .exit 0∧ClX g4 g8 g10 Z T W')∧Below w.heap.size w3 W')
  hOI hOX
  (λpre W' h=>h.1.1)
  (λpre A cs h hA=>by
   have f:Fr (λk=>k=gp) A (A.setRow (w3.heap.size+2) cs):=by rw[←hgp];exact(Fr.refl (λk=>k=gp) A).setRow (g:=gp) (λ_=>rfl) cs
   obtain⟨⟨h1,H,h2⟩,h3⟩:=h
   have hg:=hgi.out
   exact⟨⟨λe=>⟨f.keeps (by have:=hgi2.out.1;omega) (h1 e).1,f.keeps (by have:=hgi2.out.2;omega) (h1 e).2⟩,H,h2.frS f aPl aPl aPl aPl⟩,
    h3.trans (f.below (Nat.le_trans hwz.out h3.size) λk hk e=>by have:=hwz.out;omega)⟩)
  ⟨⟨λ_=>⟨r5,r6⟩,_,hS0⟩,Below.refl _ _⟩
  (λpre x a' W'=>∃g11,a' = { tmps:=#[.agg X,.int .i64 (i:Int),.int .i64 (n:Int),.slice b m d,.pointer (some ⟨g4,0,none⟩),undef,undef,.pointer (some ⟨g7,0,none⟩),.pointer (some ⟨g8,0,none⟩),.int .i64 0,.pointer (some ⟨g10,0,none⟩),.pointer (some ⟨g11,0,none⟩),undef,.int .i64 (n:Int),.int .i64 0,.bool false,.bool false,.int .i64 (i:Int),.int .i64 (n:Int),.bool true,.bool false,.bool false,undef,.slice b m d,.int .i64 (m:Int),.int .i64 (n:Int),.int .i64 (m:Int),.bool false,undef,.int .i64 (i:Int),.int .i64 (n:Int),.func (.func 158) #[] #[.pointer (some ⟨gi,0,none⟩),.pointer (some ⟨gn,0,none⟩)],.agg (plC x.1 x.2.1 x.2.2),undef,undef,undef,undef,undef,undef,undef,undef,undef,undef,undef,undef,undef,undef,undef,undef,undef,undef,undef,undef,undef,undef,undef,undef,undef,undef],defers := [] } ∧
   W'.heap[g11]? = some (.cells (plC x.1 x.2.1 x.2.2) 190 (0,0))∧g11≠g4∧g11≠g10∧gp<W'.heap.size∧x=plk i n pre.length∧pre.length<m)
  (λpre x a' sx A D row h hgr hr=>by
   obtain⟨g11,e,h9,r⟩:=h
   exact⟨g11,e,aaq h9 hgr hr,r.1,r.2.1,Nat.lt_of_lt_of_le r.2.2.1 hgr.size,r.2.2.2⟩) ?assign ?body ?done ?stop
 case assign =>
  intro l2 pre x W0 W' K hi0 f0 hsz hnx hK
  obtain⟨k,hkR,hpre,hxk⟩:=hnx
  have hpl:pre.length=k:=by rw[hpre,afl]
  have sP:(plC x.1 x.2.1 x.2.2).size=3:=rfl
  have oP:=aAp x.1 x.2.1 x.2.2
  have hx2:=hxk
  clear hxk
  obtain⟨P,hP⟩:∃P,P=plC x.1 x.2.1 x.2.2:=⟨_,rfl⟩
  rw[←hP]at sP oP
  simp only[encP]
  rw[←hP]at hK ⊢
  replace hP:=Lib.hid hP
  have hi4:=aap hOI hi0 f0
  gi_wp2
  refine awd (P:=K _) λW4 N4=>?_
  obtain⟨H,hs⟩:=hi4.1.2
  have hi5:=aap hOI hi0 (f0.trans' N4.fr)
  refine hK _ _ ⟨N4.fr.size,λk o _ ho2 _=>N4.old ho2⟩ (Kb.fr N4.fr λe=>e) hi5 ?_
  have h1:=(Array.getElem?_eq_some_iff.1 hs.h4).1
  have h2:=(Array.getElem?_eq_some_iff.1 hs.h10).1
  exact⟨_,rfl,N4.new,by omega,by omega,by have:=N4.fr.size;omega,by rw[hpl];exact hx2,by rw[hpl,HH.out.2.2.2.2];exact hkR⟩
 case body =>
  rintro l2 pre x a' W' hi ⟨g11,rfl,q11,n114,n1110,hgpl,hxk,hkm⟩
  obtain⟨r_,at_,wd_⟩:=x
  simp only at q11 ⊢
  obtain⟨H,S⟩:=hi.1.2
  have e0:r_=pre.length:=by have:=aK7 i n pre.length;rw[←hxk]at this;exact this
  have e1:at_=(plk i n pre.length).2.1:=by rw[←hxk]
  have e2:wd_=(plk i n pre.length).2.2:=by rw[←hxk]
  have hat:at_<wd_:=by rw[e1,e2];exact aui i n HH.out.2.2.1 _
  have hrk:=ag1 i n pre.length (by have:=HH.out.2.2.2.2;omega)
  rw[←e2,←HH.out.2.2.2.2]at hrk
  have hwd:1<wd_:=Classical.byContradiction λhn=>by rw[adt aPl]at hrk;omega
  have hwd1:wd_≤100000:=by have:=azo i n pre.length;rw[←e2]at this;have:=HH.out.2.2.2.1;omega
  have hkl:pre.length<wy.length:=by have:=HH.out.1;omega
  have arq:=S.way
  rw[←e1,←e2,List.drop_eq_getElem_cons hkl,att _ _ _ _ _ aPl]at arq
  have hXl:=HS.out.ok.get hkl
  obtain⟨bb,off,rfl,HLq,_⟩:=HS.out.load pre.length hkl
  obtain⟨X2,hX2⟩:∃X,X=wy.getD pre.length []:=⟨_,rfl⟩
  rw[←hX2]at HLq hXl
  rw[show wy[pre.length]=X2 by rw[hX2,List.getD_eq_getElem?_getD,List.getElem?_eq_getElem hkl];rfl]at arq
  rw[←e0]at HLq
  have hFW:=hFr.out _ hi.2
  have HL1:=HLq W' hFW
  have sY:=jl hXl
  have oY:=qg X2
  have sH:=jl S.len
  have oH:=qg H
  have HAl:=Lib.hid (λW=>amn r_ at_ wd_ aPl aPl W)
  have heq:=λw=>uf w X2 H hXl S.len
  obtain⟨EQ,hEQ⟩:∃b,b=decide (X2=H):=⟨_,rfl⟩
  obtain⟨AL,hAL⟩:∃b,b=alone at_ wd_:=⟨_,rfl⟩
  rw[←hEQ,←hAL]at arq
  rw[←hEQ]at heq
  rw[←hAL]at HAl
  have hPn:=Lib.hid (show plk i n (pre.length+1)=(r_+1,at_/2,(wd_+1)/2) by rw[plk,←hxk])
  have hpl:(pre ++ [(r_,at_,wd_)]).length=pre.length+1:=by simp
  have hg:=Lib.hid hgi.out
  have hgw:=Lib.hid hgs.out
  have HNo:Hid ((EQ != AL)=false→∀W5,Fr F0 W' W5→KeepsFrom w3.heap.size W' (W5.setRow g4 (hc (aro at_ H X2)))∧Kb (w3.heap.size+2) W' (W5.setRow g4 (hc (aro at_ H X2)))∧(((pre ++ [(r_,at_,wd_)] = []→(W5.setRow g4 (hc (aro at_ H X2))).heap[gi]? = some (.cells #[.int .i64 (i:Int)] 3 (0,0))∧(W5.setRow g4 (hc (aro at_ H X2))).heap[gn]? = some (.cells #[.int .i64 (n:Int)] 3 (0,0))) ∧
    ∃H',ClS g4 g7 g8 g10 Z wy (some ⟨bb,off,none⟩) d i n T (pre ++ [(r_,at_,wd_)]).length (W5.setRow g4 (hc (aro at_ H X2))) H')∧Below w.heap.size w3 (W5.setRow g4 (hc (aro at_ H X2))))):=by
   intro hne W5 f5
   have f6:Fr (λk=>k=g4) W5 (W5.setRow g4 (hc (aro at_ H X2))):=(Fr.refl (λk=>k=g4) W5).setRow (g:=g4) (λ_=>rfl) _
   have z1:=f5.size
   have z2:=f6.size
   have z0:=hi.2.size
   have S5:=S.fr0 f5
   have hg':=hg.out
   have hg2:=hgw.out
   refine⟨⟨by omega,λk o hk ho2 hc2=>f6.keeps aPl (au f5 ho2)⟩,λo ho2=>f6.keeps aPl (au f5 ho2),⟨λe=>absurd e (by simp),aro at_ H X2,setRow_heap _ _ _ _ _ _ S5.h4,f6.keeps aPl S5.h7,f6.keeps aPl S5.h8,f6.keeps (λe=>aJa.out.1 e.symm) S5.h10,agc _ _ _,?_⟩,?_⟩
   ·rw[hpl,hPn.out]
    rw[if_neg (by rw[hne];decide)]at arq
    exact arq
   ·exact(hi.2.trans (f5.below (B:=w.heap.size) aOj λk hk e=>e)).trans (f6.below (B:=w.heap.size) aOj λk hk e=>by omega)
  have HXo:Hid ((EQ != AL)=true→∀W5,Fr F0 W' W5→KeepsFrom w3.heap.size W' ((W5.setRow g4 (hc z32)).setCell ⟨g10,0,none⟩ (.int .i64 14))∧((Code.exit 0=Code.exit 0∧ClX g4 g8 g10 Z T ((W5.setRow g4 (hc z32)).setCell ⟨g10,0,none⟩ (.int .i64 14)))∧Below w.heap.size w3 ((W5.setRow g4 (hc z32)).setCell ⟨g10,0,none⟩ (.int .i64 14)))∧Kb (w3.heap.size+2) W' ((W5.setRow g4 (hc z32)).setCell ⟨g10,0,none⟩ (.int .i64 14))):=by
   intro hne W5 f5
   have f6:Fr (λk=>k=g4) W5 (W5.setRow g4 (hc z32)):=(Fr.refl (λk=>k=g4) W5).setRow (g:=g4) (λ_=>rfl) _
   have f7:Fr (λk=>k=g10) (W5.setRow g4 (hc z32)) ((W5.setRow g4 (hc z32)).setCell ⟨g10,0,none⟩ (.int .i64 14)):=(Fr.refl (λk=>k=g10) _).setCell (p:=⟨g10,0,none⟩) (λ_=>rfl) _
   have z1:=f5.size
   have z2:=f6.size
   have z3:=f7.size
   have z0:=hi.2.size
   have S5:=S.fr0 f5
   have hg':=hg.out
   have hg2:=hgw.out
   have hq10:=aOr.out
   have h10:=f6.keeps (λe=>aJa.out.1 e.symm) S5.h10
   refine⟨⟨by omega,λk o hk ho2 hc2=>f7.keeps aPl (f6.keeps aPl (au f5 ho2))⟩,⟨⟨rfl,f7.keeps aJa.out.1 (setRow_heap _ _ _ _ _ _ S5.h4),f7.keeps aJa.out.2.2 (f6.keeps aPl S5.h8),by rw[gq,h10];rfl,?_⟩,?_⟩,λo ho2=>f7.keeps aPl (f6.keeps aPl (au f5 ho2))⟩
   ·rw[if_pos hne]at arq
    exact arq.symm
   ·exact((hi.2.trans (f5.below (B:=w.heap.size) aOj λk hk e=>e)).trans (f6.below (B:=w.heap.size) aOj λk hk e=>by omega)).trans (f7.below (B:=w.heap.size) aOj λk hk e=>hq10 aru)
  have HJ1:=Lib.hid (λW (f:Fr F0 w W)=>agp H X2 S.len hXl W (HC.out.fr f λe=>e))
  have HJ2:=Lib.hid (λW (f:Fr F0 w W)=>agp X2 H hXl S.len W (HC.out.fr f λe=>e))
  have hSl:=agc at_ H X2
  have sN:=jl hSl
  have oN:=qg (aro at_ H X2)
  have hst:=Lib.hid (show aro at_ H X2=if at_ % 2=1 then hh X2 H else hh H X2 from rfl)
  have hkl2:=Lib.hid (show r_<m by omega)
  have q4:=S.h4
  have q7:=S.h7
  rw[←HH.out.1]at q7
  have q10:=S.h10
  have hl1:(r_:Int)<(m:Int):=by omega
  have hfw:=Lib.hid hFW
  clear arq hEQ hxk e0 e1 e2 hrk hX2 hpl HLq hFW hOI hOX hkl hkm
  obtain⟨NH,hNH⟩:∃NH,NH=aro at_ H X2:=⟨_,rfl⟩
  rw[←hNH]at HNo sN oN hst
  replace hNH:=Lib.hid hNH
  replace hAL:=Lib.hid hAL
  have sP:(plC r_ at_ wd_).size=3:=rfl
  have cP0:(plC r_ at_ wd_)[0]? = some (.int .i64 (r_:Int)):=rfl
  have cP1:(plC r_ at_ wd_)[1]? = some (.int .i64 (at_:Int)):=rfl
  obtain⟨P,hP⟩:∃P,P=plC r_ at_ wd_:=⟨_,rfl⟩
  rw[←hP]at q11 HAl sP cP0 cP1 ⊢
  clear hP
  have dP0:=jd cP0 aPl
  have dP1:=jd cP1 aPl
  gi_upto_region 10 with fail
  refine apa λW4 N4=>?_
  have q12:=N4.new
  have p11:=N4.old q11
  have p4:=N4.old q4
  have p10:=N4.old q10
  have f4:=N4.fr
  clear N4 HL1
  obtain⟨g12,hg12⟩:∃g,g=W'.heap.size:=⟨_,rfl⟩
  rw[←hg12]at q12 ⊢
  replace hg12:=Lib.hid hg12
  refine ad8 (S:=(λw'=>(w'.heap[g11]? = some (.cells P 190 (0,0))∧w'.heap[g12]? = some (.cells (hc X2) 24 (0,0))∧w'.heap[g4]? = some (.cells (hc H) 24 (0,0))∧w'.heap[g10]? = some (.cells #[.int .i64 0] 37 (0,0)))∧Fr F0 W' w')) (by kernel_rfl) (by kernel_rfl) (λ_ _ h=>h) ?_ (λak=>?_)
  ·exact(by((try dsimp only)<;>(exact⟨⟨p11,q12,p4,p10⟩,f4.drew⟩)))
  refine aj 0 ?_
  refine aj 2 ?_
  refine aj 3 ?_
  refine aj 4 ?_
  refine jf 1 λK hK=>?_
  go_simp
  ((with_reducible refine(HAl.out _).mono ?_);rintro e w5 ⟨rfl,f5⟩)
  refine rpu hK (by((try dsimp only)<;>(first|exact ak|exact⟨⟨au f5 ak.1.1,au f5 ak.1.2.1,au f5 ak.1.2.2.1,au f5 ak.1.2.2.2⟩,ak.2.trans' f5⟩))) λak=>?_
  clear hK K
  refine aj 5 ?_
  refine aj 6 ?_
  refine jg ?_
  obtain⟨⟨e11,e12,e4,e10⟩,f9⟩:=ak
  have F9:=Lib.hid (hfw.out.trans' f9)
  have G9:=Lib.hid f9
  clear p11 p4 p10 f4 q12 q11 q4 q7 q10 f5 hl1 f9 heq HAl
  by_cases hne:(EQ != AL)=true
  ·have HX:=Lib.hid (HXo.out hne w5 G9.out)
   have n104:g10≠g4:=λe=>aJa.out.1 e.symm
   clear HXo HNo HJ1 HJ2
   cases EQ<;>cases AL<;>first|(cases hne;done)|skip
   all_goals
    clear hne
    gi_wp2
    exact⟨HX.out.1,⟨⟨rfl,HX.out.2.1.1.2⟩,HX.out.2.1.2⟩,HX.out.2.2⟩
  ·have hne':(EQ != AL)=false:=by cases h9:(EQ != AL)<;>simp_all
   have hae:AL=EQ:=by cases EQ<;>cases AL<;>first|rfl|cases hne'
   have HN9:=Lib.hid (HNo.out hne')
   clear HXo HNo hne hne'
   subst hae
   cases AL
   all_goals
    by_cases hodd:at_ % 2=1
    ·have l2:((at_:Int) % 2==0)=false:=by rw[beq_eq_false_iff_ne];omega
     have HJ:=Lib.hid (HJ2.out w5 F9.out)
     rw[show hh X2 H=NH by rw[hst.out,if_pos hodd]]at HJ
     clear HJ1 HJ2 hodd
     gi_wp2
     refine⟨trivial,?_⟩
     (with_reducible refine(aea HJ.out).mono ?_);rintro e w6 ⟨rfl,f6⟩
     have e46:=au f6 e4
     have HN6:=Lib.hid (HN9.out w6 (G9.out.trans' f6))
     clear HJ e11 e12 e4 e10 f6
     gi_wp2
     exact HN6.out
    ·have l2:((at_:Int) % 2==0)=true:=by rw[beq_iff_eq];omega
     have HJ:=Lib.hid (HJ1.out w5 F9.out)
     rw[show hh H X2=NH by rw[hst.out,if_neg hodd]]at HJ
     clear HJ1 HJ2 hodd
     gi_wp2
     refine⟨trivial,?_⟩
     (with_reducible refine(aea HJ.out).mono ?_);rintro e w6 ⟨rfl,f6⟩
     have e46:=au f6 e4
     have HN6:=Lib.hid (HN9.out w6 (G9.out.trans' f6))
     clear HJ e11 e12 e4 e10 f6
     gi_wp2
     exact HN6.out
 case done =>
  rintro D ys W' hD hy hi hK
  have h9:=hOI.putObj (.deferred none) hi hD hK rfl
  obtain⟨H,hs⟩:=hi.1.2
  have hy2:ys.length=m:=by rw[hy,afl,HH.out.2.2.2.2]
  have hrk:=ag1 i n m (by rw[←HH.out.2.2.2.2];exact Nat.le_refl _)
  have hw1:(plk i n m).2.2=1:=by have h1:=azm (n:=(plk i n m).2.2) (by have:=HH.out.2.2.2.2;omega);have h2:=asc i n (by have:=HH.out.2.2.1;omega) m;omega
  have eT:=hs.way
  rw[hy2,List.drop_eq_nil_of_le (by rw[←HH.out.1];exact Nat.le_refl _),zo,if_pos hw1]at eT
  have hbl:=hi.2
  have e4:=hs.h4
  have e10:=hs.h10
  have e8:=hs.h8
  have sV:=jl hs.len
  have oV:=qg H
  have aP1:=Lib.hid (show(.returned (.tuple #[.agg (hc H),.int .i64 0]):Ending) = .returned (.tuple #[.agg (hc (T.getD z32)),.int .i64 (if T.isSome then 0 else 14)]) by rw[←eT];rfl)
  clear hs hi h9 eT hw1 hrk
  generalize hc H=VV at *
  have n48:g4≠g8:=by have:=hgs.out;omega
  have n108:g10≠g8:=λe=>aJa.out.2.2 e.symm
  have nD8:D≠g8:=by have:=hgi.out;omega
  have g8l:¬g8<w.heap.size:=by have:=hgs.out;omega
  have FW:=Lib.hid (hFr.out _ hbl)
  clear hOI hOX
  gi_wp2
  go_upto_region 14 with fail
  refine jm (S:=(λw'=>w'.heap[g4]? = some (.cells VV 24 (0,0))∧w'.heap[g10]? = some (.cells #[.int .i64 0] 37 (0,0)))) ?_ λak=>?_
  ·exact(by((try dsimp only)<;>(exact⟨e4,e10⟩)))
  refine aj 0 ?_
  refine aj 1 ?_
  refine jf 2 λK hK=>?_
  go_simp
  refine rpu hK zz22 λak=>?_
  clear hK K
  refine aj 3 ?_
  refine jg ?_
  have q8:=setRow_heap W'.drew g8 _ VV _ _ e8
  have qD:(W'.drew.setRow g8 VV).heap[D]? = some (.deferred (some [])):=(setRow_other _ _ _ _ nD8).trans hK
  have F9:=Lib.hid (FW.out.drew.setRow (λh=>absurd h g8l) VV)
  clear ak e4 e10 e8
  generalize W'.drew.setRow g8 VV=W6 at *
  go_wp2
  try rw[Exit.noGoto_ret]
  refine⟨by simp,.inl ⟨_,_,rfl,run_takeDeferred qD,?_⟩⟩
  refine⟨_,cu rfl _ _ g8 _ _ _ _ rfl ((World.putObj_heap_other (λe=>nD8 e.symm)).trans q8) Tryz.underlying24 rfl (by rw[Tryz.szHashJ,sV]),?_⟩
  exact⟨aP1.out,F9.out.trans (T:=λk=>k=D) ⟨rfl,rfl,rfl,by simp[World.putObj],λk hk hne=>World.putObj_heap_other hne⟩ (λi hi e=>by have:=hwz.out;omega)⟩
 case stop =>
  rintro D cc pre W' hD ⟨⟨rfl,hx⟩,hbl⟩ hK
  have e4:=hx.h4
  have e10:=hx.h10
  have e8:=hx.h8
  have sV:=sz
  have oV:=oz
  have aP1:=Lib.hid (show(.returned (.tuple #[.agg (hc z32),.int .i64 14]):Ending) = .returned (.tuple #[.agg (hc (T.getD z32)),.int .i64 (if T.isSome then 0 else 14)]) by rw[hx.way];rfl)
  clear hx
  generalize hc z32=VV at *
  have n48:g4≠g8:=by have:=hgs.out;omega
  have n108:g10≠g8:=λe=>aJa.out.2.2 e.symm
  have nD8:D≠g8:=by have:=hgi.out;omega
  have g8l:¬g8<w.heap.size:=by have:=hgs.out;omega
  have FW:=Lib.hid (hFr.out _ hbl)
  clear hOI hOX
  gi_wp2
  go_upto_region 14 with fail
  refine jm (S:=(λw'=>w'.heap[g4]? = some (.cells VV 24 (0,0))∧w'.heap[g10]? = some (.cells #[.int .i64 14] 37 (0,0)))) ?_ λak=>?_
  ·exact(by((try dsimp only)<;>(exact⟨e4,e10⟩)))
  refine aj 0 ?_
  refine aj 1 ?_
  refine jf 2 λK hK=>?_
  go_simp
  refine rpu hK zz22 λak=>?_
  clear hK K
  refine aj 3 ?_
  refine jg ?_
  have q8:=setRow_heap W'.drew g8 _ VV _ _ e8
  have qD:(W'.drew.setRow g8 VV).heap[D]? = some (.deferred (some [])):=(setRow_other _ _ _ _ nD8).trans hK
  have F9:=Lib.hid (FW.out.drew.setRow (λh=>absurd h g8l) VV)
  clear ak e4 e10 e8
  generalize W'.drew.setRow g8 VV=W6 at *
  go_wp2
  try rw[Exit.noGoto_ret]
  refine⟨by simp,.inl ⟨_,_,rfl,run_takeDeferred qD,?_⟩⟩
  refine⟨_,cu rfl _ _ g8 _ _ _ _ rfl ((World.putObj_heap_other (λe=>nD8 e.symm)).trans q8) Tryz.underlying24 rfl (by rw[Tryz.szHashJ,sV]),?_⟩
  exact⟨aP1.out,F9.out.trans (T:=λk=>k=D) ⟨rfl,rfl,rfl,by simp[World.putObj],λk hk hne=>World.putObj_heap_other hne⟩ (λi hi e=>by have:=hwz.out;omega)⟩
end Go.Proofs.YtjlelckefiannaaGreatDoor
namespace Go.Proofs.YtjlelckefiannaaGreatDoor
set_option linter.unusedVariables false
set_option linter.unusedSimpArgs false
open Go.RowKit Go.Shelf
theorem apu(root h V:List UInt8)(i n E:Int)(b:Option Addr)(m d:Nat)(w:World)(hr:root.length=32)(hl:h.length=32)(hV:V.length=32)
  (HCl:∀W,Fr F0 w W→Calls Tryz.prog 69 #[.agg (hc h),.int .i64 i,.int .i64 n,.slice b m d] W λe w'=>e = .returned (.tuple #[.agg (hc V),.int .i64 E])∧Fr F0 W w') :
  Calls Tryz.prog 27 #[.agg (hc root),.agg (hc h),.int .i64 i,.int .i64 n,.slice b m d] w λe w'=>e = .returned (.bool (decide (E=0)&&decide (V=root)))∧Fr F0 w w':=by
 have H:=Lib.hid HCl
 have heq:=λw=>uf w V root hV hr
 have s1:=jl hr
 have s2:=jl hl
 have s3:=jl hV
 have o3:=qg V
 generalize hc root=X at *
 generalize hc h=Y at *
 generalize hc V=Z at *
 generalize decide (V=root)=EQ at *
 clear HCl hr hl hV
 go_enter Tryz.func27,Tryz.ntmps27
 go_upto_region 1 with fail
 refine lu λW1 N1=>?_
 have r6:=N1.new
 have r5:=N1.old (heap_alloc_new w (.cells X 24))
 have F:=((Fr.refl F0 w).alloc (.cells X 24)).trans' N1.fr
 clear N1
 rw[World.size_alloc]at r6
 obtain⟨g6,hg6⟩:∃g,g=w.heap.size+1:=⟨_,rfl⟩
 obtain⟨g5,hg5⟩:∃g,g=w.heap.size:=⟨_,rfl⟩
 rw[←hg6]at r6 ⊢
 rw[←hg5]at r5 ⊢
 clear hg5 hg6
 go_wp2_with fail
 (with_reducible refine(H.out _ F).mono ?_);rintro e w2 ⟨rfl,f⟩
 replace r5:=au f r5
 replace F:=F.trans' f
 clear H f r6
 go_upto_region 2 with fail
 refine uy λW3 N3=>?_
 have r11:=N3.new
 replace r5:=N3.old r5
 replace F:=F.trans' N3.fr
 clear N3
 generalize w2.heap.size=g11 at *
 by_cases h0:E=0
 ·subst h0
  go_wp2
  go_ret
  exact⟨by simp,F⟩
 ·have l1:((E:Int)==0)=false:=beq_eq_false_iff_ne.2 h0
  replace h0:=Lib.hid h0
  go_wp2
  go_ret
  exact⟨by simp[decide_eq_false h0.out],F⟩
end Go.Proofs.YtjlelckefiannaaGreatDoor
namespace Go.Proofs.YtjlelckefiannaaGreatDoor
set_option linter.unusedVariables false
set_option linter.unusedSimpArgs false
open Go.RowKit Go.Shelf
end Go.Proofs.YtjlelckefiannaaGreatDoor
