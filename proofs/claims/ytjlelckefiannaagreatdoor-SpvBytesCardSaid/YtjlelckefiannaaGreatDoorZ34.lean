import Derived.Test.YtjlelckefiannaaGreatDoorZ33
import Derived.Test.YtjlelckefiannaaGreatDoorZ17
import Derived.Lib.SmallJoins
namespace Go.Proofs.YtjlelckefiannaaGreatDoor
set_option maxRecDepth 100000
set_option linter.unusedVariables false
set_option linter.unusedSimpArgs false
open Go.RowKit Go.Shelf
def aNi(parts:Array (Nat×Value)):Sem Value:=Instr.buildSlice 26 3 parts
@[go_sem ↓ high] theorem build_L3 (p:Array (Nat×Value)):Instr.buildSlice 26 3 p=aNi p:=rfl
end Go.Proofs.YtjlelckefiannaaGreatDoor
namespace Go.Proofs.YtjlelckefiannaaGreatDoor
set_option maxRecDepth 100000
set_option linter.unusedVariables false
set_option linter.unusedSimpArgs false
open Go.RowKit Go.Shelf
end Go.Proofs.YtjlelckefiannaaGreatDoor
namespace Go.Proofs.YtjlelckefiannaaGreatDoor
set_option maxRecDepth 100000
set_option linter.unusedVariables false
set_option linter.unusedSimpArgs false
open Go.RowKit Go.Shelf
theorem aHe(l:List (List UInt8)):∀u∈l.flatMap (λh=>h.map B8),u.oneCell'=true:=λu hu=>by
 rw[List.mem_flatMap]at hu
 obtain⟨x,_,hx⟩:=hu
 exact asi x u hx
theorem abh.appLs{B:Nat}{w:World}{v:Value}{l l2:List (List UInt8)}(h:abh 24 B w v l){a2:Option Addr}{c2:Nat}(n2:Nat)(h2:Hs w a2 c2 l2)(hn:n2=l2.length)(hB:B≤w.heap.size)(hl:l.length≤100000)(hl2:l2.length≤100000)(ty:TypeId):
  ∃a c w',(aK4 26 ty #[v,.slice a2 n2 c2]).run Tryz.prog w = .ok (.slice a (l.length+l2.length) c) w'∧abh 24 B w' (.slice a (l.length+l2.length) c) (l++l2) ∧
   Fr (λk=>v.ownBlock=some k) w w'∧∀k,ql a=some k→v.ownBlock=some k∨w.heap.size≤k:=by
 subst hn
 obtain⟨i0,hi,hz,hs,hb⟩:=info_parts Tryz.infoHashJ
 obtain⟨v',w',hrun,hown,hg,hnw⟩:=aek (P:=Tryz.prog) (w:=w) 26 ty 24 i0 _ 32 32 Tryz.underlying26 hi hz hs hb (jl yg) aPl v l.length _ h.own a2 c2 l2.length (l2.flatMap λh:List UInt8=>h.map B8) h2.sl
  (aHe l2) aPn aPl
 obtain⟨a,c,rfl⟩:=yw hown
 have F:Fr (λk=>v.ownBlock=some k) w w':=((Fr.refl F0 w).of0).grown hg λk hk hl=>hk
 have alu:∀k,ql a=some k→v.ownBlock=some k∨w.heap.size≤k:=λk hk=>hnw k ak9
 refine⟨a,c,w',hrun,⟨?_,λk hk=>?_,λy hy=>?_⟩,F,alu⟩
 ·rw[List.length_append,List.flatMap_append]
  exact hown
 ·rw[qm]at hk
  rcases alu k hk with e|e
  ·exact h.blk k e
  ·omega
 ·rw[List.mem_append]at hy
  rcases hy with hy|hy
  ·exact h.ok y hy
  ·exact h2.ok y hy
end Go.Proofs.YtjlelckefiannaaGreatDoor
namespace Go.Proofs.YtjlelckefiannaaGreatDoor
set_option maxRecDepth 100000
set_option linter.unusedVariables false
set_option linter.unusedSimpArgs false
open Go.RowKit Go.Shelf
theorem aCl(h:List UInt8)(i n:Nat)(wy:List (List UInt8))(b:Option Addr)(m d:Nat)(w:World)(hs:Hs w b d wy)(hm:m=wy.length)(hl:h.length=32)(hi:i<n)(hb:n≤65536)(hmm:m≤1000000)(zn:Cub w):
  Calls Tryz.prog 69 #[.agg (hc h),.int .i64 (i:Int),.int .i64 (n:Int),.slice b m d] w λe w'=>e = .returned (.tuple #[.agg (hc ((zo wy h i n).getD z32)),.int .i64 (if(zo wy h i n).isSome then 0 else 14)])∧Fr F0 w w':=by
 by_cases hr:m=rows n
 ·exact axw h i n wy b m d w hs hm hl hi hb hr zn
 ·rw[amw wy h i n aPl (by rw[←hm];exact hr)]
  exact axu h i n b m d w hl hi hb hr hmm
end Go.Proofs.YtjlelckefiannaaGreatDoor
namespace Go.Proofs.YtjlelckefiannaaGreatDoor
set_option maxRecDepth 100000
set_option linter.unusedVariables false
set_option linter.unusedSimpArgs false
open Go.RowKit Go.Shelf
end Go.Proofs.YtjlelckefiannaaGreatDoor
namespace Go.Proofs.YtjlelckefiannaaGreatDoor
set_option maxRecDepth 100000
set_option linter.unusedVariables false
set_option linter.unusedSimpArgs false
open Go.RowKit Go.Shelf
theorem aCm(root h:List UInt8)(i n:Nat)(wy:List (List UInt8))(b:Option Addr)(m d:Nat)(w:World)(hr:root.length=32)(hs:Hs w b d wy)(hm:m=wy.length)(hl:h.length=32)(hi:i<n)(hb:n≤65536)(hmm:m≤1000000)(zn:Cub w):
  Calls Tryz.prog 27 #[.agg (hc root),.agg (hc h),.int .i64 (i:Int),.int .i64 (n:Int),.slice b m d] w λe w'=>e = .returned (.bool (decide (zo wy h i n=some root)))∧Fr F0 w w':=by
 have hV:((zo wy h i n).getD z32).length=32:=by
  cases e:zo wy h i n with
  |none=>exact yg
  |some v=>exact ad9 wy h v i n hl e
 refine(apu root h _ i n _ b m d w hr hl hV λW f=>aCl h i n wy b m d W (hs.fr f) hm hl hi hb hmm (zn.fr f λe=>e)).mono ?_
 rintro e w' ⟨rfl,f⟩
 refine⟨?_,f⟩
 cases zo wy h i n with
 |none=>simp
 |some v=>simp
structure PvS (pa pb:Nat) (wy:List (List UInt8)) (T:List UInt8) (W0 wr:World) (A B:List UInt8) (k i n:Nat):Prop where
 hA:wr.heap[pa]? = some (.cells (hc A) 23 (0,0))
 hB:wr.heap[pb]? = some (.cells (hc B) 23 (0,0))
 lA:A.length=32
 lB:B.length=32
 ne:A≠B
 cA:zo (wy.drop k) A i n=some T
 cB:zo (wy.drop k) B i n=some T
 hn:n≤12
 hi:i<n
 fr:Fr F0 W0 wr
end Go.Proofs.YtjlelckefiannaaGreatDoor
