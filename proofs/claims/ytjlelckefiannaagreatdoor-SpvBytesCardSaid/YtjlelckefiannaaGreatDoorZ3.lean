import Derived.Test.YtjlelckefiannaaGreatDoorZ2
import Derived.Deep.MidRow
namespace Go.Proofs.YtjlelckefiannaaGreatDoor
set_option maxRecDepth 100000
set_option linter.unusedVariables false
set_option linter.unusedSimpArgs false
open Go.RowKit
theorem aMa{w wr w1:World}{a:Option Addr}{n c:Nat}{o:Obj}(hf:Fr F0 w wr)(hb:∀k,ql a=some k→w.heap.size≤k)(hg:(wr.alloc o).grownBy w1 (Value.slice a n c).ownBlock):Fr F0 w w1:=by
 refine(hf.alloc o).grown hg λi hi hl=>?_
 rw[qm]at hi
 have:=hb i hi
 omega
theorem aGq{w wr w1:World}{a:Option Addr}{n c:Nat}(hf:Fr F0 w wr)(hb:∀k,ql a=some k→w.heap.size≤k)(hg:wr.grownBy w1 (Value.slice a n c).ownBlock):Fr F0 w w1:=by
 refine hf.grown hg λi hi hl=>?_
 rw[qm]at hi
 have:=hb i hi
 omega
theorem aAr{w wr:World}{a a':Option Addr}{n c:Nat}(hf:Fr F0 w wr)(hb:∀k,ql a=some k→w.heap.size≤k)(h:∀k,ql a'=some k→(Value.slice a n c).ownBlock=some k∨wr.heap.size≤k):∀k,ql a'=some k→w.heap.size≤k:=by
 intro k hk
 rcases h k hk with h|h
 ·rw[qm]at h
  exact hb k h
 ·exact Nat.le_trans hf.size h
theorem ada(l:List UInt8)(k:Nat)(h:k<l.length):l.take (k+1)=l.take k ++ [l.getD k 0]:=by
 rw[List.take_add_one,List.getElem?_eq_getElem h]
 simp[List.getD,List.getElem?_eq_getElem h]
theorem aRk(w:World)(x:UInt8)(t:TypeId):Bs (w.alloc (.cells #[.int .u8 (x.toNat:Int)] t)) (some ⟨w.heap.size,0,none⟩) 1 [x]:=by
 refine⟨rfl,Nat.le_refl _,by simp[maxLen],λh=>by simp at h,λj u hj=>⟨_,_,rfl,?_⟩⟩
 match j,hj with
 |0,hj =>
  simp only[List.map_cons,List.map_nil,List.getElem?_cons_zero,Option.some.injEq]at hj
  subst hj
  simp[B8]
theorem aqi(N:Nat){w:World}{ops:Array Oper}{rest:List Oper}{o:Oper}{a:Act}{Q:Exit→Act→World→Prop}(hgd:o.guard=none)(s x:Operand)
  (ho:o.op = .call { callee := .builtin .append,args:=#[s,x],argTypes:=#[22,22] })
  (v:Value) (b0:List UInt8) (hs:a.eval s=v) (hown:OwnB w v b0) (ad:Option Addr) (m c:Nat) (bs:List UInt8) (hx:a.eval x = .slice ad m c) (hsl:Bs w ad c bs) (hm:m=bs.length)
  (hN:b0.length+bs.length=N) (hb:N≤140737488355328)
  (h:∀a' c' w',OwnB w' (.slice a' N c') (b0++bs)→w.grownBy w' v.ownBlock→(∀k,ql a'=some k→v.ownBlock=some k∨w.heap.size≤k) →
   wpList Tryz.prog ops Q rest (a.put o.dst (.slice a' N c')) w'):wpList Tryz.prog ops Q (o::rest) a w:=by
 subst hN
 exact xk hgd s x ho v b0 hs hown ad m c bs hx hsl hm hb h
theorem uy{P:Program}{c:Code}{Q:Exit→Act→World→Prop}{a:Act}{w:World}{z cs:Array Value}{t:TypeId}(k:∀W,adh w W w.heap.size cs t→Code.wp P c Q a W):Code.wp P c Q a ((w.alloc (.cells z t)).setRow w.heap.size cs):=k _ (aa9 w z cs t)
theorem lu{P:Program}{c:Code}{Q:Exit→Act→World→Prop}{a:Act}{w:World}{z:Array Value}{t:TypeId}(k:∀W,adh w W w.heap.size z t→Code.wp P c Q a W):Code.wp P c Q a (w.alloc (.cells z t)):=k _ ⟨heap_alloc_new _ _,λh=>bg h,(Fr.refl F0 w).alloc _,λh=>by have:=(Array.getElem?_eq_some_iff.1 h).1;omega⟩
theorem ru{P:Program}{f:FuncId}{args:Array Value}{Q:Ending→World→Prop}{w:World}{z:Array Value}{t:TypeId}(k:∀W,adh w W w.heap.size z t→Calls P f args W Q):Calls P f args (w.alloc (.cells z t)) Q:=k _ ⟨heap_alloc_new _ _,λh=>bg h,(Fr.refl F0 w).alloc _,λh=>by have:=(Array.getElem?_eq_some_iff.1 h).1;omega⟩
theorem aaw{P:Program}{f:FuncId}{args:Array Value}{Q:Ending→World→Prop}{w:World}{g i:Nat}{v:Value}{cs:Array Value}{t:TypeId}{fr:Nat×Nat}(h:w.heap[g]? = some (.cells cs t fr))
  (k:∀W,W.heap[g]? = some (.cells (cs.setIfInBounds i v) t fr)→Fr (λk=>k=g) w W→Calls P f args W Q):Calls P f args (w.setCell ⟨g,i,none⟩ v) Q :=
 k _ (by rw[gq,h];rfl) (Fr.setCell (S:=λk=>k=g) (Fr.refl _ _) (p:=⟨g,i,none⟩) (λ_=>rfl) _)
theorem aj8{P:Program}{f:FuncId}{args:Array Value}{Q:Ending→World→Prop}{w:World}{g:Nat}{c cs:Array Value}{t:TypeId}{fr:Nat×Nat}(h:w.heap[g]? = some (.cells cs t fr))
  (k:∀W,W.heap[g]? = some (.cells c t fr)→Fr (λk=>k=g) w W→Calls P f args W Q):Calls P f args (w.setRow g c) Q :=
 k _ (qp h) (Fr.setRow (S:=λk=>k=g) (Fr.refl _ _) (λ_=>rfl) _)
def aec(P:Program)(t:TypeId)(p:Value)(w:World)(n o m:Nat):Option Obj→Result Value
 |some (.cells cs _ _)=>if cs.size=m then .ok (.agg (cs.extract o (o+n))) w else(iq t p).run P w
 |_=>(iq t p).run P w
theorem acu{P:Program}{t:TypeId}{p:Value}{w:World}{n o m:Nat}{cs:Array Value}{t':TypeId}{fr:Nat×Nat}(h:cs.size=m):
  aec P t p w n o m (some (.cells cs t' fr)) = .ok (.agg (cs.extract o (o+n))) w:=if_pos h
theorem agf{P:Program}(w:World)(t:TypeId)(g o n m:Nat)(d:TypeDesc)(hom:o+n≤m)(hu:P.underlying t=some d)(hd:d.isRow=true)(hi:(P.info? t).map (·.size)=some n):
  (iq t (.pointer (some ⟨g,o,none⟩))).run P w=aec P t (.pointer (some ⟨g,o,none⟩)) w n o m w.heap[g]? := by
 cases hg:w.heap[g]? with
 |none=>rfl
 |some ob =>
  cases ob with
  |cells cs t' fr =>
   by_cases h:cs.size=m
   ·rw[acu h]
    have hl:(cs.extract o (o+n)).toList.length=n:=by simp;omega
    have:=run_loadAt_mid (P:=P) w g o t (cs.extract o (o+n)).toList d (λj v hj=>by
     rw[jq,hg,mg]
     have hj':j<n:=by have:=(List.getElem?_eq_some_iff.1 hj).1;omega
     rw[Array.getElem?_toList,Array.getElem?_extract]at hj
     split at hj
     ·exact hj
     ·cases hj) hu hd (by rw[hi,hl])
    rw[Array.toArray_toList]at this
    exact this
   ·simp only[aec,h,if_false]
  |_=>rfl
theorem jd{C:Array Value}{i:Nat}{v:Value}(h:C[i]? = some v)(hi:i<C.size):C[i]=v:=(Array.getElem?_eq_some_iff.1 h).2
theorem ahw{w:World}{a:Option Addr}{c n:Nat}{l:List UInt8}(h:Bs w a c l)(hn:n=l.length):(convert 22 9 (.slice a n c)).run Tryz.prog w = .ok (.string (strOf l)) w :=
 aLu (P:=Tryz.prog) 22 9 5 Tryz.underlying22 Tryz.underlying5 Tryz.underlying9 h n hn
theorem Bs.fr7{w w':World}{a:Option Addr}{c:Nat}{l:List UInt8}(h:Bs w a c l)(f:Fr F0 w w'):Bs w' a c l:=Sl.fr h f λ_ _ f=>f
theorem aBx(l m:List UInt8):(strOf l==strOf m)=decide (l=m):=by
 rw[beq_toListBytes,aii,aii]
 by_cases h:l=m
 ·subst h;simp
 ·rw[decide_eq_false h];exact beq_false_of_ne h
theorem Bs.of_cells{w:World}{g o n:Nat}{A:Array Value}{t:TypeId}{f:Nat×Nat}{l:List UInt8}(h:w.heap[g]? = some (.cells A t f))(hl:l.length=n)(hn:n≤1000)(e:A.extract o (o+n)=(l.map B8).toArray):Bs w (some ⟨g,o,none⟩) n l:=by
 subst hl
 refine Sl.mk (by simp) (Nat.le_refl _) aPn (λh=>by cases h) (λj u hj=>⟨g,o,rfl,?_⟩)
 rw[jq,h,mg]
 have hj':(A.extract o (o+l.length))[j]? = some u:=by rw[e];simpa using hj
 rw[Array.getElem?_extract]at hj'
 split at hj'
 ·exact hj'
 ·cases hj'
def aaz(cs:Array Value)(o:Nat):List Value→Array Value
 |[]=>cs
 |v::r=>aaz (cs.setIfInBounds o v) (o+1) r
theorem agm(cs:Array Value)(o:Nat)(vs:List Value):(aaz cs o vs).size=cs.size:=by
 induction vs generalizing cs o with
 |nil=>rfl
 |cons v r ih=>rw[aaz,ih];simp
theorem ae7(pre mid post vs:List Value)(h:mid.length=vs.length):aaz (pre++(mid++post)).toArray pre.length vs=(pre++(vs++post)).toArray:=by
 induction vs generalizing pre mid with
 |nil =>
  obtain rfl:mid = []:=List.eq_nil_of_length_eq_zero (by simpa using h)
  rfl
 |cons v r ih =>
  match mid,h with
  |x::mid,h =>
   rw[aaz]
   have e:(pre++(x::mid++post)).toArray.setIfInBounds pre.length v=((pre ++ [v])++(mid++post)).toArray:=by
    rw[List.setIfInBounds_toArray,List.set_append_right _ _ (Nat.le_refl _),Nat.sub_self]
    simp
   rw[e]
   have:=ih (pre ++ [v]) mid (by simpa using h)
   rw[List.length_append]at this
   rw[show pre.length+1=pre.length + [v].length from rfl,this]
   simp
theorem aqw(w:World)(g:Nat)(a b:Array Value):(w.setRow g a).setRow g b=w.setRow g b:=by
 unfold World.setRow
 simp only[World.mk.injEq,true_and,and_true]
 apply Array.ext_getElem?
 intro i
 simp only[Array.getElem?_modify]
 split
 ·cases w.heap[i]? with
  |none=>rfl
  |some o=>cases o<;>rfl
 ·rfl
theorem aij(g:Nat):∀(vs:List Value) (o:Nat) (w:World) (cs:Array Value) (t:TypeId) (fr:Nat×Nat),vs ≠ []→w.heap[g]? = some (.cells cs t fr)→w.setCells g o vs=w.setRow g (aaz cs o vs)
 |[],_,_,_,_,_,h,_=>absurd rfl h
 |v::r,o,w,cs,t,fr,_,hg=>by
  rw[World.setCells,setCell_eq_setRow w g o cs t fr v hg,aaz]
  by_cases hr:r = []
  ·subst hr;rfl
  ·rw[aij g r (o+1) _ (cs.setIfInBounds o v) t fr hr (qp hg),aqw]
def awo(P:Program)(t:TypeId)(p:Value)(cells:Array Value)(g:Nat)(w:World)(n o m:Nat):Option Obj→Result Unit
 |some (.cells cs _ fr)=>if fr=(0,0)∧cs.size=m∧cells.size=n∧cells.all (·.oneCell')=true then .ok () (w.setRow g (aaz cs o cells.toList))else(ji t p (.agg cells)).run P w
 |_=>(ji t p (.agg cells)).run P w
theorem agn{P:Program}{t:TypeId}{p:Value}{cells:Array Value}{g:Nat}{w:World}{n o m:Nat}{cs:Array Value}{t':TypeId}(h:cs.size=m)(h1:cells.size=n)(h2:jh cells):
  awo P t p cells g w n o m (some (.cells cs t' (0,0))) = .ok () (w.setRow g (aaz cs o cells.toList)):=if_pos ⟨rfl,h,h1,h2⟩
theorem acs{P:Program}(w:World)(t:TypeId)(g o n m:Nat)(cells:Array Value)(h0:0<n)(hom:o+n≤m)(hi:(P.info? t).map (·.size)=some n):
  (ji t (.pointer (some ⟨g,o,none⟩)) (.agg cells)).run P w=awo P t (.pointer (some ⟨g,o,none⟩)) cells g w n o m w.heap[g]? := by
 cases hg:w.heap[g]? with
 |none=>rfl
 |some ob =>
  cases ob with
  |cells cs t' fr =>
   by_cases h:fr=(0,0)∧cs.size=m∧cells.size=n∧cells.all (·.oneCell')=true
   ·obtain⟨rfl,h1,h2,h3⟩:=h
    rw[agn h1 h2 h3]
    have:=run_storeAt_mid (P:=P) w g o t cells (λj hj=>by
     replace hj:j<n:=by rw[←h2];exact hj
     rw[jq,ahh,hg,mg,adb]
     refine⟨?_,rfl⟩
     rw[Array.getElem?_eq_getElem aPl]
     rfl) (by rw[hi,h2]) h3
    rw[←aij g cells.toList o w cs t' (0,0) (λe=>by have:cells.size=0:=(by rw[←Array.length_toList,e];rfl);omega) hg]
    exact this
   ·simp only[awo,h,if_false]
  |_=>rfl
attribute [simp high] acu agn
end Go.Proofs.YtjlelckefiannaaGreatDoor
