import Derived.Test.YtjlelckefiannaaGreatDoorZ22
import Derived.Lib.AppendStr
import Derived.Test.YtjlelckefiannaaGreatDoorZ14
import Derived.Laws.BitsAllLaws
namespace Go.Proofs.YtjlelckefiannaaGreatDoor
set_option maxRecDepth 100000
set_option linter.unusedVariables false
set_option linter.unusedSimpArgs false
open Go.RowKit
def aLc(ty:TypeId)(args:Array Value):Sem Value:=Builtin.append_ #[22,22] ty args
@[go_sem ↓ high] theorem app_BB (ty:TypeId) (args:Array Value):Builtin.append_ #[22,22] ty args=aLc ty args:=rfl
def aQm(ty:TypeId)(args:Array Value):Sem Value:=Builtin.append_ #[22,9] ty args
@[go_sem ↓ high] theorem app_BS (ty:TypeId) (args:Array Value):Builtin.append_ #[22,9] ty args=aQm ty args:=rfl
structure Bw (w0:World) (P:Nat→Prop) (a:Option Addr) (n c:Nat) (bs:List UInt8) (w:World):Prop where
 own:OwnB w (.slice a n c) bs
 fr:Fr F0 w0 w
 new:∀k,ql a=some k→P k
theorem own_base{w:World}{e size n B:Nat}{v:Value}{xs:List Value}(h:w.ownsRow 0 e size v n xs)(hb:∀k,v.ownBlock=some k→B≤k):w.ownsRow B e size v n xs:=by
 refine⟨h.1,?_⟩
 rcases h.2 with hn|⟨g,cap,cur,rfl,_,hg,r⟩
 ·exact .inl hn
 ·exact .inr ⟨g,cap,cur,rfl,hb g rfl,hg,r⟩
theorem apq{w:World}{e size n B:Nat}{v:Value}{xs:List Value}(h:w.ownsRow B e size v n xs):w.ownsRow 0 e size v n xs:=by
 refine⟨h.1,?_⟩
 rcases h.2 with hn|⟨g,cap,cur,rfl,_,hg,r⟩
 ·exact .inl hn
 ·exact .inr ⟨g,cap,cur,rfl,Nat.zero_le _,hg,r⟩
theorem aL8{w:World}{e size n B:Nat}{v:Value}{xs:List Value}(h:w.ownsRow B e size v n xs):∀k,v.ownBlock=some k→B≤k:=by
 intro k hk
 rcases h.2 with⟨rfl,_⟩|⟨g,cap,cur,rfl,hb,hg,r⟩
 ·cases hk
 ·cases hk;exact hb
theorem Bw.fr0{w0 w w':World}{P:Nat→Prop}{a:Option Addr}{n c:Nat}{bs:List UInt8}(h:Bw w0 P a n c bs w)(f:Fr F0 w w'):Bw w0 P a n c bs w':=⟨h.own.fr f λ_ _ f=>f,h.fr.trans' f,h.new⟩
theorem Bw.len{w0 w:World}{P:Nat→Prop}{a:Option Addr}{n c:Nat}{bs:List UInt8}(h:Bw w0 P a n c bs w):n=bs.length:=h.own.bs.1
theorem Bw.app{w0 w:World}{P:Nat→Prop}{a:Option Addr}{n c:Nat}{bs:List UInt8}(h:Bw w0 P a n c bs w)(hp0:∀k,P k→w0.heap.size≤k)(hp:∀k,w.heap.size≤k→P k){ad:Option Addr}{m cx:Nat}{xs:List UInt8}(hx:Bs w ad cx xs)(hm:m=xs.length)(hl:bs.length+xs.length≤1000000):
  ∃a' n' c' w',(aLc 22 #[.slice a n c,.slice ad m cx]).run Tryz.prog w = .ok (.slice a' n' c') w'∧Bw w0 P a' n' c' (bs++xs) w'∧Fr P w w':=by
 subst hm
 obtain⟨i0,hi,hz0,hz1,hz2⟩:=info_parts Tryz.infoU8
 have hn:=h.len
 subst hn
 obtain⟨v',w',hrun,hown,hg,hnw⟩:=aek (P:=Tryz.prog) (w:=w) 22 22 5 i0 (.int .u8 0) 1 1 Tryz.underlying22 hi hz0 hz1 hz2 rfl (by decide) (.slice a bs.length c) bs.length _ h.own ad cx xs.length _ hx Bs.one aPn aPl
 obtain⟨a',c',rfl⟩:=yw hown
 have hf:Fr P w w':=(Fr.refl P w).grown hg λk hk _=>by rw[qm]at hk;exact h.new k hk
 refine⟨a',_,c',w',hrun,⟨by simpa [OwnB]using hown,h.fr.trans hf λi hi e=>by have:=hp0 i e;omega,λk hk=>?_⟩,hf⟩
 rcases hnw k ak9 with e|e
 ·rw[qm]at e;exact h.new k e
 ·exact hp k e
theorem Bw.appS{w0 w:World}{P:Nat→Prop}{a:Option Addr}{n c:Nat}{bs:List UInt8}(h:Bw w0 P a n c bs w)(hp0:∀k,P k→w0.heap.size≤k)(hp:∀k,w.heap.size≤k→P k)(xs:List UInt8)(hl:bs.length+xs.length≤1000000):
  ∃a' n' c' w',(aQm 22 #[.slice a n c,.string (strOf xs)]).run Tryz.prog w = .ok (.slice a' n' c') w'∧Bw w0 P a' n' c' (bs++xs) w'∧Fr P w w':=by
 obtain⟨i0,hi,hz0,hz1,hz2⟩:=info_parts Tryz.infoU8
 have hn:=h.len
 subst hn
 cases a with
 |none =>
  have ho:=own_base (B:=w.heap.size) h.own λk hk=>by cases hk
  obtain⟨v',w',hrun,hown,hg,_⟩:=Lib.run_append_own_string (P:=Tryz.prog) (w:=w) w.heap.size 22 9 22 5 i0 Tryz.underlying22 Tryz.underlying9 hi hz0 hz1 hz2 _ _ _ ho (strOf xs) (by rw[zf];unfold maxLen;omega) aor (Nat.le_refl _)
  rw[zf]at hown
  obtain⟨a',c',rfl⟩:=yw hown
  have hf:Fr P w w':=(Fr.refl P w).grown hg λk hk _=>by cases hk
  refine⟨a',_,c',w',hrun,⟨?_,h.fr.trans hf λi hi e=>by have:=hp0 i e;omega,λk hk=>hp k (aL8 hown k ak9)⟩,hf⟩
  have:=apq hown
  have e:Lib.strCells (strOf xs)=xs.map B8:=rfl
  rw[e]at this
  simpa [OwnB]using this
 |some ad =>
  have ho:=own_base (B:=min ad.block w.heap.size) h.own λk hk=>by cases hk;omega
  obtain⟨v',w',hrun,hown,hg,_⟩:=Lib.run_append_own_string (P:=Tryz.prog) (w:=w) (min ad.block w.heap.size) 22 9 22 5 i0 Tryz.underlying22 Tryz.underlying9 hi hz0 hz1 hz2 _ _ _ ho (strOf xs) (by rw[zf];unfold maxLen;omega) aor aPl
  rw[zf]at hown
  obtain⟨a',c',rfl⟩:=yw hown
  have hf:Fr P w w':=(Fr.refl P w).grown hg λk hk _=>by rw[qm]at hk;exact h.new k hk
  refine⟨a',_,c',w',hrun,⟨?_,h.fr.trans hf λi hi e=>by have:=hp0 i e;omega,λk hk=>?_⟩,hf⟩
  ·have:=apq hown
   have e:Lib.strCells (strOf xs)=xs.map B8:=rfl
   rw[e]at this
   simpa [OwnB]using this
  ·rcases h.own.2 with⟨e,_⟩|⟨g,cap,cur,e,hbg,hg',hnc,hcm,hcs,htake⟩
   ·cases e
   ·cases e
    have hcs':cur.size=c:=by simpa using hcs
    by_cases hroom:bs.length+(strOf xs).size≤c
    ·have hr:=Lib.run_append_room_string (P:=Tryz.prog) w 22 9 22 5 i0 Tryz.underlying22 Tryz.underlying9 hi hz1 g bs.length c cur hg' (strOf xs) hroom aPl
     rw[hr]at hrun
     cases hrun
     exact h.new k hk
    ·rw[zf]at hroom
     have hcells:∀j u,(bs.map B8)[j]? = some u→w.cell? ((⟨g,0,none⟩:Addr).add j)=some u:=h.own.cells (g:=g) rfl
     have hr:=Lib.run_append_grow_string (P:=Tryz.prog) w 22 9 22 5 i0 (.int .u8 0) Tryz.underlying22 Tryz.underlying9 hi hz0 ⟨g,0,none⟩ bs.length c (bs.map B8) (by rw[hz1];simp) hcells (strOf xs) aor aor (by rw[hz2,zf];exact growslice_fits aPl aPl)
     rw[hr]at hrun
     cases hrun
     cases hk
     exact hp _ (Nat.le_refl _)
theorem Bw.of{w0 w w':World}{e:Ending}{bs:List UInt8}(f:Fr F0 w0 w)(h:ach bs w e w'):∃a n c,e = .returned (.slice a n c)∧Bw w0 (λk=>w0.heap.size≤k) a n c bs w':=by
 obtain⟨a,c,rfl,ho,hf,hn⟩:=h
 exact⟨a,_,c,rfl,ho,f.trans' hf,λk hk=>Nat.le_trans f.size (hn k hk)⟩
theorem aL0(x:Nat)(w:World)(hx:x<18446744073709551616):Calls Tryz.prog 42 #[.int .u64 (x:Int),.int .i64 4] w (ach (le 4 x) w):=amd x 4 w hx aPl
def NewB(bs:List UInt8)(w:World)(e:Ending)(w':World):Prop:=∃a n c,e = .returned (.slice a n c)∧n=bs.length∧Bs w' a c bs∧Fr F0 w w'
theorem ou.b{bs:List UInt8}{w:World}{e:Ending}{w':World}(h:ou bs w e w'):NewB bs w e w':=by
 obtain⟨a,c,rfl,hb,f,_⟩:=h
 exact⟨a,_,c,rfl,rfl,hb,f⟩
theorem aP8(x:Nat)(w:World)(hx:x<18446744073709551616):Calls Tryz.prog 42 #[.int .u64 (x:Int),.int .i64 4] w (NewB (le 4 x) w):=(aL0 x w hx).mono λ_ _ h=>h.new.b
theorem countB(x:Nat)(w:World)(hx:x<18446744073709551616):Calls Tryz.prog 40 #[.int .u64 (x:Int)] w (NewB (cnt x) w):=(ae6 x w hx).mono λ_ _ h=>h.b
structure RC (x:MI) (C:Array Value):Prop where
 size:C.size=35
 c32:C[32]? = some (.int .u64 (x.ix:Int))
 c33:C[33]? = some (.int .u64 (x.sq:Int))
 c34:C[34]? = some (.string (strOf x.ky))
 byte:∀j,j<32→C[j]? = some (.int .u8 ((x.fr.getD j 0).toNat:Int))
 one:jh C
theorem aGo(w:World):OwnB (w.alloc (.cells #[] 5)) (.slice (some ⟨w.heap.size,0,none⟩) 0 0) []:=World.ownsRow_made w #[] 0 (Nat.zero_le _) (Nat.zero_le _) rfl
theorem OwnB.set9{w:World}{g n c:Nat}{bs:List UInt8}(h:OwnB w (.slice (some ⟨g,0,none⟩) n c) bs)(j:Nat)(u:UInt8):OwnB (w.setCell ⟨g,j,none⟩ (B8 u)) (.slice (some ⟨g,0,none⟩) n c) (bs.set j u):=by
 have hn:=h.bs.1
 subst hn
 have:=(World.ownsRow.stored h j (B8 u)).1
 simpa [OwnB,List.map_set]using this
theorem OwnB.form9{w:World}{a:Option Addr}{n c:Nat}{bs:List UInt8}(h:OwnB w (.slice a n c) bs)(hne:0<bs.length):∃g,a=some ⟨g,0,none⟩:=by
 rcases h.2 with⟨h1,h2⟩|⟨g,cap,cur,h1,_⟩
 ·omega
 ·simp only[Value.slice.injEq]at h1
  exact⟨g,h1.1⟩
theorem OwnB.cell9{w:World}{g n c:Nat}{bs:List UInt8}(h:OwnB w (.slice (some ⟨g,0,none⟩) n c) bs)(j:Nat)(hj:j<bs.length):w.cell? ⟨g,j,none⟩=some (.int .u8 bs[j].toNat)∧w.frozen? ⟨g,j,none⟩=false:=by
 have hn:=h.bs.1
 subst hn
 have h1:=World.ownsRow.cellAt h j aPl
 rw[List.getElem?_map,List.getElem?_eq_getElem hj]at h1
 exact⟨h1,World.ownsRow.frozenAt h j⟩
theorem copyB(w:World)(p:Option Addr)(c n:Nat)(bs:List UInt8)(h:Bs w p c bs)(hn:n=bs.length)(hl:bs.length≤1000000):
  ∃a' c' w',(aLc 22 #[.slice (some ⟨w.heap.size,0,none⟩) 0 0,.slice p n c]).run Tryz.prog (w.alloc (.cells #[] 5)) = .ok (.slice a' n c') w'∧OwnB w' (.slice a' n c') bs∧(∀k,ql a'=some k→w.heap.size≤k)∧Fr F0 w w':=by
 have B:Bw w (λk=>w.heap.size≤k) (some ⟨w.heap.size,0,none⟩) 0 0 [] (w.alloc (.cells #[] 5)):=⟨aGo w,(Fr.refl F0 w).alloc _,λk hk=>by cases hk;exact Nat.le_refl _⟩
 obtain⟨a',n',c',w',hr,B',f⟩:=B.app (λk h=>h) (λk h=>by simp at h;omega) (Bs.fr7 h ((Fr.refl F0 w).alloc (.cells #[] 5))) hn (by simpa using hl)
 have e:n'=n:=by have:=B'.len;simp at this;omega
 subst e
 exact⟨a',c',w',hr,B'.own,B'.new,B'.fr⟩
end Go.Proofs.YtjlelckefiannaaGreatDoor
