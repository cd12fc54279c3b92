import Derived.Test.YtjlelckefiannaaGreatDoorZ2
import Derived.RangeFuncNested
import Derived.RangeFuncBound
import Derived.RangeFuncCalls
import Derived.RangeFuncLeaves
import Derived.Shelf.Abstract
import Derived.Shelf.RegionOpen
import Derived.OwnWalkIn
import Derived.TacticsInMore
import Derived.LoopNIn
import Derived.LoopIn
import Derived.RangeFuncBox
import Derived.Laws.BitsAllLaws
set_option maxRecDepth 100000
set_option maxHeartbeats 64000000
namespace Go.Proofs.YtjlelckefiannaaGreatDoor
set_option linter.unusedVariables false
set_option linter.unusedSimpArgs false
open Go.RowKit
def agv(a:Option Addr)(cap l s:Nat):Option Addr:=if cap=l then a else a.map (·.add (l*s))
@[go_sem high] theorem ay2 {P:Program} (w:World) (t:TypeId) (ht:P.underlying t=some (.slice (P.elem t))) (a:Option Addr) (len cap:Nat) (kl:IntKind) (l:Int) (h0:0≤l) (h1:l≤len) :
  (Instr.slice t (.slice a len cap) (some (.int kl l)) none none).run P w=((sizeOf (P.elem t)).run P w).andThen λs w => .ok (.slice (agv a cap l.toNat s) (len-l.toNat) (cap-l.toNat)) w:=by
 rw[run_slice_l w t a len cap ht kl l h0 h1]
 rfl
@[go_sem high] theorem aEe {P:Program} (w:World) (t:TypeId) (ht:P.underlying t=some (.slice (P.elem t))) (a:Option Addr) (len cap:Nat) (kh:IntKind) (h:Int) (h0:0≤h) (h2:h≤cap) :
  (Instr.slice t (.slice a len cap) none (some (.int kh h)) none).run P w=((sizeOf (P.elem t)).run P w).andThen λ_ w => .ok (.slice a h.toNat cap) w:=by
 rw[run_slice_h w t a len cap ht kh h h0 h2]
 congr 1
 funext s w
 simp only[sliced,Nat.zero_mul,Nat.sub_zero]
 congr 2
 split
 ·rfl
 ·cases a<;>simp[Addr.add]
@[go_sem high] theorem awi {P:Program} (w:World) (t:TypeId) (ht:P.underlying t=some (.slice (P.elem t))) (a:Option Addr) (len cap:Nat) (kl kh:IntKind) (l h:Int) (h0:0≤l) (h1:l≤h) (h2:h≤cap) :
  (Instr.slice t (.slice a len cap) (some (.int kl l)) (some (.int kh h)) none).run P w=((sizeOf (P.elem t)).run P w).andThen λs w => .ok (.slice (agv a cap l.toNat s) (h.toNat-l.toNat) (cap-l.toNat)) w:=by
 rw[run_slice_lh w t a len cap ht kl kh l h h0 h1 h2]
 rfl
theorem Bs.take{w:World}{a:Option Addr}{c:Nat}{bs:List UInt8}(h:Bs w a c bs)(n:Nat):Bs w a c (bs.take n):=by
 refine⟨by simp,by have:=h.room;simp;omega,h.most,h.nil,λj u hj=>?_⟩
 rw[List.map_take,List.getElem?_take]at hj
 split at hj
 ·exact h.cell j u hj
 ·cases hj
theorem Bs.drop{w:World}{a:Option Addr}{c:Nat}{bs:List UInt8}(h:Bs w a c bs)(n:Nat)(_hn:n≤bs.length):Bs w (agv a c n 1) (c-n) (bs.drop n):=by
 have hr:=h.room
 have hm:=h.most
 refine⟨by simp,by simp;omega,by omega,λe=>?_,λj u hj=>?_⟩
 ·have:a=none:=by
   unfold agv at e
   split at e
   ·exact e
   ·simpa using e
  have:=h.nil this
  omega
 ·rw[List.map_drop,List.getElem?_drop]at hj
  obtain⟨b,off,rfl,hc⟩:=h.cell (n+j) u hj
  have hlt:n+j<bs.length:=by
   have:=(List.getElem?_eq_some_iff.1 hj).1
   simpa using this
  refine⟨b,off+n,?_,by rw[Nat.add_assoc];exact hc⟩
  unfold agv
  rw[if_neg aPl]
  simp[Addr.add_lit]
theorem avw(a:Option Addr)(c l s:Nat):ql (agv a c l s)=ql a:=by
 unfold agv
 split
 ·rfl
 ·cases a with
  |none=>rfl
  |some a=>simp[ql,Addr.add];split<;>rfl
structure IsR (w:World) (b:Nat) (a:Option Addr) (st:Option (List UInt8)):Prop where
 at_:∃c,w.heap[b]? = some (.cells #[.slice a (st.getD []).length c,.bool st.isNone] 157 (0,0))∧Bs w a c (st.getD [])
 blk:∀k,ql a=some k→k<w.heap.size
theorem IsR.lt{w:World}{b:Nat}{a:Option Addr}{st:Option (List UInt8)}(h:IsR w b a st):b<w.heap.size:=by
 obtain⟨c,h,_⟩:=h.at_
 exact(Array.getElem?_eq_some_iff.1 h).1
theorem IsR.fr{S:Nat→Prop}{w w':World}{b:Nat}{a:Option Addr}{st:Option (List UInt8)}(h:IsR w b a st)(hf:Fr S w w')(hb:¬S b)(ha:∀k,ql a=some k→¬S k):IsR w' b a st:=by
 obtain⟨c,h1,h2⟩:=h.at_
 exact⟨⟨c,hf.keeps hb h1,Sl.fr h2 hf ha⟩,λk hk=>hf.lt (h.blk k hk)⟩
theorem IsR.below{w w':World}{b n:Nat}{a:Option Addr}{st:Option (List UInt8)}(h:IsR w b a st)(hf:Below n w w')(hb:b<n)(ha:∀k,ql a=some k→k<n):IsR w' b a st:=by
 obtain⟨c,h1,h2⟩:=h.at_
 exact⟨⟨c,(hf.block b hb).trans h1,h2.kept λk hk _=>hf.block k (ha k hk)⟩,λk hk=>Nat.lt_of_lt_of_le (h.blk k hk) hf.size⟩
theorem ahf{w:World}{b:Nat}{u v:Value}{t:TypeId}(h:w.heap[b]? = some (.cells #[u,v] t (0,0))):w.cell? ⟨b,0,none⟩=some u∧w.cell? ⟨b,1,none⟩=some v∧(∀o,w.frozen? ⟨b,o,none⟩=false):=by
 simp[World.cell?,World.frozen?,h]
theorem apo{w:World}{b:Nat}{u v x:Value}{t:TypeId}(h:w.heap[b]? = some (.cells #[u,v] t (0,0))):(w.setCell ⟨b,0,none⟩ x).heap[b]? = some (.cells #[x,v] t (0,0)):=by
 simp only[World.setCell,Array.getElem?_modify,if_true,h,Option.map_some]
 rfl
theorem aCb{w:World}{b:Nat}{u v x:Value}{t:TypeId}(h:w.heap[b]? = some (.cells #[u,v] t (0,0))):(w.setCell ⟨b,1,none⟩ x).heap[b]? = some (.cells #[u,x] t (0,0)):=by
 simp only[World.setCell,Array.getElem?_modify,if_true,h,Option.map_some]
 rfl
theorem Bs.pair{w w':World}{b:Nat}{u v:Value}{t:TypeId}(hu:∀n,u ≠ .int .u8 n)(hv:∀n,v ≠ .int .u8 n)(h:w.heap[b]? = some (.cells #[u,v] t (0,0)))(hf:Fr (λk=>k=b) w w'){a:Option Addr}{c:Nat}{bs:List UInt8}(hb:Bs w a c bs):Bs w' a c bs:=by
 refine⟨hb.len,hb.room,hb.most,hb.nil,λj x hj=>?_⟩
 obtain⟨b',off,rfl,hc⟩:=hb.cell j x hj
 have hx:∃n,x = .int .u8 n:=by
  simp only[List.getElem?_map,Option.map_eq_some_iff]at hj
  obtain⟨y,_,rfl⟩:=hj
  exact⟨_,rfl⟩
 obtain⟨n,rfl⟩:=hx
 by_cases e:b'=b
 ·subst e
  simp only[World.cell?,h,Option.isSome_none,Bool.false_eq_true,if_false]at hc
  match h':off+j,hc with
  |0,hc=>simp at hc;exact absurd hc (hu n)
  |1,hc=>simp at hc;exact absurd hc (hv n)
  |k+2,hc=>simp at hc
 ·exact⟨b',off,rfl,hf.cell (p:=⟨b',off+j,none⟩) e hc⟩
def abr(w:World)(b:Nat)(a:Option Addr)(st:Option (List UInt8))(w':World):Prop :=
 ∃a',IsR w' b a' st∧Fr (λk=>k=b) w w'∧∀k,ql a'=some k→ql a=some k
theorem abr.refl{w:World}{b:Nat}{a:Option Addr}{st:Option (List UInt8)}(h:IsR w b a st):abr w b a st w:=⟨a,h,Fr.refl _ _,λ_=>id⟩
theorem abr.trans{w w1 w2:World}{b:Nat}{a a1:Option Addr}{st2:Option (List UInt8)}(hf:Fr (λk=>k=b) w w1)(ha:∀k,ql a1=some k→ql a=some k)
  (h2:abr w1 b a1 st2 w2):abr w b a st2 w2:=by
 obtain⟨a2,h,hf2,ha2⟩:=h2
 exact⟨a2,h,hf.trans' hf2,λk hk=>ha k (ha2 k hk)⟩
theorem aha(b:Nat)(a:Option Addr)(st:Option (List UInt8))(w:World)(h:IsR w b a st):
  Calls Tryz.prog 134 #[.pointer (some ⟨b,0,none⟩)] w λe w'=>e = .returned (.tuple #[])∧abr w b a none w':=by
 obtain⟨c,h1,h2⟩:=h.at_
 obtain⟨c0,c1,z⟩:=ahf h1
 have z0:=z 0
 have z1:=z 1
 have p0:=apo (x := .slice none 0 0) h1
 have P:=Lib.hid (aCb (x := .bool true) p0)
 clear h1 z p0 h2 h
 go_enter Tryz.func134,Tryz.ntmps134
 go_wp2
 go_end0
 exact⟨rfl,none,⟨⟨0,P.out,Bs.nothing _⟩,λk e=>by cases e⟩,(Fr.setCell (S:=λk=>k=b) (Fr.refl _ _) (p:=⟨b,0,none⟩) (λ_=>rfl) _).setCell (p:=⟨b,1,none⟩) (λ_=>rfl) _,λk e=>by cases e⟩
def lft(st:Option (List UInt8)):Nat:=(st.getD []).length
theorem ahk(b:Nat)(a:Option Addr)(st:Option (List UInt8))(w:World)(h:IsR w b a st)(_hl:lft st≤140737488355328):
  Calls Tryz.prog 85 #[.pointer (some ⟨b,0,none⟩)] w λe w'=>e = .returned (.int .i64 (lft st))∧w=w':=by
 obtain⟨c,h1,h2⟩:=h.at_
 obtain⟨c0,c1,z⟩:=ahf h1
 change w.cell? _=some (.slice a (lft st) c)at c0
 clear h1 z h2 h c1
 go_enter Tryz.func85,Tryz.ntmps85
 go_wp2
 go_ret
 exact⟨rfl,rfl⟩
theorem afs(b:Nat)(a:Option Addr)(st:Option (List UInt8))(w:World)(h:IsR w b a st):
  Calls Tryz.prog 84 #[.pointer (some ⟨b,0,none⟩)] w λe w'=>e = .returned (.bool st.isNone)∧w=w':=by
 obtain⟨c,h1,h2⟩:=h.at_
 obtain⟨c0,c1,z⟩:=ahf h1
 generalize hs:st.isNone=q at c1 ⊢
 clear h1 z h2 h hs c0
 go_enter Tryz.func84,Tryz.ntmps84
 go_wp2
 go_ret
 exact⟨rfl,rfl⟩
def endB(st:Option (List UInt8)):Bool:=match st with|some bs=>bs.isEmpty|none=>false
theorem aIc(b:Nat)(a:Option Addr)(st:Option (List UInt8))(w:World)(h:IsR w b a st)(hl:lft st≤140737488355328):
  Calls Tryz.prog 45 #[.pointer (some ⟨b,0,none⟩)] w λe w'=>e = .returned (.bool (endB st))∧w=w':=by
 cases st with
 |none =>
  have C1:=Lib.hid (afs b a none w h)
  go_enter Tryz.func45,Tryz.ntmps45
  go_wp2_with (go_at_call 84;refine C1.out.mono ?_;rintro e w' ⟨rfl,rfl⟩)
  go_ret
  exact⟨rfl,rfl⟩
 |some bs =>
  have C1:=Lib.hid (afs b a (some bs) w h)
  have C2:=Lib.hid (ahk b a (some bs) w h hl)
  have hlf:lft (some bs)=bs.length:=rfl
  by_cases h0:bs = []
  ·subst h0
   go_enter Tryz.func45,Tryz.ntmps45
   go_wp2_with (first|(go_at_call 84;refine C1.out.mono ?_;rintro e w' ⟨rfl,rfl⟩)|(go_at_call 85;refine C2.out.mono ?_;rintro e w' ⟨rfl,rfl⟩))
   go_ret
   exact⟨rfl,rfl⟩
  ·have hp:0<bs.length:=List.length_pos_iff.2 h0
   have he:endB (some bs)=false:=by simp[endB,h0]
   rw[he]
   clear he hlf
   have hq:((lft (some bs):Int)==0)=false:=by simp[lft,h0]
   clear h0
   go_enter Tryz.func45,Tryz.ntmps45
   go_wp2_with (first|(go_at_call 84;refine C1.out.mono ?_;rintro e w' ⟨rfl,rfl⟩)|(go_at_call 85;refine C2.out.mono ?_;rintro e w' ⟨rfl,rfl⟩))
   go_ret
   exact⟨rfl,rfl⟩
def tk(n:Int)(st:Option (List UInt8)):List UInt8×Option (List UInt8) :=
 match st with
 |none=>([],none)
 |some bs=>if 0≤n∧n≤bs.length then(bs.take n.toNat,some (bs.drop n.toNat))else([],none)
def aFe(w:World)(b:Nat)(a:Option Addr)(r:List UInt8)(st:Option (List UInt8))(e:Ending)(w':World):Prop :=
 ∃a2 c2,e = .returned (.slice a2 r.length c2)∧Bs w' a2 c2 r∧abr w b a st w'∧∀k,ql a2=some k→ql a=some k
theorem auz(b:Nat)(a:Option Addr)(st:Option (List UInt8))(n:Int)(w:World)(h:IsR w b a st)(hl:lft st≤140737488355328)(hn:n<0∨(lft st:Int)<n):
  Calls Tryz.prog 168 #[.pointer (some ⟨b,0,none⟩),.int .i64 n] w (aFe w b a [] none):=by
 have C1:=Lib.hid (ahk b a st w h hl)
 have C2:=Lib.hid (aha b a st w h)
 rcases hn with hn|hn
 all_goals
  by_cases hneg:n<0
  all_goals
   first
   |omega
   |(go_enter Tryz.func168,Tryz.ntmps168
     go_wp2_with (first|(go_at_call 85;refine C1.out.mono ?_;rintro e w' ⟨rfl,rfl⟩)|(go_at_call 134;refine C2.out.mono ?_;rintro e w1 ⟨rfl,h1⟩))
     go_ret
     exact⟨none,0,rfl,Bs.nothing _,h1,λk e=>by cases e⟩)
theorem aw1(b:Nat)(a:Option Addr)(w:World)(h:IsR w b a none):
  Calls Tryz.prog 168 #[.pointer (some ⟨b,0,none⟩),.int .i64 0] w (aFe w b a [] none):=by
 have C1:=Lib.hid (ahk b a none w h (by simp[lft]))
 have C2:=Lib.hid (afs b a none w h)
 have C3:=Lib.hid (abr.refl h)
 go_enter Tryz.func168,Tryz.ntmps168
 go_wp2_with (first|(go_at_call 85;refine C1.out.mono ?_;rintro e w' ⟨rfl,rfl⟩)|(go_at_call 84;refine C2.out.mono ?_;rintro e w1 ⟨rfl,rfl⟩))
 go_ret
 exact⟨none,0,rfl,Bs.nothing _,C3.out,λk e=>by cases e⟩
theorem aLj(b:Nat)(a:Option Addr)(bs:List UInt8)(n:Nat)(w:World)(h:IsR w b a (some bs))(hl:bs.length≤140737488355328)(hn:n≤bs.length):
  Calls Tryz.prog 168 #[.pointer (some ⟨b,0,none⟩),.int .i64 n] w (aFe w b a (bs.take n) (some (bs.drop n))):=by
 have C1:=Lib.hid (ahk b a (some bs) w h hl)
 have C2:=Lib.hid (afs b a (some bs) w h)
 have C3:=Lib.hid (abr.refl h)
 obtain⟨c,h1,h2⟩:=h.at_
 obtain⟨c0,c1,z⟩:=ahf h1
 simp only[Option.getD_some]at c0 h2
 have hc:=h2.room
 have z0:=z 0
 have H1:=Lib.hid h1
 have hlf:¬(lft (some bs):Int)<n:=by simp[lft];omega
 have HB:=Lib.hid h.blk
 clear h1 z h c1
 go_enter Tryz.func168,Tryz.ntmps168
 go_wp2_with (first|(go_at_call 85;refine C1.out.mono ?_;rintro e w' ⟨rfl,rfl⟩)|(go_at_call 84;refine C2.out.mono ?_;rintro e w1 ⟨rfl,rfl⟩))
 go_ret
 have P:=apo (x := .slice (agv a c n 1) (bs.length-n) (c-n)) H1.out
 have F:=Fr.setCell (S:=λk=>k=b) (Fr.refl _ w) (p:=⟨b,0,none⟩) (λ_=>rfl) (.slice (agv a c n 1) (bs.length-n) (c-n))
 have T:=Bs.pair (λn e=>by cases e) (λn e=>by cases e) H1.out F (h2.take n)
 have D:=Bs.pair (λn e=>by cases e) (λn e=>by cases e) H1.out F (h2.drop n hn)
 refine⟨a,c,by rw[List.length_take,Nat.min_eq_left hn];rfl,T,⟨agv a c n 1,⟨⟨c-n,?_,D⟩,λk hk=>F.lt (HB.out k (by rwa [avw]at hk))⟩,F,λk hk=>by rwa [avw]at hk⟩,λk=>id⟩
 simp only[Option.getD_some,List.length_drop]
 exact P
theorem take_any(b:Nat)(a:Option Addr)(st:Option (List UInt8))(n:Int)(w:World)(h:IsR w b a st)(hl:lft st≤140737488355328):
  Calls Tryz.prog 168 #[.pointer (some ⟨b,0,none⟩),.int .i64 n] w (aFe w b a (tk n st).1 (tk n st).2):=by
 cases st with
 |none =>
  by_cases h0:n=0
  ·subst h0
   exact aw1 b a w h
  ·exact auz b a none n w h hl (by simp[lft];omega)
 |some bs =>
  by_cases h0:0≤n∧n≤bs.length
  ·obtain⟨n,rfl⟩:=Int.eq_ofNat_of_zero_le h0.1
   simp only[tk,if_pos h0,Int.toNat_natCast]
   exact aLj b a bs n w h hl aPl
  ·simp only[tk,if_neg h0]
   exact auz b a (some bs) n w h hl (by simp[lft];omega)
def aKa(w:World)(b:Nat)(a:Option Addr)(r:List UInt8)(st:Option (List UInt8))(e:Ending)(w':World):Prop :=
 ∃a2 c2,e = .returned (.slice a2 r.length c2)∧Bs w' a2 c2 r∧abr w b a st w'∧∀k,ql a2=some k→w.heap.size≤k
theorem agy(n:Int)(st:Option (List UInt8)):(tk n st).1.length≤lft st∧lft (tk n st).2≤lft st:=by
 unfold tk lft
 cases st with
 |none=>simp
 |some bs =>
  dsimp only
  split
  ·simp;omega
  ·simp
theorem awg(b:Nat)(a:Option Addr)(st:Option (List UInt8))(n:Int)(w:World)(h:IsR w b a st)(hl:lft st≤140737488355328):
  Calls Tryz.prog 135 #[.pointer (some ⟨b,0,none⟩),.int .i64 n] w (aKa w b a (tk n st).1 (tk n st).2):=by
 have C1:=Lib.hid (take_any b a st n w h hl)
 have ht:=(agy n st).1
 generalize tk n st=q at *
 obtain⟨r,st'⟩:=q
 dsimp only at *
 go_enter Tryz.func135,Tryz.ntmps135
 go_wp2_with (first|(go_at_call 168;refine C1.out.mono ?_;rintro e w1 ⟨a2,c2,rfl,hb,hp,_⟩;have HP:=Lib.hid hp)|(go_at_call 76;refine(ae2 _ _ _ _ _ hb rfl aPl).mono ?_;rintro e w2 ⟨a3,c3,rfl,hb3,hf3,hk3⟩))
 go_ret
 obtain⟨a',hr,hf,ha⟩:=hp
 exact⟨a3,c3,rfl,hb3,⟨a',hr.fr hf3 (λf=>f) (λ_ _ f=>f),hf.trans' hf3.of0,ha⟩,λk hk=>Nat.le_trans hf.size (hk3 k hk).1⟩
def aqf(bs:List UInt8)(w:World)(e:Ending)(w':World):Prop :=
 ∃b a,e = .returned (.pointer (some ⟨b,0,none⟩))∧IsR w' b a (some bs)∧Fr F0 w w'∧w.heap.size≤b∧b<w'.heap.size∧∀k,ql a=some k→w.heap.size≤k∧k<w'.heap.size
theorem aoh(a:Option Addr)(n c:Nat)(bs:List UInt8)(w:World)(h:Bs w a c bs)(hn:n=bs.length)(hl:bs.length≤140737488355328):
  Calls Tryz.prog 43 #[.slice a n c] w (aqf bs w):=by
 have HN:=Lib.hid hn
 clear hn
 go_enter Tryz.func43,Tryz.ntmps43
 go_wp2_with (go_at_call 76;refine(ae2 _ _ _ _ _ h HN.out hl).mono ?_;rintro e w1 ⟨a',c',rfl,h1,h2,h3⟩;have H3:=Lib.hid h3;clear h3)
 go_ret
 have hn:(w1.alloc (Obj.cells #[.slice a' bs.length c',.bool false] 157)).heap[w1.heap.size]? = some (.cells #[.slice a' bs.length c',.bool false] 157 (0,0)):=heap_alloc_new _ _
 refine⟨w1.heap.size,a',rfl,⟨⟨c',hn,Sl.fr h1 ((Fr.refl F0 _).alloc _) λ_ _=>id⟩,λk hk=>by have:=H3.out k hk;simp;omega⟩,h2.alloc _,h2.size,by simp,λk hk=>?_⟩
 have:=H3.out k hk
 simp
 omega
end Go.Proofs.YtjlelckefiannaaGreatDoor
namespace Go.Proofs.YtjlelckefiannaaGreatDoor
set_option linter.unusedVariables false
set_option linter.unusedSimpArgs false
open Go.RowKit Go.Shelf
attribute [local go_sem] Oper.semAt_some
def ofLE:List UInt8→Nat
 |[]=>0
 |c::r=>c.toNat+256*ofLE r
def acc(l:List (Nat×UInt8)):Nat:=l.foldl (λs p=>s*256+p.2.toNat) 0
theorem awf(l:List (Nat×UInt8))(x:Nat×UInt8):acc (l ++ [x])=acc l*256+x.2.toNat:=by simp[acc]
theorem aSk(l:List (Nat×UInt8)):acc l<256 ^ l.length:=by
 obtain⟨r,rfl⟩:∃r,l=List.reverse r:=⟨l.reverse,by simp⟩
 induction r with
 |nil=>simp[acc]
 |cons x r ih =>
  rw[List.reverse_cons,awf]
  have:=x.2.toNat_lt
  simp only[List.length_append,List.length_cons,List.length_nil,Nat.pow_succ]at *
  omega
theorem aNu(l:List (Nat×UInt8)):acc l=(l.map (·.2)).foldl (λs c=>s*256+c.toNat) 0:=by simp[acc,List.foldl_map]
theorem aGt(bs:List UInt8):bs.reverse.foldl (λs c=>s*256+c.toNat) 0=ofLE bs:=by
 induction bs with
 |nil=>rfl
 |cons c r ih=>simp only[List.reverse_cons,List.foldl_append,ih,List.foldl_cons,List.foldl_nil,ofLE];omega
theorem aNv(bs:List UInt8):acc (upto (bk bs) bs.length)=ofLE bs:=by rw[aNu,aSd,aGt]
def gt(n:Int)(st:Option (List UInt8)):Nat×Option (List UInt8):=if szB n then(ofLE (tk n st).1,(tk n st).2)else(0,none)
theorem aN1(b:Nat)(a:Option Addr)(st:Option (List UInt8))(n:Int)(w:World)(h:IsR w b a st)(hn:szB n=false):
  Calls Tryz.prog 136 #[.pointer (some ⟨b,0,none⟩),.int .i64 n] w λe w'=>e = .returned (.int .u64 0)∧abr w b a none w':=by
 go_enter Tryz.func136,Tryz.ntmps136
 go_wp2_with (first|(go_at_call 78;refine(ah4 _ _).mono ?_;rintro e w' ⟨rfl,rfl⟩)|(go_at_call 134;refine(aha b a st _ h).mono ?_;rintro e w1 ⟨rfl,h1⟩))
 go_ret
 exact⟨rfl,h1⟩
theorem aMd(A X:Nat)(hA:A<72057594037927936)(hX:X<2 ^ 8):bits .or .u64 ((A:Int)*256) (X:Int)=((A*256+X:Nat):Int):=by
 have h:=u64_or_nat (A*256) X aPl aPl
 have e:A*256=A <<< 8:=by rw[Nat.shiftLeft_eq]
 rw[show((A:Int)*256)=((A*256:Nat):Int)from by omega,h,e,←Nat.shiftLeft_add_eq_or_of_lt hX]
theorem aKd(b:Nat)(a:Option Addr)(st:Option (List UInt8))(n:Int)(w:World)(h:IsR w b a st)(hl:lft st≤140737488355328)(hn:szB n=true):
  Calls Tryz.prog 136 #[.pointer (some ⟨b,0,none⟩),.int .i64 n] w λe w'=>e = .returned (.int .u64 (ofLE (tk n st).1))∧abr w b a (tk n st).2 w':=by
 have hn8:(tk n st).1.length≤8:=by
  have:n≤8:=by
   simp only[szB,Bool.or_eq_true,beq_iff_eq]at hn
   omega
  unfold tk
  cases st with
  |none=>simp
  |some bs =>
   dsimp only
   split
   ·simp;omega
   ·simp
 have hA:IsR (w.alloc (.cells #[.int .u64 0] 31)) b a st:=h.fr ((Fr.refl F0 w).alloc _) (λf=>f) λ_ _ f=>f
 have C1:=Lib.hid (take_any b a st n _ hA hl)
 generalize tk n st=q at *
 obtain⟨r,st'⟩:=q
 dsimp only at *
 refine callsIn_wide (n:=6) |>.1 ?_
 refine callsIn_of_wp_marks Tryz.func136 rfl trivial ?_ rfl
 simp only[Tryz.ntmps136,List.size_toArray,List.length_cons,List.length_nil,Nat.reduceAdd,Nat.reduceSub,Array.replicate_succ,Array.replicate_zero,List.push_toArray,List.append_toArray,List.nil_append,List.cons_append]
 gi_wp2_with (first|(refine⟨trivial,?_⟩;gi_at_call 78;refine(callsIn_wide.2 (ah4 _ _)).mono ?_;rintro e w' ⟨rfl,rfl⟩)|(refine⟨trivial,?_⟩;gi_at_call 168;refine(callsIn_wide.2 C1.out).mono ?_;rintro e w1 ⟨a2,c2,rfl,hb,hp,ha2⟩;have HP:=Lib.hid hp;have HA:=Lib.hid ha2;clear hp ha2)|(refine⟨trivial,?_⟩;gi_at_call 169;refine(at6 _ _ trivial rfl _ _ _ _).mono ?_;rintro e w2 ⟨rfl,rfl⟩))
 obtain⟨a',hr,hf,ha⟩:=HP.out
 have hsz:w.heap.size<w1.heap.size:=hf.lt (by simp)
 have hne:w.heap.size≠b:=by have:=h.lt;omega
 have cx:w1.heap[w.heap.size]? = some (.cells #[.int .u64 0] 31 (0,0)):=hf.keeps hne (heap_alloc_new w (.cells #[.int .u64 0] 31))
 have cx':(w1.alloc (.cells #[.slice a2 r.length c2] 22)).heap[w.heap.size]? = some (.cells #[.int .u64 0] 31 (0,0)):=(Below.heap_alloc w1 _ _ hsz).trans cx
 have hbL:(w1.alloc (.cells #[.slice a2 r.length c2] 22)).cell? ⟨w1.heap.size,0,none⟩=some (.slice a2 r.length c2):=cell_of_one (heap_alloc_new w1 _)
 have hb':Bs (w1.alloc (.cells #[.slice a2 r.length c2] 22)) a2 c2 r:=Sl.fr hb ((Fr.refl F0 _).alloc _) λ_ _ f=>f
 refine wpIn_rangeFunc_ownG rfl aPl (gf:=190) (lb:=#[.pointer (some ⟨w1.heap.size,0,none⟩)]) rfl trivial (enters_of Tryz.func190 (by kernel_rfl) rfl)
  (alp Fence.wide 5 trivial rfl aPl w1.heap.size w.heap.size a2 c2 r aPl _ aPl hbL hb' (λk _ hk=>by have:=h.blk k (HA.out k hk);omega))
  (λh k=>Kc.trans h k) (λW l o o' _ h hc _=>Kc.putObj W l o o' h hc) (Below.refl _ _) (λ_=>rfl)
  (λpre W=>(W.cell? ⟨w.heap.size,0,none⟩=some (.int .u64 (acc pre))∧W.frozen? ⟨w.heap.size,0,none⟩=false)∧Below w.heap.size (w1.alloc (.cells #[.slice a2 r.length c2] 22)) W)
  (λ_ _ _=>False)
  (OwnFrom.and (Own.from (λs A B row hs hg hr=>⟨cell_kept hs.1 hg hr,(frozen_kept hs.1 hg hr).trans hs.2⟩) _) (ownFrom_below (by simp;omega) (by simp;omega)))
  (λ_ _ _ _ _ hs _ _=>hs)
  ⟨⟨cell_of_one cx',free_of_one cx'⟩,Below.refl _ _⟩
  (λx => { tmps:=#[.pointer (some ⟨b,0,none⟩),.int .i64 n,undef,undef,.int .u64 0,.pointer (some ⟨w.heap.size,0,none⟩),undef,.int .u8 (x.2.toNat:Int),.int .i64 n,.bool true,
   .bool false,undef,undef,.pointer (some ⟨b,0,none⟩),.int .i64 n,.slice a2 r.length c2,.func (.func 190) #[] #[.pointer (some ⟨w1.heap.size,0,none⟩)],.int .i64 (x.1:Int),.int .u8 (x.2.toNat:Int),undef,undef,undef,undef,undef,undef],defers := [] }) ?assign ?body ?done ?stop
 case assign =>
  intro l x W K hK
  gi_wp2
  exact hK
 case body =>
  rintro l pre x W ⟨⟨hc,hfz⟩,hB⟩ hlen
  have hacc:=aSk pre
  have hpow:256 ^ pre.length≤256 ^ 7:=Nat.pow_le_pow_right aPl aPl
  have hlt:acc pre<72057594037927936:=by omega
  have hx8:=x.2.toNat_lt
  have hsn:=Lib.hid (awf pre x)
  clear hacc hpow
  generalize hA':acc pre=A at *
  generalize hx':x.2.toNat=X at *
  have hor:=aMd A X hlt hx8
  gi_wp2
  exact⟨(KeepsOthers.setCell _ _ _).from _,Kc.setCell _ _ _,⟨by rw[hsn.out];exact World.cell?_setCell_same' _ _ _ (by rw[hc];rfl),by rw[World.frozen?_setCell];exact hfz⟩,hB.setCell (p:=⟨w.heap.size,0,none⟩) (Nat.le_refl _) _⟩
 case done =>
  rintro D ys W hD rfl ⟨⟨hc,_⟩,hB⟩ hK
  gi_wp2
  refine⟨by simp,.inl ⟨_,_,rfl,run_takeDeferred hK,?_⟩⟩
  have hBD:Below w.heap.size (w1.alloc (.cells #[.slice a2 r.length c2] 22)) (W.putObj D (.deferred none)):=hB.trans (belowK_b (w:=w1.alloc (.cells #[.slice a2 r.length c2] 22)) (by simp;omega) W D _ _ (by simp at hD;simp;omega) hK rfl rfl)
  have hlb:=h.lt
  have hak:=h.blk
  have hR:IsR (w1.alloc (.cells #[.slice a2 r.length c2] 22)) b a' st':=hr.fr ((Fr.refl F0 w1).alloc _) (λf=>f) λ_ _ f=>f
  exact⟨_,results_tmp rfl _ _ _,by rw[←aNv];rfl,a',hR.below hBD hlb λk hk=>hak k (ha k hk),
   ((((Fr.refl F0 w).alloc _).of0.trans' hf).alloc _).trans (Fr.uz hBD) (λi hi hk=>by omega),ha⟩
 case stop =>
  rintro D c pre W _ _ h _
  exact h.elim
end Go.Proofs.YtjlelckefiannaaGreatDoor
namespace Go.Proofs.YtjlelckefiannaaGreatDoor
set_option linter.unusedVariables false
set_option linter.unusedSimpArgs false
open Go.RowKit Go.Shelf
attribute [local go_sem] Oper.semAt_some
theorem adv(bs:List UInt8):ofLE bs<256 ^ bs.length:=by
 induction bs with
 |nil=>simp[ofLE]
 |cons c r ih =>
  have:=c.toNat_lt
  simp only[ofLE,List.length_cons,Nat.pow_succ]
  omega
theorem aQ4{n:Int}(h:szB n=true):1≤n∧n≤8:=by
 simp only[szB,Bool.or_eq_true,beq_iff_eq]at h
 omega
theorem aK6(n:Int)(st:Option (List UInt8))(h:0≤n):((tk n st).1.length:Int)≤n:=by
 unfold tk
 cases st with
 |none=>simpa using h
 |some bs =>
  dsimp only
  split
  ·simp;omega
  ·simpa using h
theorem aQi(n:Int)(st:Option (List UInt8)):(gt n st).1<18446744073709551616:=by
 unfold gt
 split
 ·rename_i h
  have h8:=aQ4 h
  have h1:=aK6 n st aPl
  have h2:=adv (tk n st).1
  have h3:256 ^ (tk n st).1.length≤256 ^ 8:=Nat.pow_le_pow_right aPl aPl
  omega
 ·omega
theorem azs(n:Int)(st:Option (List UInt8)):lft (gt n st).2≤lft st:=by
 unfold gt
 split
 ·exact(agy n st).2
 ·simp[lft]
theorem aBf(b:Nat)(a:Option Addr)(st:Option (List UInt8))(n:Int)(w:World)(h:IsR w b a st)(hl:lft st≤140737488355328):
  Calls Tryz.prog 136 #[.pointer (some ⟨b,0,none⟩),.int .i64 n] w λe w'=>e = .returned (.int .u64 (gt n st).1)∧abr w b a (gt n st).2 w':=by
 cases hn:szB n with
 |true=>simp only[gt,hn,if_true];exact aKd b a st n w h hl hn
 |false=>simp only[gt,hn];exact aN1 b a st n w h hn
theorem aa4(x s:Nat)(w:World)(h:csz x=s):Calls Tryz.prog 79 #[.int .u64 x] w λe w'=>e = .returned (.int .i64 s)∧w=w':=by
 subst h
 exact aho x w
def rcp(st:Option (List UInt8)):Nat×Nat×Option (List UInt8) :=
 if(gt 1 st).1=253 then(3,gt 2 (gt 1 st).2)else if(gt 1 st).1=254 then(5,gt 4 (gt 1 st).2)else if(gt 1 st).1=255 then(9,gt 8 (gt 1 st).2)else(1,gt 1 st)
def rc(most:Nat)(st:Option (List UInt8)):Nat×Option (List UInt8) :=
 if csz (rcp st).2.1=(rcp st).1∧(rcp st).2.1≤most then(rcp st).2 else(0,none)
theorem amz(b:Nat)(a:Option Addr)(st:Option (List UInt8))(most:Nat)(w:World)(h:IsR w b a st)(hl:lft st≤140737488355328)(hm:most<18446744073709551616):
  Calls Tryz.prog 83 #[.pointer (some ⟨b,0,none⟩),.int .u64 most] w λe w'=>e = .returned (.int .u64 (rc most st).1)∧abr w b a (rc most st).2 w':=by
 have C1:=aBf b a st 1 w h hl
 have L1:=azs 1 st
 have X1:=aQi 1 st
 -- the second number,wherever it comes from
 have second:∀k:Int,∀w1,abr w b a (gt 1 st).2 w1→Calls Tryz.prog 136 #[.pointer (some ⟨b,0,none⟩),.int .i64 k] w1 λe w'=>e = .returned (.int .u64 (gt k (gt 1 st).2).1)∧abr w b a (gt k (gt 1 st).2).2 w':=by
  rintro k w1 ⟨a1,h1,hf1,ha1⟩
  refine(aBf b a1 _ k w1 h1 aPl).mono ?_
  rintro e w2 ⟨rfl,h2⟩
  exact⟨rfl,abr.trans hf1 ha1 h2⟩
 have fail:∀st2 w1,abr w b a st2 w1→Calls Tryz.prog 134 #[.pointer (some ⟨b,0,none⟩)] w1 λe w'=>e = .returned (.tuple #[])∧abr w b a none w':=by
  rintro st2 w1 ⟨a1,h1,hf1,ha1⟩
  refine(aha b a1 _ w1 h1).mono ?_
  rintro e w2 ⟨rfl,h2⟩
  exact⟨rfl,abr.trans hf1 ha1 h2⟩
 have Y:∀k,(gt k (gt 1 st).2).1<18446744073709551616:=λk=>aQi k _
 unfold rc rcp
 generalize hg:gt 1 st=g at *
 obtain⟨x,s1⟩:=g
 dsimp only at *
 clear hg L1 hl h
 have FA:=Lib.hid fail
 have CC1:=Lib.hid C1
 have SE:=Lib.hid second
 have YY:=Lib.hid Y
 clear fail C1 second Y
 by_cases hx:x=253∨x=254∨x=255
 ·obtain⟨k,size,hk⟩:∃(k:Int) (size:Nat),(x=253∧k=2∧size=3)∨(x=254∧k=4∧size=5)∨(x=255∧k=8∧size=9):=by
   rcases hx with h|h|h
   ·exact⟨2,3,.inl ⟨h,rfl,rfl⟩⟩
   ·exact⟨4,5,.inr (.inl ⟨h,rfl,rfl⟩)⟩
   ·exact⟨8,9,.inr (.inr ⟨h,rfl,rfl⟩)⟩
  have hif:(if x=253 then(3,gt 2 s1)else if x=254 then(5,gt 4 s1)else if x=255 then(9,gt 8 s1)else(1,x,s1))=(size,gt k s1):=by
   rcases hk with⟨rfl,rfl,rfl⟩|⟨rfl,rfl,rfl⟩|⟨rfl,rfl,rfl⟩<;>rfl
  rw[hif]
  clear hif hx
  have hy:=YY.out k
  have S2:=Lib.hid (SE.out k)
  clear SE YY
  generalize gt k s1=q at *
  obtain⟨y,s2⟩:=q
  dsimp only at *
  have key:∀c:Nat,csz y=c→(c<size∨size<c∨c=size∧(most<y∨y≤most)) →
    Calls Tryz.prog 83 #[.pointer (some ⟨b,0,none⟩),.int .u64 most] w λe w'=>e = .returned (.int .u64 (if csz y=size∧y≤most then(y,s2)else(0,none)).1)∧abr w b a (if csz y=size∧y≤most then(y,s2)else(0,none)).2 w':=by
   intro c hc hcase
   have HC:=Lib.hid hc
   clear hc
   rcases hcase with h1|h1|⟨rfl,h1|h1⟩
   ·rw[if_neg aua]
    dsimp only
    rcases hk with⟨rfl,rfl,rfl⟩|⟨rfl,rfl,rfl⟩|⟨rfl,rfl,rfl⟩
    all_goals
     go_enter Tryz.func83,Tryz.ntmps83
     go_wp2_with fail
     refine CC1.out.mono ?_
     rintro e w1 ⟨rfl,p1⟩
     go_wp2_with fail
     refine(S2.out _ p1).mono ?_
     rintro e w2 ⟨rfl,p2⟩
     go_wp2_with (first|(go_at_call 79;refine(aa4 _ _ _ HC.out).mono ?_;rintro e w3 ⟨rfl,rfl⟩)|(go_at_call 134;refine(FA.out _ _ p2).mono ?_;rintro e w3 ⟨rfl,p3⟩))
     go_ret
     exact⟨rfl,p3⟩
   ·rw[if_neg aua]
    dsimp only
    rcases hk with⟨rfl,rfl,rfl⟩|⟨rfl,rfl,rfl⟩|⟨rfl,rfl,rfl⟩
    all_goals
     go_enter Tryz.func83,Tryz.ntmps83
     go_wp2_with fail
     refine CC1.out.mono ?_
     rintro e w1 ⟨rfl,p1⟩
     go_wp2_with fail
     refine(S2.out _ p1).mono ?_
     rintro e w2 ⟨rfl,p2⟩
     go_wp2_with (first|(go_at_call 79;refine(aa4 _ _ _ HC.out).mono ?_;rintro e w3 ⟨rfl,rfl⟩)|(go_at_call 134;refine(FA.out _ _ p2).mono ?_;rintro e w3 ⟨rfl,p3⟩))
     go_ret
     exact⟨rfl,p3⟩
   ·rw[if_neg aua]
    dsimp only
    rcases hk with⟨rfl,rfl,rfl⟩|⟨rfl,rfl,rfl⟩|⟨rfl,rfl,rfl⟩
    all_goals
     go_enter Tryz.func83,Tryz.ntmps83
     go_wp2_with fail
     refine CC1.out.mono ?_
     rintro e w1 ⟨rfl,p1⟩
     go_wp2_with fail
     refine(S2.out _ p1).mono ?_
     rintro e w2 ⟨rfl,p2⟩
     go_wp2_with (first|(go_at_call 79;refine(aa4 _ _ _ HC.out).mono ?_;rintro e w3 ⟨rfl,rfl⟩)|(go_at_call 134;refine(FA.out _ _ p2).mono ?_;rintro e w3 ⟨rfl,p3⟩))
     go_ret
     exact⟨rfl,p3⟩
   ·rw[if_pos ⟨HC.out,h1⟩]
    dsimp only
    rcases hk with⟨rfl,rfl,rfl⟩|⟨rfl,rfl,rfl⟩|⟨rfl,rfl,rfl⟩
    all_goals
     go_enter Tryz.func83,Tryz.ntmps83
     go_wp2_with fail
     refine CC1.out.mono ?_
     rintro e w1 ⟨rfl,p1⟩
     go_wp2_with fail
     refine(S2.out _ p1).mono ?_
     rintro e w2 ⟨rfl,p2⟩
     go_wp2_with ((go_at_call 79;refine(aa4 _ _ _ HC.out).mono ?_;rintro e w3 ⟨rfl,rfl⟩))
     go_ret
     exact⟨rfl,p2⟩
  refine key _ rfl ?_
  omega
 ·have hif:(if x=253 then(3,gt 2 s1)else if x=254 then(5,gt 4 s1)else if x=255 then(9,gt 8 s1)else(1,x,s1))=(1,x,s1):=by
   rw[if_neg aPl,if_neg aPl,if_neg aPl]
  rw[hif]
  clear hif SE YY
  dsimp only
  have b1:((x:Int)==253)=false:=by simp;omega
  have b2:((x:Int)==254)=false:=by simp;omega
  have b3:((x:Int)==255)=false:=by simp;omega
  clear hx
  have key:∀c:Nat,csz x=c→(c<1∨1<c∨c=1∧(most<x∨x≤most)) →
    Calls Tryz.prog 83 #[.pointer (some ⟨b,0,none⟩),.int .u64 most] w λe w'=>e = .returned (.int .u64 (if csz x=1∧x≤most then(x,s1)else(0,none)).1)∧abr w b a (if csz x=1∧x≤most then(x,s1)else(0,none)).2 w':=by
   intro c hc hcase
   have HC:=Lib.hid hc
   clear hc
   rcases hcase with h1|h1|⟨rfl,h1|h1⟩
   ·have:=aa0 x
    rw[HC.out]at this
    omega
   ·rw[if_neg aua]
    dsimp only
    go_enter Tryz.func83,Tryz.ntmps83
    go_wp2_with fail
    refine CC1.out.mono ?_
    rintro e w1 ⟨rfl,p1⟩
    go_wp2_with (first|(go_at_call 79;refine(aa4 _ _ _ HC.out).mono ?_;rintro e w3 ⟨rfl,rfl⟩)|(go_at_call 134;refine(FA.out _ _ p1).mono ?_;rintro e w3 ⟨rfl,p3⟩))
    go_ret
    exact⟨rfl,p3⟩
   ·rw[if_neg aua]
    dsimp only
    go_enter Tryz.func83,Tryz.ntmps83
    go_wp2_with fail
    refine CC1.out.mono ?_
    rintro e w1 ⟨rfl,p1⟩
    go_wp2_with (first|(go_at_call 79;refine(aa4 _ _ _ HC.out).mono ?_;rintro e w3 ⟨rfl,rfl⟩)|(go_at_call 134;refine(FA.out _ _ p1).mono ?_;rintro e w3 ⟨rfl,p3⟩))
    go_ret
    exact⟨rfl,p3⟩
   ·rw[if_pos ⟨HC.out,h1⟩]
    dsimp only
    go_enter Tryz.func83,Tryz.ntmps83
    go_wp2_with fail
    refine CC1.out.mono ?_
    rintro e w1 ⟨rfl,p1⟩
    go_wp2_with ((go_at_call 79;refine(aa4 _ _ _ HC.out).mono ?_;rintro e w3 ⟨rfl,rfl⟩))
    go_ret
    exact⟨rfl,p1⟩
  refine key _ rfl ?_
  have:=aa0 x
  omega
theorem azb(most:Nat)(st:Option (List UInt8)):(rc most st).1≤most:=by
 unfold rc
 split
 ·rename_i h
  exact h.2
 ·exact Nat.zero_le _
theorem aib(most:Nat)(st:Option (List UInt8)):lft (rc most st).2≤lft st:=by
 have h1:=azs 1 st
 have h2:=λk=>azs k (gt 1 st).2
 have h3:=h2 2
 have h4:=h2 4
 have h5:=h2 8
 have hp:lft (rcp st).2.2≤lft st:=by
  unfold rcp
  split
  ·dsimp only;omega
  ·split
   ·dsimp only;omega
   ·split
    ·dsimp only;omega
    ·dsimp only;omega
 unfold rc
 split
 ·exact hp
 ·simp[lft]
def aa7(most:Int)(st:Option (List UInt8)):List UInt8×Option (List UInt8) :=
 if most<0 then([],none)else tk (rc most.toNat st).1 (rc most.toNat st).2
theorem arh(b:Nat)(a:Option Addr)(st:Option (List UInt8))(most:Int)(w:World)(h:IsR w b a st)(hl:lft st≤140737488355328)(hm:most<9223372036854775808):
  Calls Tryz.prog 80 #[.pointer (some ⟨b,0,none⟩),.int .i64 most] w (aKa w b a (aa7 most st).1 (aa7 most st).2):=by
 by_cases hneg:most<0
 ·simp only[aa7,if_pos hneg]
  go_enter Tryz.func80,Tryz.ntmps80
  go_wp2_with (go_at_call 134;refine(aha b a st _ h).mono ?_;rintro e w1 ⟨rfl,p1⟩)
  go_ret
  exact⟨none,0,rfl,Bs.nothing _,p1,λk e=>by cases e⟩
 ·simp only[aa7,if_neg hneg]
  obtain⟨m,rfl⟩:=Int.eq_ofNat_of_zero_le (show 0≤most by omega)
  rw[Int.toNat_natCast]
  have C1:=Lib.hid (amz b a st m w h hl aPl)
  have hc:=azb m st
  have hl2:=aib m st
  generalize rc m st=g at *
  obtain⟨x,s1⟩:=g
  dsimp only at *
  go_enter Tryz.func80,Tryz.ntmps80
  go_wp2_with (go_at_call 83;refine C1.out.mono ?_;rintro e w1 ⟨rfl,p1⟩)
  obtain⟨a1,h1,hf1,ha1⟩:=p1
  refine(awg b a1 s1 _ w1 h1 aPl).mono ?_
  rintro e w2 ⟨a2,c2,rfl,hb,hp,hk⟩
  have p3:=abr.trans hf1 ha1 hp
  have hsz:=hf1.size
  clear hp hf1 ha1 h1
  have HK:=Lib.hid hk
  clear hk
  go_wp2
  go_ret
  exact⟨a2,c2,rfl,hb,p3,λk e=>Nat.le_trans hsz (HK.out k e)⟩
end Go.Proofs.YtjlelckefiannaaGreatDoor
namespace Go.Proofs.YtjlelckefiannaaGreatDoor
set_option linter.unusedVariables false
set_option linter.unusedSimpArgs false
open Go.RowKit
def RdI(B b:Nat)(st:Option (List UInt8))(w:World):Prop:=∃a,IsR w b a st∧b<B∧∀k,ql a=some k→k<B
theorem RdI.of{bs:List UInt8}{w:World}{e:Ending}{w':World}(h:aqf bs w e w'):∃b,e = .returned (.pointer (some ⟨b,0,none⟩))∧RdI w'.heap.size b (some bs) w'∧Fr F0 w w'∧w.heap.size≤b:=by
 obtain⟨b,a,rfl,hr,f,h1,h2,h3⟩:=h
 exact⟨b,rfl,⟨a,hr,h2,λk hk=>(h3 k hk).2⟩,f,h1⟩
theorem RdI.fr{B b:Nat}{st:Option (List UInt8)}{S:Nat→Prop}{w w':World}(h:RdI B b st w)(f:Fr S w w')(hs:∀k,S k→B≤k):RdI B b st w':=by
 obtain⟨a,hr,hb,ha⟩:=h
 exact⟨a,hr.fr f (λe=>by have:=hs b e;omega) λk hk e=>by have h1:=ha k hk;have h2:=hs k e;omega,hb,ha⟩
theorem RdI.fr0{B b:Nat}{st:Option (List UInt8)}{w w':World}(h:RdI B b st w)(f:Fr F0 w w'):RdI B b st w':=h.fr f λ_ e=>e.elim
theorem RdI.step{B b:Nat}{a:Option Addr}{st:Option (List UInt8)}{w w':World}(hb:b<B)(ha:∀k,ql a=some k→k<B)(p:abr w b a st w'):RdI B b st w'∧Fr (λk=>k=b) w w':=by
 obtain⟨a',hr,f,h⟩:=p
 exact⟨⟨a',hr,hb,λk hk=>ha k (h k hk)⟩,f⟩
theorem RdI.get{B b:Nat}{st:Option (List UInt8)}{w:World}(h:RdI B b st w)(n:Int)(hn:szB n=true)(hl:lft st≤1000000):
  Calls Tryz.prog 136 #[.pointer (some ⟨b,0,none⟩),.int .i64 n] w λe w'=>e = .returned (.int .u64 (ofLE (tk n st).1))∧RdI B b (tk n st).2 w'∧Fr (λk=>k=b) w w':=by
 obtain⟨a,hr,hb,ha⟩:=h
 exact(aKd b a st n w hr aPl hn).mono λe w' ⟨he,p⟩=>⟨he,RdI.step hb ha p⟩
theorem RdI.raw{B b:Nat}{st:Option (List UInt8)}{w:World}(h:RdI B b st w)(n:Int)(hl:lft st≤1000000):
  Calls Tryz.prog 135 #[.pointer (some ⟨b,0,none⟩),.int .i64 n] w λe w'=>∃a2 c2,e = .returned (.slice a2 (tk n st).1.length c2)∧Bs w' a2 c2 (tk n st).1∧RdI B b (tk n st).2 w'∧Fr (λk=>k=b) w w'∧∀k,ql a2=some k→w.heap.size≤k:=by
 obtain⟨a,hr,hb,ha⟩:=h
 exact(awg b a st n w hr aPl).mono λe w' ⟨a2,c2,he,hb2,p,hk⟩=>⟨a2,c2,he,hb2,(RdI.step hb ha p).1,(RdI.step hb ha p).2,hk⟩
theorem RdI.count{B b:Nat}{st:Option (List UInt8)}{w:World}(h:RdI B b st w)(most:Nat)(hm:most<18446744073709551616)(hl:lft st≤1000000):
  Calls Tryz.prog 83 #[.pointer (some ⟨b,0,none⟩),.int .u64 (most:Int)] w λe w'=>e = .returned (.int .u64 (rc most st).1)∧RdI B b (rc most st).2 w'∧Fr (λk=>k=b) w w':=by
 obtain⟨a,hr,hb,ha⟩:=h
 exact(amz b a st most w hr aPl hm).mono λe w' ⟨he,p⟩=>⟨he,RdI.step hb ha p⟩
theorem RdI.counted{B b:Nat}{st:Option (List UInt8)}{w:World}(h:RdI B b st w)(most:Int)(hm:most<9223372036854775808)(hl:lft st≤1000000):
  Calls Tryz.prog 80 #[.pointer (some ⟨b,0,none⟩),.int .i64 most] w λe w'=>∃a2 c2,e = .returned (.slice a2 (aa7 most st).1.length c2)∧Bs w' a2 c2 (aa7 most st).1∧RdI B b (aa7 most st).2 w'∧Fr (λk=>k=b) w w'∧∀k,ql a2=some k→w.heap.size≤k:=by
 obtain⟨a,hr,hb,ha⟩:=h
 exact(arh b a st most w hr aPl hm).mono λe w' ⟨a2,c2,he,hb2,p,hk⟩=>⟨a2,c2,he,hb2,(RdI.step hb ha p).1,(RdI.step hb ha p).2,hk⟩
theorem RdI.ended{B b:Nat}{st:Option (List UInt8)}{w:World}(h:RdI B b st w)(hl:lft st≤1000000):
  Calls Tryz.prog 45 #[.pointer (some ⟨b,0,none⟩)] w λe w'=>e = .returned (.bool (decide (st=some [])))∧w=w':=by
 obtain⟨a,hr,hb,ha⟩:=h
 refine(aIc b a st w hr aPl).mono λe w' ⟨he,hw⟩=>⟨?_,hw⟩
 rw[he]
 cases st with
 |none=>rfl
 |some l=>cases l<;>simp[endB]
theorem aP6{n:Nat}{bs:List UInt8}(h:n≤bs.length):tk (n:Int) (some bs)=(bs.take n,some (bs.drop n)):=by
 unfold tk
 dsimp only
 rw[if_pos aPl]
 simp
theorem an7(w:World)(cur:Array Value)(bs:List UInt8)(h:cur.toList=bs.map B8)(hl:bs.length≤maxLen):
  OwnB (w.alloc (.cells cur 5)) (.slice (some ⟨w.heap.size,0,none⟩) bs.length bs.length) bs:=by
 have hc:cur.size=bs.length:=by
  have:=congrArg List.length h
  simpa using this
 refine⟨by simp,.inr ⟨w.heap.size,bs.length,cur,rfl,Nat.zero_le _,heap_alloc_new w _,Nat.le_refl _,hl,by omega,?_⟩⟩
 rw[h]
 exact List.take_of_length_le (by simp)
theorem ou.mk'{w w':World}{a:Option Addr}{n c:Nat}{bs:List UInt8}(h:OwnB w' (.slice a n c) bs)(hf:Fr F0 w w')(hb:∀k,ql a=some k→w.heap.size≤k):ou bs w (.returned (.slice a n c)) w':=by
 obtain⟨rfl,hs⟩:=h.bs
 exact⟨a,c,rfl,hs,hf,λk hk=>⟨hb k hk,h.lt k ak9⟩⟩
def ach(bs:List UInt8)(w:World)(e:Ending)(w':World):Prop :=
 ∃a c,e = .returned (.slice a bs.length c)∧OwnB w' (.slice a bs.length c) bs∧Fr F0 w w'∧∀k,ql a=some k→w.heap.size≤k
theorem ach.mk'{w w':World}{a:Option Addr}{n c:Nat}{bs:List UInt8}(h:OwnB w' (.slice a n c) bs)(hf:Fr F0 w w')(hb:∀k,ql a=some k→w.heap.size≤k):ach bs w (.returned (.slice a n c)) w':=by
 obtain⟨rfl,hs⟩:=h.bs
 exact⟨a,c,rfl,h,hf,hb⟩
theorem ach.new{bs:List UInt8}{w:World}{e:Ending}{w':World}(h:ach bs w e w'):ou bs w e w':=by
 obtain⟨a,c,rfl,ho,hf,hb⟩:=h
 exact ou.mk' ho hf hb
theorem amd(x n:Nat)(w:World)(hx:x<18446744073709551616)(hn:n≤8):
  Calls Tryz.prog 42 #[.int .u64 x,.int .i64 n] w (ach (le n x) w):=by
 go_enter Tryz.func42,Tryz.ntmps42
 go_wp2
 go_loopw [0,5,6] (λxv ov iv wr=>∃(k X:Nat) (a:Option Addr) (m c:Nat),k≤n∧iv = .int .i64 k∧xv = .int .u64 X∧X<2 ^ 64∧Hid (X=x/256 ^ k)∧ov = .slice a m c∧OwnB wr (.slice a m c) (le k x)∧Fr F0 w wr∧Hid (∀i,ql a=some i→w.heap.size≤i)) (λ_ _ iv _=>n-(intOf iv).toNat)
 case atStart=>exact⟨0,x,_,0,0,Nat.zero_le _,rfl,rfl,hx,by simp[Hid],rfl,an7 w #[] [] rfl (by simp),(Fr.refl _ _).alloc _,λi e=>by cases e;exact Nat.le_refl _⟩
 case round =>
  obtain⟨k,X,a,m,c,hk,rfl,rfl,hX,HX,rfl,ho,hf,HA⟩:=hrel
  by_cases hkn:k<n
  ·have A1:Fr F0 wr (wr.alloc (.cells #[.int .u8 ((X:Int) % 256)] 5)):=(Fr.refl _ _).alloc _
   have O1:=ho.fr A1 λ_ _=>id
   have hll:=jy k x
   have E1:=Lib.hid hll
   clear hll
   go_wp2_with (at_builtin;refine xk rfl _ _ rfl (.slice a m c) _ rfl O1 _ _ _ _ rfl (one_byte wr X) rfl (by have:=E1.out;simp;omega) ?_;intro a' c' w1 ho1 hg hb;have HB:=Lib.hid hb;clear hb)
   have hf1:Fr F0 w w1:=by
    refine(hf.trans' A1).grown hg λi hi hl=>?_
    rw[qm]at hi
    have:=HA.out i hi
    omega
   have hs1:=hf.size
   simp only[List.length_append,List.length_cons,List.length_nil,Nat.zero_add]at ho1
   go_roundw
   case rel =>
    refine⟨k+1,X/256,a',(le k x).length+1,c',by omega,by go_num,by go_num,by omega,?_,rfl,?_,hf1,λi hi=>?_⟩
    ·rw[HX.out];simp[Hid,Nat.div_div_eq_div_mul,Nat.pow_succ]
    ·rw[aAw,←HX.out]
     exact ho1
    ·rcases HB.out i hi with h|h
     ·rw[qm]at h
      exact HA.out i h
     ·simp at h
      omega
   case measure=>simp[intOf];omega
  ·go_wp2
   go_ret
   have:k=n:=by omega
   subst this
   exact ach.mk' ho hf HA.out
theorem ame(x n:Nat)(w:World)(hx:x<18446744073709551616)(hn:n≤8):
  Calls Tryz.prog 42 #[.int .u64 x,.int .i64 n] w (ou (le n x) w):=(amd x n w hx hn).mono λ_ _ h=>h.new
theorem aCg(bs:List UInt8)(k:Nat)(hk:k<bs.length):ofLE (bs.drop k)=ofLE (bs.drop (k+1))*256+bs[k].toNat:=by
 rw[List.drop_eq_getElem_cons hk,ofLE]
 omega
theorem ah1(a:Option Addr)(n c:Nat)(bs:List UInt8)(w:World)(h:Bs w a c bs)(hn:n=bs.length)(hl:bs.length≤8):
  Calls Tryz.prog 48 #[.slice a n c] w λe w'=>e = .returned (.int .u64 (ofLE bs))∧w=w':=by
 subst hn
 go_enter Tryz.func48,Tryz.ntmps48
 go_wp2
 go_loop [3,4] (λxv iv=>∃(k X:Nat),k≤bs.length∧iv = .int .i64 ((k:Int)-1)∧xv = .int .u64 X∧X<256 ^ (bs.length-k)∧Hid (X=ofLE (bs.drop k))) (λ_ iv=>(intOf iv+1).toNat)
 case atStart=>exact⟨bs.length,0,Nat.le_refl _,rfl,rfl,by simp,by simp[Hid,ofLE]⟩
 case round =>
  obtain⟨k,X,hk,rfl,rfl,hX,HX⟩:=hrel
  by_cases hk0:0<k
  ·obtain⟨b,off,rfl,hc⟩:=h.at (k-1) aPl
   have hlt:X<72057594037927936:=by
    have:256 ^ (bs.length-k)≤256 ^ 7:=Nat.pow_le_pow_right aPl aPl
    omega
   have hx8:=(bs[k-1]'aPl).toNat_lt
   have HS:=Lib.hid (aCg bs (k-1) aPl)
   have HP:Hid (256 ^ (bs.length-(k-1))=256 ^ (bs.length-k)*256):=by
    rw[show bs.length-(k-1)=(bs.length-k)+1 from by omega,Nat.pow_succ]
    rfl
   have HX':=Lib.hid hX
   generalize hbv:(bs[k-1]'aPl).toNat=v at *
   clear hX
   have hv:((k:Int)-1).toNat=k-1:=by omega
   go_wp2
   have hX:=HX'.out
   have hp:=HP.out
   go_round
   case rel =>
    refine⟨k-1,X*256+v,by omega,by go_num,by go_num,by rw[hp];omega,?_⟩
    rw[Hid,HS.out,show k-1+1=k from by omega,HX.out]
   case measure=>simp[intOf];omega
  ·go_wp2
   go_ret
   obtain rfl:k=0:=by omega
   refine⟨?_,rfl⟩
   rw[HX.out]
   rfl
theorem am9(w:World)(v:Int)(b:UInt8)(h:B8 b = .int .u8 v):OwnB (w.alloc (.cells #[.int .u8 v] 5)) (.slice (some ⟨w.heap.size,0,none⟩) 1 1) [b] :=
 an7 w #[.int .u8 v] [b] (by simp[h]) (by simp[maxLen])
theorem ae6(x:Nat)(w:World)(hx:x<18446744073709551616):
  Calls Tryz.prog 40 #[.int .u64 x] w (ou (cnt x) w):=by
 by_cases c1:x<253
 ·have e:cnt x = [UInt8.ofNat (x % 256)]:=by simp[cnt,c1,le]
  rw[e]
  have O:=am9 w ((x:Int) % 256) (UInt8.ofNat (x % 256)) (aoc x)
  have h1:(x:Int) % 256=x:=by omega
  rw[h1]at O
  clear e h1
  go_enter Tryz.func40,Tryz.ntmps40
  go_wp2
  go_ret
  exact ou.mk' (bs := [UInt8.ofNat (x % 256)]) O ((Fr.refl _ _).alloc _) λi e=>by cases e;exact Nat.le_refl _
 -- a first byte,and a number behind it
 have big:∀(f:Int) (b:UInt8) (k:Nat),B8 b = .int .u8 f→k≤8→cnt x=b::le k x→Calls Tryz.prog 42 #[.int .u64 x,.int .i64 k] (w.alloc (.cells #[.int .u8 f] 5))
   (λe w1=>∃a c,e = .returned (.slice a (le k x).length c)∧Bs w1 a c (le k x)∧Fr F0 w w1∧OwnB w1 (.slice (some ⟨w.heap.size,0,none⟩) 1 1) [b]∧w.heap.size<w1.heap.size):=by
  intro f b k hb hk _
  refine(ame x k _ hx hk).mono ?_
  rintro e w1 ⟨a,c,rfl,h1,hf,_⟩
  exact⟨a,c,rfl,h1,((Fr.refl F0 w).alloc _).trans' hf,(am9 w f b hb).fr hf λ_ _ f=>f,hf.lt (by simp)⟩
 have fin:∀(w1 w2:World) (b:UInt8) (k:Nat) (a':Option Addr) (n c':Nat),cnt x=b::le k x→Fr F0 w w1→w.heap.size<w1.heap.size→OwnB w2 (.slice a' n c') ([b]++le k x)→w1.grownBy w2 (some w.heap.size) →
   (∀i,ql a'=some i→some w.heap.size=some i∨w1.heap.size≤i)→ou (cnt x) w (.returned (.slice a' n c')) w2:=by
  intro w1 w2 b k a' n c' e hf hs ho hg hb
  rw[e]
  refine ou.mk' ho (hf.grown hg λi hi hl=>?_) λi hi=>?_
  ·cases hi;omega
  ·rcases hb i hi with h|h
   ·cases h;exact Nat.le_refl _
   ·omega
 by_cases c2:x<65536
 ·have e:cnt x=253::le 2 x:=by simp[cnt,c1,c2,le]
  have B:=Lib.hid (big 253 253 2 rfl aPl e)
  have FI:=Lib.hid (λw1 w2=>fin w1 w2 253 2)
  have E:=Lib.hid e
  have d1:¬(x:Int)<253:=by omega
  have d2:(x:Int)<65536:=by omega
  clear c1 c2
  clear big fin e
  go_enter Tryz.func40,Tryz.ntmps40
  go_wp2_with (first|(go_at_call 42;refine B.out.mono ?_;rintro e w1 ⟨a,c,rfl,h1,hf,ho,hs⟩)|(at_builtin;refine xk rfl _ _ rfl (.slice (some ⟨w.heap.size,0,none⟩) 1 1) _ rfl ho _ _ _ _ rfl h1 rfl zz83 ?_;intro a' c' w2 ho2 hg hb;have HF:=Lib.hid (FI.out w1 w2 _ _ c' E.out hf hs ho2 hg hb);clear hb hg ho2))
  go_ret
  exact HF.out
 by_cases c3:x<4294967296
 ·have e:cnt x=254::le 4 x:=by simp[cnt,c1,c2,c3,le]
  have B:=Lib.hid (big 254 254 4 rfl aPl e)
  have FI:=Lib.hid (λw1 w2=>fin w1 w2 254 4)
  have E:=Lib.hid e
  have d1:¬(x:Int)<253:=by omega
  have d2:¬(x:Int)<65536:=by omega
  have d3:(x:Int)<4294967296:=by omega
  clear c1 c2 c3
  clear big fin e
  go_enter Tryz.func40,Tryz.ntmps40
  go_wp2_with (first|(go_at_call 42;refine B.out.mono ?_;rintro e w1 ⟨a,c,rfl,h1,hf,ho,hs⟩)|(at_builtin;refine xk rfl _ _ rfl (.slice (some ⟨w.heap.size,0,none⟩) 1 1) _ rfl ho _ _ _ _ rfl h1 rfl zz83 ?_;intro a' c' w2 ho2 hg hb;have HF:=Lib.hid (FI.out w1 w2 _ _ c' E.out hf hs ho2 hg hb);clear hb hg ho2))
  go_ret
  exact HF.out
 ·have e:cnt x=255::le 8 x:=by simp[cnt,c1,c2,c3,le]
  have B:=Lib.hid (big 255 255 8 rfl aPl e)
  have FI:=Lib.hid (λw1 w2=>fin w1 w2 255 8)
  have E:=Lib.hid e
  have d1:¬(x:Int)<253:=by omega
  have d2:¬(x:Int)<65536:=by omega
  have d3:¬(x:Int)<4294967296:=by omega
  clear c1 c2 c3
  clear big fin e
  go_enter Tryz.func40,Tryz.ntmps40
  go_wp2_with (first|(go_at_call 42;refine B.out.mono ?_;rintro e w1 ⟨a,c,rfl,h1,hf,ho,hs⟩)|(at_builtin;refine xk rfl _ _ rfl (.slice (some ⟨w.heap.size,0,none⟩) 1 1) _ rfl ho _ _ _ _ rfl h1 rfl zz83 ?_;intro a' c' w2 ho2 hg hb;have HF:=Lib.hid (FI.out w1 w2 _ _ c' E.out hf hs ho2 hg hb);clear hb hg ho2))
  go_ret
  exact HF.out
def rrc(bs:List UInt8):Nat×Nat×Bool :=
 match bs with
 |[]=>(0,0,false)
 |c::r =>
  if c.toNat<253 then(c.toNat,1,csz c.toNat==1)
  else
   let size:=1+2*2 ^ (c.toNat-253)
   if bs.length<size then(0,0,false)
   else(ofLE (r.take (size-1)),size,csz (ofLE (r.take (size-1)))==size)
theorem aee(a:Option Addr)(n c:Nat)(bs:List UInt8)(w:World)(h:Bs w a c bs)(hn:n=bs.length):
  Calls Tryz.prog 46 #[.slice a n c] w λe w'=>e = .returned (.tuple #[.int .u64 (rrc bs).1,.int .i64 (rrc bs).2.1,.bool (rrc bs).2.2])∧Fr F0 w w':=by
 subst hn
 cases bs with
 |nil =>
  go_enter Tryz.func46,Tryz.ntmps46
  go_wp2
  go_ret3
  exact⟨rfl,Fr.refl _ _⟩
 |cons x r =>
  obtain⟨b,off,rfl,hc⟩:=h.at 0 (by simp)
  simp only[List.getElem_cons_zero,Nat.add_zero]at hc
  have hx8:=x.toNat_lt
  have hb1:((r.length:Int)+1==0)=false:=by simp;omega
  have hmx:=h.most
  have hrm:=h.room
  unfold maxLen at hmx
  simp only[List.length_cons]at hrm
  by_cases h1:x.toNat<253
  ·have e:rrc (x::r)=(x.toNat,1,csz x.toNat==1):=by simp[rrc,h1]
   rw[e]
   dsimp only
   have C:=Lib.hid (ae6 x.toNat w aPl)
   have L:=Lib.hid (qh x.toNat)
   generalize x.toNat=X at *
   clear e h
   go_enter Tryz.func46,Tryz.ntmps46
   go_wp2_with (go_at_call 40;refine C.out.mono ?_;rintro e w1 ⟨a',c',rfl,_,hf,_⟩)
   go_ret3
   refine⟨?_,hf⟩
   rw[L.out]
   have:((csz X:Int)==1)=(csz X==1):=by
    rw[Bool.eq_iff_iff]
    simp
    omega
   rw[this]
   rfl
  ·have hlenr:(x::r).length=r.length+1:=rfl
   obtain⟨s,m,hs⟩:∃s m:Nat,(x.toNat=253∧s=3∧m=2)∨(x.toNat=254∧s=5∧m=4)∨(x.toNat=255∧s=9∧m=8):=by
    rcases(show x.toNat=253∨x.toNat=254∨x.toNat=255 from by omega)with h|h|h
    ·exact⟨3,2,.inl ⟨h,rfl,rfl⟩⟩
    ·exact⟨5,4,.inr (.inl ⟨h,rfl,rfl⟩)⟩
    ·exact⟨9,8,.inr (.inr ⟨h,rfl,rfl⟩)⟩
   have hm:s-1=m:=by omega
   have e:rrc (x::r)=if r.length+1<s then(0,0,false)else(ofLE (r.take (s-1)),s,csz (ofLE (r.take (s-1)))==s):=by
    rcases hs with⟨h,rfl,_⟩|⟨h,rfl,_⟩|⟨h,rfl,_⟩<;>simp[rrc,h]
   have hB:Bs w (agv (some ⟨b,off,none⟩) c 1 1) (c-1) (r.take (s-1)):=(h.drop 1 (by simp)).take (s-1)
   rw[hm]at e hB
   have hb2:((r.length:Int)+1==0)=false:=by simp;omega
   generalize x.toNat=X at *
   clear h h1 hlenr hm
   by_cases hlt:r.length+1<s
   ·rw[e,if_pos hlt]
    clear e hB
    rcases hs with⟨rfl,rfl,rfl⟩|⟨rfl,rfl,rfl⟩|⟨rfl,rfl,rfl⟩
    all_goals
     go_enter Tryz.func46,Tryz.ntmps46
     go_wp2
     go_ret3
     exact⟨rfl,Fr.refl _ _⟩
   ·rw[e,if_neg hlt]
    dsimp only
    have hcut:agv (some ⟨b,off,none⟩) c 1 1=some ⟨b,off+1,none⟩:=by
     unfold agv
     rw[if_neg aPl]
     simp[Addr.add_lit]
    rw[hcut]at hB
    clear hcut
    have hl1:(r.take m).length=m:=by simp;omega
    have G:=Lib.hid (ah1 _ m _ _ w hB hl1.symm aPl)
    have hY:ofLE (r.take m)<18446744073709551616:=by
     have h2:=adv (r.take m)
     have h3:256 ^ (r.take m).length≤256 ^ 8:=Nat.pow_le_pow_right aPl aPl
     omega
    clear hB hl1 e
    generalize ofLE (r.take m)=Y at *
    have C:=Lib.hid (ae6 Y w hY)
    have L:=Lib.hid (qh Y)
    have D:∀s:Nat,((csz Y:Int)==(s:Int))=(csz Y==s):=by
     intro s
     rw[Bool.eq_iff_iff]
     simp
     exact Int.natCast_inj
    have HD:=Lib.hid D
    clear D
    rcases hs with⟨rfl,rfl,rfl⟩|⟨rfl,rfl,rfl⟩|⟨rfl,rfl,rfl⟩
    all_goals
     go_enter Tryz.func46,Tryz.ntmps46
     go_wp2_with (first|(go_at_call 48;refine G.out.mono ?_;rintro e w' ⟨rfl,rfl⟩)|(go_at_call 40;refine C.out.mono ?_;rintro e w1 ⟨a',c',rfl,_,hf,_⟩))
     go_ret3
     refine⟨?_,hf⟩
     rw[L.out,←HD.out]
     rfl
def aJb(most:Nat)(st:Option (List UInt8)):Nat×Option (List UInt8) :=
 match st with
 |none=>(0,none)
 |some bs=>if(rrc bs).2.2=true∧(rrc bs).1≤most then((rrc bs).1,some (bs.drop (rrc bs).2.1))else(0,none)
theorem az9(k:Nat)(bs:List UInt8)(h:k≤bs.length):tk k (some bs)=(bs.take k,some (bs.drop k)):=by
 simp[tk,h]
theorem auy(k:Nat)(bs:List UInt8)(h:bs.length<k):tk k (some bs)=([],none):=by
 simp only[tk]
 rw[if_neg aPl]
theorem anb(k:Nat)(bs:List UInt8)(hk:szB k=true):gt k (some bs)=if k≤bs.length then(ofLE (bs.take k),some (bs.drop k))else(0,none):=by
 split
 ·rename_i h;simp[gt,hk,az9 k bs h]
 ·rename_i h;simp[gt,hk,auy k bs aPl,ofLE]
theorem csz_0:csz 0=1:=rfl
theorem asb(most:Nat)(st:Option (List UInt8)):rc most st=aJb most st:=by
 cases st with
 |none=>simp[rc,rcp,gt,tk,aJb,szB,ofLE,csz]
 |some bs =>
  cases bs with
  |nil=>simp[rc,rcp,gt,tk,aJb,szB,ofLE,csz,rrc]
  |cons x r =>
   have hx8:=x.toNat_lt
   have g1:gt 1 (some (x::r))=(x.toNat,some r):=by
    have:=anb 1 (x::r) rfl
    rw[if_pos (by simp)]at this
    simpa [ofLE]using this
   have g2:=anb 2 r rfl
   have g4:=anb 4 r rfl
   have g8:=anb 8 r rfl
   by_cases h1:x.toNat<253
   ·have e1:rcp (some (x::r))=(1,x.toNat,some r):=by
     unfold rcp
     rw[g1]
     dsimp only
     rw[if_neg aPl,if_neg aPl,if_neg aPl]
    have e2:rrc (x::r)=(x.toNat,1,csz x.toNat==1):=by simp[rrc,h1]
    simp only[rc,e1,aJb,e2,beq_iff_eq,List.drop_succ_cons,List.drop_zero]
   ·obtain⟨s,m,hm,hs⟩:∃s m:Nat,s=m+1∧((x.toNat=253∧s=3∧m=2)∨(x.toNat=254∧s=5∧m=4)∨(x.toNat=255∧s=9∧m=8)):=by
     rcases(show x.toNat=253∨x.toNat=254∨x.toNat=255 from by omega)with h|h|h
     ·exact⟨3,2,rfl,.inl ⟨h,rfl,rfl⟩⟩
     ·exact⟨5,4,rfl,.inr (.inl ⟨h,rfl,rfl⟩)⟩
     ·exact⟨9,8,rfl,.inr (.inr ⟨h,rfl,rfl⟩)⟩
    have e1:rcp (some (x::r))=(s,if m≤r.length then(ofLE (r.take m),some (r.drop m))else(0,none)):=by
     unfold rcp
     rw[g1]
     dsimp only
     rcases hs with⟨h,rfl,rfl⟩|⟨h,rfl,rfl⟩|⟨h,rfl,rfl⟩
     ·rw[if_pos h,←g2];rfl
     ·rw[if_neg aPl,if_pos h,←g4];rfl
     ·rw[if_neg aPl,if_neg aPl,if_pos h,←g8];rfl
    have e2:rrc (x::r)=if r.length+1<s then(0,0,false)else(ofLE (r.take m),s,csz (ofLE (r.take m))==s):=by
     rcases hs with⟨h,rfl,rfl⟩|⟨h,rfl,rfl⟩|⟨h,rfl,rfl⟩<;>simp[rrc,h]
    subst hm
    by_cases hl:m≤r.length
    ·rw[if_pos hl]at e1
     rw[if_neg aPl]at e2
     simp only[rc,e1,aJb,e2,beq_iff_eq,List.drop_succ_cons]
    ·rw[if_neg hl]at e1
     rw[if_pos aPl]at e2
     simp only[rc,e1,aJb,e2,csz_0]
     rw[if_neg aPl]
     simp
theorem ase(n x:Nat):ofLE (le n x)=x % 256 ^ n:=by
 induction n generalizing x with
 |zero=>simp[le,ofLE,Nat.mod_one]
 |succ n ih =>
  simp only[le,ofLE,ih,Nat.pow_succ,UInt8.toNat_ofNat',Nat.mod_mod]
  rw[Nat.mul_comm (256 ^ n) 256,Nat.mod_mul]
theorem aly(xs r:List UInt8):tk (xs.length:Int) (some (xs++r))=(xs,some r):=by
 rw[az9 _ _ (by simp)]
 simp
theorem ajp(x:Nat)(r:List UInt8)(hx:x<18446744073709551616):rrc (cnt x++r)=(x,csz x,true):=by
 by_cases c1:x<253
 ·have e:cnt x = [UInt8.ofNat x]:=by simp[cnt,c1,le,Nat.mod_eq_of_lt (show x<256 by omega)]
  have e2:csz x=1:=by simp[csz,c1]
  rw[e,e2]
  simp[rrc,Nat.mod_eq_of_lt (show x<256 by omega),c1,e2]
 ·have key:∀(f:UInt8) (k s:Nat),cnt x=f::le k x→csz x=s→(f.toNat=253∧s=3∧k=2∨f.toNat=254∧s=5∧k=4∨f.toNat=255∧s=9∧k=8)→x<256 ^ k→rrc (cnt x++r)=(x,csz x,true):=by
   intro f k s e es hs hxk
   have e1:rrc (f::(le k x++r))=if(le k x++r).length+1<s then(0,0,false)else(ofLE ((le k x++r).take k),s,csz (ofLE ((le k x++r).take k))==s):=by
    rcases hs with⟨h,rfl,rfl⟩|⟨h,rfl,rfl⟩|⟨h,rfl,rfl⟩<;>simp[rrc,h]
   have hl:=jy k x
   have ht:(le k x++r).take k=le k x:=List.take_left' hl
   rw[e,List.cons_append,e1,if_neg (by simp[hl];omega),ht,ase,Nat.mod_eq_of_lt hxk,es]
   simp
  by_cases c2:x<65536
  ·exact key 253 2 3 (by simp[cnt,c1,c2,le]) (by simp[csz,c1,c2]) (.inl ⟨rfl,rfl,rfl⟩) aPl
  by_cases c3:x<4294967296
  ·exact key 254 4 5 (by simp[cnt,c1,c2,c3,le]) (by simp[csz,c1,c2,c3]) (.inr (.inl ⟨rfl,rfl,rfl⟩)) aPl
  ·exact key 255 8 9 (by simp[cnt,c1,c2,c3,le]) (by simp[csz,c1,c2,c3]) (.inr (.inr ⟨rfl,rfl,rfl⟩)) aPl
theorem ao1(x most:Nat)(r:List UInt8)(hx:x<18446744073709551616)(hm:x≤most):rc most (some (cnt x++r))=(x,some r):=by
 rw[asb]
 simp only[aJb,ajp x r hx]
 rw[if_pos ⟨trivial,hm⟩,←qh x,List.drop_left]
def Hd.bytes(h:Hd):List UInt8:=le 4 h.ver++(h.ahead++(h.root++(le 4 h.time++(le 4 h.bits++le 4 h.zq))))
theorem Hd.aa6{h:Hd}(o:h.Ok):h.bytes.length=80:=by simp[Hd.bytes,o.ahead,o.root,jy]
end Go.Proofs.YtjlelckefiannaaGreatDoor
