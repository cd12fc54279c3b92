import Derived.Test.YtjlelckefiannaaGreatDoorZ2
import Derived.Deep.RegionHeld3
import Derived.OrdersHeld
import Derived.Laws.Rows
import Derived.Below
import Derived.Laws.Tables
import Derived.Laws.BitsAllLaws
import Derived.OwnWalk
import Derived.Test.YtjlelckefiannaaGreatDoorZ1
import Derived.Deep.CutBlock
import Derived.Deep.DeepCutAuto
import Derived.Laws.CopyOwn
set_option maxRecDepth 100000
set_option maxHeartbeats 64000000
namespace Go.Proofs.YtjlelckefiannaaGreatDoor
set_option linter.unusedVariables false
set_option linter.unusedSimpArgs false
open Go.RowKit
abbrev Wd:=BitVec 32
def wi(x:Wd):Int:=(x.toNat:Int)
def w8(b:UInt8):Wd:=b.toBitVec.setWidth 32
def lo8(x:Wd):UInt8:=UInt8.ofBitVec (x.setWidth 8)
@[reducible] def W32 (x:Wd):Value := .int .u32 (wi x)
theorem ajk(n:Nat)(h:n<4294967296):IntKind.u32.wrap (n:Int)=(n:Int):=IntWalk.u32_in _ aPl
theorem ady(x:Wd):BitVec.ofInt 32 (wi x)=x:=by
 unfold wi
 apply BitVec.eq_of_toNat_eq
 have:=x.isLt
 simp
section
variable (t:TypeId) (x y:Wd)
theorem aQx:bits .and .u32 (wi x) (wi y)=wi (x &&& y):=by
 show IntKind.u32.wrap (BitVec.toNat (BitVec.ofInt 32 _ &&& BitVec.ofInt 32 _):Int)=_
 rw[ady,ady];exact ajk _ (BitVec.isLt _)
theorem wd_or:bits .or .u32 (wi x) (wi y)=wi (x ||| y):=by
 show IntKind.u32.wrap (BitVec.toNat (BitVec.ofInt 32 _ ||| BitVec.ofInt 32 _):Int)=_
 rw[ady,ady];exact ajk _ (BitVec.isLt _)
theorem aQv:bits .xor .u32 (wi x) (wi y)=wi (x ^^^ y):=by
 show IntKind.u32.wrap (BitVec.toNat (BitVec.ofInt 32 _ ^^^ BitVec.ofInt 32 _):Int)=_
 rw[ady,ady];exact ajk _ (BitVec.isLt _)
theorem aQw:bits .xor .u32 4294967295 (wi x)=wi (~~~ x):=by
 show IntKind.u32.wrap (BitVec.toNat (BitVec.ofInt 32 _ ^^^ BitVec.ofInt 32 _):Int)=_
 rw[ady,show BitVec.ofInt 32 4294967295=BitVec.allOnes 32 from by decide,BitVec.allOnes_xor];exact ajk _ (BitVec.isLt _)
theorem ac4:binOp .and t (.int .u32 (wi x)) (.int .u32 (wi y))=pure (.int .u32 (wi (x &&& y))):=by
 rw[binOp_and,intBits_and,aQx]
theorem afy:binOp .or t (.int .u32 (wi x)) (.int .u32 (wi y))=pure (.int .u32 (wi (x ||| y))):=by
 rw[binOp_or,intBits_or,wd_or]
theorem ac0:binOp .xor t (.int .u32 (wi x)) (.int .u32 (wi y))=pure (.int .u32 (wi (x ^^^ y))):=by
 rw[binOp_xor,intBits_xor,aQv]
theorem ac3:Op.unary .xor (.int .u32 (wi x))=pure (.int .u32 (wi (~~~ x))):=by
 rw[unary_xor,intBits_xor,←aQw];rfl
theorem ac5:binOp .add t (.int .u32 (wi x)) (.int .u32 (wi y))=pure (.int .u32 (wi (x+y))):=by
 rw[binOp_add]
 simp only[Op.intArith]
 unfold wi
 rw[IntKind.wrap_u32,BitVec.toNat_add]
 rw[Int.natCast_emod,Int.natCast_add]
 rfl
theorem ac2(yk:IntKind)(n:Int)(h0:0≤n)(h1:n<32):binOp .shl t (.int .u32 (wi x)) (.int yk n)=pure (.int .u32 (wi (x <<< n.toNat))):=by
 rw[binOp_shl]
 have h2:¬n<0:=by omega
 have h3:min n.toNat 32=n.toNat:=by omega
 simp only[Op.shift,h2,if_false,IntKind.bits,h3]
 unfold wi
 rw[IntKind.wrap_u32,BitVec.toNat_shiftLeft,Nat.shiftLeft_eq,Int.natCast_emod,Int.natCast_mul,Int.natCast_pow]
 rfl
theorem ac1(yk:IntKind)(n:Int)(h0:0≤n)(h1:n<32):binOp .shr t (.int .u32 (wi x)) (.int yk n)=pure (.int .u32 (wi (x >>> n.toNat))):=by
 rw[binOp_shr]
 have h2:¬n<0:=by omega
 have h3:min n.toNat 32=n.toNat:=by omega
 simp only[Op.shift,h2,if_false,IntKind.bits,h3]
 unfold wi
 rw[BitVec.toNat_ushiftRight,Nat.shiftRight_eq_div_pow,Int.fdiv_eq_ediv_of_nonneg _ (by exact Int.le_of_lt (Int.pow_pos aPl))]
 norm_cast
end
section
variable {P:Program} (w:World)
theorem ads(src dst:TypeId)(b:UInt8)(hs:(P.underlying src).isSome=true)(hd:P.underlying dst=some (.int .u32)):
  (convert src dst (.int .u8 (b.toNat:Int))).run P w = .ok (.int .u32 (wi (w8 b))) w:=by
 obtain⟨d,hd'⟩:=Option.isSome_iff_exists.mp hs
 have h:=b.toNat_lt
 have e:wi (w8 b)=(b.toNat:Int):=by
  show(((b.toBitVec.setWidth 32:Wd)).toNat:Int)=_
  rw[BitVec.toNat_setWidth]
  congr 1
  exact Nat.mod_eq_of_lt (by show b.toNat<4294967296;omega)
 simp only[convert,Sem.run_bind,run_underlying hd',run_underlying hd,Result.andThen_ok,Conv.intToInt,Sem.run_pure,e]
 rw[ajk _ aPl]
theorem adr(src dst:TypeId)(x:Wd)(hs:(P.underlying src).isSome=true)(hd:P.underlying dst=some (.int .u8)):
  (convert src dst (.int .u32 (wi x))).run P w = .ok (.int .u8 ((lo8 x).toNat:Int)) w:=by
 obtain⟨d,hd'⟩:=Option.isSome_iff_exists.mp hs
 have e:((lo8 x).toNat:Int)=wi x % 256:=by
  show(((x.setWidth 8).toNat:Nat):Int)=_
  unfold wi
  rw[BitVec.toNat_setWidth,Int.natCast_emod]
  rfl
 simp only[convert,Sem.run_bind,run_underlying hd',run_underlying hd,Result.andThen_ok,Conv.intToInt,Sem.run_pure,e]
 rw[IntKind.wrap_u8]
end
attribute [local go_sem high] ac4 afy ac0 ac3 ac5 ac2 ac1
def afb(x:Wd)(n:Nat):Wd:=x >>> n ||| x <<< (32-n)
theorem axf:∀i:Nat,i<32→1≤i→bits .and .u64 (IntKind.u64.wrap (-(i:Int))) 31=32-i:=by decide +kernel
theorem aas(x:Wd)(i:Nat)(w:World)(h0:1≤i)(h1:i<32):
  Calls Tryz.prog 186 #[.int .u32 (wi x),.int .i64 (-(i:Int))] w λe w'=>e = .returned (.int .u32 (wi (afb x i)))∧w'=w:=by
 obtain⟨j,hj⟩:∃j,j=32-i:=⟨_,rfl⟩
 have HJ:=Lib.hid hj
 have hb:bits .and .u64 (IntKind.u64.wrap (-(i:Int))) 31=(j:Int):=by rw[axf i h1 h0];omega
 have f2:(j:Int)<32:=by omega
 have f4:(i:Int)<32:=by omega
 have f3:IntKind.u64.wrap (32-(j:Int))=(i:Int):=by rw[IntWalk.u64_in _ aPl];omega
 clear hj
 go_enter Tryz.func186,Tryz.ntmps186
 go_wp2
 go_ret
 refine⟨?_,rfl⟩
 show Ending.returned (.int .u32 (wi _))=_
 rw[BitVec.or_comm,HJ.out]
 rfl
theorem al7(x:Wd)(i j k:Nat)(w:World)(hi:1≤i∧i<32)(hj:1≤j∧j<32)(hk:1≤k∧k<32):
  Calls Tryz.prog 163 #[.int .u32 (wi x),.int .i64 (i:Int),.int .i64 (j:Int),.int .i64 (k:Int)] w λe w'=>e = .returned (.int .u32 (wi (afb x i ^^^ afb x j ^^^ afb x k)))∧w'=w:=by
 have f1:IntKind.i64.wrap (-(i:Int)) = -(i:Int):=IntWalk.i64_in _ aPl
 have f2:IntKind.i64.wrap (-(j:Int)) = -(j:Int):=IntWalk.i64_in _ aPl
 have f3:IntKind.i64.wrap (-(k:Int)) = -(k:Int):=IntWalk.i64_in _ aPl
 go_enter Tryz.func163,Tryz.ntmps163
 go_wp2_with fail
 refine(aas x i _ hi.1 hi.2).mono ?_
 rintro e w1 ⟨rfl,rfl⟩
 go_wp2_with fail
 refine(aas x j _ hj.1 hj.2).mono ?_
 rintro e w1 ⟨rfl,rfl⟩
 go_wp2_with fail
 refine(aas x k _ hk.1 hk.2).mono ?_
 rintro e w1 ⟨rfl,rfl⟩
 go_wp2
 go_ret
 exact⟨rfl,rfl⟩
end Go.Proofs.YtjlelckefiannaaGreatDoor
namespace Go.Proofs.YtjlelckefiannaaGreatDoor
set_option linter.unusedVariables false
set_option linter.unusedSimpArgs false
def abo:List Nat := [1116352408,1899447441,3049323471,3921009573,961987163,1508970993,2453635748,2870763221,3624381080,310598401,607225278,1426881987,1925078388,2162078206,2614888103,3248222580,3835390401,4022224774,264347078,604807628,770255983,1249150122,1555081692,1996064986,2554220882,2821834349,2952996808,3210313671,3336571891,3584528711,113926993,338241895,666307205,773529912,1294757372,1396182291,1695183700,1986661051,2177026350,2456956037,2730485921,2820302411,3259730800,3345764771,3516065817,3600352804,4094571909,275423344,430227734,506948616,659060556,883997877,958139571,1322822218,1537002063,1747873779,1955562222,2024104815,2227730452,2361852424,2428436474,2756734187,3204031479,3329325298]
def anu:List Nat := [1779033703,3144134277,1013904242,2773480762,1359893119,2600822924,528734635,1541459225]
def aei:List Wd:=abo.map (BitVec.ofNat 32)
def H0:List Wd:=anu.map (BitVec.ofNat 32)
theorem aqh:H0.length=8:=rfl
def wordAt(b:List UInt8)(i:Nat):Wd:=w8 (b.getD (4*i) 0) <<< 24 ||| w8 (b.getD (4*i+1) 0) <<< 16 ||| w8 (b.getD (4*i+2) 0) <<< 8 ||| w8 (b.getD (4*i+3) 0)
def aKu(x:Wd):Wd:=afb x 7 ^^^ afb x 18 ^^^ x >>> 3
def aKt(x:Wd):Wd:=afb x 17 ^^^ afb x 19 ^^^ x >>> 10
def aE8(s:List Wd)(t:Nat):Wd:=s.getD (t-16) 0+aKu (s.getD (t-15) 0)+s.getD (t-7) 0+aKt (s.getD (t-2) 0)
def sch(b:List UInt8):Nat→List Wd
 |0 => []
 |t+1=>sch b t ++ [if t<16 then wordAt b t else aE8 (sch b t) t]
theorem um(b:List UInt8):∀t,(sch b t).length=t
 |0=>rfl
 |t+1=>by simp[sch,um b t]
theorem aAf(b:List UInt8)(t:Nat):∀u,∃r,sch b (t+u)=sch b t++r
 |0=>⟨[],by simp⟩
 |u+1=>by
  obtain⟨r,h⟩:=aAf b t u
  refine⟨r ++ [if t+u<16 then wordAt b (t+u)else aE8 (sch b (t+u)) (t+u)],?_⟩
  rw[←Nat.add_assoc,sch,h,List.append_assoc]
theorem aLp(b:List UInt8)(t n i:Nat)(h:i<t)(h':t≤n):(sch b n).getD i 0=(sch b t).getD i 0:=by
 obtain⟨u,rfl⟩:∃u,n=t+u:=⟨n-t,by omega⟩
 obtain⟨r,e⟩:=aAf b t u
 rw[e,List.getD_eq_getElem?_getD,List.getD_eq_getElem?_getD,List.getElem?_append_left (by rw[um];exact h)]
def stp(k w:Wd):List Wd→List Wd
 |[a,b,c,d,e,f,g,h] =>
  [h+(afb e 6 ^^^ afb e 11 ^^^ afb e 25)+(e &&& f ^^^ ~~~ e &&& g)+k+w+((afb a 2 ^^^ afb a 13 ^^^ afb a 22)+(a &&& b ^^^ a &&& c ^^^ b &&& c)),a,b,c,
   d+(h+(afb e 6 ^^^ afb e 11 ^^^ afb e 25)+(e &&& f ^^^ ~~~ e &&& g)+k+w),e,f,g]
 |l=>l
theorem aw9(k w:Wd)(l:List Wd):(stp k w l).length=l.length:=by
 unfold stp
 split<;>rfl
def ayr(b:List UInt8)(s:List Wd):Nat→List Wd
 |0=>s
 |t+1=>stp (aei.getD t 0) ((sch b 64).getD t 0) (ayr b s t)
theorem ako(b:List UInt8)(s:List Wd):∀t,(ayr b s t).length=s.length
 |0=>rfl
 |t+1=>by rw[ayr,aw9,ako b s t]
def compress(b:List UInt8)(s:List Wd):List Wd:=List.zipWith (· + ·) s (ayr b s 64)
theorem zy(b:List UInt8)(s:List Wd):(compress b s).length=s.length:=by simp[compress,ako]
def blk(m:List UInt8)(n:Nat):List UInt8:=(m.drop (64*n)).take 64
def acy(m:List UInt8)(s:List Wd):Nat→List Wd
 |0=>s
 |n+1=>compress (blk m n) (acy m s n)
theorem aaf(m:List UInt8)(s:List Wd):∀n,(acy m s n).length=s.length
 |0=>rfl
 |n+1=>by rw[acy,zy,aaf m s n]
theorem eight{l:List Wd}(h:l.length=8):∃a b c d e f g i,l = [a,b,c,d,e,f,g,i]:=by
 match l,h with
 |[a,b,c,d,e,f,g,i],_=>exact⟨a,b,c,d,e,f,g,i,rfl⟩
theorem ag8(A B:List UInt8)(s:List Wd):∀p,64*p≤A.length→acy (A++B) s p=acy A s p
 |0,_=>rfl
 |p+1,h=>by
  rw[acy,acy,ag8 A B s p aPl]
  congr 1
  simp only[blk]
  rw[List.drop_append_of_le_length aPl,List.take_append_of_le_length (by simp;omega)]
theorem akn(A B:List UInt8)(s:List Wd)(p:Nat)(hA:A.length=64*p):∀q,acy (A++B) s (p+q)=acy B (acy A s p) q
 |0=>by rw[Nat.add_zero,ag8 A B s p aPl];rfl
 |q+1=>by
  rw[←Nat.add_assoc,acy,akn A B s p hA q,acy]
  congr 1
  simp only[blk]
  rw[List.drop_append,List.drop_eq_nil_of_le aPl,hA,List.nil_append]
  congr 2
  omega
def be8(x:Nat):List UInt8:=(List.range 8).map λi=>UInt8.ofNat (x/2 ^ (56-8*i))
theorem afq(x:Nat):(be8 x).length=8:=by simp[be8]
def aPv(n:Nat):Nat:=(119-n % 64) % 64
def pad(bs:List UInt8):List UInt8:=bs ++ [128]++List.replicate (aPv bs.length) 0++be8 (8*bs.length)
theorem axj(bs:List UInt8):(pad bs).length=bs.length+9+aPv bs.length:=by simp[pad,afq];omega
def aao(r:Nat):Nat:=if 56≤r then 128 else 64
def fil(r:List UInt8)(n:Nat):List UInt8:=r ++ [128]++List.replicate (aao r.length-9-r.length) 0++be8 (8*n)
theorem afo(r:List UInt8)(n:Nat)(h:r.length<64):(fil r n).length=aao r.length:=by
 simp[fil,afq,aao]
 split<;>omega
theorem aL6(bs:List UInt8):pad bs=bs.take (64*(bs.length/64))++fil (bs.drop (64*(bs.length/64))) bs.length:=by
 have h:aPv bs.length=aao (bs.drop (64*(bs.length/64))).length-9-(bs.drop (64*(bs.length/64))).length:=by
  simp only[aPv,aao,List.length_drop]
  split<;>omega
 rw[pad,fil,h]
 simp only[List.append_assoc]
 rw[←List.append_assoc (bs.take _),List.take_append_drop]
def bytesOf(s:List Wd):List UInt8:=s.flatMap λx:Wd => [lo8 (x >>> 24),lo8 (x >>> 16),lo8 (x >>> 8),lo8 x]
theorem bytesOf_length(s:List Wd):(bytesOf s).length=4*s.length:=by
 induction s with
 |nil=>rfl
 |cons x s ih=>simp only[bytesOf,List.flatMap_cons,List.length_append,List.length_cons,List.length_nil]at *;omega
def sha(bs:List UInt8):List UInt8:=bytesOf (acy (pad bs) H0 ((pad bs).length/64))
theorem tu(bs:List UInt8):(sha bs).length=32:=by rw[sha,bytesOf_length,aaf,aqh]
theorem aAd(bs:List UInt8):sha bs=bytesOf (acy (fil (bs.drop (64*(bs.length/64))) bs.length) (acy (bs.take (64*(bs.length/64))) H0 (bs.length/64)) (aao (bs.length % 64)/64)):=by
 rw[sha,←akn _ _ _ _ (by simp;omega),←aL6,axj]
 congr 2
 simp only[aPv,aao]
 split<;>omega
def uj(bs:List UInt8):List UInt8:=sha (sha bs)
end Go.Proofs.YtjlelckefiannaaGreatDoor
namespace Go.Proofs.YtjlelckefiannaaGreatDoor
set_option linter.unusedVariables false
set_option linter.unusedSimpArgs false
def hh(a b:List UInt8):List UInt8:=uj (a++b)
def up:List (List UInt8)→List (List UInt8)
 |[] => []
 |[a] => [hh a a]
 |a::b::r=>hh a b::up r
theorem zx:∀l,(up l).length=(l.length+1)/2
 |[]=>rfl
 |[_]=>by simp[up]
 |a::b::r=>by
  simp only[up,List.length_cons,zx r]
  omega
def mate(l:List (List UInt8))(k:Nat):List UInt8:=if 2*k+1<l.length then l.getD (2*k+1) []else l.getD (2*k) []
theorem aJj:∀(l:List (List UInt8)) (k:Nat),2*k<l.length→(up l)[k]? = some (hh (l.getD (2*k) []) (mate l k))
 |[],k,h=>absurd h (by simp)
 |[a],k,h=>by
  obtain rfl:k=0:=by simp at h;omega
  rfl
 |a::b::r,0,h=>by
  simp[up,mate]
 |a::b::r,k+1,h=>by
  have:=aJj r k (by simp only[List.length_cons]at h;omega)
  simp only[up,List.getElem?_cons_succ,this,mate,List.length_cons]
  congr 1
  rw[show 2*(k+1)=2*k+1+1 by omega]
  simp only[List.getD_cons_succ]
  congr 1
  by_cases h:2*k+1<r.length
  ·rw[if_pos h,if_pos aPl]
  ·rw[if_neg h,if_neg aPl]
theorem aLf(l:List (List UInt8))(k:Nat)(h:2*k<l.length):(up l).take (k+1)=(up l).take k ++ [hh (l.getD (2*k) []) (mate l k)]:=by
 have:=aJj l k h
 rw[List.take_add_one,this]
 rfl
def rows(n:Nat):Nat:=if h:n≤1 then 0 else rows ((n+1)/2)+1
termination_by n
theorem adt{n:Nat}(h:n≤1):rows n=0:=by rw[rows,dif_pos h]
theorem af8{n:Nat}(h:1<n):rows n=rows ((n+1)/2)+1:=by rw[rows,dif_neg aPl]
def aan(l:List (List UInt8)):List UInt8:=if h:l.length≤1 then l.getD 0 []else aan (up l)
termination_by l.length
decreasing_by rw[zx];omega
theorem ajw{l:List (List UInt8)}(h:l.length≤1):aan l=l.getD 0 []:=by rw[aan,dif_pos h]
theorem au8{l:List (List UInt8)}(h:1<l.length):aan l=aan (up l):=by rw[aan,dif_neg aPl]
def alone(i n:Nat):Bool:=decide (n % 2=1∧i+1=n)
def oth(i n:Nat):Nat:=if alone i n=true then i else if i % 2=1 then i-1 else i+1
theorem aRh{i n:Nat}(h:i<n):oth i n<n:=by
 rw[oth]
 by_cases ha:alone i n=true
 ·rw[if_pos ha];exact h
 ·rw[if_neg ha]
  rw[alone,decide_eq_true_iff]at ha
  split<;>omega
def alr(l:List (List UInt8))(i:Nat):List (List UInt8):=if h:l.length≤1 then []else l.getD (oth i l.length) []::alr (up l) (i/2)
termination_by l.length
decreasing_by rw[zx];omega
theorem auv{l:List (List UInt8)}{i:Nat}(h:l.length≤1):alr l i = []:=by rw[alr,dif_pos h]
theorem az4{l:List (List UInt8)}{i:Nat}(h:1<l.length):alr l i=l.getD (oth i l.length) []::alr (up l) (i/2):=by rw[alr,dif_neg aPl]
theorem akf(l:List (List UInt8))(i:Nat):(alr l i).length=rows l.length:=by
 by_cases h:l.length≤1
 ·rw[auv h,adt h];rfl
 ·rw[az4 aPl,af8 aPl,List.length_cons,akf (up l) (i/2),zx]
termination_by l.length
decreasing_by rw[zx];omega
def aro(i:Nat)(h x:List UInt8):List UInt8:=if i % 2=1 then hh x h else hh h x
def zo:List (List UInt8)→List UInt8→Nat→Nat→Option (List UInt8)
 |[],h,_,n=>if n=1 then some h else none
 |x::r,h,i,n=>if n=1 then none else if(decide (x=h) != alone i n)=true then none else zo r (aro i h x) (i/2) ((n+1)/2)
theorem amw:∀(w:List (List UInt8)) (h:List UInt8) (i n:Nat),1≤n→w.length≠rows n→zo w h i n=none
 |[],h,i,n,hn,hl=>by
  rw[zo]
  by_cases h1:n=1
  ·subst h1;exact absurd (adt (Nat.le_refl 1)).symm hl
  ·rw[if_neg h1]
 |x::r,h,i,n,hn,hl=>by
  rw[zo]
  by_cases h1:n=1
  ·rw[if_pos h1]
  ·rw[if_neg h1]
   split
   ·rfl
   ·refine amw r _ _ _ aPl λe=>hl ?_
    rw[af8 aPl,List.length_cons,e]
theorem ayc{x:List UInt8}{r:List (List UInt8)}{h v:List UInt8}{i n:Nat}(e:zo (x::r) h i n=some v):
  zo r (aro i h x) (i/2) ((n+1)/2)=some v∧(alone i n=true→x=h):=by
 rw[zo]at e
 split at e
 ·cases e
 ·split at e
  ·cases e
  ·rename_i h2
   refine⟨e,λha=>?_⟩
   rw[bne_iff_ne,Classical.not_not,ha,decide_eq_true_iff]at h2
   exact h2
theorem aez(a b:List UInt8):(hh a b).length=32:=by simp[hh,uj,tu]
theorem agc(i:Nat)(a b:List UInt8):(aro i a b).length=32:=by rw[aro];split<;>exact aez _ _
def afx(l:List (List UInt8)):Prop:=∀h∈l,h.length=32
theorem aJk:∀(l:List (List UInt8)),afx (up l)
 |[]=>λ_ h=>by cases h
 |[a]=>λh hh'=>by rw[up,List.mem_singleton]at hh';subst hh';exact aez _ _
 |a::b::r=>λh hh'=>by
  rw[up,List.mem_cons]at hh'
  rcases hh' with rfl|hm
  ·exact aez _ _
  ·exact aJk r h hm
theorem afx.get{l:List (List UInt8)}(h:afx l){k:Nat}(hk:k<l.length):(l.getD k []).length=32:=by
 rw[List.getD_eq_getElem?_getD,List.getElem?_eq_getElem hk]
 exact h _ (List.getElem_mem hk)
theorem ae5(l:List (List UInt8))(h:afx l)(h0:0<l.length):(aan l).length=32:=by
 by_cases h1:l.length≤1
 ·rw[ajw h1];exact h.get h0
 ·rw[au8 aPl]
  exact ae5 (up l) (aJk l) (by rw[zx];omega)
termination_by l.length
decreasing_by rw[zx];omega
theorem ad9:∀(w:List (List UInt8)) (h v:List UInt8) (i n:Nat),h.length=32→zo w h i n=some v→v.length=32
 |[],h,v,i,n,hl,e=>by
  rw[zo]at e
  split at e
  ·cases e;exact hl
  ·cases e
 |x::r,h,v,i,n,hl,e=>ad9 r _ v _ _ (agc _ _ _) (ayc e).1
end Go.Proofs.YtjlelckefiannaaGreatDoor
namespace Go.Proofs.YtjlelckefiannaaGreatDoor
set_option linter.unusedVariables false
set_option linter.unusedSimpArgs false
open Go.RowKit
def ayv(l:List Value)(z:Value)(n:Nat):Array Value:=(l++List.replicate (n-l.length) z).toArray
theorem akc(l:List Value)(z:Value)(n:Nat)(h:l.length≤n):(ayv l z n).size=n:=by simp[ayv];omega
theorem ai9(l:List Value)(z:Value)(n i:Nat)(h:i<l.length):(ayv l z n)[i]? = some (l[i]):=by
 simp[ayv,List.getElem?_append_left,h]
theorem ahj(l:List Value)(z:Value)(n i:Nat)(h:l.length≤i)(h':i<n):(ayv l z n)[i]? = some z:=by
 simp[ayv,List.getElem?_append_right,h,List.getElem?_replicate]
 omega
theorem awc(l:List Value)(z:Value)(n k:Nat)(x:Value)(hk:k=l.length)(h:l.length<n):(ayv l z n).setIfInBounds k x=ayv (l ++ [x]) z n:=by
 subst hk
 apply Array.ext_getElem?
 intro i
 by_cases hi:i=l.length
 ·subst hi
  rw[Array.getElem?_setIfInBounds_self_of_lt (by rw[akc l z n aPl];exact h),ai9 _ _ _ _ (by simp)]
  simp
 ·rw[Array.getElem?_setIfInBounds_ne aPl]
  by_cases hl:i<l.length
  ·rw[ai9 l z n i hl,ai9 _ _ _ _ (by simp;omega)]
   simp[List.getElem_append_left,hl]
  ·by_cases hn:i<n
   ·rw[ahj l z n i aPl hn,ahj _ z n i (by simp;omega) hn]
   ·rw[Array.getElem?_eq_none (by rw[akc l z n aPl];omega),Array.getElem?_eq_none (by rw[akc _ z n (by simp;omega)];omega)]
theorem aqd(l:List Value)(z:Value)(n:Nat)(h:l.length=n):ayv l z n=l.toArray:=by simp[ayv,h]
def awj(l:List Wd)(n:Nat):Array Value:=ayv (l.map W32) (.int .u32 0) n
def aE3(l:List UInt8)(n:Nat):Array Value:=ayv (l.map B8) (.int .u8 0) n
theorem aH0(l:List Wd)(n i:Nat)(h:i<l.length):(awj l n)[i]? = some (.int .u32 (wi (l.getD i 0))):=by
 rw[awj,ai9 _ _ _ _ (by simpa using h)]
 simp[List.getD,List.getElem?_eq_getElem h]
theorem aDp(l:List Wd)(n i:Nat)(h:l.length≤i)(h':i<n):(awj l n)[i]? = some (.int .u32 0):=ahj _ _ _ _ (by simpa using h) h'
theorem av9(l:List Wd)(n k:Nat)(x:Wd)(hk:k=l.length)(h:l.length<n):(awj l n).setIfInBounds k (.int .u32 (wi x))=awj (l ++ [x]) n:=by
 rw[awj,awc _ _ _ _ _ (by simpa using hk) (by simpa using h)]
 simp[awj,W32]
theorem aDq(l:List Wd)(n:Nat)(h:l.length=n):awj l n=(l.map W32).toArray:=aqd _ _ _ (by simpa using h)
theorem aja(l:List UInt8)(n k:Nat)(x:UInt8)(hk:k=l.length)(h:l.length<n):(aE3 l n).setIfInBounds k (.int .u8 (x.toNat:Int))=aE3 (l ++ [x]) n:=by
 rw[aE3,awc _ _ _ _ _ (by simpa using hk) (by simpa using h)]
 simp[aE3,B8]
theorem aDs(l:List UInt8)(n:Nat)(h:l.length=n):aE3 l n=(l.map B8).toArray:=aqd _ _ _ (by simpa using h)
theorem aDr(l:List UInt8)(n i:Nat)(h:l.length≤i)(h':i<n):(aE3 l n)[i]? = some (.int .u8 0):=ahj _ _ _ _ (by simpa using h) h'
theorem vk(w:World)(g i:Nat)(cs:Array Value)(t:TypeId)(fr:Nat×Nat)(v:Value)(hg:w.heap[g]? = some (.cells cs t fr)):
  (w.setCell ⟨g,i,none⟩ v).heap[g]? = some (.cells (cs.setIfInBounds i v) t fr):=by
 rw[setCell_eq_setRow w g i cs t fr v hg]
 exact setRow_heap w g cs _ t fr hg
theorem oneW(l:List Value)(h:∀v∈l,v.oneCell'=true):l.toArray.all (·.oneCell')=true:=by
 simpa using h
theorem aff(l:List Wd):(l.map W32).toArray.all (·.oneCell')=true:=oneW _ λv h=>by
 simp only[List.mem_map]at h
 obtain⟨x,_,rfl⟩:=h
 rfl
theorem abd(l:List UInt8):(l.map B8).toArray.all (·.oneCell')=true:=oneW _ Bs.one
theorem am5{w:World}{g n:Nat}{t:TypeId}{fr:Nat×Nat}{l:List Wd}(hg:w.heap[g]? = some (.cells (awj l n) t fr))(i:Nat)(h:i<l.length):w.cell? ⟨g,i,none⟩=some (.int .u32 (wi (l.getD i 0))):=by
 rw[cell_of_row w g i _ t fr hg]
 exact aH0 l n i h
theorem ag9{w:World}{g i n:Nat}{l:List UInt8}{t:TypeId}{fr:Nat×Nat}(hg:w.heap[g]? = some (.cells (aE3 l n) t fr))(h:l.length≤i)(h':i<n):w.cell? ⟨g,i,none⟩=some (.int .u8 0):=by
 rw[cell_of_row w g i _ t fr hg]
 exact aDr l n i h h'
theorem apj{w:World}{g i n:Nat}{l:List Wd}{t:TypeId}{fr:Nat×Nat}(hg:w.heap[g]? = some (.cells (awj l n) t fr))(h:l.length≤i)(h':i<n):w.cell? ⟨g,i,none⟩=some (.int .u32 0):=by
 rw[cell_of_row w g i _ t fr hg]
 exact aDp l n i h h'
theorem ak4(w:World)(p q:Addr)(v:Value)(h:q.block≠p.block):(w.setCell p v).cell? q=w.cell? q :=
 World.cell?_of_block (Below.heap_setCell _ _ _ _ h)
theorem ae1(w:World)(p:Addr):w.drew.cell? p=w.cell? p:=rfl
theorem heap_drew(w:World):w.drew.heap=w.heap:=rfl
theorem ait(w:World)(g i j:Nat)(v:Value)(h:j≠i):(w.setCell ⟨g,i,none⟩ v).cell? ⟨g,j,none⟩=w.cell? ⟨g,j,none⟩ :=
 World.cell?_setCell_other w _ _ v (λe=>by cases e;exact h rfl)
theorem aco{w:World}{g i:Nat}{cs:Array Value}{t:TypeId}(hg:w.heap[g]? = some (.cells cs t (0,0))):w.frozen? ⟨g,i,none⟩=false:=by
 simp[World.frozen?,hg]
theorem aA1(w:World)(A B C:Obj):(((w.alloc A).alloc B).alloc C).heap[w.heap.size]? = some A:=by
 rw[heap_alloc_old _ _ (by simp;omega),heap_alloc_old _ _ (by simp),heap_alloc_new]
theorem aA0(w:World)(A B C:Obj):(((w.alloc A).alloc B).alloc C).heap[w.heap.size+1]? = some B:=by
 rw[heap_alloc_old _ _ (by simp),heap_alloc2_new]
theorem aAz(w:World)(A B C:Obj):(((w.alloc A).alloc B).alloc C).heap[w.heap.size+1+1]? = some C:=by
 have:=heap_alloc_new ((w.alloc A).alloc B) C
 simpa using this
attribute [local go_sem] zf aqt
theorem aGh{w:World}{g:Nat}{t:TypeId}{fr:Nat×Nat}{h:List UInt8}(hg:w.heap[g]? = some (.cells (h.map B8).toArray t fr))(j:Nat)(hj:j<h.length):w.cell? ⟨g,j,none⟩=some (.int .u8 ((h.getD j 0).toNat:Int)):=by
 rw[cell_of_row w g j _ t fr hg]
 simp[List.getD,List.getElem?_eq_getElem hj,B8]
end Go.Proofs.YtjlelckefiannaaGreatDoor
namespace Go.Proofs.YtjlelckefiannaaGreatDoor
set_option linter.unusedVariables false
set_option linter.unusedSimpArgs false
end Go.Proofs.YtjlelckefiannaaGreatDoor
namespace Go.Proofs.YtjlelckefiannaaGreatDoor
set_option linter.unusedVariables false
set_option linter.unusedSimpArgs false
open Go.RowKit
attribute [local go_sem high] ac4 afy ac0 ac3 ac5 ac2 ac1 adr ads
theorem Tryz.sz8:(Tryz.prog.info? 200).map (·.size)=some 8:=by kernel_rfl
theorem Tryz.sz32:(Tryz.prog.info? 24).map (·.size)=some 32:=by kernel_rfl
theorem Tryz.sz64:(Tryz.prog.info? 235).map (·.size)=some 64:=by kernel_rfl
theorem aDn(w:World):Calls Tryz.prog 124 #[] w λe w'=>e = .returned (.agg (H0.map W32).toArray)∧Fr F0 w w':=by
 go_enter Tryz.func124,Tryz.ntmps124
 go_wp2
 refine bodyPost_ret (results_cell_row rfl _ _ _ _ _ _ _ rfl (heap_alloc_new w _) Tryz.underlying200 rfl Tryz.sz8) rfl ⟨rfl,(Fr.refl F0 w).alloc _⟩
theorem ard(s:List Wd)(x:Wd):bytesOf (s ++ [x])=bytesOf s ++ [lo8 (x >>> 24)] ++ [lo8 (x >>> 16)] ++ [lo8 (x >>> 8)] ++ [lo8 x]:=by simp[bytesOf]
theorem avs(s:List Wd)(hs:s.length=8)(w:World):
  Calls Tryz.prog 128 #[.agg (s.map W32).toArray] w λe w'=>e = .returned (.agg ((bytesOf s).map B8).toArray)∧Fr F0 w w':=by
 go_enter Tryz.func128,Tryz.ntmps128
 go_wp2_with (refine wpList_load_row rfl 200 (.tmp 1) rfl w.heap.size rfl 200 (s.map W32).toArray (0,0) _ (aA1 _ _ _ _) Tryz.underlying200 rfl (by rw[Tryz.sz8];simp[hs]) ?_)
 generalize hX:w.heap.size+1+1=X
 generalize hY:w.heap.size+1=Y
 go_loopw [7] (λi wr=>∃k:Nat,k≤8∧i = .int .i64 k∧wr.heap[X]? = some (.cells (aE3 (bytesOf (s.take k)) 32) 24 (0,0))∧(∃cs,wr.heap[Y]? = some (.cells cs 24 (0,0))∧cs.size=32)∧Fr F0 w wr) (λi _=>8-(intOf i).toNat)
 case atStart=>exact⟨0,by omega,rfl,by subst hX;exact aAz _ _ _ _,⟨_,by subst hY;exact aA0 _ _ _ _,rfl⟩,(((Fr.refl F0 w).alloc _).alloc _).alloc _⟩
 case round =>
  obtain⟨k,hk,rfl,h2,⟨cs,h1,hz⟩,hf⟩:=hrel
  by_cases hk8:k<8
  ·have hx:(s.map W32).toArray[k]? = some (.int .u32 (wi (s.getD k 0))):=by
    simp[List.getD,List.getElem?_eq_getElem (show k<s.length by omega)]
   have hL:(bytesOf (s.take k)).length=4*k:=by rw[bytesOf_length];simp;omega
   have hst:s.take (k+1)=s.take k ++ [s.getD k 0]:=by
    rw[List.take_succ_eq_append_getElem (show k<s.length by omega)]
    simp[List.getD,List.getElem?_eq_getElem (show k<s.length by omega)]
   generalize s.getD k 0=x at *
   have HS:=Lib.hid hst
   have hi:=λw=>abu (P:=Tryz.prog) w 200 25 8 _ .i64 k _ Tryz.underlying200 Tryz.underlying25 rfl (by kernel_rfl) _ hk8 hx
   have b0:=ag9 (i:=4*k) h2 aPl aPl
   have z0:=aco (i:=4*k) h2
   have b1:=ag9 (i:=4*k+1) h2 aPl aPl
   have z1:=aco (i:=4*k+1) h2
   have b2:=ag9 (i:=4*k+2) h2 aPl aPl
   have z2:=aco (i:=4*k+2) h2
   have b3:=ag9 (i:=4*k+3) h2 aPl aPl
   have z3:=aco (i:=4*k+3) h2
   have HH:=Lib.hid (And.intro h2 (And.intro h1 hf))
   have HL:=Lib.hid hL
   clear hst hx hL h2 h1 hf
   go_wp2
   go_roundw
   case rel =>
    obtain⟨h2,h1,hf⟩:=HH.out
    have hne:Y≠X:=by omega
    refine⟨k+1,by omega,by go_num,?_,⟨cs,?_,hz⟩,?_⟩
    ·rw[HS.out,ard]
     have hL:=HL.out
     have g0:=vk wr X (4*k) _ _ _ (.int .u8 ((lo8 (x >>> 24)).toNat:Int)) h2
     rw[aja _ _ _ _ aPl aPl]at g0
     have g1:=vk _ X (4*k+1) _ _ _ (.int .u8 ((lo8 (x >>> 16)).toNat:Int)) g0
     rw[aja _ _ _ _ (by simp;omega) (by simp;omega)]at g1
     have g2:=vk _ X (4*k+2) _ _ _ (.int .u8 ((lo8 (x >>> 8)).toNat:Int)) g1
     rw[aja _ _ _ _ (by simp;omega) (by simp;omega)]at g2
     have g3:=vk _ X (4*k+3) _ _ _ (.int .u8 ((lo8 x).toNat:Int)) g2
     rw[aja _ _ _ _ (by simp;omega) (by simp;omega)]at g3
     exact g3
    ·rw[Below.heap_setCell _ _ _ _ hne,Below.heap_setCell _ _ _ _ hne,Below.heap_setCell _ _ _ _ hne,Below.heap_setCell _ _ _ _ hne]
     exact h1
    ·exact(((hf.setCell (p:=⟨X,_,none⟩) (λh=>by simp only at h;omega) _).setCell (p:=⟨X,_,none⟩) (λh=>by simp only at h;omega) _).setCell (p:=⟨X,_,none⟩) (λh=>by simp only at h;omega) _).setCell (p:=⟨X,_,none⟩) (λh=>by simp only at h;omega) _
   case measure=>simp[intOf];omega
  ·obtain rfl:k=8:=by omega
   have hfull:aE3 (bytesOf (s.take 8)) 32=((bytesOf s).map B8).toArray:=by
    rw[List.take_of_length_le aPl]
    exact aDs _ _ (by rw[bytesOf_length,hs])
   rw[hfull]at h2
   have hb:((bytesOf s).map B8).toArray.size=32:=by simp[bytesOf_length,hs]
   go_wp2_with (first|refine wpList_load_row rfl 24 (.tmp 3) rfl X rfl 24 _ (0,0) _ h2 Tryz.underlying24 rfl (by rw[Tryz.sz32,hb]) ?_|refine wpList_store_row rfl 24 (.tmp 2) (.tmp 38) rfl Y _ rfl rfl 24 cs h1 (by rw[Tryz.sz32,hb]) (by rw[hz,hb]) (abd _) ?_)
   refine bodyPost_ret (results_cell_row rfl _ _ Y _ _ _ _ rfl (setRow_heap _ _ _ _ _ _ h1) Tryz.underlying24 rfl (by rw[Tryz.sz32,hb])) rfl ⟨rfl,?_⟩
   exact hf.setRow (λh=>by omega) _
end Go.Proofs.YtjlelckefiannaaGreatDoor
namespace Go.Proofs.YtjlelckefiannaaGreatDoor
set_option linter.unusedVariables false
set_option linter.unusedSimpArgs false
open Go.RowKit
attribute [local go_sem high] ac4 afy ac0 ac3 ac5 ac2 ac1 adr ads
end Go.Proofs.YtjlelckefiannaaGreatDoor
namespace Go.Proofs.YtjlelckefiannaaGreatDoor
set_option linter.unusedVariables false
set_option linter.unusedSimpArgs false
open Go.RowKit
attribute [local go_sem high] ac4 afy ac0 ac3 ac5 ac2 ac1 adr ads
end Go.Proofs.YtjlelckefiannaaGreatDoor
namespace Go.Proofs.YtjlelckefiannaaGreatDoor
set_option linter.unusedVariables false
set_option linter.unusedSimpArgs false
open Go.RowKit
attribute [local go_sem high] ac4 afy ac0 ac3 ac5 ac2 ac1 adr ads
end Go.Proofs.YtjlelckefiannaaGreatDoor
namespace Go.Proofs.YtjlelckefiannaaGreatDoor
set_option linter.unusedVariables false
set_option linter.unusedSimpArgs false
open Go.RowKit
attribute [local go_sem high] ac4 afy ac0 ac3 ac5 ac2 ac1 adr ads
end Go.Proofs.YtjlelckefiannaaGreatDoor
namespace Go.Proofs.YtjlelckefiannaaGreatDoor
set_option linter.unusedVariables false
set_option linter.unusedSimpArgs false
open Go.RowKit
attribute [local go_sem high] ac4 afy ac0 ac3 ac5 ac2 ac1 adr ads
end Go.Proofs.YtjlelckefiannaaGreatDoor
namespace Go.Proofs.YtjlelckefiannaaGreatDoor
set_option linter.unusedVariables false
set_option linter.unusedSimpArgs false
open Go.RowKit
attribute [local go_sem high] ac4 afy ac0 ac3 ac5 ac2 ac1 adr ads
theorem Bs.atD{w:World}{a:Addr}{c:Nat}{bs:List UInt8}{b off:Nat}(h:Bs w (some ⟨b,off,none⟩) c bs)(j:Nat)(hj:j<bs.length):w.cell? ⟨b,off+j,none⟩=some (.int .u8 ((bs.getD j 0).toNat:Int)):=by
 obtain⟨b',off',e,hc⟩:=h.at j hj
 cases e
 rw[hc]
 simp[List.getD,List.getElem?_eq_getElem hj]
theorem aqx(a:Option Addr)(c:Nat)(bs:List UInt8)(hl:bs.length=64)(w:World)(h:Bs w a c bs):
  Calls Tryz.prog 162 #[.slice a 64 c] w λe w'=>e = .returned (.agg ((sch bs 64).map W32).toArray)∧Fr F0 w w':=by
 obtain⟨b,off,rfl,hc⟩:=h.cells (by intro e;simp[e]at hl)
 have hlt:b<w.heap.size:=World.block_lt_of_cell? w _ (hc 0 aPl)
 have HB:=Lib.hid h
 clear h hc
 go_enter Tryz.func162,Tryz.ntmps162
 go_wp2_with fail
 generalize hX:w.heap.size+1=X
 go_loopw [10] (λi wr=>∃k:Nat,k≤16∧i = .int .i64 k∧wr.heap[X]? = some (.cells (awj (sch bs k) 64) 235 (0,0))∧(∃cs,wr.heap[w.heap.size]? = some (.cells cs 235 (0,0))∧cs.size=64)∧Fr F0 w wr) (λi _=>16-(intOf i).toNat)
 case atStart=>exact⟨0,by omega,rfl,by subst hX;exact heap_alloc2_new _ _ _,⟨_,heap_alloc2_old _ _ _,rfl⟩,((Fr.refl F0 w).alloc _).alloc _⟩
 case round =>
  obtain⟨k,hk,rfl,h2,⟨cs,h1,hz⟩,hf⟩:=hrel
  by_cases hk8:k<16
  ·have hB:Bs wr (some ⟨b,off,none⟩) c bs:=Sl.fr HB.out hf λ_ _ f=>f
   have c0:=hB.atD (a:=⟨b,off,none⟩) (4*k) aPl
   have c1:=hB.atD (a:=⟨b,off,none⟩) (4*k+1) aPl
   have c2:=hB.atD (a:=⟨b,off,none⟩) (4*k+2) aPl
   have c3:=hB.atD (a:=⟨b,off,none⟩) (4*k+3) aPl
   have b0:=apj (i:=k) h2 (by rw[um];omega) aPl
   have z0:=aco (i:=k) h2
   have HH:=Lib.hid (And.intro h2 (And.intro h1 hf))
   have HS:=Lib.hid (show sch bs (k+1)=sch bs k ++ [w8 (bs.getD (4*k) 0) <<< 24 ||| w8 (bs.getD (4*k+1) 0) <<< 16 ||| w8 (bs.getD (4*k+2) 0) <<< 8 ||| w8 (bs.getD (4*k+3) 0)]from by show sch bs k++_=_;rw[if_pos hk8];rfl)
   generalize bs.getD (4*k) 0=x0 at *
   generalize bs.getD (4*k+1) 0=x1 at *
   generalize bs.getD (4*k+2) 0=x2 at *
   generalize bs.getD (4*k+3) 0=x3 at *
   clear hB h2 h1 hf
   go_wp2_with fail
   have hne:b≠X:=by omega
   obtain⟨p0,hp0⟩:∃p,p=4*k:=⟨_,rfl⟩
   obtain⟨p1,hp1⟩:∃p,p=4*k+1:=⟨_,rfl⟩
   obtain⟨p2,hp2⟩:∃p,p=4*k+2:=⟨_,rfl⟩
   obtain⟨p3,hp3⟩:∃p,p=4*k+3:=⟨_,rfl⟩
   have m0:IntKind.i64.wrap (4*(k:Int))=(p0:Int):=by rw[IntWalk.i64_in _ aPl];omega
   have m1:IntKind.i64.wrap ((p0:Int)+1)=(p1:Int):=by rw[IntWalk.i64_in _ aPl];omega
   have m2:IntKind.i64.wrap ((p0:Int)+2)=(p2:Int):=by rw[IntWalk.i64_in _ aPl];omega
   have m3:IntKind.i64.wrap ((p0:Int)+3)=(p3:Int):=by rw[IntWalk.i64_in _ aPl];omega
   have l0:(p0:Int)<64:=by omega
   have l1:(p1:Int)<64:=by omega
   have l2:(p2:Int)<64:=by omega
   have l3:(p3:Int)<64:=by omega
   have lk:(k:Int)<64:=by omega
   rw[←hp0]at c0
   rw[←hp1]at c1
   rw[←hp2]at c2
   rw[←hp3]at c3
   clear hp0 hp1 hp2 hp3
   refine jm (S:=(λw'=>w'.cell? ⟨b,off+p0,none⟩=some (.int .u8 (x0.toNat:Int))∧w'.cell? ⟨b,off+p1,none⟩=some (.int .u8 (x1.toNat:Int))∧w'.cell? ⟨b,off+p2,none⟩=some (.int .u8 (x2.toNat:Int))∧w'.cell? ⟨b,off+p3,none⟩=some (.int .u8 (x3.toNat:Int)))) ?_ λak=>?_
   ·exact(by((try dsimp only)<;>(exact⟨c0,c1,c2,c3⟩)))
   refine aj 0 ?_
   refine aj 1 ?_
   refine aj 2 ?_
   refine aj 3 ?_
   refine aj 4 ?_
   refine aj 5 ?_
   refine aj 6 ?_
   refine aj 7 ?_
   refine aj 8 ?_
   refine aj 9 ?_
   refine aj 10 ?_
   refine aj 11 ?_
   refine aj 12 ?_
   refine aj 13 ?_
   refine aj 14 ?_
   refine aj 15 ?_
   refine aj 16 ?_
   refine aj 17 ?_
   refine aj 18 ?_
   refine aj 19 ?_
   refine aj 20 ?_
   refine aj 21 ?_
   refine aj 22 ?_
   refine aj 23 ?_
   refine aj 24 ?_
   refine aj 25 ?_
   refine aj 26 ?_
   refine aj 27 ?_
   refine aj 28 ?_
   refine aj 29 ?_
   refine aj 30 ?_
   refine aj 31 ?_
   refine aj 32 ?_
   refine aj 33 ?_
   refine aj 34 ?_
   refine jf 35 λK hK=>?_
   go_simp
   refine rpu hK (by((try dsimp only)<;>(first|exact⟨c0,c1,c2,c3⟩|(refine⟨?_,?_,?_,?_⟩<;>rw[ae1,ak4 _ _ _ _ hne]<;>assumption)))) λak=>?_
   clear hK K
   refine jg ?_
   go_wp2
   go_roundw
   case rel =>
    obtain⟨h2,h1,hf⟩:=HH.out
    have hYX:w.heap.size≠X:=by omega
    refine⟨k+1,by omega,by go_num,?_,⟨cs,?_,hz⟩,?_⟩
    ·rw[HS.out]
     have g0:=vk wr X k _ _ _ (.int .u32 (wi (w8 x0 <<< 24 ||| w8 x1 <<< 16 ||| w8 x2 <<< 8 ||| w8 x3))) h2
     rw[av9 _ _ _ _ (by rw[um]) (by rw[um];omega)]at g0
     exact g0
    ·rw[heap_drew,Below.heap_setCell _ _ _ _ hYX]
     exact h1
    ·exact(hf.setCell (p:=⟨X,_,none⟩) (λh=>by simp only at h;omega) _).drew
   case measure=>simp[intOf];omega
  ·have aOp:k=16:=by omega
   rw[aOp]at h2
   clear aOp
   go_wp2_with fail
   go_loopw [5] (λi wr=>∃k:Nat,16≤k∧k≤64∧i = .int .i64 k∧wr.heap[X]? = some (.cells (awj (sch bs k) 64) 235 (0,0))∧(∃cs,wr.heap[w.heap.size]? = some (.cells cs 235 (0,0))∧cs.size=64)∧Fr F0 w wr) (λi _=>64-(intOf i).toNat)
   case atStart=>exact⟨16,by omega,by omega,rfl,h2,⟨cs,h1,hz⟩,hf⟩
   case round =>
    obtain⟨k,aOp,hk,rfl,h2,⟨cs,h1,hz⟩,hf⟩:=hrel
    by_cases hk8:k<64
    ·have hsl:=um bs k
     have HH:=Lib.hid (And.intro h2 (And.intro h1 hf))
     have c2:=am5 (w:=wr.drew) h2 (k-2) aPl
     have c7:=am5 (w:=wr.drew.drew) h2 (k-7) aPl
     have c15:=am5 (w:=wr.drew) h2 (k-15) aPl
     have c16:=am5 (w:=wr.drew.drew) h2 (k-16) aPl
     have b0:=apj (w:=wr.drew.drew) (i:=k) h2 aPl aPl
     have z0:=aco (w:=wr.drew.drew) (i:=k) h2
     have HS:=Lib.hid (show sch bs (k+1)=sch bs k ++ [(sch bs k).getD (k-16) 0+aKu ((sch bs k).getD (k-15) 0)+(sch bs k).getD (k-7) 0+aKt ((sch bs k).getD (k-2) 0)]from by show sch bs k++_=_;rw[if_neg aPl];rfl)
     generalize (sch bs k).getD (k-2) 0=x2 at *
     generalize (sch bs k).getD (k-7) 0=x7 at *
     generalize (sch bs k).getD (k-15) 0=x15 at *
     generalize (sch bs k).getD (k-16) 0=x16 at *
     obtain⟨q2,hq2⟩:∃q,q=k-2:=⟨_,rfl⟩
     have e2:IntKind.i64.wrap ((k:Int)-2)=(q2:Int):=by rw[IntWalk.i64_in _ aPl];omega
     have l2:(q2:Int)<64:=by omega
     rw[←hq2]at c2
     clear hq2
     obtain⟨q7,hq7⟩:∃q,q=k-7:=⟨_,rfl⟩
     have e7:IntKind.i64.wrap ((k:Int)-7)=(q7:Int):=by rw[IntWalk.i64_in _ aPl];omega
     have n7:q7≠k:=by omega
     have l7:(q7:Int)<64:=by omega
     rw[←hq7]at c7
     clear hq7
     obtain⟨q15,hq15⟩:∃q,q=k-15:=⟨_,rfl⟩
     have e15:IntKind.i64.wrap ((k:Int)-15)=(q15:Int):=by rw[IntWalk.i64_in _ aPl];omega
     have l15:(q15:Int)<64:=by omega
     rw[←hq15]at c15
     clear hq15
     obtain⟨q16,hq16⟩:∃q,q=k-16:=⟨_,rfl⟩
     have e16:IntKind.i64.wrap ((k:Int)-16)=(q16:Int):=by rw[IntWalk.i64_in _ aPl];omega
     have n16:q16≠k:=by omega
     have l16:(q16:Int)<64:=by omega
     rw[←hq16]at c16
     clear hq16
     have lk:(k:Int)<64:=by omega
     clear h2 h1 hf hsl
     go_wp2_with fail
     refine jm (S:=(λw'=>w'.cell? ⟨X,q2,none⟩=some (.int .u32 (wi x2))∧w'.cell? ⟨X,q15,none⟩=some (.int .u32 (wi x15)))) ?_ λak=>?_
     ·exact(by((try dsimp only)<;>(exact⟨c2,c15⟩)))
     refine aj 0 ?_
     refine aj 1 ?_
     refine aj 2 ?_
     refine aj 3 ?_
     refine aj 4 ?_
     refine aj 5 ?_
     refine aj 6 ?_
     refine aj 7 ?_
     refine aj 8 ?_
     refine aj 9 ?_
     refine jg ?_
     go_wp2_with fail
     refine(aas x15 7 _ aPl aPl).mono ?_
     rintro e w1 ⟨rfl,rfl⟩
     go_wp2_with fail
     refine(aas x15 18 _ aPl aPl).mono ?_
     rintro e w1 ⟨rfl,rfl⟩
     go_wp2_with fail
     refine(aas x2 17 _ aPl aPl).mono ?_
     rintro e w1 ⟨rfl,rfl⟩
     go_wp2_with fail
     refine(aas x2 19 _ aPl aPl).mono ?_
     rintro e w1 ⟨rfl,rfl⟩
     go_wp2_with fail
     refine jm (S:=(λw'=>w'.cell? ⟨X,q7,none⟩=some (.int .u32 (wi x7))∧w'.cell? ⟨X,q16,none⟩=some (.int .u32 (wi x16)))) ?_ λak=>?_
     ·exact(by((try dsimp only)<;>(exact⟨c7,c16⟩)))
     refine aj 0 ?_
     refine aj 1 ?_
     refine aj 2 ?_
     refine aj 3 ?_
     refine aj 4 ?_
     refine aj 5 ?_
     refine aj 6 ?_
     refine aj 7 ?_
     refine aj 8 ?_
     refine aj 9 ?_
     refine aj 10 ?_
     refine aj 11 ?_
     refine aj 12 ?_
     refine aj 13 ?_
     refine aj 14 ?_
     refine jf 15 λK hK=>?_
     go_simp
     refine rpu hK (by((try dsimp only)<;>(first|exact⟨c7,c16⟩|exact⟨by rw[ae1,ae1,ait _ _ _ _ _ n7];exact c7,by rw[ae1,ae1,ait _ _ _ _ _ n16];exact c16⟩))) λak=>?_
     clear hK K
     refine jg ?_
     go_wp2
     go_roundw
     case rel =>
      obtain⟨h2,h1,hf⟩:=HH.out
      have hYX:w.heap.size≠X:=by omega
      refine⟨k+1,by omega,by omega,by go_num,?_,⟨cs,?_,hz⟩,?_⟩
      ·rw[HS.out]
       have g0:=vk wr X k _ _ _ (.int .u32 (wi (x16+aKu x15+x7+aKt x2))) h2
       rw[av9 _ _ _ _ (by rw[um]) (by rw[um];omega)]at g0
       exact g0
      ·rw[heap_drew,heap_drew,Below.heap_setCell _ _ _ _ hYX]
       exact h1
      ·exact(hf.setCell (p:=⟨X,_,none⟩) (λh=>by simp only at h;omega) _).drew.drew
     case measure=>simp[intOf];omega
    ·obtain rfl:k=64:=by omega
     have hfull:awj (sch bs 64) 64=((sch bs 64).map W32).toArray:=aDq _ _ (um _ _)
     rw[hfull]at h2
     have hb:((sch bs 64).map W32).toArray.size=64:=by simp[um]
     go_wp2_with (first|refine wpList_load_row rfl 235 (.tmp 3) rfl X rfl 235 _ (0,0) _ h2 Tryz.underlying235 rfl (by rw[Tryz.sz64,hb]) ?_|refine wpList_store_row rfl 235 (.tmp 2) (.tmp 92) rfl w.heap.size _ rfl rfl 235 cs h1 (by rw[Tryz.sz64,hb]) (by rw[hz,hb]) (aff _) ?_)
     refine bodyPost_ret (results_cell_row rfl _ _ w.heap.size _ _ _ _ rfl (setRow_heap _ _ _ _ _ _ h1) Tryz.underlying235 rfl (by rw[Tryz.sz64,hb])) rfl ⟨rfl,?_⟩
     exact hf.setRow (λh=>by omega) _
end Go.Proofs.YtjlelckefiannaaGreatDoor
namespace Go.Proofs.YtjlelckefiannaaGreatDoor
set_option linter.unusedVariables false
set_option linter.unusedSimpArgs false
open Go.RowKit
attribute [local go_sem high] ac4 afy ac0 ac3 ac5 ac2 ac1 adr ads
def Cub(w:World):Prop:=∀j,j<64→w.cell? ⟨0,j,none⟩=some (.int .u32 (wi (aei.getD j 0)))
theorem Cub.lt{w:World}(h:Cub w):0<w.heap.size:=World.block_lt_of_cell? w ⟨0,0,none⟩ (h 0 aPl)
theorem Cub.fr{S:Nat→Prop}{w w':World}(h:Cub w)(hf:Fr S w w')(hs:¬S 0):Cub w':=λj hj=>hf.cell (p:=⟨0,j,none⟩) hs (h j hj)
theorem akd(s:List Wd)(hs:s.length=8)(a:Option Addr)(n c:Nat)(bs:List UInt8)(hn:n=64)(hl:bs.length=64)(w:World)(h:Bs w a c bs)(zn:Cub w):
  Calls Tryz.prog 126 #[.agg (s.map W32).toArray,.slice a n c] w λe w'=>e = .returned (.agg ((compress bs s).map W32).toArray)∧Fr F0 w w':=by
 subst hn
 have hclt:=zn.lt
 have HC:=Lib.hid zn
 obtain⟨va,vb,vc,vd,ve,vf,vg,vh,hsd⟩:=eight hs
 have HSD:=Lib.hid hsd
 have HB:=Lib.hid h
 have b1:((w.alloc (.cells (s.map W32).toArray 200)).alloc (.cells #[.int .u32 0,.int .u32 0,.int .u32 0,.int .u32 0,.int .u32 0,.int .u32 0,.int .u32 0,.int .u32 0] 200)).heap[w.heap.size]? = some (.cells (s.map W32).toArray 200 (0,0)):=heap_alloc2_old _ _ _
 have d0:=(cell_of_row _ _ 0 _ _ _ b1).trans (show _=some (.int .u32 (wi va)) by rw[hsd];rfl)
 have d1:=(cell_of_row _ _ 1 _ _ _ b1).trans (show _=some (.int .u32 (wi vb)) by rw[hsd];rfl)
 have d2:=(cell_of_row _ _ 2 _ _ _ b1).trans (show _=some (.int .u32 (wi vc)) by rw[hsd];rfl)
 have d3:=(cell_of_row _ _ 3 _ _ _ b1).trans (show _=some (.int .u32 (wi vd)) by rw[hsd];rfl)
 have d4:=(cell_of_row _ _ 4 _ _ _ b1).trans (show _=some (.int .u32 (wi ve)) by rw[hsd];rfl)
 have d5:=(cell_of_row _ _ 5 _ _ _ b1).trans (show _=some (.int .u32 (wi vf)) by rw[hsd];rfl)
 have d6:=(cell_of_row _ _ 6 _ _ _ b1).trans (show _=some (.int .u32 (wi vg)) by rw[hsd];rfl)
 have d7:=(cell_of_row _ _ 7 _ _ _ b1).trans (show _=some (.int .u32 (wi vh)) by rw[hsd];rfl)
 clear hsd b1 h zn
 go_enter Tryz.func126,Tryz.ntmps126
 go_wp2_with fail
 refine jm (S:=(λw'=>w'.cell? ⟨w.heap.size,0,none⟩=some (.int .u32 (wi va))∧w'.cell? ⟨w.heap.size,1,none⟩=some (.int .u32 (wi vb))∧w'.cell? ⟨w.heap.size,2,none⟩=some (.int .u32 (wi vc))∧w'.cell? ⟨w.heap.size,3,none⟩=some (.int .u32 (wi vd))∧w'.cell? ⟨w.heap.size,4,none⟩=some (.int .u32 (wi ve))∧w'.cell? ⟨w.heap.size,5,none⟩=some (.int .u32 (wi vf))∧w'.cell? ⟨w.heap.size,6,none⟩=some (.int .u32 (wi vg))∧w'.cell? ⟨w.heap.size,7,none⟩=some (.int .u32 (wi vh)))) ?_ λak=>?_
 ·exact(by((try dsimp only)<;>(exact⟨d0,d1,d2,d3,d4,d5,d6,d7⟩)))
 refine aj 0 ?_
 refine aj 1 ?_
 refine aj 2 ?_
 refine aj 3 ?_
 refine aj 4 ?_
 refine aj 5 ?_
 refine aj 6 ?_
 refine aj 7 ?_
 refine aj 8 ?_
 refine aj 9 ?_
 refine aj 10 ?_
 refine aj 11 ?_
 refine aj 12 ?_
 refine aj 13 ?_
 refine aj 14 ?_
 refine aj 15 ?_
 refine aj 16 ?_
 refine aj 17 ?_
 refine aj 18 ?_
 refine aj 19 ?_
 refine aj 20 ?_
 refine aj 21 ?_
 refine aj 22 ?_
 refine aj 23 ?_
 refine jg ?_
 clear d0 d1 d2 d3 d4 d5 d6 d7 ak
 generalize hY:w.heap.size+1=Y
 have hW:Fr F0 w (((w.alloc (.cells (s.map W32).toArray 200)).alloc (.cells #[.int .u32 0,.int .u32 0,.int .u32 0,.int .u32 0,.int .u32 0,.int .u32 0,.int .u32 0,.int .u32 0] 200)).drew):=(((Fr.refl F0 w).alloc _).alloc _).drew
 have h0:(((w.alloc (.cells (s.map W32).toArray 200)).alloc (.cells #[.int .u32 0,.int .u32 0,.int .u32 0,.int .u32 0,.int .u32 0,.int .u32 0,.int .u32 0,.int .u32 0] 200)).drew).heap[w.heap.size]? = some (.cells (s.map W32).toArray 200 (0,0)):=heap_alloc2_old _ _ _
 have h1:(((w.alloc (.cells (s.map W32).toArray 200)).alloc (.cells #[.int .u32 0,.int .u32 0,.int .u32 0,.int .u32 0,.int .u32 0,.int .u32 0,.int .u32 0,.int .u32 0] 200)).drew).heap[Y]? = some (.cells #[.int .u32 0,.int .u32 0,.int .u32 0,.int .u32 0,.int .u32 0,.int .u32 0,.int .u32 0,.int .u32 0] 200 (0,0)):=by subst hY;exact heap_alloc2_new _ _ _
 generalize (((w.alloc (.cells (s.map W32).toArray 200)).alloc (.cells #[.int .u32 0,.int .u32 0,.int .u32 0,.int .u32 0,.int .u32 0,.int .u32 0,.int .u32 0,.int .u32 0] 200)).drew)=w1 at *
 go_wp2_with fail
 refine(aqx a c bs hl w1 (Sl.fr HB.out hW λ_ _ f=>f)).mono ?_
 rintro e w2 ⟨rfl,h2⟩
 replace h0:=h2.keeps (λf=>f) h0
 replace h1:=h2.keeps (λf=>f) h1
 replace h2:=hW.trans' h2
 clear hW
 go_wp2_with fail
 go_loopw [5,6,7,8,9,10,11,12,37] (λv0 v1 v2 v3 v4 v5 v6 v7 i wr=>∃k:Nat,k≤64∧i = .int .i64 k∧(∃a b c d e f g h,ayr bs s k = [a,b,c,d,e,f,g,h]∧v0 = .int .u32 (wi a)∧v1 = .int .u32 (wi b)∧v2 = .int .u32 (wi c)∧v3 = .int .u32 (wi d)∧v4 = .int .u32 (wi e)∧v5 = .int .u32 (wi f)∧v6 = .int .u32 (wi g)∧v7 = .int .u32 (wi h))∧wr.heap[w.heap.size]? = some (.cells (s.map W32).toArray 200 (0,0))∧(∃cs,wr.heap[Y]? = some (.cells cs 200 (0,0))∧cs.size=8)∧Fr F0 w wr) (λ_ _ _ _ _ _ _ _ i _=>64-(intOf i).toNat)
 case atStart=>exact⟨0,by omega,rfl,⟨va,vb,vc,vd,ve,vf,vg,vh,HSD.out,rfl,rfl,rfl,rfl,rfl,rfl,rfl,rfl⟩,h0,⟨_,h1,rfl⟩,h2⟩
 case round =>
  clear h0 h1 h2
  obtain⟨k,hk,rfl,⟨xa,xb,xc,xd,xe,xf,xg,xh,hr,rfl,rfl,rfl,rfl,rfl,rfl,rfl,rfl⟩,h0,⟨cs,h1,hz⟩,hf⟩:=hrel
  have HR:=Lib.hid hr
  clear hr
  by_cases hk8:k<64
  ·have hx:((sch bs 64).map W32).toArray[k]? = some (.int .u32 (wi ((sch bs 64).getD k 0))):=by
    simp[List.getD,List.getElem?_eq_getElem (show k<(sch bs 64).length by rw[um];exact hk8)]
   have hq:wr.cell? ⟨0,k,none⟩=some (.int .u32 (wi (aei.getD k 0))):=HC.out.fr hf (λf=>f) k hk8
   have HS:=Lib.hid (show ayr bs s (k+1)=stp (aei.getD k 0) ((sch bs 64).getD k 0) (ayr bs s k)from rfl)
   generalize (sch bs 64).getD k 0=x at *
   generalize aei.getD k 0=q at *
   have hi:=λw=>abu (P:=Tryz.prog) w 235 25 64 _ .i64 k _ Tryz.underlying235 Tryz.underlying25 rfl (by kernel_rfl) _ hk8 hx
   have HH:=Lib.hid (And.intro h0 (And.intro h1 hf))
   have lk:(k:Int)<64:=by omega
   clear h0 h1 hf hx
   go_wp2_with fail
   have hqd:wr.drew.cell? ⟨0,k,none⟩=some (.int .u32 (wi q)):=hq
   refine jm (S:=(λw'=>w'.cell? ⟨0,k,none⟩=some (.int .u32 (wi q)))) ?_ λak=>?_
   ·exact(by((try dsimp only)<;>(exact hqd)))
   refine aj 0 ?_
   refine aj 1 ?_
   refine aj 4 ?_
   refine aj 6 ?_
   refine aj 7 ?_
   refine aj 8 ?_
   refine aj 10 ?_
   refine jf 2 λK hK=>?_
   go_simp
   (refine(al7 xe 6 11 25 _ aPl aPl aPl).mono ?_;rintro e w5 ⟨rfl,rfl⟩)
   refine rpu hK (by((try dsimp only)<;>(exact hqd))) λak=>?_
   clear hK K
   refine aj 3 ?_
   refine aj 5 ?_
   refine aj 9 ?_
   refine aj 11 ?_
   refine aj 12 ?_
   refine jg ?_
   go_wp2_with fail
   refine(al7 xa 2 13 22 _ aPl aPl aPl).mono ?_
   rintro e w5 ⟨rfl,rfl⟩
   go_wp2
   go_roundw
   case rel =>
    obtain⟨h0,h1,hf⟩:=HH.out
    exact⟨k+1,by omega,by go_num,⟨_,_,_,_,_,_,_,_,by rw[HS.out,HR.out];rfl,rfl,rfl,rfl,rfl,rfl,rfl,rfl,rfl⟩,h0,⟨cs,h1,hz⟩,hf.drew⟩
   case measure=>simp[intOf];omega
  ·have aOp:k=64:=by omega
   have HS:ayr bs s 64 = [xa,xb,xc,xd,xe,xf,xg,xh]:=by rw[←aOp];exact HR.out
   have HS2:compress bs s=List.zipWith (· + ·) s [xa,xb,xc,xd,xe,xf,xg,xh]:=by rw[compress,HS]
   have e0:=HSD.out
   rw[e0]at HS2 h0
   have d0:=(cell_of_row _ _ 0 _ _ _ h0).trans (show _=some (.int .u32 (wi va)) by rfl)
   have d1:=(cell_of_row _ _ 1 _ _ _ h0).trans (show _=some (.int .u32 (wi vb)) by rfl)
   have d2:=(cell_of_row _ _ 2 _ _ _ h0).trans (show _=some (.int .u32 (wi vc)) by rfl)
   have d3:=(cell_of_row _ _ 3 _ _ _ h0).trans (show _=some (.int .u32 (wi vd)) by rfl)
   have d4:=(cell_of_row _ _ 4 _ _ _ h0).trans (show _=some (.int .u32 (wi ve)) by rfl)
   have d5:=(cell_of_row _ _ 5 _ _ _ h0).trans (show _=some (.int .u32 (wi vf)) by rfl)
   have d6:=(cell_of_row _ _ 6 _ _ _ h0).trans (show _=some (.int .u32 (wi vg)) by rfl)
   have d7:=(cell_of_row _ _ 7 _ _ _ h0).trans (show _=some (.int .u32 (wi vh)) by rfl)
   have HS3:=Lib.hid HS2
   clear HS HS2 aOp e0 h0
   go_wp2_with (refine wpList_store_row rfl 200 (.tmp 4) (.tmp 121) rfl Y ([va+xa,vb+xb,vc+xc,vd+xd,ve+xe,vf+xf,vg+xg,vh+xh].map W32).toArray rfl rfl 200 cs h1 Tryz.sz8 hz (aff _) ?_)
   refine bodyPost_ret (results_cell_row rfl _ _ Y _ _ _ _ rfl (setRow_heap _ _ _ _ _ _ h1) Tryz.underlying200 rfl Tryz.sz8) rfl ⟨?_,?_⟩
   ·rw[HSD.out,HS3.out]
    rfl
   ·exact hf.setRow (λh=>by omega) _
end Go.Proofs.YtjlelckefiannaaGreatDoor
namespace Go.Proofs.YtjlelckefiannaaGreatDoor
set_option linter.unusedVariables false
set_option linter.unusedSimpArgs false
open Go.RowKit
theorem au6(L:List UInt8)(p:Nat)(v:UInt8):((L.map B8).toArray.setIfInBounds p (.int .u8 (v.toNat:Int)))=((L.set p v).map B8).toArray:=by
 apply Array.ext'
 simp only[Array.toList_setIfInBounds]
 rw[List.map_set]
 rfl
def ay9(r:List UInt8)(n k:Nat):List UInt8:=r ++ [128]++List.replicate (aao r.length-9-r.length) 0++(List.replicate (8-k) 0++(be8 (8*n)).drop (8-k))
theorem aHf(r:List UInt8)(n:Nat):ay9 r n 8=fil r n:=by simp[ay9,fil]
theorem atr(r:List UInt8)(n k:Nat)(h:r.length<64)(hk:k≤8):(ay9 r n k).length=aao r.length:=by
 simp[ay9,afq,aao]
 split<;>omega
theorem aC4(r:List UInt8)(n q:Nat)(hq:q=aao r.length)(h:r.length<64):(r++List.replicate (q-r.length) 0).set r.length 128=ay9 r n 0:=by
 have h8:q-r.length=(q-9-r.length)+8+1:=by rw[hq];unfold aao;split<;>omega
 rw[h8,List.replicate_succ,List.set_append_right _ _ (Nat.le_refl _),Nat.sub_self,List.set_cons_zero,ay9,←hq]
 rw[List.drop_eq_nil_of_le (by rw[afq];omega),List.append_nil]
 simp only[Nat.sub_zero,List.append_assoc,List.replicate_append_replicate,List.cons_append,List.nil_append]
theorem aNl(x i:Nat)(h:i<8):(be8 x)[7-i]? = some (UInt8.ofNat (x/2 ^ (8*i))):=by
 simp[be8,List.getElem?_map,List.getElem?_range (show 7-i<8 by omega)]
 congr 3
 omega
theorem aC5(r:List UInt8)(n k:Nat)(h:r.length<64)(hk:k<8):(ay9 r n k).set (aao r.length-1-k) (UInt8.ofNat (8*n/2 ^ (8*k)))=ay9 r n (k+1):=by
 have hA:(r ++ [128]++List.replicate (aao r.length-9-r.length) (0:UInt8)).length=aao r.length-8:=by
  simp[aao]
  split<;>omega
 have h8:aao r.length≥64:=by unfold aao;split<;>omega
 unfold ay9
 generalize r ++ [128]++List.replicate (aao r.length-9-r.length) (0:UInt8)=A at *
 have e1:8-k=(7-k)+1:=by omega
 have e2:8-(k+1)=7-k:=by omega
 have hd:(be8 (8*n)).drop (7-k)=UInt8.ofNat (8*n/2 ^ (8*k))::(be8 (8*n)).drop (8-k):=by
  have hg:=aNl (8*n) k hk
  obtain⟨hlt,hg⟩:=List.getElem?_eq_some_iff.1 hg
  rw[List.drop_eq_getElem_cons hlt,hg,e1]
 rw[e2,hd,e1,List.replicate_succ',List.set_append_right _ _ aPl,hA]
 congr 1
 rw[List.append_assoc,List.set_append_right _ _ (by simp;omega)]
 congr 1
 simp only[List.length_replicate,List.cons_append,List.nil_append]
 rw[show aao r.length-1-k-(aao r.length-8)-(7-k)=0 by omega]
 rfl
theorem aGp{w:World}{base e g n:Nat}{xs:List Value}(h:w.ownsRow base e 1 (.slice (some ⟨g,0,none⟩) n n) n xs):w.heap[g]? = some (.cells xs.toArray e (0,0)):=by
 rcases h.2 with⟨h,_⟩|⟨g',cap,cur,h,_,hg,hn,hm,hs,ht⟩
 ·cases h
 ·cases h
  rw[hg,←ht]
  congr 2
  apply Array.ext'
  simp[hs,List.take_of_length_le]
theorem Bs.aJy{w:World}{g:Nat}{t:TypeId}{L:List UInt8}(h:w.heap[g]? = some (.cells (L.map B8).toArray t (0,0)))(hm:L.length≤maxLen):Bs w (some ⟨g,0,none⟩) L.length L :=
 ⟨by simp,Nat.le_refl _,hm,(λe=>by cases e),λj u hj=>⟨g,0,rfl,by rw[Nat.zero_add,cell_of_row w g j _ t _ h];simpa using hj⟩⟩
theorem aqv(r:List UInt8)(q:Nat)(h:r.length≤q):splice (madeCells #[Value.int IntKind.u8 0] q).toList 0 (r.map B8)=(r++List.replicate (q-r.length) 0).map B8:=by
 have e:(madeCells #[Value.int IntKind.u8 0] q).toList=List.replicate q (B8 0):=by
  apply List.ext_getElem
  ·simp[madeCells]
  ·intro i h1 h2
   simp[madeCells,Nat.mod_one]
   rfl
 rw[e]
 simp[splice]
theorem Bs.src{w:World}{a:Option Addr}{c:Nat}{r:List UInt8}(h:Bs w a c r)(hn:0<(r.map B8).length):∃ad,a=some ad∧∀j v,(r.map B8)[j]? = some v→w.cell? (ad.add j)=some v:=by
 cases a with
 |none =>
  have h0:=h.nil rfl
  have:=h.room
  simp at hn
  omega
 |some ad=>exact⟨ad,rfl,h.addr⟩
theorem ax9(a:Option Addr)(n c:Nat)(r:List UInt8)(hn:n=r.length)(hr:r.length<64)(m:Nat)(hm:m≤140737488355328)(w:World)(h:Bs w a c r):
  Calls Tryz.prog 127 #[.slice a n c,.int .u64 (m:Int)] w λe w'=>∃b,e = .returned (.slice (some ⟨b,0,none⟩) (aao r.length) (aao r.length))∧Bs w' (some ⟨b,0,none⟩) (aao r.length) (fil r m)∧Fr F0 w w'∧w.heap.size≤b:=by
 subst hn
 obtain⟨i0,hi,hz0,hz1,hz2⟩:=info_parts Tryz.infoU8
 obtain⟨q,hq⟩:∃q,q=aao r.length:=⟨_,rfl⟩
 have hq2:q=if 56≤r.length then 128 else 64:=hq
 have hqs:q=64∨q=128:=by rw[hq2];split<;>omega
 rw[←hq]
 have HQ:=Lib.hid hq
 have HB:=Lib.hid h
 go_enter Tryz.func127,Tryz.ntmps127
 go_upto_if 12 with fail
 go_cut [5] (λv w'=>v = .int .i64 (q:Int)∧w'=w)
 case first =>
  by_cases h56:56≤r.length
  ·have hq8:q=128:=by rw[hq2,if_pos h56]
   have h57:(56:Int)≤(r.length:Int):=by omega
   subst hq8
   go_wp2_with fail
   go_meet
   case rel=>exact⟨rfl,rfl⟩
  ·have hq8:q=64:=by rw[hq2,if_neg h56]
   have h57:¬(56:Int)≤(r.length:Int):=by omega
   subst hq8
   go_wp2_with fail
   go_meet
   case rel=>exact⟨rfl,rfl⟩
 case rest =>
  obtain⟨rfl,rfl⟩:=hcut
  have hlq:(q:Int)<129:=by omega
  have hgq:(63:Int)<q:=by omega
  clear hq hq2
  have hrl:(r.length:Int)<q:=by omega
  have hmin:r.length.min q=r.length:=Nat.min_eq_left aPl
  go_wp2_with (first|(at_make;refine wpList_make_full wc rfl _ _ _ rfl 0 5 i0 _ 1 Tryz.underlying22 hi hz0 hz1 .i64 .i64 q q q rfl rfl rfl rfl (by rw[hz2];omega) aPn (Nat.zero_le _) ?_;intro w1 ho hg)|(refine wpList_copy_splice rfl (.tmp 17) (.tmp 18) 22 22 rfl 5 Tryz.underlying22 (by rw[hi];simp[hz1]) _ _ _ _ _ _ rfl rfl wc.heap.size 0 _ 5 (aGp ho) (r.map B8) (by simp[hmin]) (λhp=>⟨rfl,Bs.src (Sl.fr HB.out ((Fr.refl F0 wc).grown hg (λk e=>by cases e)) λ_ _ f=>f) hp⟩) (by simp[madeCells];omega) Bs.one wc.heap.size wc (((Fr.refl F0 wc).grown hg (λk e=>by cases e)).below (Nat.le_refl _) λ_ _ f=>f) (Nat.le_refl _) ?_))
  intro w2 hb2 hf2
  rw[aqv r q aPl]at hb2
  have hF2:Fr F0 wc w2:=Fr.of_below hf2
  have hb2:=hb2.out
  generalize hX:wc.heap.size=X at *
  have c0:w2.cell? ⟨X,r.length,none⟩=some (.int .u8 0):=by
   rw[cell_of_row w2 X _ _ _ _ hb2]
   simp[List.getElem?_append_right,List.getElem?_replicate]
   exact⟨by omega,rfl⟩
  have z0:=aco (i:=r.length) hb2
  have HF2:=Lib.hid hF2
  have HB2:=Lib.hid hb2
  clear ho hg hF2 hf2 hb2
  have hm8:IntKind.u64.wrap ((m:Int)*8)=((8*m:Nat):Int):=by rw[IntWalk.u64_in _ aPl];omega
  generalize h8:8*m=M at *
  have H8:=Lib.hid h8
  clear h8
  go_wp2_with fail
  have hst:(w2.setCell ⟨X,r.length,none⟩ (.int .u8 128)).heap[X]? = some (.cells ((ay9 r m 0).map B8).toArray 5 (0,0)):=by
   have g:=vk w2 X r.length _ _ _ (.int .u8 ((128:UInt8).toNat:Int)) HB2.out
   rw[au6,aC4 r m q HQ.out hr]at g
   exact g
  have HST:=Lib.hid hst
  clear hst c0 z0
  go_loopw [25] (λi wr=>∃k:Nat,k≤8∧i = .int .i64 k∧wr.heap[X]? = some (.cells ((ay9 r m k).map B8).toArray 5 (0,0))∧Fr F0 wc wr) (λi _=>8-(intOf i).toNat)
  case atStart=>exact⟨0,by omega,rfl,HST.out,HF2.out.setCell (p:=⟨X,_,none⟩) (λh=>by simp only at h;omega) _⟩
  case round =>
   obtain⟨k,hk,rfl,h2,hf⟩:=hrel
   by_cases hk8:k<8
   ·have hL:=atr r m k hr aPl
    rw[←HQ.out]at hL
    obtain⟨p1,hp1⟩:∃p,p=q-1:=⟨_,rfl⟩
    obtain⟨p,hp⟩:∃p,p=p1-k:=⟨_,rfl⟩
    obtain⟨s,hs⟩:∃s,s=8*k:=⟨_,rfl⟩
    have m1:IntKind.i64.wrap ((q:Int)-1)=(p1:Int):=by rw[IntWalk.i64_in _ aPl];omega
    have m2:IntKind.i64.wrap ((p1:Int)-k)=(p:Int):=by rw[IntWalk.i64_in _ aPl];omega
    have m3:IntKind.i64.wrap (8*(k:Int))=(s:Int):=by rw[IntWalk.i64_in _ aPl];omega
    have l1:(p:Int)<q:=by omega
    have l2:(s:Int)<64:=by omega
    have c0:∃v,wr.cell? ⟨X,p,none⟩=some v:=by
     rw[cell_of_row wr X _ _ _ _ h2]
     exact⟨_,Array.getElem?_eq_getElem (by simp[hL];omega)⟩
    obtain⟨v0,c0⟩:=c0
    have z0:=aco (i:=p) h2
    have HH:=Lib.hid (And.intro h2 hf)
    have HP:=Lib.hid (And.intro hp1 (And.intro hp hs))
    clear h2 hf hp hp1 hs hL
    go_wp2
    go_roundw
    case rel =>
     obtain⟨h2,hf⟩:=HH.out
     obtain⟨hp1,hp,hs⟩:=HP.out
     have hv:(M:Int)/2 ^ s % 256=(((UInt8.ofNat (M/2 ^ s)).toNat:Nat):Int):=by
      show _=((M/2 ^ s % 256:Nat):Int)
      rw[Int.natCast_emod,Int.natCast_ediv,Int.natCast_pow]
      rfl
     refine⟨k+1,by omega,by go_num,?_,hf.setCell (p:=⟨X,_,none⟩) (λh=>by simp only at h;omega) _⟩
     rw[hv]
     have g:=vk wr X p _ _ _ (.int .u8 ((UInt8.ofNat (M/2 ^ s)).toNat:Int)) h2
     have e:p=aao r.length-1-k:=by rw[hp,hp1,HQ.out]
     rw[au6,←H8.out,hs,e,aC5 r m k hr hk8]at g
     rw[←H8.out,hs,e]
     exact g
    case measure=>simp[intOf];omega
   ·obtain rfl:k=8:=by omega
    go_wp2
    go_ret
    refine⟨X,rfl,?_,hf,by omega⟩
    rw[aHf]at h2
    have g:=Bs.aJy h2 (by rw[afo _ _ hr,←HQ.out];unfold maxLen;omega)
    rw[afo _ _ hr,←HQ.out]at g
    exact g
end Go.Proofs.YtjlelckefiannaaGreatDoor
