import Derived.Lib.ItoaLen
import Derived.Test.YtlfifnpjeangmaaGreatDoorGEPure
namespace Go.Proofs.YtlfifnpjeangmaaGreatDoor.Box
variable {l:List UInt8}
def iJ(l:List UInt8):Option (Nat×List UInt8):=
 if 1<=l.length/\(l.getD 0 0).toNat<128 then some ((l.getD 0 0).toNat,l.drop 1)
 else if 2<=l.length/\(l.getD 0 0).toNat=129 then(if 128<=(l.getD 1 0).toNat then some ((l.getD 1 0).toNat,l.drop 2) else none)
 else if 3<=l.length/\(l.getD 0 0).toNat=130 then(if 256<=(l.getD 1 0).toNat*256+(l.getD 2 0).toNat then some ((l.getD 1 0).toNat*256+(l.getD 2 0).toNat,l.drop 3) else none)
 else none
def cut(l:List UInt8):Option (UInt8×List UInt8×List UInt8):=
 if l.length=0 then none
 else match iJ (l.drop 1)with
  |some (n,r)=>if n<=r.length then some (l.getD 0 0,r.take n,r.drop n) else none
  |none=>none
def sign(b:UInt8):Int:=if b.toNat<128 then b.toNat else(b.toNat:Int)-256
def ja(v:Int)(l:List UInt8):Int:=l.foldl (λa b=>a*256+(b.toNat:Int)) v
def val(l:List UInt8):Int:=ja (sign (l.getD 0 0)) (l.drop 1)
def size(v:Int):Nat:=
 if -128<=v/\v<128 then 1
 else if -32768<=v/\v<32768 then 2
 else if -8388608<=v/\v<8388608 then 3
 else if -2147483648<=v/\v<2147483648 then 4
 else if -549755813888<=v/\v<549755813888 then 5
 else if -140737488355328<=v/\v<140737488355328 then 6
 else if -36028797018963968<=v/\v<36028797018963968 then 7
 else 8
def num(l:List UInt8):Option Int:=if 1<=l.length/\l.length<=8/\size (val l)=l.length then some (val l) else none
theorem sj(b):-128<=sign b/\sign b<128:=by
 have:=b.toNat_lt;unfold sign;split<;>omega
theorem ze(v)(b)(l):ja v (b::l)=ja (v*256+(b.toNat:Int)) l:=rfl
theorem Jh(v)(l)(b):ja v (l++[b])=ja v l*256+(b.toNat:Int):=by simp[ja]
theorem vF{M:Int}(l)(v)(d:-M<=v)(e:v<M):-(M*256 ^ l.length)<=ja v l/\ja v l<M*256 ^ l.length:=by
 induction l generalizing v M with
 |nil=>simp[ja];omega
 |cons b l a=>
  have f:=b.toNat_lt;have h:=a (M:=M*256) (v*256+(b.toNat:Int)) (by omega) (by omega);rw[ze,List.length_cons,Int.pow_succ,Int.mul_comm (256 ^ l.length) 256,<-Int.mul_assoc];exact h
theorem uA(d:1<=l.length)(f:l.length<=8):-9223372036854775808<=val l/\val l<=9223372036854775807:=by
 have a:=sj (l.getD 0 0);have h:=vF (M:=128) (l.drop 1) _ a.1 a.2;have b:l.length-1<=7:=by omega
 have e:(l.drop 1).length=l.length-1:=by simp
 rw[e]at h;have g:(256:Int) ^ (l.length-1)<=256 ^ 7:=by
  have:(256:Nat) ^ (l.length-1)<=256 ^ 7:=Nat.pow_le_pow_right (by decide) b;grind
 grind [val]
theorem bitLen_le{k x:Nat}(a:x<2 ^ 64):Lib.bitLen x<=k↔x<2 ^ k:=by
 induction k generalizing x with
 |zero=>
  by_cases h:x=0
  .subst h;simp[Lib.bitLen,Lib.bitLenAux]
  grind [Lib.bitLen_half]
 |succ k b=>
  grind [Lib.bitLen_half]
theorem Am(v)(l:-9223372036854775808<=v)(n:v<=9223372036854775807)(m:Nat)(b:(m:Int)=if v<0 then -v-1 else v):
  (Lib.bitLen m+8) / 8=size v:=by
 have a:m<2 ^ 64:=by split at b<;>omega
 have o:=bitLen_le (k:=7) a
 have d:=bitLen_le (k:=15) a
 have e:=bitLen_le (k:=23) a
 have f:=bitLen_le (k:=31) a
 have g:=bitLen_le (k:=39) a
 have h:=bitLen_le (k:=47) a
 have i:=bitLen_le (k:=55) a
 have j:=bitLen_le (k:=63) a
 simp only[Nat.reducePow]at *
 unfold size
 split at b<;>(repeat' split)<;>omega
def B0(n:Nat):UInt8:=if n<10 then UInt8.ofNat (48+n) else UInt8.ofNat (87+n)
def LS(l:List UInt8):List UInt8:=l.flatMap λb=>[B0 (b.toNat / 16),B0 (b.toNat % 16)]
def all(sh:List UInt8->Option (List UInt8×List UInt8)):Nat->List UInt8->Option (List (List UInt8))
 |0,l=>if l.length=0 then some [] else none
 |n+1,l=>if l.length=0 then some [] else
  match sh l with
  |none=>none
  |some (t,r)=>(all sh n r).map (t::·)
def B6:List (List UInt8)->List UInt8
 | []=>[]
 | [t]=>t
 |t::ts=>t++44::B6 ts
def BV(tag:UInt8)(l:List UInt8):Option (List UInt8):=
 if tag.toNat=2 then(num l).map Lib.itoa else if tag.toNat=4 then some (34::LS l++[34]) else none
def LI(inner:List UInt8->Option (List (List UInt8)))(tag:UInt8)(l:List UInt8):Option (List UInt8):=
 if tag.toNat=48 then(inner l).map λts=>123::B6 ts++[125] else BV tag l
def Ib:Nat->List UInt8->Option (List UInt8×List UInt8)
 |0,l=>match cut l with
  |none=>none
  |some (tag,i,r)=>(BV tag i).map (·,r)
 |d+1,l=>match cut l with
  |none=>none
  |some (tag,i,r)=>(LI (λi=>all (Ib d) i.length i) tag i).map (·,r)
def whole(l:List UInt8):Option (List UInt8):=
 match Ib 8 l with
 |some (t,[])=>some t
 |_=>none
theorem xK{r:List UInt8}{n:Nat}(h:iJ l=some (n,r)):r.length<l.length:=by
 unfold iJ at h;(repeat' split at h)<;>simp at h<;>obtain⟨_,rfl⟩:=h<;>simp<;>omega
theorem mP{i r:List UInt8}{a:UInt8}(h:cut l=some (a,i,r)):i.length+r.length+2<=l.length:=by
 unfold cut at h;split at h
 .simp at h
 .split at h
  .rename_i n r' h';have:=xK h';grind
  .simp at h
