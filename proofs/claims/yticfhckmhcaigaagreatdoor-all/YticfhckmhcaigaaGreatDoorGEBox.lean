import Derived.Lib.ItoaLen
import Derived.Test.YticfhckmhcaigaaGreatDoorGEPure
namespace Go.Proofs.YticfhckmhcaigaaGreatDoor.Box
variable {l:List UInt8}
def iP(l:List UInt8):Option (Nat×List UInt8):=
 if 1<=l.length/\(l.getD 0 0).toNat<128 then some ((l.getD 0 0).toNat,l.drop 1)
 else if 2<=l.length/\(l.getD 0 0).toNat=129 then(if 128<=(l.getD 1 0).toNat then some ((l.getD 1 0).toNat,l.drop 2) else none)
 else if 3<=l.length/\(l.getD 0 0).toNat=130 then(if 256<=(l.getD 1 0).toNat*256+(l.getD 2 0).toNat then some ((l.getD 1 0).toNat*256+(l.getD 2 0).toNat,l.drop 3) else none)
 else none
def cut(l:List UInt8):Option (UInt8×List UInt8×List UInt8):=
 if l.length=0 then none
 else match iP (l.drop 1)with
  |some (n,r)=>if n<=r.length then some (l.getD 0 0,r.take n,r.drop n) else none
  |none=>none
def sign(b:UInt8):Int:=if b.toNat<128 then b.toNat else(b.toNat:Int)-256
def jm(v:Int)(l:List UInt8):Int:=l.foldl (λa b=>a*256+(b.toNat:Int)) v
def val(l:List UInt8):Int:=jm (sign (l.getD 0 0)) (l.drop 1)
def size(v:Int):Nat:=
 if -128<=v/\v<128 then 1
 else if -32768<=v/\v<32768 then 2
 else if -8388608<=v/\v<8388608 then 3
 else if -2147483648<=v/\v<2147483648 then 4
 else if -549755813888<=v/\v<549755813888 then 5
 else if -140737488355328<=v/\v<140737488355328 then 6
 else if -36028797018963968<=v/\v<36028797018963968 then 7
 else 8
def num(l:List UInt8):Option Int:=if 1<=l.length/\l.length<=8/\size (val l)=l.length then some (val l) else none
theorem tK(b):-128<=sign b/\sign b<128:=by
 have:=b.toNat_lt;unfold sign;split<;>omega
theorem Ad(v)(b)(l):jm v (b::l)=jm (v*256+(b.toNat:Int)) l:=rfl
theorem KX(v)(l)(b):jm v (l++[b])=jm v l*256+(b.toNat:Int):=by simp[jm]
theorem wH{M:Int}(l)(v)(d:-M<=v)(e:v<M):-(M*256 ^ l.length)<=jm v l/\jm v l<M*256 ^ l.length:=by
 induction l generalizing v M with
 |nil=>simp[jm];omega
 |cons b l a=>
  have f:=b.toNat_lt;have h:=a (M:=M*256) (v*256+(b.toNat:Int)) (by omega) (by omega);rw[Ad,List.length_cons,Int.pow_succ,Int.mul_comm (256 ^ l.length) 256,<-Int.mul_assoc];exact h
theorem rV(d:1<=l.length)(f:l.length<=8):-9223372036854775808<=val l/\val l<=9223372036854775807:=by
 have a:=tK (l.getD 0 0);have h:=wH (M:=128) (l.drop 1) _ a.1 a.2;have b:l.length-1<=7:=by omega
 have e:(l.drop 1).length=l.length-1:=by simp
 rw[e]at h;have g:(256:Int) ^ (l.length-1)<=256 ^ 7:=by
  have:(256:Nat) ^ (l.length-1)<=256 ^ 7:=Nat.pow_le_pow_right (by decide) b;grind
 grind [val]
theorem bitLen_le{k x:Nat}(a:x<2 ^ 64):Lib.bitLen x<=k↔x<2 ^ k:=by
 induction k generalizing x with
 |zero=>
  by_cases h:x=0
  .subst h;simp[Lib.bitLen,Lib.bitLenAux]
  grind [Lib.bitLen_half]
 |succ k b=>
  grind [Lib.bitLen_half]
theorem BB(v)(l:-9223372036854775808<=v)(n:v<=9223372036854775807)(m:Nat)(b:(m:Int)=if v<0 then -v-1 else v):
  (Lib.bitLen m+8) / 8=size v:=by
 have a:m<2 ^ 64:=by split at b<;>omega
 have o:=bitLen_le (k:=7) a
 have d:=bitLen_le (k:=15) a
 have e:=bitLen_le (k:=23) a
 have f:=bitLen_le (k:=31) a
 have g:=bitLen_le (k:=39) a
 have h:=bitLen_le (k:=47) a
 have i:=bitLen_le (k:=55) a
 have j:=bitLen_le (k:=63) a
 simp only[Nat.reducePow]at *
 unfold size
 split at b<;>(repeat' split)<;>omega
def NI(n:Nat):UInt8:=if n<10 then UInt8.ofNat (48+n) else UInt8.ofNat (87+n)
def hex(l:List UInt8):List UInt8:=l.flatMap λb=>[NI (b.toNat / 16),NI (b.toNat % 16)]
theorem zq(l):(hex l).length=2*l.length:=by
 induction l with
 |nil=>rfl
 |cons b l a=>grind [hex]
theorem ED(a b):hex (a++b)=hex a++hex b:=by simp[hex]
def all(sh:List UInt8->Option (List UInt8×List UInt8)):Nat->List UInt8->Option (List (List UInt8))
 |0,l=>if l.length=0 then some [] else none
 |n+1,l=>if l.length=0 then some [] else
  match sh l with
  |none=>none
  |some (t,r)=>(all sh n r).map (t::·)
def commas:List (List UInt8)->List UInt8
 | []=>[]
 | [t]=>t
 |t::ts=>t++44::commas ts
def leaf(tag:UInt8)(l:List UInt8):Option (List UInt8):=
 if tag.toNat=2 then(num l).map Lib.itoa else if tag.toNat=4 then some (34::hex l++[34]) else none
def piece(inner:List UInt8->Option (List (List UInt8)))(tag:UInt8)(l:List UInt8):Option (List UInt8):=
 if tag.toNat=48 then(inner l).map λts=>123::commas ts++[125] else leaf tag l
def gJ:Nat->List UInt8->Option (List UInt8×List UInt8)
 |0,l=>match cut l with
  |none=>none
  |some (tag,i,r)=>(leaf tag i).map (·,r)
 |d+1,l=>match cut l with
  |none=>none
  |some (tag,i,r)=>(piece (λi=>all (gJ d) i.length i) tag i).map (·,r)
def whole(l:List UInt8):Option (List UInt8):=
 match gJ 8 l with
 |some (t,[])=>some t
 |_=>none
theorem yR{r:List UInt8}{n:Nat}(h:iP l=some (n,r)):r.length<l.length:=by
 unfold iP at h;(repeat' split at h)<;>simp at h<;>obtain⟨_,rfl⟩:=h<;>simp<;>omega
theorem gK{i r:List UInt8}{a:UInt8}(h:cut l=some (a,i,r)):i.length+r.length+2<=l.length:=by
 unfold cut at h;split at h
 .simp at h
 .split at h
  .rename_i n r' h';have:=yR h';grind
  .simp at h
variable {sh:List UInt8->Option (List UInt8×List UInt8)}
def rW(sh:List UInt8->Option (List UInt8×List UInt8))(l:List UInt8):Option (List (List UInt8)):=all sh l.length l
def DX(sh:List UInt8->Option (List UInt8×List UInt8)):Prop:=∀l t r,sh l=some (t,r)->r.length<l.length
theorem ZC(d:DX sh):∀(n)(l),l.length<=n->all sh n l=rW sh l:=by
 suffices H:∀(n m:Nat)(l:List UInt8),l.length<=n->l.length<=m->all sh n l=all sh m l from λn l h=>H n l.length l h (Nat.le_refl _)
 intro n;induction n with
 |zero=>
  intro m l b _;have a:l.length=0:=by omega
  cases m with
  |zero=>rfl
  |succ m=>simp[all,a]
 |succ n e=>
  intro m l b g;cases m with
  |zero=>
   grind
  |succ m=>
   by_cases a:l.length=0
   .simp[all,a]
   .simp only[all,if_neg a];cases h:sh l with
    |none=>rfl
    |some f=>
     obtain⟨t,r⟩:=f;have:=d l t r h;simp only;rw[e m r (by omega) (by omega)]
theorem NJ(sh:List UInt8->Option (List UInt8×List UInt8)):rW sh []=some []:=rfl
theorem uF{l:List UInt8}(b:0<l.length)(h:sh l=none):rW sh l=none:=by
 unfold rW;obtain⟨m,a⟩:∃m,l.length=m+1:=⟨l.length-1,by omega⟩
 rw[a,all,if_neg (by omega),h]
theorem xU(b:DX sh){l t r:List UInt8}(h:sh l=some (t,r)):rW sh l=(rW sh r).map (t::·):=by
 have a:=b l t r h;unfold rW;obtain⟨m,d⟩:∃m,l.length=m+1:=⟨l.length-1,by omega⟩
 grind [ZC,all]
theorem Hg{p:Prop}(h:p:=by
 rw[gJ]at h
 split at h
 .simp at h
 .rename_i tag i r' hc
  have:=gK hc
  simp only[Option.map_eq_some_iff,Prod.mk.injEq]at h
  grind):p:=h
theorem jK(d):DX (gJ d):=by
 intro l t r h;cases d with
 |zero=>
  exact Hg
 |succ d=>
  exact Hg
theorem wI(d)(t):commas (d++[t])=if d=[] then t else commas d++44::t:=by
 induction d with
 |nil=>rfl
 |cons a d e=>
  cases d with
  |nil=>rfl
  |cons b d=>
   grind [commas]
def N4(sh:List UInt8->Option (List UInt8×List UInt8)):Prop:=∀l t r,sh l=some (t,r)->t.length+1+22*r.length<=22*l.length
theorem EE(t)(a):(commas (t::a)).length<=t.length+1+(commas a).length:=by
 cases a with
 |nil=>simp[commas]
 |cons b a=>simp[commas];omega
theorem Cv(e:DX sh)(g:N4 sh):∀(n)(l)(b),l.length<=n->rW sh l=some b->(commas b).length<=22*l.length:=by
 intro n;induction n with
 |zero=>
  grind [NJ,commas]
 |succ n i=>
  intro l b k h;cases a:sh l with
  |none=>
   grind [uF]
  |some j=>
   obtain⟨t,r⟩:=j;rw[xU e a]at h;simp only[Option.map_eq_some_iff]at h;obtain⟨d,f,rfl⟩:=h;have m:=e l t r a;have o:=i r d (by omega) f;have p:=g l t r a;grind [EE]
theorem wJ{a:UInt8}{i t:List UInt8}(h:leaf a i=some t):t.length<=21+2*i.length:=by
 grind [rV,Lib.itoa_length_le,zq,num,leaf]
theorem zt(d):N4 (gJ d):=by
 induction d with
 |zero=>
  intro l t r h;rw[gJ]at h;split at h
  .simp at h
  .rename_i tag i r' hc;have:=gK hc;simp only[Option.map_eq_some_iff,Prod.mk.injEq]at h;obtain⟨f,a,rfl,rfl⟩:=h;have:=wJ a;omega
 |succ d e=>
  intro l t r h;rw[gJ]at h;split at h
  .simp at h
  .rename_i tag i r' hc;have:=gK hc;simp only[Option.map_eq_some_iff,Prod.mk.injEq]at h;obtain⟨f,a,rfl,rfl⟩:=h;unfold piece at a;split at a
   .simp only[Option.map_eq_some_iff]at a;obtain⟨g,b,rfl⟩:=a;have:=Cv (jK d) e i.length i g (Nat.le_refl _) b;simp;omega
   .have:=wJ a;omega
