import Derived.Test.YticfhckmhcaigaaGreatDoorGEBox
import Derived.Test.YticfhckmhcaigaaGreatDoorGEBase
namespace Go.Proofs.YticfhckmhcaigaaGreatDoor
theorem kH(v):1<=Box.size v/\Box.size v<=8:=by unfold Box.size;(repeat' split)<;>omega
end Go.Proofs.YticfhckmhcaigaaGreatDoor
namespace Go.Proofs.YticfhckmhcaigaaGreatDoor.Box
variable {l:E}
def head(tag:UInt8)(n:Nat):E:=
 if n<128 then [tag,UInt8.ofNat n] else if n<256 then [tag,129,UInt8.ofNat n] else [tag,130,UInt8.ofNat (n / 256),UInt8.ofNat (n % 256)]
def box(tag:UInt8)(l:E):E:=head tag l.length++l
theorem qm(a)(n):(head a n).length=if n<128 then 2 else if n<256 then 3 else 4:=by
 grind [head]
def mF(v:Int)(i:Nat):UInt8:=UInt8.ofNat (v / 2 ^ (8*i) % 256).toNat
def qp(v:Int)(k:Nat):Nat->E
 |0=>[]
 |j+1=>qp v k j++[mF v (k-1-j)]
def low(v:Int)(k:Nat):E:=qp v k k
theorem KY(v)(k j):(qp v k j).length=j:=by
 induction j with
 |zero=>rfl
 |succ j a=>simp[qp,a]
theorem ny(v)(k):(low v k).length=k:=KY v k k
theorem Rw(x)(b):mF (x*256+(b.toNat:Int)) 0=b:=by
 have:=b.toNat_lt;unfold mF;rw[Nat.mul_zero,Int.pow_zero,Int.ediv_one,show(x*256+(b.toNat:Int)) % 256=(b.toNat:Int) from by omega,Int.toNat_natCast];simp
theorem Rx(x)(b:UInt8)(i):mF (x*256+(b.toNat:Int)) (i+1)=mF x i:=by
 have:=b.toNat_lt;unfold mF;rw[show 8*(i+1)=8+8*i from by omega,Int.pow_add,show(2:Int) ^ 8=256 from by decide,<-Int.ediv_ediv_of_nonneg H,show(x*256+(b.toNat:Int)) / 256=x from by omega]
theorem Ry(x)(b:UInt8)(k j)(h:j<=k):qp (x*256+(b.toNat:Int)) (k+1) j=qp x k j:=by
 induction j with
 |zero=>rfl
 |succ j a=>rw[qp,qp,a G,show k+1-1-j=(k-1-j)+1 from by omega,Rx]
theorem NK(x)(b)(k):low (x*256+(b.toNat:Int)) (k+1)=low x k++[b]:=by
 unfold low;rw[qp,Ry x b k k (cA _),show k+1-1-k=0 from by omega,Rw]
theorem NL(l)(v)(k):low (jm v l) (k+l.length)=low v k++l:=by
 induction l generalizing v k with
 |nil=>simp[jm]
 |cons b l a=>
  rw[Ad,de,show k+(l.length+1)=(k+1)+l.length from by omega,a,NK];simp
theorem ZE(b):low (sign b) 1=[b]:=by
 have h:=NK (if b.toNat<128 then 0 else -1) b 0;have e:(if b.toNat<128 then(0:Int) else -1)*256+(b.toNat:Int)=sign b:=by
  unfold sign;split<;>omega
 rw[e]at h;exact h
theorem ad2(h:1<=l.length):low (val l) l.length=l:=by
 cases l with
 |nil=>simp at h
 |cons b l=>
  have:=NL l (sign b) 1;grind [ZE,val]
theorem lJ(a)(l):(box a l).length=l.length+(if l.length<128 then 2 else if l.length<256 then 3 else 4):=by
 grind [qm,box]
theorem Jy(a:1<=l.length)(b:l.length<=8)(v)(e:v=val l)(n)(d:n=size v):box 2 (low v n)=box 2 l↔size v=l.length:=by
 grind [lJ,ad2,ny]
def lead(l:E):Nat×Nat:=
 if (l.getD 1 0).toNat=129/\2<l.length then((l.getD 2 0).toNat,3)
 else if (l.getD 1 0).toNat=130/\3<l.length then((l.getD 2 0).toNat*256+(l.getD 3 0).toNat,4)
 else((l.getD 1 0).toNat,2)
def again(l:E):Option (UInt8×E×E):=
 if 2<=l.length/\(lead l).2+(lead l).1<=l.length/\box (l.getD 0 0) ((l.drop (lead l).2).take (lead l).1)=l.take ((lead l).2+(lead l).1) then
  some (l.getD 0 0,(l.drop (lead l).2).take (lead l).1,l.drop ((lead l).2+(lead l).1))
 else none
theorem sf(b):UInt8.ofNat b.toNat=b:=by simp
theorem two(l:E)(h:2<=l.length):∃a b r,l=a::b::r:=by
 match l,h with
 |a::b::r,_=>exact⟨a,b,r,rfl⟩
theorem EF{tag:UInt8}{n k:Nat}(a:k+n<=l.length)(h:(if n<128 then 2 else if n<256 then 3 else 4)≠k):¬ box tag ((l.drop k).take n)=l.take (k+n):=by
 grind [lJ]
theorem BD{tag:UInt8}{n k:Nat}(b:k+n<=l.length)(h:head tag n=l.take k):box tag ((l.drop k).take n)=l.take (k+n):=by
 have a:((l.drop k).take n).length=n:=iS;rw[box,a,h,List.take_add]
theorem Jz(l):again l=cut l:=by
 by_cases n:2<=l.length
 .obtain⟨tag,b,r,rfl⟩:=two l n;have t:=b.toNat_lt;unfold cut;rw[b' Z,List.drop_succ_cons,List.drop_zero];unfold again;by_cases f:b.toNat=129/\2<(tag::b::r).length
  .have j:lead (tag::b::r)=(((tag::b::r).getD 2 0).toNat,3):=(by unfold lead;rw[dQ (by simpa using f)]);rw[j];cases r with
   |nil=>simp at f
   |cons x r=>
    have p:=x.toNat_lt;have m:iP (b::x::r)=if 128<=x.toNat then some (x.toNat,r) else none:=by
     grind [iP]
    rw[m];have i:((tag::b::x::r).getD 2 0)=x:=rfl;have g:((tag::b::x::r).getD 0 0)=tag:=rfl;simp only[i,g];by_cases d:3+x.toNat<=(tag::b::x::r).length
    .by_cases e:128<=x.toNat
     .have k:=BD (tag:=tag) d (by unfold head;rw[b' G,dQ G,sf];rw[show(129:UInt8)=b from by rw[<-sf b,f.1];rfl];rfl);grind
     grind [EF]
    grind
  .by_cases a:b.toNat=130/\3<(tag::b::r).length
   .have j:lead (tag::b::r)=(((tag::b::r).getD 2 0).toNat*256+((tag::b::r).getD 3 0).toNat,4):=(by unfold lead;rw[b' (by simpa using f),dQ (by simpa using a)]);rw[j];match r,a with
    | [],a=>simp at a
    | [x],a=>simp at a
    |x::y::r,a=>
     have p:=x.toNat_lt;have q:=y.toNat_lt;have m:iP (b::x::y::r)=if 256<=x.toNat*256+y.toNat then some (x.toNat*256+y.toNat,r) else none:=by
      grind [iP]
     rw[m];have i:((tag::b::x::y::r).getD 2 0)=x:=rfl;have o:((tag::b::x::y::r).getD 3 0)=y:=rfl;have g:((tag::b::x::y::r).getD 0 0)=tag:=rfl;simp only[i,g,o];by_cases d:4+(x.toNat*256+y.toNat)<=(tag::b::x::y::r).length
     .by_cases e:256<=x.toNat*256+y.toNat
      .have k:=BD (tag:=tag) d (by
        unfold head;rw[b' G,b' G,show(x.toNat*256+y.toNat) / 256=x.toNat from by omega,show(x.toNat*256+y.toNat) % 256=y.toNat from by omega,sf,sf,show(130:UInt8)=b from by rw[<-sf b,a.1];rfl]
        rfl)
       rw[dQ ⟨n,d,k⟩,dQ e];simp only;rw[dQ (by simp at d;omega),<-List.drop_drop];rfl
      .have k:=EF (tag:=tag) d (by split<;>(try split)<;>omega);rw[b' (λh=>k h.2.2),b' e]
     .rw[b' (λh=>d h.2.1)];grind
   .have j:lead (tag::b::r)=(((tag::b::r).getD 1 0).toNat,2):=(by unfold lead;rw[b' (by simpa using f),b' (by simpa using a)]);rw[j];have i:((tag::b::r).getD 1 0)=b:=rfl;have g:((tag::b::r).getD 0 0)=tag:=rfl;simp only[i,g];by_cases d:b.toNat<128
    .grind [BD,sf,head,iP]
    grind [EF,iP]
 grind [again,iP,cut]
def qu:Nat->E->Option (List (UInt8×E))
 |0,l=>if l.length=0 then some [] else none
 |n+1,l=>if l.length=0 then some [] else
  match cut l with
  |none=>none
  |some (t,i,r)=>(qu n r).map ((t,i)::·)
theorem VX:∀(n m)(l),l.length<=n->l.length<=m->qu n l=qu m l:=by
 intro n;induction n with
 |zero=>
  intro m l b _;have a:l.length=0:=G;cases m with
  |zero=>rfl
  |succ m=>simp[qu,a]
 |succ n d=>
  intro m l b f;cases m with
  |zero=>
   grind
  |succ m=>
   by_cases a:l.length=0
   .simp[qu,a]
   .simp only[qu,b' a];cases h:cut l with
    |none=>rfl
    |some e=>
     obtain⟨t,i,r⟩:=e;have:=gK h;simp only;rw[d m r G G]
def dG(l:E):Option (List (UInt8×E)):=qu l.length l
theorem xV(h:l.length=0):dG l=some []:=by
 have:l=[]:=dT;subst this;rfl
theorem nA(b:0<l.length)(h:cut l=none):dG l=none:=by
 unfold dG;obtain⟨m,a⟩:∃m,l.length=m+1:=⟨l.length-1,by omega⟩
 rw[a,qu,b' G,h]
theorem oO{i r:E}{t:UInt8}(h:cut l=some (t,i,r)):dG l=(dG r).map ((t,i)::·):=by
 have a:=gK h;unfold dG;obtain⟨m,b⟩:∃m,l.length=m+1:=⟨l.length-1,by omega⟩
 rw[b,qu,b' G,h];simp only;rw[VX m r.length r G G]
def wt:List (UInt8×E)->Nat
 | []=>0
 |p::ps=>p.2.length+2+wt ps
theorem JA(a b):wt (a++b)=wt a+wt b:=by
 induction a with
 |nil=>simp[wt]
 |cons p a d=>grind [wt]
theorem NM:∀(n)(l)(a),l.length<=n->dG l=some a->wt a<=l.length:=by
 intro n;induction n with
 |zero=>
  grind [xV,wt]
 |succ n j=>
  intro l a f h;by_cases e:l.length=0
  .grind [xV]
  .cases b:cut l with
   |none=>grind [nA]
   |some d=>
    obtain⟨t,i,r⟩:=d;have g:=gK b;rw[oO b]at h;simp only[Option.map_eq_some_iff]at h;grind [wt]
def iq:Nat->UInt8->E->Option E
 |0,tag,i=>leaf tag i
 |d+1,tag,i=>piece (λi=>rW (gJ d) i) tag i
def tells(d:Nat):List (UInt8×E)->Option (List E)
 | []=>some []
 |p::ps=>match iq d p.1 p.2 with
  |none=>none
  |some t=>(tells d ps).map (t::·)
theorem NN(d)(l):gJ d l=match cut l with
  |none=>none
  |some (a,i,r)=>(iq d a i).map (·,r):=by
 cases d with
 |zero=>rw[gJ];rfl
 |succ d=>rw[gJ];rfl
theorem Rz(d):∀(n)(l),l.length<=n->rW (gJ d) l=match dG l with
  |none=>none
  |some a=>tells d a:=by
 intro n
 induction n with
 |zero=>
  intro l e
  have:l=[]:=dT
  subst this
  rfl
 |succ n g=>
  intro l e
  by_cases j:l.length=0
  .grind
  .have a:=NN d l
   cases b:cut l with
   |none=>
    rw[b]at a
    rw[nA G b,uF G a]
   |some h=>
    obtain⟨t,i,r⟩:=h
    have k:=gK b
    rw[b]at a
    simp only at a
    rw[oO b]
    cases f:iq d t i with
    |none=>
     grind [uF,tells]
    |some x=>
     rw[f]at a
     rw[xU (jK d) a,g r G]
     grind [tells]
theorem EG(d)(a)(i)(h:a.toNat=48):iq (d+1) a i=match dG i with
  |none=>none
  |some b=>(tells d b).map λe=>123::commas e++[125]:=by
 rw[iq,piece,dQ h,Rz d i.length i (cA _)]
 grind
theorem vg(d)(a)(i)(h:a.toNat≠48):iq d a i=leaf a i:=by
 cases d with
 |zero=>rfl
 |succ d=>rw[iq,piece,b' h]
theorem EH(a)(i)(h:a.toNat=48):iq 0 a i=none:=by
 rw[iq,leaf,b' G,b' G]
theorem RF(d)(a)(p):tells d (a++[p])=match tells d a with
  |none=>none
  |some b=>(iq d p.1 p.2).map λt=>b++[t]:=by
 induction a with
 |nil=>
  grind [tells]
 |cons q a e=>
  simp only[List.cons_append,tells]
  cases iq d q.1 q.2 with
  |none=>rfl
  |some t=>
   simp only
   rw[e]
   cases tells d a with
   |none=>rfl
   |some b=>
    simp only[Option.map_some]
    cases iq d p.1 p.2 with
    |none=>rfl
    |some u=>rfl
theorem RH{d:Nat}{a b:List (UInt8×E)}(h:tells d a=none):tells d (a++b)=none:=by
 induction a with
 |nil=>simp[tells]at h
 |cons q a f=>
  simp only[List.cons_append,tells]at h⊢;cases e:iq d q.1 q.2 with
  |none=>rfl
  |some t=>
   rw[e]at h;simp only[Option.map_eq_none_iff]at h;grind
theorem KZ{d:Nat}{a:List (UInt8×E)}:∀{b:List E},tells d a=some b->b.length=a.length:=by
 induction a with
 |nil=>grind [tells]
 |cons q a f=>
  intro b h;simp only[tells]at h;cases e:iq d q.1 q.2 with
  |none=>rw[e]at h;simp at h
  |some t=>
   rw[e]at h;simp only[Option.map_eq_some_iff]at h;grind
theorem K6:∀(d)(a)(i t),iq d a i=some t->t.length<=22+22*i.length:=by
 intro d a i t h;by_cases b:a.toNat=48
 .cases d with
  |zero=>grind [EH]
  |succ d=>
   rw[iq,piece,dQ b]at h;simp only[Option.map_eq_some_iff]at h;obtain⟨f,e,rfl⟩:=h;have:=Cv (jK d) (zt d) i.length i f (cA _) e;simp;omega
 .rw[vg d a i b]at h;have:=wJ h;omega
theorem EI(l):whole l=match cut l with
  |some (b,i,[])=>iq 8 b i
  |_=>none:=by
 unfold whole
 rw[NN]
 cases cut l with
 |none=>rfl
 |some d=>
  obtain⟨b,i,r⟩:=d
  cases r with
  |nil=>
   simp only
   cases iq 8 b i with
   |none=>rfl
   |some t=>rfl
  |cons a r=>
   simp only
   cases iq 8 b i with
   |none=>rfl
   |some t=>rfl
end Go.Proofs.YticfhckmhcaigaaGreatDoor.Box
namespace Go.Proofs.YticfhckmhcaigaaGreatDoor
open Go.RowKit
set_option maxRecDepth 100000
theorem UT(w:World)(e)(b):(w.alloc (.cells #[.int .u8 (b.toNat:Int)] e)).ownsRow w.1.size e 1 (ς w.1.size 0 1 1) 1 ([b].map U8):=by
 refine⟨rfl,Or.inr ⟨w.1.size,1,_,rfl,cA _,heap_alloc_new w _,cA _,by decide,rfl,rfl⟩⟩
theorem vo(w:World)(o)(e)(b)(a)(h:b.toList=a.map U8):At ((w.alloc o).alloc (.cells b e)) (some ⟨w.1.size+1,0,none⟩) a:=by
 grind [cG,dX]
theorem ZF(n:Nat)(h:n<256):IntKind.u8.wrap (n:Int)=((UInt8.ofNat n).toNat:Int):=by
 rw[ez,eI G];simp[IntKind.wrap,IntKind.bits,IntKind.signed];omega
theorem JC(v)(i):v / 2 ^ (8*i) % 256=((Box.mF v i).toNat:Int):=by
 unfold Box.mF;generalize v / 2 ^ (8*i)=x;rw[ez,eI G];omega
theorem nO{w:World}{base a:Nat}{e:TypeId}{size:Nat}{v:Value}{n:Nat}{i:List Value}(h:w.ownsRow base e size v n i)(k:a<=base):w.ownsRow a e size v n i:=by
 obtain⟨j,d⟩:=h;refine⟨j,?_⟩;rcases d with d|⟨g,c,b,m,f,l⟩
 .exact Or.inl d
 .exact Or.inr ⟨g,c,b,m,cE k f,l⟩
variable {l:E}
def jL(z:UInt8):Bool:=decide ((97<=z.toNat/\z.toNat<=122)\/(48<=z.toNat/\z.toNat<=57)\/z.toNat=47)
def dx(l:E):Bool:=decide (1<=l.length/\l.length<=16)&&l.all jL
theorem yU{k:Nat}(h:k<l.length):(l.take (k+1)).all jL=((l.take k).all jL&&jL (l.getD k 0)):=by
 rw[dy h,List.all_append];grind
structure nC where
 kind:Int
 name:E
 key:UInt64
 bH:Int
 aD:Int
 bB:Int
 ae:Int
abbrev nC.cells(a:nC):Array Value:=#[Y a.kind,.string ⟨a.name.toArray⟩,O (a.key.toNat:Int),Y a.bH,Y a.aD,Y a.bB,Y a.ae]
def nC.qQ(a:nC):Bool:=decide (0<=a.bH/\0<=a.aD/\0<=a.ae/\a.ae<64)
structure BE where
 name:E
 aH:Int
 key:UInt64
 before:UInt64
 bH:Int
 aD:Int
 bB:Int
 ae:Int
structure PF where
 az:E
 time:Int
 count:Int
 deriving DecidableEq
structure DM where
 ax:Int
 aC:List BE
 aI:List PF
 aL:E
def BE.pY(es:List BE)(l:E):Option Nat:=es.findIdx? (λe=>e.name==l)
def BE.ins:List BE->E->Nat
 | [],_=>0
 |e::es,l=>if Op.bytesLess e.name l then BE.ins es l+1 else 0
def BE.new(a:nC):BE:=⟨a.name,1,a.key,0,a.bH,a.aD,a.bB,a.ae⟩
def BE.jC(x:BE)(key:UInt64):BE:=⟨x.name,x.aH+1,key,x.key,x.bH,x.aD,x.bB,x.ae⟩
def BE.si(x:BE)(a:nC):BE:=⟨x.name,x.aH,x.key,x.before,a.bH,a.aD,a.bB,a.ae⟩
def fD(es:List BE)(a:nC):List BE×Int:=
 if a.kind=1 then
  (if dx a.name=false then(es,4) else if a.qQ=false then(es,1) else if (BE.pY es a.name).isSome then(es,5) else if 20<=es.length then(es,7)
   else(es.take (BE.ins es a.name)++[BE.new a]++es.drop (BE.ins es a.name),0))
 else if a.kind=2\/a.kind=3\/a.kind=4 then
  match BE.pY es a.name with
  |none=>(es,6)
  |some i=>
   if a.kind=2 then(es.take i++es.drop (i+1),0)
   else match es[i]? with
   |none=>(es,6)
   |some x=>if a.kind=3 then(es.set i (x.jC a.key),0) else if a.qQ=false then(es,1) else(es.set i (x.si a),0)
 else(es,1)
structure gy(n:Nat)(es:List BE):Prop where
 len:es.length<=20
 name:∀e∈es,dx e.name=true
 num:∀e∈es,1<=e.aH/\e.aH<=(n:Int)
 qQ:∀e∈es,0<=e.bH/\0<=e.aD/\0<=e.ae/\e.ae<64
 sorted:es.Pairwise λx y=>Op.bytesLess x.name y.name=true
theorem JJ:∀a,Op.bytesLess a a=false
 | []=>rfl
 |x::a=>by simp[Op.bytesLess,JJ a]
theorem vB:∀a,Op.bytesLess a []=false
 | []=>rfl
 |_::_=>rfl
theorem Aj:∀{a b c:E},Op.bytesLess a b=true->Op.bytesLess b c=true->Op.bytesLess a c=true:=by
 intro a;induction a with
 |nil=>
  intro b c d e;cases c with
  |nil=>grind [vB]
  |cons z c=>rfl
 |cons x a f=>
  intro b c d e;cases b with
  |nil=>grind [vB]
  |cons y b=>
   cases c with
   |nil=>grind [vB]
   |cons z c=>
    simp only[Op.bytesLess,Bool.or_eq_true,Bool.and_eq_true,decide_eq_true_eq,db]at d e⊢;grind
theorem Z6:∀{a b:E},Op.bytesLess a b=false->a≠b->Op.bytesLess b a=true:=by
 intro a;induction a with
 |nil=>
  intro b d e;cases b with
  |nil=>exact absurd rfl e
  |cons y b=>simp[Op.bytesLess]at d
 |cons x a f=>
  intro b d e;cases b with
  |nil=>rfl
  |cons y b=>
   simp only[Op.bytesLess,Bool.or_eq_false_iff,Bool.and_eq_false_iff,decide_eq_false_iff_not,cJ]at d;simp only[Op.bytesLess,Bool.or_eq_true,Bool.and_eq_true,decide_eq_true_eq,db];grind
theorem R9(a)(l):BE.ins a l<=a.length:=by
 induction a with
 |nil=>exact cA _
 |cons x a b=>simp only[BE.ins,de];split<;>omega
theorem JK(l):∀(a:List BE),∀x∈a.take (BE.ins a l),Op.bytesLess x.name l=true:=by
 intro a;induction a with
 |nil=>intro x b;simp at b
 |cons y a d=>
  grind [BE.ins]
theorem ER(l):∀(a:List BE),a.Pairwise (λx y=>Op.bytesLess x.name y.name=true)->(∀x∈a,x.name≠l)->∀x∈a.drop (BE.ins a l),Op.bytesLess l x.name=true:=by
 intro a;induction a with
 |nil=>intro _ _ x b;simp at b
 |cons y a f=>
  intro d e x b;rw[List.pairwise_cons]at d;simp only[BE.ins]at b;grind [Aj,Z6]
theorem UY{a:List BE}(h:BE.pY a l=none):∀x∈a,x.name≠l:=by
 grind [BE.pY]
theorem DZ{a:List BE}{i:Nat}(h:BE.pY a l=some i):∃b:i<a.length,a[i].name=l:=by
 rw[BE.pY,List.findIdx?_eq_some_iff_getElem]at h;grind
theorem Lh{a:List BE}{e x:BE}{k:Nat}(h:x∈a.take k++[e]++a.drop k):x=e\/x∈a:=by
 grind
theorem UZ{a:List BE}{x:BE}{k:Nat}(h:x∈a.take k++a.drop (k+1)):x∈a:=by
 grind
theorem gy.mono{n m:Nat}{a:List BE}(h:gy n a)(k:n<=m):gy m a:=⟨h.len,h.name,λe b=>by have:=h.num e b;omega,h.qQ,h.sorted⟩
theorem gy.nil(n):gy n []:=⟨by simp,by simp,by simp,by simp,.nil⟩
theorem Li{a:List BE}(g:a.Pairwise (λx y=>Op.bytesLess x.name y.name=true))(i)(y)(e:i<a.length)(b:y.name=a[i].name):(a.set i y).Pairwise (λx y=>Op.bytesLess x.name y.name=true):=by
 have f:(a.set i y).map BE.name=a.map BE.name:=by
  rw[List.map_set,b];apply List.ext_getElem?;grind
 have d:(a.map BE.name).Pairwise (λx y=>Op.bytesLess x y=true):=dT;grind
theorem gy.fD{n:Nat}{b:List BE}(h:gy n b)(J:1<=n)(a):gy (n+1) (fD b a).1:=by
 have f:=h.mono (fj n);have k:∀(i)(x y),b[i]?=some x->y.name=x.name->(1<=y.aH/\y.aH<=((n+1:Nat):Int))->(0<=y.bH/\0<=y.aD/\0<=y.ae/\y.ae<64)->gy (n+1) (b.set i y):=by
  intro i x y g D v w;obtain⟨A,r⟩:=cM.1 g;have j:x∈b:=dT;refine⟨by simpa using h.len,?_,?_,?_,(by grind [Li,gy.sorted])⟩
  .grind [gy.name]
  .intro e d;rcases List.mem_or_eq_of_mem_set d with q|q
   .exact f.num e q
   .rw[q];exact v
  .intro e d;rcases List.mem_or_eq_of_mem_set d with q|q
   .exact h.qQ e q
   .rw[q];exact w
 have t:a.qQ≠false->0<=a.bH/\0<=a.aD/\0<=a.ae/\a.ae<64:=by
  grind [nC.qQ]
 unfold Proofs.YticfhckmhcaigaaGreatDoor.fD;split
 .split
  .exact f
  .rename_i hnm;split
   .exact f
   .rename_i hp;split
    .exact f
    .rename_i hat;split
     .exact f
     .rename_i hfull;have l:BE.pY b a.name=none:=(by simpa using hat);have m:=UY l;have C:=R9 b a.name;refine⟨by simp;omega,?_,?_,?_,?_⟩
      .intro e d;rcases Lh d with q|q
       .rw[q];show dx a.name=true;simpa using hnm
       .exact h.name e q
      .intro e d;rcases Lh d with q|q
       .rw[q];show 1<=(1:Int)/\(1:Int)<=_;omega
       .exact f.num e q
      .intro e d;rcases Lh d with q|q
       .rw[q];exact t hp
       .exact h.qQ e q
      .rw[eg,List.pairwise_append];refine⟨(by grind [gy.sorted]),?_,?_⟩
       .rw[List.singleton_append,List.pairwise_cons];exact⟨λx g=>ER a.name b h.sorted m x g,(by grind [gy.sorted])⟩
       .intro x g y u;rw[List.singleton_append]at u;have p:=JK a.name b x g;rcases List.mem_cons.1 u with q|q
        .rw[q];exact p
        .exact Aj p (ER a.name b h.sorted m y q)
 .split
  .split
   .exact f
   .rename_i i A;split
    .refine⟨?_,(by grind [gy.name]),λe d=>f.num e (UZ d),λe d=>h.qQ e (UZ d),?_⟩
     .have:=h.len;simp;omega
     .have o:(b.take i++b.drop (i+1)).Sublist b:=by
       conv=>rhs;rw[<-eK i b]
       grind
      exact h.sorted.sublist o
    .split
     .exact f
     .rename_i x g;obtain⟨B,r⟩:=cM.1 g;have j:x∈b:=dT;split
      .exact k i x (x.jC a.key) g rfl (by have:=h.num x j;show 1<=x.aH+1/\x.aH+1<=_;omega) (h.qQ x j)
      .split
       .exact f
       .rename_i hp;exact k i x (x.si a) g rfl (f.num x j) (t hp)
  .exact f
end Go.Proofs.YticfhckmhcaigaaGreatDoor
namespace Go.Proofs.YticfhckmhcaigaaGreatDoor.Box
end Go.Proofs.YticfhckmhcaigaaGreatDoor.Box
namespace Go.Proofs.YticfhckmhcaigaaGreatDoor
open Go.RowKit
variable {p:Prop}
def bV(v:Int):E:=Box.box 2 (Box.low v (Box.size v))
def iF(l:List Int):E:=(l.map bV).flatten
theorem fB(v):3<=(bV v).length/\(bV v).length<=10:=by
 grind [kH,Box.ny,Box.lJ,bV]
theorem lK(l):(iF l).length<=10*l.length:=by
 induction l with
 |nil=>simp[iF]
 |cons v l a=>
  grind [fB,iF]
set_option maxRecDepth 100000
variable {β:Type}
def m9(x:Int):Int:=if x < -9223372036854775808 then -9223372036854775808 else if 9223372036854775807<x then 9223372036854775807 else x
def aW(a b:Int):Int:=m9 (a+b)
def gD(a b:Int):Int:=m9 (a-b)
def dW(a b:Int):Int:=if a<b then gD b a else gD a b
def gU(a b:Int):Int:=if a<b then a else b
def kB(t:Int):Int:=if t=0 then 9223372036854775807 else t
def aJ(n b:Int):Bool:=decide (n / b % 2=1)
def BE.has(e:BE)(f:Int):Bool:=aJ e.ae f
def BE.gone(e:BE)(now:Int):Bool:=decide (e.bB≠0/\e.bB<=now)
def BE.find(es:List BE)(l:E):Option BE:=es.find? (λe=>e.name==l)
def BE.keyOf(e:BE)(n:Int):Option UInt64:=if n=e.aH then some e.key else if n=e.aH-1/\1<e.aH then some e.before else none
structure TK where
 ae:Int
 aO:UInt64
 az:E
 dY:Int
 start:Int
 fin:Int
 aD:Int
def dC(l:E):E:=Box.box 4 l
def jW(l:List E):E:=Box.box 48 l.flatten
def nQ(k:UInt64):E:=dC (Pure.be k 8)
def TK.plain(t:TK):E:=jW [bV t.ae,nQ t.aO,dC t.az,bV t.dY,bV t.start,bV t.fin,bV t.aD]
def xX(t:TK)(s:BE)(draw:UInt64):E:=jW [dC s.name,bV s.aH,dC (Pure.eB s.key 2 draw t.plain)]
def oV(t:TK)(bW:Int)(s:BE):E:=jW [nQ t.aO,bV bW,bV t.ae,bV t.dY,bV t.start,bV t.fin,bV t.aD,dC s.name]
def mg(kind:Int)(t:TK)(s:BE)(bW aH:Int)(key use a b:UInt64):E:=
 jW [bV kind,dC t.az,xX t s a,jW [bV aH,dC (Pure.eB key use b (oV t bW s))]]
def aY(now code:Int):E:=jW [bV 30,bV now,bV code]
abbrev ry:Type:=UInt8×E
def bG(p:ry):Option Int:=if p.1.toNat=2 then Box.num p.2 else none
def jD(p:ry):Option E:=if p.1.toNat=4 then some p.2 else none
def dz(p:ry):Option E:=if p.1.toNat=4/\dx p.2=true then some p.2 else none
def Su(p:ry):Option UInt64:=if p.1.toNat=4/\p.2.length=8 then some (Pure.joinL 0 p.2) else none
def Ap(p:ry):Option (List ry):=if p.1.toNat=48 then Box.dG p.2 else none
def bZ{α β:Type}(f:ry->Option α)(k:α->List ry->Option β):List ry->Option β
 | []=>none
 |p::ps=>(f p).bind λa=>k a ps
def yK{β:Type}(b:β)(ps:List ry):Option β:=if ps=[] then some b else none
def dO{α β:Type}(f:ry->Option α)(k:α->E->Option β)(l:E):Option β:=
 match Box.cut l with
 |none=>none
 |some (t,i,r)=>(f (t,i)).bind λa=>k a r
def wB{β:Type}(b:β)(l:E):Option β:=if l=[] then some b else none
theorem xY(b:β)(l):wB b l=(Box.dG l).bind (yK b):=by
 unfold wB;cases l with
 |nil=>rfl
 |cons x l=>
  rw[b' Z];cases h:Box.cut (x::l)with
  |none=>grind [Box.nA]
  |some p=>
   obtain⟨t,i,r⟩:=p;rw[Box.oO h];cases Box.dG r<;>simp[yK]
theorem eD{α:Type}(f:ry->Option α)(k:α->List ry->Option β)(b:α->E->Option β)(h:∀a l,b a l=(Box.dG l).bind (k a))(l):dO f b l=(Box.dG l).bind (bZ f k):=by
 unfold dO;cases a:Box.cut l with
 |none=>
  cases l with
  |nil=>rfl
  |cons x l=>grind [Box.nA]
 |some p=>
  obtain⟨t,i,r⟩:=p;rw[Box.oO a];simp only[h];cases Box.dG r<;>cases d:f (t,i)<;>simp[bZ,d]
theorem aag(l):(none:Option β)=(Box.dG l).bind (λ_=>none):=by cases Box.dG l<;>rfl
def lL(l:E):Option (List ry):=
 match Box.cut l with
 |some (t,i,[])=>if t.toNat=48 then Box.dG i else none
 |_=>none
structure FQ where
 az:E
 aV:E
 bW:Int
 mG:Int
 dM:Int
 bY:Int
 aR:Int
 pre:Option (Int×E)
structure NQ where
 gq:E
 oW:Int
 dR:E
 proof:E
 aV:E
 bW:Int
 dM:Int
 bY:Int
 aR:Int
def rz:List ry->Option (Int×E):=bZ bG λn=>bZ jD λz=>yK (n,z)
def mO(p:ry):Option (Option (Int×E)):=
 match Ap p with
 |none=>none
 |some []=>some none
 |some ps=>(rz ps).map some
def lM:List ry->Option FQ:=bZ bG λk=>if k=10 then bZ dz λc=>bZ dz λs=>bZ bG λn=>bZ bG λf=>bZ bG λt=>bZ bG λr=>bZ bG λo=>bZ mO λp=>yK ⟨c,s,n,f,t,r,o,p⟩ else λ_=>none
def rA:List ry->Option (E×Int×E):=bZ dz λs=>bZ bG λn=>bZ jD λz=>yK (s,n,z)
def ik(p:ry):Option (E×Int×E):=(Ap p).bind rA
def lN:List ry->Option NQ:=bZ bG λk=>if k=12 then bZ ik λc=>bZ jD λp=>bZ dz λs=>bZ bG λn=>bZ bG λt=>bZ bG λr=>bZ bG λo=>yK ⟨c.1,c.2.1,c.2.2,p,s,n,t,r,o⟩ else λ_=>none
def nR(aX:E):Option FQ:=if aX.length<=300 then(lL aX).bind lM else none
def sF(aX:E):Option NQ:=if aX.length<=300 then(lL aX).bind lN else none
def fe(key use:UInt64)(z:E):Option E:=if 16<=z.length/\Pure.opens key use z=true then some (Pure.dI key use z) else none
def lg(l:E):Option Int:=
 match Box.cut l with
 |some (t,i,[])=>bG (t,i)
 |_=>none
def jX:List ry->Option TK:=bZ bG λf=>bZ Su λk=>bZ dz λc=>bZ bG λa=>bZ bG λs=>bZ bG λe=>bZ bG λr=>yK ⟨f,k,c,a,s,e,r⟩
def dU(l:E):Option TK:=(lL l).bind jX
def uI:List ry->Option PF:=bZ dz λc=>bZ bG λt=>bZ bG λn=>yK ⟨c,t,n⟩
def fJ(l:E):Option PF:=(lL l).bind uI
structure GR where
 kind:Int
 t:TK
 s:BE
 bW:Int
 aH:Int
 key:UInt64
 use:UInt64
def dV(x y:Option BE)(now a b c d:Int):Int:=
 match x,y with
 |none,_=>a
 |some _,none=>b
 |some x,some y=>if x.gone now=true then c else if y.gone now=true then d else if x.has 32=true\/y.has 32=true then 12 else 0
def fo(ax now:Int)(x:BE):Option (Int×E)->Int
 |none=>if x.has 1=true then 25 else 0
 |some (n,z)=>
  match (fe x.key 1 z).bind lg with
  |none=>24
  |some t=>if n≠x.aH then 24 else if ax<dW t now then 37 else 0
def iy(aR old:Int)(x s:BE):Int:=
 (if aJ aR 1=true/\aJ old 1=true/\x.has 4=true/\s.has 4=true then 1 else 0)+(if aJ aR 2=true/\aJ old 2=true/\x.has 8=true/\s.has 8=true then 2 else 0)
  + (if aJ aR 4=true/\aJ old 4=true/\x.has 2=true/\s.has 2=true then 4 else 0)
def fE(aR old:Int)(x s:BE)(start upto:Int):Int:=
 if aJ aR 4=true/\aJ old 4=true/\x.has 2=true/\s.has 2=true then gU upto (gU (aW start x.aD) (aW start s.aD)) else 0
def bI(now:Int)(q:FQ):Int:=if aJ q.aR 8=true then q.mG else now
def fT(now:Int)(q:FQ)(x s:BE):Int:=gU (kB q.dM) (gU (aW (bI now q) x.bH) (aW (bI now q) s.bH))
def mZ(now:Int)(q:FQ)(x s:BE):TK:=
 ⟨32+(if q.pre.isSome then 64 else 0)+(if aJ q.aR 8=true then 24 else 0)+iy q.aR 7 x s,0,q.az,now,bI now q,fT now q x s,fE q.aR 7 x s (bI now q) (kB q.bY)⟩
def di(ax now:Int)(q:FQ)(x s:BE):Int:=
 if fo ax now x q.pre≠0 then fo ax now x q.pre
 else if q.aR<0\/15<q.aR then 13
 else if aJ q.aR 8=true/\¬ (x.has 16=true/\s.has 16=true) then 10
 else if aJ q.aR 8=false/\aW now ax<q.mG then 10
 else if fT now q x s<=bI now q then 11 else 0
def mS(M:DM)(now:Int)(q:FQ):Except Int GR:=
 match BE.find M.aC q.az,BE.find M.aC q.aV with
 |none,_=>.error 6
 |some _,none=>.error 7
 |some x,some s=>
  if dV (some x) (some s) now 6 7 1 2≠0 then .error (dV (some x) (some s) now 6 7 1 2)
  else if di M.ax now q x s≠0 then .error (di M.ax now q x s)
  else .ok ⟨11,mZ now q x s,s,q.bW,x.aH,x.key,3⟩
def jg(M:DM)(now:Int)(q:NQ):Except Int (TK×PF):=
 if q.gq≠[116,103,115]/\¬ ((aJ q.aR 16=true\/aJ q.aR 32=true)/\q.gq=q.aV) then .error 36
 else match BE.find M.aC q.gq with
 |none=>.error 7
 |some e=>
  match e.keyOf q.oW with
  |none=>.error 44
  |some key=>
   match (fe key 2 q.dR).bind dU with
   |none=>.error 31
   |some t=>
    match (fe t.aO 4 q.proof).bind fJ with
    |none=>.error 31
    |some p=>if p.az≠t.az then .error 36 else if M.ax<dW p.time now then .error 37 else .ok (t,p)
def iX(ax now:Int)(l:List PF):List PF:=l.filter λp=>decide (dW p.time now<=ax)
def bM(ax now:Int)(l:List PF)(p:PF):Int:=if p∈iX ax now l then 34 else if 8<=(iX ax now l).length then 60 else 0
def bK(ax now:Int)(l:List PF)(p:PF):List PF:=if bM ax now l p=0 then iX ax now l++[p] else iX ax now l
def wS(aR:Int):Int:=(if aJ aR 16=true then 1 else 0)+(if aJ aR 32=true then 1 else 0)+(if aJ aR 64=true then 1 else 0)+(if aJ aR 128=true then 1 else 0)
def kL(aR ae:Int):Bool:=
 if aR<0\/255<aR\/aJ aR 8=true then false
 else if 1<wS aR\/aJ aR 32=true/\aR≠32 then false
 else if aJ aR 16=true/\aJ ae 4=false\/aJ aR 64=true/\aJ ae 1=false\/aJ aR 128=true/\aJ ae 2=false then false
 else !aJ aR 32||aJ ae 16
def JO(ae:Int):Int:=(if aJ ae 64=true then 64 else 0)+(if aJ ae 128=true then 128 else 0)+(if aJ ae 256=true then 256 else 0)
def iJ(now dM:Int)(old:TK)(x s:BE):Int:=gU (gU (kB dM) old.fin) (gU (aW now x.bH) (aW now s.bH))
def iR(aR:Int)(old:TK)(x s:BE):Int:=
 (if aJ old.ae 64=true then 64 else 0)+(if aJ old.ae 128=true\/aJ aR 64=true then 128 else 0)+(if aJ old.ae 256=true\/aJ aR 128=true then 256 else 0)+iy aR old.ae x s
def fresh(now:Int)(old:TK)(x s:BE)(dM bY aR:Int):Except Int TK:=
 if aJ aR 32=true then(if now<old.start then .error 33 else .ok {old with ae:=if aJ old.ae 16=true then old.ae-16 else old.ae})
 else if aJ aR 16=true then(if old.aD<=now then .error 32 else .ok {old with start:=now,fin:=gU old.aD (aW now (gD old.fin old.start))})
 else if iJ now dM old x s<=now then .error 11
 else .ok {old with start:=now,fin:=iJ now dM old x s,ae:=iR aR old x s,aD:=fE aR old.ae x s now (gU (kB bY) old.aD)}
def eF(M:DM)(now:Int)(q:NQ)(old:TK):Except Int GR:=
 if aJ old.ae 16=true/\aJ q.aR 32=false\/aW now M.ax<old.start then .error 33
 else if old.fin<now then .error 32
 else match BE.find M.aC q.aV,BE.find M.aC old.az with
 |none,_=>.error 7
 |some _,none=>.error 6
 |some s,some x=>
  if dV (some s) (some x) now 7 6 2 1≠0 then .error (dV (some s) (some x) now 7 6 2 1)
  else if kL q.aR old.ae=false then .error 13
  else match fresh now old x s q.dM q.bY q.aR with
  |.error c=>.error c
  |.ok t=>.ok ⟨13,t,s,q.bW,0,old.aO,5⟩
def eP(ds:E)(k:Nat):UInt64:=Pure.joinL 0 ((ds.drop (8*k)).take 8)
def GR.box(g:GR)(ds:E):E:=mg g.kind {g.t with aO:=eP ds 0} g.s g.bW g.aH g.key g.use (eP ds 1) (eP ds 2)
def dD(M:DM)(now:Int):Except Int GR->E×DM
 |.error c=>(aY now c,M)
 |.ok g=>if M.aL.length<24 then(aY now 60,M) else(g.box M.aL,{M with aL:=M.aL.drop 24})
def uJ(M:DM)(now:Int)(q:NQ):E×DM:=
 match jg M now q with
 |.error c=>(aY now c,M)
 |.ok (t,p)=>
  let M':={M with aI:=bK M.ax now M.aI p}
  if bM M.ax now M.aI p≠0 then(aY now (bM M.ax now M.aI p),M')
  else dD M' now (eF M' now q t)
def dF(M:DM)(now:Int)(aX:E):E×DM:=
 match nR aX with
 |some q=>dD M now (mS M now q)
 |none=>
  match sF aX with
  |some q=>uJ M now q
  |none=>(aY now 60,M)
set_option maxHeartbeats 1000000
open Proofs.Tryz
theorem P'{S:ByteArray}{l:E}(a:S=⟨l.toArray⟩)(j)(h:j<S.size):S[j]'h=l.getD j 0:=by
 subst a;have b:j<l.length:=by simpa[ByteArray.size]using h
 simp only[List.getD,cN b,Option.getD_some];rfl
theorem tl(h:p:=by
 go_wp2
 go_ret
 exact⟨rfl,rfl⟩):p:=h
theorem Fg(z)(w):Calls prog 202 #[.int .u8 (z.toNat:Int)] w λe a=>e=.returned (.bool (jL z))/\w=a:=by
 have n:=z.toNat_lt;have f:Hid (jL z=decide ((97<=z.toNat/\z.toNat<=122)\/(48<=z.toNat/\z.toNat<=57)\/z.toNat=47)):=rfl;have d:∀b,jL z=b->(b=true↔((97<=z.toNat/\z.toNat<=122)\/(48<=z.toNat/\z.toNat<=57)\/z.toNat=47)):=by
  intro b a;rw[<-a,f,decide_eq_true_iff]
 cases j:jL z
 .have i:¬ ((97<=z.toNat/\z.toNat<=122)\/(48<=z.toNat/\z.toNat<=57)\/z.toNat=47):=dT;have g:((z.toNat:Int)==47)=false:=dT;clear d f j;by_cases e:97<=z.toNat
  .have a:(97:Int)<=(z.toNat:Int):=G;have m:¬ (z.toNat:Int)<=122:=G;have l:¬ (z.toNat:Int)<=57:=G;clear i;go_in;exact tl
  .have a:¬ (97:Int)<=(z.toNat:Int):=G;by_cases h:48<=z.toNat
   .have b:(48:Int)<=(z.toNat:Int):=G;have l:¬ (z.toNat:Int)<=57:=G;clear i;go_in;exact tl
   .have b:¬ (48:Int)<=(z.toNat:Int):=G;clear i;go_in;exact tl
 .have k:=(d _ j).1 rfl;clear d f j;by_cases e:97<=z.toNat/\z.toNat<=122
  .have a:(97:Int)<=(z.toNat:Int):=G;have m:(z.toNat:Int)<=122:=G;clear k e;go_in;exact tl
  .by_cases h:48<=z.toNat/\z.toNat<=57
   .have a:¬ (97:Int)<=(z.toNat:Int):=G;have b:(48:Int)<=(z.toNat:Int):=G;have l:(z.toNat:Int)<=57:=G;clear k e h;go_in;exact tl
   .have a:¬ (97:Int)<=(z.toNat:Int):=G;have b:¬ (48:Int)<=(z.toNat:Int):=G;have g:((z.toNat:Int)==47)=true:=(by rw[db];omega);clear k e h;go_in;exact tl
theorem BO(h:p:=by
 go_wp2
 go_ret
 exact⟨by rw[HR];rfl,rfl⟩):p:=h
theorem Fh(l)(n)(S)(w)(x:Hid (S=⟨l.toArray⟩))(r:Hid (l.length=n))(K:n<=9223372036854775807):Calls prog 161 #[.string S] w λe t=>e=.returned (.bool (dx l))/\w=t:=by
 have B:S.size=n:=by rw[x,<-r];simp[ByteArray.size]
 have g:Hid (dx l=(decide (1<=n/\n<=16)&&l.all jL)):=by show _=_;rw[dx,r]
 by_cases v:1<=n
 .by_cases d:n<=16
  .have b:¬ (n:Int)<1:=G;have m:¬ (16:Int)<(n:Int):=G;have j:Hid (dx l=l.all jL):=(by show _=_;rw[g,ee ⟨v,d⟩,gO]);clear g;go_in;go_wp2;go_loop [3,14] (λ_ i=>∃k:Nat,k<=n/\i = Y k/\Hid ((l.take k).all jL=true)) (λ_ i=>n-(intOf i).toNat)
   case atStart=>grind [I]
   case round=>
    obtain⟨k,J,rfl,u⟩:=hrel;by_cases q:k<n
    .have f:k<l.length:=(by rw[r];exact q);have i:=P' x k;have a:=I (yU f);rw[u,gO]at a;have h:Hid (jL (l.getD k 0)=false->dx l=false):=by
      grind [Hid.o]
     generalize l.getD k 0=z at i a h;have C:(k:Int)<(n:Int):=G;have A:(0:Int)<=(k:Int):=G;cases y:jL z
     .have p:=I (h y);clear h a;go_wp2_with (go_at_call 202;refine(Fg z _).mono ?_;rintro e t ⟨rfl,rfl⟩)
      go_ret;exact⟨by rw[p];rfl,rfl⟩
     .have D:=I (a.o.trans y);clear h a;go_wp2_with (go_at_call 202;refine(Fg z _).mono ?_;rintro e t ⟨rfl,rfl⟩)
      go_round
      case rel=>grind
      case measure=>simp[intOf];omega
    .have p:k=n:=G;subst p;have HR:Hid (dx l=true):=(by show _=_;rw[j,<-u,cW (by grind [Hid.o])]);have C:¬ (k:Int)<(k:Int):=G;exact BO
  .have b:¬ (n:Int)<1:=G;have m:(16:Int)<(n:Int):=G;have HR:Hid (dx l=false):=(by show _=_;rw[g,cY (λh=>d h.2),gE]);go_in;exact BO
 .have b:(n:Int)<1:=G;have HR:Hid (dx l=false):=by show _=_;rw[g,cY (λh=>v h.1),gE]
  go_in;exact BO
theorem vA(h:p:=by rw[BitVec.toInt_ofInt,Int.bmod_def];split<;>omega):p:=h
theorem xZ(n):(BitVec.ofInt 64 n).toNat=(n % 18446744073709551616).toNat:=by
 rw[BitVec.toNat_ofInt];rfl
theorem lu(n)(k)(h:k<64):(BitVec.ofInt 64 n).getLsbD k=aJ n (2 ^ k):=by
 rw[aJ,<-BitVec.testBit_toNat,xZ,Nat.testBit_eq_decide_div_mod_eq];congr 1;have i:(0:Int)<2 ^ k:=Int.pow_pos H;have e:((n % 18446744073709551616).toNat / 2 ^ k % 2:Nat)=1↔n / 2 ^ k % 2=1:=by
  have d:0<=n % 18446744073709551616:=Int.emod_nonneg _ H;have f:(((n % 18446744073709551616).toNat / 2 ^ k % 2:Nat):Int)=n % 18446744073709551616 / 2 ^ k % 2:=by
   grind
  have g:n % 18446744073709551616 / 2 ^ k % 2=n / 2 ^ k % 2:=by
   have a:(18446744073709551616:Int)=2 ^ k*2 ^ (64-k):=by
    rw[<-Int.pow_add,show k+(64-k)=64 from by omega];rfl
   have b:n / 2 ^ k=n % 18446744073709551616 / 2 ^ k+2 ^ (64-k)*(n / 18446744073709551616):=by
    have:=Int.emod_add_mul_ediv n 18446744073709551616;conv=>lhs;rw[<-this,a,Int.mul_assoc]
    rw[Int.add_mul_ediv_left _ _ G,<-a]
   rw[b,show(64-k)=(64-k-1)+1 from by omega,Int.pow_succ,Int.mul_comm (2 ^ (64-k-1)) 2,Int.mul_assoc,Int.add_mul_emod_self_left]
  omega
 simp only[e]
theorem Ob(v:BitVec 64):(IntKind.i64.wrap (v.toNat:Int))=v.toInt:=by
 rw[IntKind.wrap_i64,BitVec.toInt_eq_toNat_cond];have:=v.isLt;split<;>omega
theorem LF(a b):bits .and .i64 a b=(BitVec.ofInt 64 a &&& BitVec.ofInt 64 b).toInt:=Ob _
theorem vC(a b):bits .andNot .i64 a b=(BitVec.ofInt 64 a &&& ~~~ BitVec.ofInt 64 b).toInt:=Ob _
theorem vD(v):BitVec.ofInt 64 v.toInt=v:=BitVec.ofInt_toInt
theorem WB(n)(l:-9223372036854775808<=n)(m:n<=9223372036854775807)(v:BitVec 64)(k)(p:k<63)(r:∀j,j<64->v.getLsbD j=(aJ n (2 ^ j)&&decide (k<=j))):(v.toInt=0)↔(0<=n/\n<2 ^ k):=by
 have q:(BitVec.ofInt 64 n).toInt=n:=vA;have a:v=(BitVec.ofInt 64 n >>> k) <<< k:=by
  grind [lu]
 have g:=(BitVec.ofInt 64 n).isLt;have i:v.toInt=0↔(BitVec.ofInt 64 n).toNat / 2 ^ k=0:=by
  have e:v.toInt=0↔v=0#64:=by
   grind [vD]
  rw[e,a];constructor
  .intro h;have b:=congrArg BitVec.toNat h;rw[BitVec.toNat_shiftLeft,BitVec.toNat_ushiftRight,Nat.shiftLeft_eq,Nat.shiftRight_eq_div_pow]at b;have j:(BitVec.ofInt 64 n).toNat / 2 ^ k*2 ^ k<=(BitVec.ofInt 64 n).toNat:=Nat.div_mul_le_self _ _;rw[eI G]at b;have o:=Nat.two_pow_pos k;have f:(BitVec.ofInt 64 n).toNat / 2 ^ k*2 ^ k=0:=b;rcases Nat.mul_eq_zero.1 f with d|d
   .exact d
   .omega
  .intro h;apply BitVec.eq_of_toNat_eq;rw[BitVec.toNat_shiftLeft,BitVec.toNat_ushiftRight,Nat.shiftRight_eq_div_pow,h];simp
 rw[i,Nat.div_eq_zero_iff_lt (Nat.two_pow_pos k),xZ];have b:(2:Nat) ^ k<=2 ^ 62:=Nat.pow_le_pow_right H G;grind
theorem zA(n)(a:-9223372036854775808<=n)(b:n<=9223372036854775807)(k)(d:k<63)(m)(f:∀j,j<64->aJ m (2 ^ j)=decide (j<k)):(bits .andNot .i64 n m=0)↔(0<=n/\n<2 ^ k):=by
 rw[vC];refine WB n a b _ k d (λj e=>?_);grind [lu]
theorem P3:∀j,j<64->aJ 63 (2 ^ j)=decide (j<6):=by decide
theorem P0:∀j,j<64->aJ 15 (2 ^ j)=decide (j<4):=by decide
theorem aao(n)(a:-9223372036854775808<=n)(b:n<=9223372036854775807):(bits .andNot .i64 n 63==0)=decide (0<=n/\n<64):=by
 have:=zA n a b 6 H 63 P3;grind
theorem jF(a b)(k)(d:k<64):aJ (bits .and .i64 a b) (2 ^ k)=(aJ a (2 ^ k)&&aJ b (2 ^ k)):=by
 rw[LF,<-lu _ k d,vD,BitVec.getLsbD_and,lu a k d,lu b k d]
theorem sK(a b)(k)(d:k<64):aJ (bits .andNot .i64 a b) (2 ^ k)=(aJ a (2 ^ k)&&!aJ b (2 ^ k)):=by
 rw[vC,<-lu _ k d,vD,BitVec.getLsbD_and,BitVec.getLsbD_not,lu a k d,lu b k d];simp[d]
theorem FM(a b):-9223372036854775808<=bits .and .i64 a b/\bits .and .i64 a b<=9223372036854775807:=by
 grind [LF]
theorem rJ(a b):-9223372036854775808<=bits .andNot .i64 a b/\bits .andNot .i64 a b<=9223372036854775807:=by
 grind [vC]
theorem CX{a b:Int}(g:-9223372036854775808<=a/\a<=9223372036854775807)(i:-9223372036854775808<=b/\b<=9223372036854775807)(h:∀k,k<64->aJ a (2 ^ k)=aJ b (2 ^ k)):a=b:=by
 have e:BitVec.ofInt 64 a=BitVec.ofInt 64 b:=by
  apply BitVec.eq_of_getLsbD_eq;intro j d;rw[lu a j d,lu b j d,h j d]
 have f:(BitVec.ofInt 64 a).toInt=a:=vA;have d:(BitVec.ofInt 64 b).toInt=b:=vA;rw[<-f,<-d,e]
theorem uM(k):aJ 0 (2 ^ k)=false:=by
 unfold aJ;rw[Int.zero_ediv];rfl
theorem OJ(n m)(a:List Nat)(d:∀k∈a,k<64)(e:∀j,j<64->aJ m (2 ^ j)=decide (j∈a)):(bits .and .i64 n m==0)=a.all (λk=>!aJ n (2 ^ k)):=by
 rw[Bool.eq_iff_iff,db,List.all_eq_true];constructor
 .grind [jF,uM]
 .intro h;refine CX (FM n m) ⟨by decide,by decide⟩ (λj b=>?_);grind [jF,uM]
theorem Oo:∀j,j<64->aJ 48 (2 ^ j)=decide (j∈[4,5]):=by decide
theorem m7:∀j,j<64->aJ 7 (2 ^ j)=decide (j∈[0,1,2]):=by decide
theorem DH:∀j,j<64->aJ 240 (2 ^ j)=decide (j∈[4,5,6,7]):=by decide
theorem DG:∀j,j<64->aJ 448 (2 ^ j)=decide (j∈[6,7,8]):=by decide
theorem A0:∀j,j<64->aJ 247 (2 ^ j)=decide (j<8/\j≠3):=by decide
theorem AW:∀j,j<64->aJ 255 (2 ^ j)=decide (j<8):=by decide
theorem PC(n):(bits .and .i64 n 48==0)=(!aJ n 16&&!aJ n 32):=by
 rw[OJ n 48 [4,5] H Oo];simp
theorem O'(n):(bits .and .i64 n 7==0)=(!aJ n 1&&(!aJ n 2&&!aJ n 4)):=by
 rw[OJ n 7 [0,1,2] H m7];simp
theorem kT(n f)(k)(i:f=2 ^ k)(l:k<63):(bits .and .i64 n f==0)=!aJ n f:=by
 subst i;have g:=jF n (2 ^ k) k G;have m:aJ (2 ^ k) (2 ^ k)=true:=by
  unfold aJ;rw[Int.ediv_self (by have:=Nat.pow_pos (n:=k) (show 0<2 by decide);have e:(2:Int) ^ k=((2 ^ k:Nat):Int):=Z;omega)];rfl
 rw[m,gh]at g;cases h:aJ n (2 ^ k)with
 |true=>
  grind [uM]
 |false=>
  rw[eV,db];refine CX (FM n _) ⟨by decide,by decide⟩ (λj b=>?_);rw[jF n _ j b,uM];by_cases e:j=k
  .grind
  .have d:aJ (2 ^ k) (2 ^ j)=false:=by
    rw[<-lu _ j b];have p:BitVec.ofInt 64 (2 ^ k)=BitVec.twoPow 64 k:=by
     apply BitVec.eq_of_toNat_eq;have o:(2:Int) ^ k<2 ^ 63:=by
      have h:=Nat.pow_lt_pow_right (a:=2) H l;exact_mod_cast h
     have j:(0:Int)<2 ^ k:=by
      have h:=Nat.pow_pos (n:=k) (show 0<2 by decide);exact_mod_cast h
     rw[xZ,BitVec.toNat_twoPow];have:((2:Int) ^ k % 18446744073709551616)=2 ^ k:=Int.emod_eq_of_lt G G;rw[this];have b:((2:Int) ^ k).toNat=2 ^ k:=by
      have:(2:Int) ^ k=((2 ^ k:Nat):Int):=by simp
      rw[this,Int.toNat_natCast]
     rw[b,eI G]
    grind
   rw[d,Bool.and_false]
def Ja(n:Int):Int:=(if aJ n 16=true then 16 else 0)+(if aJ n 32=true then 32 else 0)+(if aJ n 64=true then 64 else 0)+(if aJ n 128=true then 128 else 0)
theorem Nx(n):bits .and .i64 n 240=Ja n:=by
 unfold Ja;have e:∀j,j<64->j∉[4,5,6,7]->aJ (bits .and .i64 n 240) (2 ^ j)=false:=(by grind [DH,jF])
 have a:=jF n 240 4 H;have b:=jF n 240 5 H;have d:=jF n 240 6 H;have f:=jF n 240 7 H;rw[DH _ H]at a b d f;have i:=FM n 240;generalize bits .and .i64 n 240=v at *;have g:aJ v (2 ^ 4)=aJ n 16:=by simpa using a
 have h:aJ v (2 ^ 5)=aJ n 32:=by simpa using b
 have k:aJ v (2 ^ 6)=aJ n 64:=by simpa using d
 have l:aJ v (2 ^ 7)=aJ n 128:=by simpa using f
 clear a b d f;have D:∀(a b d f)(j),j<64->aJ ((if a=true then 16 else 0)+(if b=true then 32 else 0)+(if d=true then 64 else 0)+(if f=true then 128 else 0)) (2 ^ j)=(j==4&&a||(j==5&&b||(j==6&&d||j==7&&f))):=H;refine CX i ?_ (λj a=>?_)
 .cases aJ n 16<;>cases aJ n 32<;>cases aJ n 64<;>cases aJ n 128<;>exact⟨by decide,by decide⟩
 .rw[D _ _ _ _ j a];grind
theorem No(n):bits .and .i64 n 448=JO n:=by
 unfold JO;have e:∀j,j<64->j∉[6,7,8]->aJ (bits .and .i64 n 448) (2 ^ j)=false:=(by grind [jF,DG])
 have a:=jF n 448 6 H;have b:=jF n 448 7 H;have d:=jF n 448 8 H;rw[DG _ H]at a b d;have i:=FM n 448;generalize bits .and .i64 n 448=v at *;have f:aJ v (2 ^ 6)=aJ n 64:=by simpa using a
 have g:aJ v (2 ^ 7)=aJ n 128:=by simpa using b
 have h:aJ v (2 ^ 8)=aJ n 256:=by simpa using d
 clear a b d;have D:∀(a b d)(j),j<64->aJ ((if a=true then 64 else 0)+(if b=true then 128 else 0)+(if d=true then 256 else 0)) (2 ^ j)=(j==6&&a||(j==7&&b||j==8&&d)):=H;refine CX i ?_ (λj a=>?_)
 .cases aJ n 64<;>cases aJ n 128<;>cases aJ n 256<;>exact⟨by decide,by decide⟩
 .rw[D _ _ _ j a];grind
theorem WU(n)(h:-9223372036854775808<=n/\n<=9223372036854775807):(bits .andNot .i64 n 247==0)=decide (0<=n/\n<256/\aJ n 8=false):=by
 rw[Bool.eq_iff_iff,db,decide_eq_true_iff];have f:=zA n h.1 h.2 8 H 255 AW;constructor
 .intro e;have k:∀j,j<64->(aJ n (2 ^ j)&&!aJ 247 (2 ^ j))=false:=(by grind [sK,uM])
  have b:bits .andNot .i64 n 255=0:=CX (rJ n 255) ⟨by decide,by decide⟩ (by grind [A0,sK,AW]);have a:=k 3 H;have d:=f.1 b;exact⟨d.1,d.2,by rw[A0 3 H]at a;simpa using a⟩
 .rintro⟨g,i,a⟩;have b:=f.2 ⟨g,i⟩;refine CX (rJ n 247) ⟨by decide,by decide⟩ (λj d=>?_);grind [sK,A0,AW]
theorem FN(n)(h:-9223372036854775808<=n/\n<=9223372036854775807):(bits .andNot .i64 n 15==0)=decide (0<=n/\n<16):=by
 have:=zA n h.1 h.2 4 H 15 P0;grind
theorem ye:∀j,j<64->aJ 16 (2 ^ j)=decide (j=4):=by decide
theorem AO(n)(h:-9223372036854775808<=n/\n<=9223372036854775807):bits .andNot .i64 n 16=if aJ n 16=true then n-16 else n:=by
 cases d:aJ n 16 with
 |false=>
  rw[b' H];refine CX (rJ n 16) h (λj a=>?_);grind [sK,ye]
 |true=>
  rw[dQ rfl];have e:=rJ n 16;have b:=sK n 16 4 H;rw[ye 4 H,show aJ n (2 ^ 4)=true from d]at b;rw[vC]at e b⊢;have g:BitVec.ofInt 64 n=(BitVec.ofInt 64 n &&& ~~~ BitVec.ofInt 64 16)+BitVec.ofInt 64 16:=by
   rw[BitVec.add_eq_or_of_and_eq_zero]
   .apply BitVec.eq_of_getLsbD_eq;intro j a;rw[BitVec.getLsbD_or,BitVec.getLsbD_and,BitVec.getLsbD_not,lu n j a,lu 16 j a,ye j a];grind
   .apply BitVec.eq_of_getLsbD_eq;intro j a;rw[BitVec.getLsbD_and,BitVec.getLsbD_and,BitVec.getLsbD_not];cases(BitVec.ofInt 64 16).getLsbD j<;>simp
  have f:(BitVec.ofInt 64 n).toInt=n:=vA;have a:=congrArg BitVec.toInt g;rw[BitVec.toInt_add,f]at a;generalize (BitVec.ofInt 64 n &&& ~~~ BitVec.ofInt 64 16).toInt=r at *;rw[show(BitVec.ofInt 64 16).toInt=16 from rfl,Int.bmod_def]at a;unfold aJ at b;simp at b;split at a<;>omega
theorem aaN(a b):aJ (bits .and .i64 a b) 1=(aJ a 1&&aJ b 1):=jF a b 0 H
theorem aaO(a b):aJ (bits .and .i64 a b) 2=(aJ a 2&&aJ b 2):=jF a b 1 H
theorem OL(a b):aJ (bits .and .i64 a b) 4=(aJ a 4&&aJ b 4):=jF a b 2 H
