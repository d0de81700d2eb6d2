import Derived.Test.YtlfifnpjeangmaaGreatDoorGEBox
import Derived.Test.YtlfifnpjeangmaaGreatDoorGEBase
namespace Go.Proofs.YtlfifnpjeangmaaGreatDoor
theorem jW(v):1<=Box.size v/\Box.size v<=8:=by unfold Box.size;(repeat' split)<;>omega
end Go.Proofs.YtlfifnpjeangmaaGreatDoor
namespace Go.Proofs.YtlfifnpjeangmaaGreatDoor.Box
variable {l:List UInt8}
def head(tag:UInt8)(n:Nat):List UInt8:=
 if n<128 then [tag,UInt8.ofNat n] else if n<256 then [tag,129,UInt8.ofNat n] else [tag,130,UInt8.ofNat (n / 256),UInt8.ofNat (n % 256)]
def box(tag:UInt8)(l:List UInt8):List UInt8:=head tag l.length++l
theorem pI(tag)(n):(head tag n).length=if n<128 then 2 else if n<256 then 3 else 4:=by
 grind [head]
def l9(v:Int)(i:Nat):UInt8:=UInt8.ofNat (v / 2 ^ (8*i) % 256).toNat
def pJ(v:Int)(k:Nat):Nat->List UInt8
 |0=>[]
 |j+1=>pJ v k j++[l9 v (k-1-j)]
def low(v:Int)(k:Nat):List UInt8:=pJ v k k
theorem Je(v)(k j):(pJ v k j).length=j:=by
 induction j with
 |zero=>rfl
 |succ j a=>simp[pJ,a]
theorem mO(v)(k):(low v k).length=k:=Je v k k
theorem Pg(x)(b):l9 (x*256+(b.toNat:Int)) 0=b:=by
 have:=b.toNat_lt;unfold l9;rw[Nat.mul_zero,Int.pow_zero,Int.ediv_one,show(x*256+(b.toNat:Int)) % 256=(b.toNat:Int) from by omega,Int.toNat_natCast];simp
theorem Ph(x)(b:UInt8)(i):l9 (x*256+(b.toNat:Int)) (i+1)=l9 x i:=by
 have:=b.toNat_lt;unfold l9;rw[show 8*(i+1)=8+8*i from by omega,Int.pow_add,show(2:Int) ^ 8=256 from by decide,<-Int.ediv_ediv_of_nonneg agF,show(x*256+(b.toNat:Int)) / 256=x from by omega]
theorem Pj(x)(b:UInt8)(k j)(h:j<=k):pJ (x*256+(b.toNat:Int)) (k+1) j=pJ x k j:=by
 induction j with
 |zero=>rfl
 |succ j a=>rw[pJ,pJ,a agE,show k+1-1-j=(k-1-j)+1 from by omega,Ph]
theorem La(x)(b)(k):low (x*256+(b.toNat:Int)) (k+1)=low x k++[b]:=by
 unfold low;rw[pJ,Pj x b k k (cy _),show k+1-1-k=0 from by omega,Pg]
theorem Lb(l)(v)(k):low (ja v l) (k+l.length)=low v k++l:=by
 induction l generalizing v k with
 |nil=>simp[ja]
 |cons b l a=>
  rw[yY,de,show k+(l.length+1)=(k+1)+l.length from by omega,a,La];simp
theorem WW(b):low (sign b) 1=[b]:=by
 have h:=La (if b.toNat<128 then 0 else -1) b 0;have e:(if b.toNat<128 then(0:Int) else -1)*256+(b.toNat:Int)=sign b:=by
  unfold sign;split<;>omega
 rw[e]at h;exact h
theorem abk(h:1<=l.length):low (val l) l.length=l:=by
 cases l with
 |nil=>simp at h
 |cons b l=>
  have:=Lb l (sign b) 1;grind [WW,val]
theorem kZ(tag)(l):(box tag l).length=l.length+(if l.length<128 then 2 else if l.length<256 then 3 else 4):=by
 grind [pI,box]
theorem Hl(b:1<=l.length)(a:l.length<=8)(v)(c:v=val l)(n)(hn:n=size v):box 2 (low v n)=box 2 l↔size v=l.length:=by
 grind [kZ,abk,mO]
def lead(l:List UInt8):Nat×Nat:=
 if (l.getD 1 0).toNat=129/\2<l.length then((l.getD 2 0).toNat,3)
 else if (l.getD 1 0).toNat=130/\3<l.length then((l.getD 2 0).toNat*256+(l.getD 3 0).toNat,4)
 else((l.getD 1 0).toNat,2)
def again(l:List UInt8):Option (UInt8×List UInt8×List UInt8):=
 if 2<=l.length/\(lead l).2+(lead l).1<=l.length/\box (l.getD 0 0) ((l.drop (lead l).2).take (lead l).1)=l.take ((lead l).2+(lead l).1) then
  some (l.getD 0 0,(l.drop (lead l).2).take (lead l).1,l.drop ((lead l).2+(lead l).1))
 else none
theorem ofNat_toNat(b):UInt8.ofNat b.toNat=b:=by simp
theorem two(l:List UInt8)(h:2<=l.length):∃a b r,l=a::b::r:=by
 match l,h with
 |a::b::r,_=>exact⟨a,b,r,rfl⟩
theorem Di{tag:UInt8}{n k:Nat}(a:k+n<=l.length)(h:(if n<128 then 2 else if n<256 then 3 else 4)≠k):¬ box tag ((l.drop k).take n)=l.take (k+n):=by
 grind [kZ]
theorem Aj{tag:UInt8}{n k:Nat}(b:k+n<=l.length)(h:head tag n=l.take k):box tag ((l.drop k).take n)=l.take (k+n):=by
 have a:((l.drop k).take n).length=n:=ag2;rw[box,a,h,List.take_add]
theorem Ho(l):again l=cut l:=by
 by_cases k:2<=l.length
 ·obtain⟨tag,b,r,rfl⟩:=two l k;have q:=b.toNat_lt;unfold cut;rw[if_neg agI,List.drop_succ_cons,List.drop_zero];unfold again;by_cases g:b.toNat=129/\2<(tag::b::r).length
  ·have f:lead (tag::b::r)=(((tag::b::r).getD 2 0).toNat,3):=(by unfold lead;rw[if_pos (by simpa using g)]);rw[f];cases r with
   |nil=>simp at g
   |cons x r=>
    have m:=x.toNat_lt;have j:iJ (b::x::r)=if 128<=x.toNat then some (x.toNat,r) else none:=by
     grind [iJ]
    rw[j];have e:((tag::b::x::r).getD 2 0)=x:=rfl;have i:((tag::b::x::r).getD 0 0)=tag:=rfl;simp only[e,i];by_cases c:3+x.toNat<=(tag::b::x::r).length
    ·by_cases d:128<=x.toNat
     ·have hy:=Aj (tag:=tag) c (by unfold head;rw[if_neg agE,if_pos agE,ofNat_toNat];rw[show(129:UInt8)=b from by rw[<-ofNat_toNat b,g.1];rfl];rfl);grind
     grind [Di]
    grind
  ·by_cases a:b.toNat=130/\3<(tag::b::r).length
   ·have f:lead (tag::b::r)=(((tag::b::r).getD 2 0).toNat*256+((tag::b::r).getD 3 0).toNat,4):=(by unfold lead;rw[if_neg (by simpa using g),if_pos (by simpa using a)]);rw[f];match r,a with
    | [],a=>simp at a
    | [x],a=>simp at a
    |x::y::r,a=>
     have m:=x.toNat_lt;have p:=y.toNat_lt;have j:iJ (b::x::y::r)=if 256<=x.toNat*256+y.toNat then some (x.toNat*256+y.toNat,r) else none:=by
      grind [iJ]
     rw[j];have e:((tag::b::x::y::r).getD 2 0)=x:=rfl;have n:((tag::b::x::y::r).getD 3 0)=y:=rfl;have i:((tag::b::x::y::r).getD 0 0)=tag:=rfl;simp only[e,i,n];by_cases c:4+(x.toNat*256+y.toNat)<=(tag::b::x::y::r).length
     ·by_cases d:256<=x.toNat*256+y.toNat
      ·have hy:=Aj (tag:=tag) c (by
        unfold head;rw[if_neg agE,if_neg agE,show(x.toNat*256+y.toNat) / 256=x.toNat from by omega,show(x.toNat*256+y.toNat) % 256=y.toNat from by omega,ofNat_toNat,ofNat_toNat,show(130:UInt8)=b from by rw[<-ofNat_toNat b,a.1];rfl]
        rfl)
       rw[if_pos ⟨k,c,hy⟩,if_pos d];simp only;rw[if_pos (by simp at c;omega),<-List.drop_drop];rfl
      ·have hy:=Di (tag:=tag) c (by split<;>(try split)<;>omega);rw[if_neg (λh=>hy h.2.2),if_neg d]
     ·rw[if_neg (λh=>c h.2.1)];grind
   ·have f:lead (tag::b::r)=(((tag::b::r).getD 1 0).toNat,2):=(by unfold lead;rw[if_neg (by simpa using g),if_neg (by simpa using a)]);rw[f];have e:((tag::b::r).getD 1 0)=b:=rfl;have i:((tag::b::r).getD 0 0)=tag:=rfl;simp only[e,i];by_cases o:b.toNat<128
    ·grind [Aj,ofNat_toNat,head,iJ]
    grind [Di,iJ]
 grind [again,iJ,cut]
def cuts:Nat->List UInt8->Option (List (UInt8×List UInt8))
 |0,l=>if l.length=0 then some [] else none
 |n+1,l=>if l.length=0 then some [] else
  match cut l with
  |none=>none
  |some (t,i,r)=>(cuts n r).map ((t,i)::·)
theorem Tx:∀(n m)(l),l.length<=n->l.length<=m->cuts n l=cuts m l:=by
 intro n;induction n with
 |zero=>
  intro m l b _;have a:l.length=0:=agE;cases m with
  |zero=>rfl
  |succ m=>simp[cuts,a]
 |succ n d=>
  intro m l b e;cases m with
  |zero=>
   grind
  |succ m=>
   by_cases a:l.length=0
   ·simp[cuts,a]
   ·simp only[cuts,if_neg a];cases h:cut l with
    |none=>rfl
    |some c=>
     obtain⟨t,i,r⟩:=c;have:=mM h;simp only;rw[d m r agE agE]
def dF(l:List UInt8):Option (List (UInt8×List UInt8)):=cuts l.length l
theorem wO(h:l.length=0):dF l=some []:=by
 have:l=[]:=agM;subst this;rfl
theorem nZ(b:0<l.length)(h:cut l=none):dF l=none:=by
 unfold dF;obtain⟨m,a⟩:∃m,l.length=m+1:=⟨l.length-1,by omega⟩
 rw[a,cuts,if_neg agE,h]
theorem qW{i r:List UInt8}{t:UInt8}(h:cut l=some (t,i,r)):dF l=(dF r).map ((t,i)::·):=by
 have a:=mM h;unfold dF;obtain⟨m,b⟩:∃m,l.length=m+1:=⟨l.length-1,by omega⟩
 rw[b,cuts,if_neg agE,h];simp only;rw[Tx m r.length r agE agE]
def wt:List (UInt8×List UInt8)->Nat
 | []=>0
 |p::ps=>p.2.length+2+wt ps
theorem WX:∀(n)(l)(ps),l.length<=n->dF l=some ps->wt ps<=l.length:=by
 intro n;induction n with
 |zero=>
  grind [wO,wt]
 |succ n e=>
  intro l ps c h;by_cases f:l.length=0
  ·grind [wO]
  ·cases a:cut l with
   |none=>grind [nZ]
   |some b=>
    obtain⟨t,i,r⟩:=b;have d:=mM a;rw[qW a]at h;simp only[Option.map_eq_some_iff]at h;grind [wt]
end Go.Proofs.YtlfifnpjeangmaaGreatDoor.Box
namespace Go.Proofs.YtlfifnpjeangmaaGreatDoor
open Go.RowKit
set_option maxRecDepth 100000
theorem RY(w:World)(e)(b):(w.alloc (.cells #[.int .u8 b.toNat] e)).ownsRow w.heap.size e 1 (.slice (some (w,0)) 1 1) 1 ([b].map U8):=by
 refine⟨rfl,Or.inr ⟨w.heap.size,1,_,rfl,cy _,heap_alloc_new w _,cy _,by decide,rfl,rfl⟩⟩
theorem uw(w:World)(o)(e)(cs)(a)(h:cs.toList=a.map U8):At ((w.alloc o).alloc (.cells cs e)) (some ⟨w.heap.size+1,0,none⟩) a:=by
 grind [cF,fq]
theorem WY(n:Nat)(h:n<256):IntKind.u8.wrap (n:Int)=((UInt8.ofNat n).toNat:Int):=by
 rw[eo,ez agE];simp[IntKind.wrap,IntKind.bits,IntKind.signed];omega
theorem Hq(v)(i):v / 2 ^ (8*i) % 256=((Box.l9 v i).toNat:Int):=by
 unfold Box.l9;generalize v / 2 ^ (8*i)=x;rw[eo,ez agE];omega
theorem ny{w:World}{base a:Nat}{e:TypeId}{size:Nat}{v:Value}{n:Nat}{i:List Value}(h:w.ownsRow base e size v n i)(k:a<=base):w.ownsRow a e size v n i:=by
 obtain⟨j,f⟩:=h;refine⟨j,?_⟩;rcases f with f|⟨g,c,b,o,d,m⟩
 ·exact Or.inl f
 ·exact Or.inr ⟨g,c,b,o,cE k d,m⟩
variable {l:List UInt8}{k:Nat}
def jC(z:UInt8):Bool:=decide ((97<=z.toNat/\z.toNat<=122)\/(48<=z.toNat/\z.toNat<=57)\/z.toNat=47)
def cO(l:List UInt8):Bool:=decide (1<=l.length/\l.length<=16)&&l.all jC
theorem xJ(h:k<l.length):(l.take (k+1)).all jC=((l.take k).all jC&&jC (l.getD k 0)):=by
 rw[dy h,List.all_append];grind
structure mW where
 kind:Int
 name:List UInt8
 key:UInt64
 bI:Int
 aC:Int
 bB:Int
 ae:Int
abbrev mW.cells(a:mW):Array Value:=#[ι a.kind,.string a.name,υ a.key.toNat,ι a.bI,ι a.aC,ι a.bB,ι a.ae]
def mW.ql(a:mW):Bool:=decide (0<=a.bI/\0<=a.aC/\0<=a.ae/\a.ae<64)
structure BE where
 name:List UInt8
 aH:Int
 key:UInt64
 before:UInt64
 bI:Int
 aC:Int
 bB:Int
 ae:Int
structure PF where
 ay:List UInt8
 time:Int
 count:Int
 deriving DecidableEq
structure DM where
 aA:Int
 aG:List BE
 aJ:List PF
 aL:List UInt8
def BE.o9(es:List BE)(l:List UInt8):Option Nat:=es.findIdx? (λe=>e.name==l)
def BE.ins:List BE->List UInt8->Nat
 | [],_=>0
 |e::es,l=>if Op.bytesLess e.name l then BE.ins es l+1 else 0
def BE.new(a:mW):BE:=⟨a.name,1,a.key,0,a.bI,a.aC,a.bB,a.ae⟩
def BE.jk(x:BE)(key:UInt64):BE:=⟨x.name,x.aH+1,key,x.key,x.bI,x.aC,x.bB,x.ae⟩
def BE.rq(x:BE)(a:mW):BE:=⟨x.name,x.aH,x.key,x.before,a.bI,a.aC,a.bB,a.ae⟩
def fB(es:List BE)(a:mW):List BE×Int:=
 if a.kind=1 then
  (if cO a.name=false then(es,4) else if a.ql=false then(es,1) else if (BE.o9 es a.name).isSome then(es,5) else if 20<=es.length then(es,7)
   else(es.take (BE.ins es a.name)++[BE.new a]++es.drop (BE.ins es a.name),0))
 else if a.kind=2\/a.kind=3\/a.kind=4 then
  match BE.o9 es a.name with
  |none=>(es,6)
  |some i=>
   if a.kind=2 then(es.take i++es.drop (i+1),0)
   else match es[i]? with
   |none=>(es,6)
   |some x=>if a.kind=3 then(es.set i (x.jk a.key),0) else if a.ql=false then(es,1) else(es.set i (x.rq a),0)
 else(es,1)
structure fU(n:Nat)(es:List BE):Prop where
 len:es.length<=20
 name:∀e∈es,cO e.name=true
 num:∀e∈es,1<=e.aH/\e.aH<=(n:Int)
 ql:∀e∈es,0<=e.bI/\0<=e.aC/\0<=e.ae/\e.ae<64
 sorted:es.Pairwise λx y=>Op.bytesLess x.name y.name=true
theorem H9:∀a,Op.bytesLess a a=false
 | []=>rfl
 |x::a=>by simp[Op.bytesLess,H9 a]
theorem uy:∀a,Op.bytesLess a []=false
 | []=>rfl
 |_::_=>rfl
theorem zi:∀{a b c:List UInt8},Op.bytesLess a b=true->Op.bytesLess b c=true->Op.bytesLess a c=true:=by
 intro a;induction a with
 |nil=>
  intro b c d e;cases c with
  |nil=>grind [uy]
  |cons z c=>rfl
 |cons x a f=>
  intro b c d e;cases b with
  |nil=>grind [uy]
  |cons y b=>
   cases c with
   |nil=>grind [uy]
   |cons z c=>
    simp only[Op.bytesLess,Bool.or_eq_true,Bool.and_eq_true,decide_eq_true_eq,db]at d e⊢;grind
theorem Xn:∀{a b:List UInt8},Op.bytesLess a b=false->a≠b->Op.bytesLess b a=true:=by
 intro a;induction a with
 |nil=>
  intro b c d;cases b with
  |nil=>exact absurd rfl d
  |cons y b=>simp[Op.bytesLess]at c
 |cons x a e=>
  intro b c d;cases b with
  |nil=>rfl
  |cons y b=>
   simp only[Op.bytesLess,Bool.or_eq_false_iff,Bool.and_eq_false_iff,decide_eq_false_iff_not,cJ]at c;simp only[Op.bytesLess,Bool.or_eq_true,Bool.and_eq_true,decide_eq_true_eq,db];grind
theorem Pt(a)(l):BE.ins a l<=a.length:=by
 induction a with
 |nil=>exact cy _
 |cons x a b=>simp only[BE.ins,de];split<;>omega
theorem Ia(l):∀(a:List BE),∀x∈a.take (BE.ins a l),Op.bytesLess x.name l=true:=by
 intro a;induction a with
 |nil=>intro x b;simp at b
 |cons y a c=>
  grind [BE.ins]
theorem Dw(l):∀(a:List BE),a.Pairwise (λx y=>Op.bytesLess x.name y.name=true)->(∀x∈a,x.name≠l)->∀x∈a.drop (BE.ins a l),Op.bytesLess l x.name=true:=by
 intro a;induction a with
 |nil=>intro _ _ x b;simp at b
 |cons y a d=>
  intro c hn x b;rw[List.pairwise_cons]at c;simp only[BE.ins]at b;grind [zi,Xn]
theorem Sb{a:List BE}(h:BE.o9 a l=none):∀x∈a,x.name≠l:=by
 grind [BE.o9]
theorem Ch{a:List BE}{i:Nat}(h:BE.o9 a l=some i):∃b:i<a.length,a[i].name=l:=by
 rw[BE.o9,List.findIdx?_eq_some_iff_getElem]at h;grind
theorem Jm{a:List BE}{e x:BE}(h:x∈a.take k++[e]++a.drop k):x=e\/x∈a:=by
 grind
theorem Sc{a:List BE}{x:BE}(h:x∈a.take k++a.drop (k+1)):x∈a:=by
 grind
theorem fU.mono{n m:Nat}{a:List BE}(h:fU n a)(k:n<=m):fU m a:=⟨h.len,h.name,λe b=>by have:=h.num e b;omega,h.ql,h.sorted⟩
theorem fU.nil(n):fU n []:=⟨by simp,by simp,by simp,by simp,.nil⟩
theorem Jn{a:List BE}(e:a.Pairwise (λx y=>Op.bytesLess x.name y.name=true))(i)(y)(d:i<a.length)(hy:y.name=a[i].name):(a.set i y).Pairwise (λx y=>Op.bytesLess x.name y.name=true):=by
 have c:(a.set i y).map BE.name=a.map BE.name:=by
  rw[List.map_set,hy];apply List.ext_getElem?;grind
 have b:(a.map BE.name).Pairwise (λx y=>Op.bytesLess x y=true):=agM;grind
theorem fU.fB{n:Nat}{b:List BE}(h:fU n b)(hn:1<=n)(a):fU (n+1) (fB b a).1:=by
 have d:=h.mono (fg n);have j:∀(i)(x y),b[i]?=some x->y.name=x.name->(1<=y.aH/\y.aH<=((n+1:Nat):Int))->(0<=y.bI/\0<=y.aC/\0<=y.ae/\y.ae<64)->fU (n+1) (b.set i y):=by
  intro i x y f B w z;obtain⟨A,s⟩:=cM.1 f;have g:x∈b:=agM;refine⟨by simpa using h.len,?_,?_,?_,(by grind [Jn,fU.sorted])⟩
  ·grind [fU.name]
  ·intro e c;rcases List.mem_or_eq_of_mem_set c with q|q
   ·exact d.num e q
   ·rw[q];exact w
  ·intro e c;rcases List.mem_or_eq_of_mem_set c with q|q
   ·exact h.ql e q
   ·rw[q];exact z
 have t:a.ql≠false->0<=a.bI/\0<=a.aC/\0<=a.ae/\a.ae<64:=by
  grind [mW.ql]
 unfold Proofs.YtlfifnpjeangmaaGreatDoor.fB;split
 ·split
  ·exact d
  ·rename_i hnm;split
   ·exact d
   ·rename_i hp;split
    ·exact d
    ·rename_i hat;split
     ·exact d
     ·rename_i hfull;have r:BE.o9 b a.name=none:=(by simpa using hat);have o:=Sb r;have u:=Pt b a.name;refine⟨by simp;omega,?_,?_,?_,?_⟩
      ·intro e c;rcases Jm c with q|q
       ·rw[q];show cO a.name=true;simpa using hnm
       ·exact h.name e q
      ·intro e c;rcases Jm c with q|q
       ·rw[q];show 1<=(1:Int)/\(1:Int)<=_;omega
       ·exact d.num e q
      ·intro e c;rcases Jm c with q|q
       ·rw[q];exact t hp
       ·exact h.ql e q
      ·rw[du,List.pairwise_append];refine⟨(by grind [fU.sorted]),?_,?_⟩
       ·rw[List.singleton_append,List.pairwise_cons];exact⟨λx f=>Dw a.name b h.sorted o x f,(by grind [fU.sorted])⟩
       ·intro x f y hy;rw[List.singleton_append]at hy;have p:=Ia a.name b x f;rcases List.mem_cons.1 hy with q|q
        ·rw[q];exact p
        ·exact zi p (Dw a.name b h.sorted o y q)
 ·split
  ·split
   ·exact d
   ·rename_i i A;split
    ·refine⟨?_,(by grind [fU.name]),λe c=>d.num e (Sc c),λe c=>h.ql e (Sc c),?_⟩
     ·have:=h.len;simp;omega
     ·have m:(b.take i++b.drop (i+1)).Sublist b:=by
       conv=>rhs;rw[<-eN i b]
       grind
      exact h.sorted.sublist m
    ·split
     ·exact d
     ·rename_i x f;obtain⟨v,s⟩:=cM.1 f;have g:x∈b:=agM;split
      ·exact j i x (x.jk a.key) f rfl (by have:=h.num x g;show 1<=x.aH+1/\x.aH+1<=_;omega) (h.ql x g)
      ·split
       ·exact d
       ·rename_i hp;exact j i x (x.rq a) f rfl (d.num x g) (t hp)
  ·exact d
end Go.Proofs.YtlfifnpjeangmaaGreatDoor
namespace Go.Proofs.YtlfifnpjeangmaaGreatDoor.Box
end Go.Proofs.YtlfifnpjeangmaaGreatDoor.Box
namespace Go.Proofs.YtlfifnpjeangmaaGreatDoor
open Go.RowKit
variable {p:Prop}
def bR(v:Int):List UInt8:=Box.box 2 (Box.low v (Box.size v))
def iy(l:List Int):List UInt8:=(l.map bR).flatten
theorem fo(v):3<=(bR v).length/\(bR v).length<=10:=by
 grind [jW,Box.mO,Box.kZ,bR]
theorem lg(l):(iy l).length<=10*l.length:=by
 induction l with
 |nil=>simp[iy]
 |cons v l a=>
  grind [fo,iy]
set_option maxRecDepth 100000
variable {β:Type}
def sat(x:Int):Int:=if x < -9223372036854775808 then -9223372036854775808 else if 9223372036854775807<x then 9223372036854775807 else x
def aW(a b:Int):Int:=sat (a+b)
def fV(a b:Int):Int:=sat (a-b)
def dU(a b:Int):Int:=if a<b then fV b a else fV a b
def lesser(a b:Int):Int:=if a<b then a else b
def asked(t:Int):Int:=if t=0 then 9223372036854775807 else t
def aI(n b:Int):Bool:=decide (n / b % 2=1)
def BE.has(e:BE)(f:Int):Bool:=aI e.ae f
def BE.gone(e:BE)(now:Int):Bool:=decide (e.bB≠0/\e.bB<=now)
def BE.find(es:List BE)(l:List UInt8):Option BE:=es.find? (λe=>e.name==l)
def BE.keyOf(e:BE)(n:Int):Option UInt64:=if n=e.aH then some e.key else if n=e.aH-1/\1<e.aH then some e.before else none
structure TK where
 ae:Int
 aN:UInt64
 ay:List UInt8
 dV:Int
 start:Int
 fin:Int
 aC:Int
def dw(l:List UInt8):List UInt8:=Box.box 4 l
def jN(l:List (List UInt8)):List UInt8:=Box.box 48 l.flatten
def nC(k:UInt64):List UInt8:=dw (Pure.be k 8)
def TK.plain(t:TK):List UInt8:=jN [bR t.ae,nC t.aN,dw t.ay,bR t.dV,bR t.start,bR t.fin,bR t.aC]
def wR(t:TK)(s:BE)(draw:UInt64):List UInt8:=jN [dw s.name,bR s.aH,dw (Pure.fE s.key 2 draw t.plain)]
def oq(t:TK)(bU:Int)(s:BE):List UInt8:=jN [nC t.aN,bR bU,bR t.ae,bR t.dV,bR t.start,bR t.fin,bR t.aC,dw s.name]
def lU(kind:Int)(t:TK)(s:BE)(bU aH:Int)(key use a b:UInt64):List UInt8:=
 jN [bR kind,dw t.ay,wR t s a,jN [bR aH,dw (Pure.fE key use b (oq t bU s))]]
def aY(now code:Int):List UInt8:=jN [bR 30,bR now,bR code]
abbrev qz:Type:=UInt8×List UInt8
def bG(p:qz):Option Int:=if p.1.toNat=2 then Box.num p.2 else none
def jm(p:qz):Option (List UInt8):=if p.1.toNat=4 then some p.2 else none
def dh(p:qz):Option (List UInt8):=if p.1.toNat=4/\cO p.2=true then some p.2 else none
def PR(p:qz):Option UInt64:=if p.1.toNat=4/\p.2.length=8 then some (Pure.joinL 0 p.2) else none
def zq(p:qz):Option (List qz):=if p.1.toNat=48 then Box.dF p.2 else none
def bX{α β:Type}(f:qz->Option α)(k:α->List qz->Option β):List qz->Option β
 | []=>none
 |p::ps=>(f p).bind λa=>k a ps
def xB{β:Type}(b:β)(ps:List qz):Option β:=if ps=[] then some b else none
def dL{α β:Type}(f:qz->Option α)(k:α->List UInt8->Option β)(l:List UInt8):Option β:=
 match Box.cut l with
 |none=>none
 |some (t,i,r)=>(f (t,i)).bind λa=>k a r
def ve{β:Type}(b:β)(l:List UInt8):Option β:=if l=[] then some b else none
theorem wS(b:β)(l):ve b l=(Box.dF l).bind (xB b):=by
 unfold ve;cases l with
 |nil=>rfl
 |cons x l=>
  rw[if_neg agI];cases h:Box.cut (x::l)with
  |none=>grind [Box.nZ]
  |some p=>
   obtain⟨t,i,r⟩:=p;rw[Box.qW h];cases Box.dF r<;>simp[xB]
theorem dZ{α:Type}(f:qz->Option α)(k:α->List qz->Option β)(b:α->List UInt8->Option β)(h:∀a l,b a l=(Box.dF l).bind (k a))(l):dL f b l=(Box.dF l).bind (bX f k):=by
 unfold dL;cases d:Box.cut l with
 |none=>
  cases l with
  |nil=>rfl
  |cons x l=>grind [Box.nZ]
 |some p=>
  obtain⟨t,i,r⟩:=p;rw[Box.qW d];simp only[h];cases Box.dF r<;>cases c:f (t,i)<;>simp[bX,c]
theorem Xy(l):(none:Option β)=(Box.dF l).bind (λ_=>none):=by cases Box.dF l<;>rfl
def lh(l:List UInt8):Option (List qz):=
 match Box.cut l with
 |some (t,i,[])=>if t.toNat=48 then Box.dF i else none
 |_=>none
structure FQ where
 ay:List UInt8
 aV:List UInt8
 bU:Int
 ma:Int
 dI:Int
 bW:Int
 aO:Int
 pre:Option (Int×List UInt8)
structure NQ where
 fQ:List UInt8
 ou:Int
 dO:List UInt8
 proof:List UInt8
 aV:List UInt8
 bU:Int
 dI:Int
 bW:Int
 aO:Int
def qD:List qz->Option (Int×List UInt8):=bX bG λn=>bX jm λz=>xB (n,z)
def mi(p:qz):Option (Option (Int×List UInt8)):=
 match zq p with
 |none=>none
 |some []=>some none
 |some ps=>(qD ps).map some
def lq:List qz->Option FQ:=bX bG λk=>if k=10 then bX dh λc=>bX dh λs=>bX bG λn=>bX bG λf=>bX bG λt=>bX bG λr=>bX bG λo=>bX mi λp=>xB ⟨c,s,n,f,t,r,o,p⟩ else λ_=>none
def qG:List qz->Option (List UInt8×Int×List UInt8):=bX dh λs=>bX bG λn=>bX jm λz=>xB (s,n,z)
def gT(p:qz):Option (List UInt8×Int×List UInt8):=(zq p).bind qG
def lu:List qz->Option NQ:=bX bG λk=>if k=12 then bX gT λc=>bX jm λp=>bX dh λs=>bX bG λn=>bX bG λt=>bX bG λr=>bX bG λo=>xB ⟨c.1,c.2.1,c.2.2,p,s,n,t,r,o⟩ else λ_=>none
def nD(aX:List UInt8):Option FQ:=if aX.length<=300 then(lh aX).bind lq else none
def rA(aX:List UInt8):Option NQ:=if aX.length<=300 then(lh aX).bind lu else none
def eP(key use:UInt64)(z:List UInt8):Option (List UInt8):=if 16<=z.length/\Pure.opens key use z=true then some (Pure.eQ key use z) else none
def kQ(l:List UInt8):Option Int:=
 match Box.cut l with
 |some (t,i,[])=>bG (t,i)
 |_=>none
def jO:List qz->Option TK:=bX bG λf=>bX PR λk=>bX dh λc=>bX bG λa=>bX bG λs=>bX bG λe=>bX bG λr=>xB ⟨f,k,c,a,s,e,r⟩
def dR(l:List UInt8):Option TK:=(lh l).bind jO
def tN:List qz->Option PF:=bX dh λc=>bX bG λt=>bX bG λn=>xB ⟨c,t,n⟩
def fG(l:List UInt8):Option PF:=(lh l).bind tN
structure GR where
 kind:Int
 t:TK
 s:BE
 bU:Int
 aH:Int
 key:UInt64
 use:UInt64
def dS(x y:Option BE)(now a b c d:Int):Int:=
 match x,y with
 |none,_=>a
 |some _,none=>b
 |some x,some y=>if x.gone now=true then c else if y.gone now=true then d else if x.has 32=true\/y.has 32=true then 12 else 0
def eT(aA now:Int)(x:BE):Option (Int×List UInt8)->Int
 |none=>if x.has 1=true then 25 else 0
 |some (n,z)=>
  match (eP x.key 1 z).bind kQ with
  |none=>24
  |some t=>if n≠x.aH then 24 else if aA<dU t now then 37 else 0
def gY(aO old:Int)(x s:BE):Int:=
 (if aI aO 1=true/\aI old 1=true/\x.has 4=true/\s.has 4=true then 1 else 0)+(if aI aO 2=true/\aI old 2=true/\x.has 8=true/\s.has 8=true then 2 else 0)
  + (if aI aO 4=true/\aI old 4=true/\x.has 2=true/\s.has 2=true then 4 else 0)
def fu(aO old:Int)(x s:BE)(start upto:Int):Int:=
 if aI aO 4=true/\aI old 4=true/\x.has 2=true/\s.has 2=true then lesser upto (lesser (aW start x.aC) (aW start s.aC)) else 0
def bH(now:Int)(q:FQ):Int:=if aI q.aO 8=true then q.ma else now
def fK(now:Int)(q:FQ)(x s:BE):Int:=lesser (asked q.dI) (lesser (aW (bH now q) x.bI) (aW (bH now q) s.bI))
def mH(now:Int)(q:FQ)(x s:BE):TK:=
 ⟨32+(if q.pre.isSome then 64 else 0)+(if aI q.aO 8=true then 24 else 0)+gY q.aO 7 x s,0,q.ay,now,bH now q,fK now q x s,fu q.aO 7 x s (bH now q) (asked q.bW)⟩
def cB(aA now:Int)(q:FQ)(x s:BE):Int:=
 if eT aA now x q.pre≠0 then eT aA now x q.pre
 else if q.aO<0\/15<q.aO then 13
 else if aI q.aO 8=true/\¬ (x.has 16=true/\s.has 16=true) then 10
 else if aI q.aO 8=false/\aW now aA<q.ma then 10
 else if fK now q x s<=bH now q then 11 else 0
def firstM(M:DM)(now:Int)(q:FQ):Except Int GR:=
 match BE.find M.aG q.ay,BE.find M.aG q.aV with
 |none,_=>.error 6
 |some _,none=>.error 7
 |some x,some s=>
  if dS (some x) (some s) now 6 7 1 2≠0 then .error (dS (some x) (some s) now 6 7 1 2)
  else if cB M.aA now q x s≠0 then .error (cB M.aA now q x s)
  else .ok ⟨11,mH now q x s,s,q.bU,x.aH,x.key,3⟩
def iV(M:DM)(now:Int)(q:NQ):Except Int (TK×PF):=
 if q.fQ≠[116,103,115]/\¬ ((aI q.aO 16=true\/aI q.aO 32=true)/\q.fQ=q.aV) then .error 36
 else match BE.find M.aG q.fQ with
 |none=>.error 7
 |some e=>
  match e.keyOf q.ou with
  |none=>.error 44
  |some key=>
   match (eP key 2 q.dO).bind dR with
   |none=>.error 31
   |some t=>
    match (eP t.aN 4 q.proof).bind fG with
    |none=>.error 31
    |some p=>if p.ay≠t.ay then .error 36 else if M.aA<dU p.time now then .error 37 else .ok (t,p)
def iQ(aA now:Int)(l:List PF):List PF:=l.filter λp=>decide (dU p.time now<=aA)
def bL(aA now:Int)(l:List PF)(p:PF):Int:=if p∈iQ aA now l then 34 else if 8<=(iQ aA now l).length then 60 else 0
def bJ(aA now:Int)(l:List PF)(p:PF):List PF:=if bL aA now l p=0 then iQ aA now l++[p] else iQ aA now l
def vI(aO:Int):Int:=(if aI aO 16=true then 1 else 0)+(if aI aO 32=true then 1 else 0)+(if aI aO 64=true then 1 else 0)+(if aI aO 128=true then 1 else 0)
def jZ(aO ae:Int):Bool:=
 if aO<0\/255<aO\/aI aO 8=true then false
 else if 1<vI aO\/aI aO 32=true/\aO≠32 then false
 else if aI aO 16=true/\aI ae 4=false\/aI aO 64=true/\aI ae 1=false\/aI aO 128=true/\aI ae 2=false then false
 else !aI aO 32||aI ae 16
def Ie(ae:Int):Int:=(if aI ae 64=true then 64 else 0)+(if aI ae 128=true then 128 else 0)+(if aI ae 256=true then 256 else 0)
def iD(now dI:Int)(old:TK)(x s:BE):Int:=lesser (lesser (asked dI) old.fin) (lesser (aW now x.bI) (aW now s.bI))
def iL(aO:Int)(old:TK)(x s:BE):Int:=
 (if aI old.ae 64=true then 64 else 0)+(if aI old.ae 128=true\/aI aO 64=true then 128 else 0)+(if aI old.ae 256=true\/aI aO 128=true then 256 else 0)+gY aO old.ae x s
def fresh(now:Int)(old:TK)(x s:BE)(dI bW aO:Int):Except Int TK:=
 if aI aO 32=true then(if now<old.start then .error 33 else .ok {old with ae:=if aI old.ae 16=true then old.ae-16 else old.ae})
 else if aI aO 16=true then(if old.aC<=now then .error 32 else .ok {old with start:=now,fin:=lesser old.aC (aW now (fV old.fin old.start))})
 else if iD now dI old x s<=now then .error 11
 else .ok {old with start:=now,fin:=iD now dI old x s,ae:=iL aO old x s,aC:=fu aO old.ae x s now (lesser (asked bW) old.aC)}
def ek(M:DM)(now:Int)(q:NQ)(old:TK):Except Int GR:=
 if aI old.ae 16=true/\aI q.aO 32=false\/aW now M.aA<old.start then .error 33
 else if old.fin<now then .error 32
 else match BE.find M.aG q.aV,BE.find M.aG old.ay with
 |none,_=>.error 7
 |some _,none=>.error 6
 |some s,some x=>
  if dS (some s) (some x) now 7 6 2 1≠0 then .error (dS (some s) (some x) now 7 6 2 1)
  else if jZ q.aO old.ae=false then .error 13
  else match fresh now old x s q.dI q.bW q.aO with
  |.error c=>.error c
  |.ok t=>.ok ⟨13,t,s,q.bU,0,old.aN,5⟩
def eB(ds:List UInt8)(k:Nat):UInt64:=Pure.joinL 0 ((ds.drop (8*k)).take 8)
def GR.box(g:GR)(ds:List UInt8):List UInt8:=lU g.kind {g.t with aN:=eB ds 0} g.s g.bU g.aH g.key g.use (eB ds 1) (eB ds 2)
def dz(M:DM)(now:Int):Except Int GR->List UInt8×DM
 |.error c=>(aY now c,M)
 |.ok g=>if M.aL.length<24 then(aY now 60,M) else(g.box M.aL,{M with aL:=M.aL.drop 24})
def tO(M:DM)(now:Int)(q:NQ):List UInt8×DM:=
 match iV M now q with
 |.error c=>(aY now c,M)
 |.ok (t,p)=>
  let M':={M with aJ:=bJ M.aA now M.aJ p}
  if bL M.aA now M.aJ p≠0 then(aY now (bL M.aA now M.aJ p),M')
  else dz M' now (ek M' now q t)
def dG(M:DM)(now:Int)(aX:List UInt8):List UInt8×DM:=
 match nD aX with
 |some q=>dz M now (firstM M now q)
 |none=>
  match rA aX with
  |some q=>tO M now q
  |none=>(aY now 60,M)
set_option maxHeartbeats 1000000
open Proofs.Tryz
theorem aip{S:ByteArray}{l:List UInt8}(hS:S=⟨l.toArray⟩)(j)(h:j<S.size):S[j]'h=l.getD j 0:=by
 subst hS;have a:j<l.length:=by simpa[ByteArray.size]using h
 simp only[List.getD,cL a,Option.getD_some];rfl
theorem aaF(h:p:=by
 go_wp2
 go_ret
 exact⟨rfl,rfl⟩):p:=h
theorem DU(z)(w):Calls prog 202 #[.int .u8 z.toNat] w λe w'=>e=.returned (.bool (jC z))/\w=w':=by
 have m:=z.toNat_lt;have f:Hid (jC z=decide ((97<=z.toNat/\z.toNat<=122)\/(48<=z.toNat/\z.toNat<=57)\/z.toNat=47)):=rfl;have key:∀b,jC z=b->(b=true↔((97<=z.toNat/\z.toNat<=122)\/(48<=z.toNat/\z.toNat<=57)\/z.toNat=47)):=by
  intro b k;rw[<-k,f.o,decide_eq_true_iff]
 cases h:jC z
 ·have hn:¬ ((97<=z.toNat/\z.toNat<=122)\/(48<=z.toNat/\z.toNat<=57)\/z.toNat=47):=agM;have g:((z.toNat:Int)==47)=false:=agM;clear key f h;by_cases d:97<=z.toNat
  ·have a:(97:Int)<=(z.toNat:Int):=agE;have l:¬ (z.toNat:Int)<=122:=agE;have j:¬ (z.toNat:Int)<=57:=agE;clear hn;go_enter func202,ntmps202;exact aaF
  ·have a:¬ (97:Int)<=(z.toNat:Int):=agE;by_cases i:48<=z.toNat
   ·have c:(48:Int)<=(z.toNat:Int):=agE;have j:¬ (z.toNat:Int)<=57:=agE;clear hn;go_enter func202,ntmps202;exact aaF
   ·have c:¬ (48:Int)<=(z.toNat:Int):=agE;clear hn;go_enter func202,ntmps202;exact aaF
 ·have hy:=(key _ h).1 rfl;clear key f h;by_cases d:97<=z.toNat/\z.toNat<=122
  ·have a:(97:Int)<=(z.toNat:Int):=agE;have l:(z.toNat:Int)<=122:=agE;clear hy d;go_enter func202,ntmps202;exact aaF
  ·by_cases i:48<=z.toNat/\z.toNat<=57
   ·have a:¬ (97:Int)<=(z.toNat:Int):=agE;have c:(48:Int)<=(z.toNat:Int):=agE;have j:(z.toNat:Int)<=57:=agE;clear hy d i;go_enter func202,ntmps202;exact aaF
   ·have a:¬ (97:Int)<=(z.toNat:Int):=agE;have c:¬ (48:Int)<=(z.toNat:Int):=agE;have g:((z.toNat:Int)==47)=true:=(by rw[db];omega);clear hy d i;go_enter func202,ntmps202;exact aaF
theorem ac2(h:p:=by
 go_wp2
 go_ret
 exact⟨by rw[HR.o];rfl,rfl⟩):p:=h
theorem DV(l)(n)(S)(w)(hS:Hid (S=⟨l.toArray⟩))(hn:Hid (l.length=n))(C:n<=9223372036854775807):
  Calls prog 161 #[.string S] w λe w'=>e=.returned (.bool (cO l))/\w=w':=by
 have x:S.size=n:=by rw[hS.o,<-hn.o];simp[ByteArray.size]
 have f:Hid (cO l=(decide (1<=n/\n<=16)&&l.all jC)):=by show _=_;rw[cO,hn.o]
 by_cases u:1<=n
 ·by_cases c:n<=16
  ·have d:¬ (n:Int)<1:=agE;have r:¬ (16:Int)<(n:Int):=agE;have j:Hid (cO l=l.all jC):=(by show _=_;rw[f.o,dk ⟨u,c⟩,gn]);clear f;go_enter func161,ntmps161;go_wp2;go_loop [3,14] (λ_ i=>∃k:Nat,k<=n/\i = ι k/\Hid ((l.take k).all jC=true)) (λ_ i=>n-(intOf i).toNat)
   case atStart=>grind [hid]
   case round=>
    obtain⟨k,B,rfl,s⟩:=hrel;by_cases q:k<n
    ·have b:k<l.length:=(by rw[hn.o];exact q);have m:=aip hS.o k;have a:=hid (xJ b);rw[s.o,gn]at a;have g:Hid (jC (l.getD k 0)=false->cO l=false):=by
      grind [RowKit.Hid.o]
     generalize l.getD k 0=z at m a g;have A:(k:Int)<(n:Int):=agE;have v:(0:Int)<=(k:Int):=agE;cases t:jC z
     ·have y:=hid (g.o t);clear g a;go_wp2_with (go_at_call 202;refine(DU z _).mono ?_;rintro e w' ⟨rfl,rfl⟩)
      go_ret;exact⟨by rw[y.o];rfl,rfl⟩
     ·have D:=hid (a.o.trans t);clear g a;go_wp2_with (go_at_call 202;refine(DU z _).mono ?_;rintro e w' ⟨rfl,rfl⟩)
      go_round
      case rel=>grind
      case measure=>simp[intOf];omega
    ·have p:k=n:=agE;subst p;have HR:Hid (cO l=true):=(by show _=_;rw[j.o,<-s.o,cU (by grind [RowKit.Hid.o])]);have A:¬ (k:Int)<(k:Int):=agE;exact ac2
  ·have d:¬ (n:Int)<1:=agE;have r:(16:Int)<(n:Int):=agE;have HR:Hid (cO l=false):=(by show _=_;rw[f.o,cX (λh=>c h.2),gj]);go_enter func161,ntmps161;exact ac2
 ·have d:(n:Int)<1:=agE;have HR:Hid (cO l=false):=by show _=_;rw[f.o,cX (λh=>u h.1),gj]
  go_enter func161,ntmps161;exact ac2
theorem ahh(h:p:=by rw[BitVec.toInt_ofInt,Int.bmod_def];split<;>omega):p:=h
theorem wT(n):(BitVec.ofInt 64 n).toNat=(n % 18446744073709551616).toNat:=by
 rw[BitVec.toNat_ofInt];rfl
theorem kU(n)(k)(d:k<64):(BitVec.ofInt 64 n).getLsbD k=aI n (2 ^ k):=by
 rw[aI,<-BitVec.testBit_toNat,wT,Nat.testBit_eq_decide_div_mod_eq];congr 1;have h:(0:Int)<2 ^ k:=Int.pow_pos agF;have e:((n % 18446744073709551616).toNat / 2 ^ k % 2:Nat)=1↔n / 2 ^ k % 2=1:=by
  have g:0<=n % 18446744073709551616:=Int.emod_nonneg _ agF;have c:(((n % 18446744073709551616).toNat / 2 ^ k % 2:Nat):Int)=n % 18446744073709551616 / 2 ^ k % 2:=by
   grind
  have f:n % 18446744073709551616 / 2 ^ k % 2=n / 2 ^ k % 2:=by
   have a:(18446744073709551616:Int)=2 ^ k*2 ^ (64-k):=by
    rw[<-Int.pow_add,show k+(64-k)=64 from by omega];rfl
   have b:n / 2 ^ k=n % 18446744073709551616 / 2 ^ k+2 ^ (64-k)*(n / 18446744073709551616):=by
    have:=Int.emod_add_mul_ediv n 18446744073709551616;conv=>lhs;rw[<-this,a,Int.mul_assoc]
    rw[Int.add_mul_ediv_left _ _ agE,<-a]
   rw[b,show(64-k)=(64-k-1)+1 from by omega,Int.pow_succ,Int.mul_comm (2 ^ (64-k-1)) 2,Int.mul_assoc,Int.add_mul_emod_self_left]
  omega
 simp only[e]
theorem Lx(v:BitVec 64):(IntKind.i64.wrap (v.toNat:Int))=v.toInt:=by
 rw[IntKind.wrap_i64,BitVec.toInt_eq_toNat_cond];have:=v.isLt;split<;>omega
theorem Jz(a b):bits .and .i64 a b=(BitVec.ofInt 64 a &&& BitVec.ofInt 64 b).toInt:=Lx _
theorem uz(a b):bits .andNot .i64 a b=(BitVec.ofInt 64 a &&& ~~~ BitVec.ofInt 64 b).toInt:=Lx _
theorem uA(v):BitVec.ofInt 64 v.toInt=v:=BitVec.ofInt_toInt
theorem TV(n)(p:-9223372036854775808<=n)(i:n<=9223372036854775807)(v:BitVec 64)(k)(l:k<63)(o:∀j,j<64->v.getLsbD j=(aI n (2 ^ j)&&decide (k<=j))):(v.toInt=0)↔(0<=n/\n<2 ^ k):=by
 have hn:(BitVec.ofInt 64 n).toInt=n:=ahh;have a:v=(BitVec.ofInt 64 n >>> k) <<< k:=by
  grind [kU]
 have e:=(BitVec.ofInt 64 n).isLt;have g:v.toInt=0↔(BitVec.ofInt 64 n).toNat / 2 ^ k=0:=by
  have f:v.toInt=0↔v=0#64:=by
   grind [uA]
  rw[f,a];constructor
  ·intro h;have b:=congrArg BitVec.toNat h;rw[BitVec.toNat_shiftLeft,BitVec.toNat_ushiftRight,Nat.shiftLeft_eq,Nat.shiftRight_eq_div_pow]at b;have m:(BitVec.ofInt 64 n).toNat / 2 ^ k*2 ^ k<=(BitVec.ofInt 64 n).toNat:=Nat.div_mul_le_self _ _;rw[ez agE]at b;have q:=Nat.two_pow_pos k;have d:(BitVec.ofInt 64 n).toNat / 2 ^ k*2 ^ k=0:=b;rcases Nat.mul_eq_zero.1 d with c|c
   ·exact c
   ·omega
  ·intro h;apply BitVec.eq_of_toNat_eq;rw[BitVec.toNat_shiftLeft,BitVec.toNat_ushiftRight,Nat.shiftRight_eq_div_pow,h];simp
 rw[g,Nat.div_eq_zero_iff_lt (Nat.two_pow_pos k),wT];have r:(2:Nat) ^ k<=2 ^ 62:=Nat.pow_le_pow_right agF agE;grind
theorem yl(n)(c:-9223372036854775808<=n)(a:n<=9223372036854775807)(k)(b:k<63)(m)(e:∀j,j<64->aI m (2 ^ j)=decide (j<k)):(bits .andNot .i64 n m=0)↔(0<=n/\n<2 ^ k):=by
 rw[uz];refine TV n c a _ k b (λj d=>?_);grind [kU]
theorem air:∀j,j<64->aI 63 (2 ^ j)=decide (j<6):=by decide
theorem ais:∀j,j<64->aI 15 (2 ^ j)=decide (j<4):=by decide
theorem XG(n)(b:-9223372036854775808<=n)(a:n<=9223372036854775807):(bits .andNot .i64 n 63==0)=decide (0<=n/\n<64):=by
 have:=yl n b a 6 agF 63 air;grind
theorem jq(a b)(k)(c:k<64):aI (bits .and .i64 a b) (2 ^ k)=(aI a (2 ^ k)&&aI b (2 ^ k)):=by
 rw[Jz,<-kU _ k c,uA,BitVec.getLsbD_and,kU a k c,kU b k c]
theorem rF(a b)(k)(c:k<64):aI (bits .andNot .i64 a b) (2 ^ k)=(aI a (2 ^ k)&&!aI b (2 ^ k)):=by
 rw[uz,<-kU _ k c,uA,BitVec.getLsbD_and,BitVec.getLsbD_not,kU a k c,kU b k c];simp[c]
theorem Ef(a b):-9223372036854775808<=bits .and .i64 a b/\bits .and .i64 a b<=9223372036854775807:=by
 grind [Jz]
theorem qN(a b):-9223372036854775808<=bits .andNot .i64 a b/\bits .andNot .i64 a b<=9223372036854775807:=by
 grind [uz]
theorem Bp{a b:Int}(g:-9223372036854775808<=a/\a<=9223372036854775807)(i:-9223372036854775808<=b/\b<=9223372036854775807)(h:∀k,k<64->aI a (2 ^ k)=aI b (2 ^ k)):a=b:=by
 have e:BitVec.ofInt 64 a=BitVec.ofInt 64 b:=by
  apply BitVec.eq_of_getLsbD_eq;intro j c;rw[kU a j c,kU b j c,h j c]
 have d:(BitVec.ofInt 64 a).toInt=a:=ahh;have f:(BitVec.ofInt 64 b).toInt=b:=ahh;rw[<-d,<-f,e]
theorem tX(k):aI 0 (2 ^ k)=false:=by
 unfold aI;rw[Int.zero_ediv];rfl
theorem Mo(n m)(a:List Nat)(b:∀k∈a,k<64)(d:∀j,j<64->aI m (2 ^ j)=decide (j∈a)):(bits .and .i64 n m==0)=a.all (λk=>!aI n (2 ^ k)):=by
 rw[Bool.eq_iff_iff,db,List.all_eq_true];constructor
 ·grind [jq,tX]
 ·intro h;refine Bp (Ef n m) ⟨by decide,by decide⟩ (λj c=>?_);grind [jq,tX]
theorem m48:∀j,j<64->aI 48 (2 ^ j)=decide (j∈[4,5]):=by decide
theorem m7:∀j,j<64->aI 7 (2 ^ j)=decide (j∈[0,1,2]):=by decide
theorem aiz:∀j,j<64->aI 240 (2 ^ j)=decide (j∈[4,5,6,7]):=by decide
theorem aiA:∀j,j<64->aI 448 (2 ^ j)=decide (j∈[6,7,8]):=by decide
theorem afr:∀j,j<64->aI 247 (2 ^ j)=decide (j<8/\j≠3):=by decide
theorem afs:∀j,j<64->aI 255 (2 ^ j)=decide (j<8):=by decide
theorem aiB(n):(bits .and .i64 n 48==0)=(!aI n 16&&!aI n 32):=by
 rw[Mo n 48 [4,5] agF m48];simp
theorem and7(n):(bits .and .i64 n 7==0)=(!aI n 1&&(!aI n 2&&!aI n 4)):=by
 rw[Mo n 7 [0,1,2] agF m7];simp
theorem kG(n f)(k)(c:f=2 ^ k)(g:k<63):(bits .and .i64 n f==0)=!aI n f:=by
 subst c;have i:=jq n (2 ^ k) k agE;have l:aI (2 ^ k) (2 ^ k)=true:=by
  unfold aI;rw[Int.ediv_self (by have:=Nat.pow_pos (n:=k) (show 0<2 by decide);have e:(2:Int) ^ k=((2 ^ k:Nat):Int):=agI;omega)];rfl
 rw[l,fW]at i;cases h:aI n (2 ^ k)with
 |true=>
  grind [tX]
 |false=>
  rw[eM,db];refine Bp (Ef n _) ⟨by decide,by decide⟩ (λj b=>?_);rw[jq n _ j b,tX];by_cases e:j=k
  ·grind
  ·have d:aI (2 ^ k) (2 ^ j)=false:=by
    rw[<-kU _ j b];have p:BitVec.ofInt 64 (2 ^ k)=BitVec.twoPow 64 k:=by
     apply BitVec.eq_of_toNat_eq;have q:(2:Int) ^ k<2 ^ 63:=by
      have h:=Nat.pow_lt_pow_right (a:=2) agF g;exact_mod_cast h
     have o:(0:Int)<2 ^ k:=by
      have h:=Nat.pow_pos (n:=k) (show 0<2 by decide);exact_mod_cast h
     rw[wT,BitVec.toNat_twoPow];have:((2:Int) ^ k % 18446744073709551616)=2 ^ k:=Int.emod_eq_of_lt agE agE;rw[this];have m:((2:Int) ^ k).toNat=2 ^ k:=by
      have:(2:Int) ^ k=((2 ^ k:Nat):Int):=by simp
      rw[this,Int.toNat_natCast]
     rw[m,ez agE]
    grind
   rw[d,Bool.and_false]
def Gt(n:Int):Int:=(if aI n 16=true then 16 else 0)+(if aI n 32=true then 32 else 0)+(if aI n 64=true then 64 else 0)+(if aI n 128=true then 128 else 0)
theorem X7(n):bits .and .i64 n 240=Gt n:=by
 unfold Gt;have e:∀j,j<64->j∉[4,5,6,7]->aI (bits .and .i64 n 240) (2 ^ j)=false:=(by grind [aiz,jq])
 have c:=jq n 240 4 agF;have a:=jq n 240 5 agF;have b:=jq n 240 6 agF;have d:=jq n 240 7 agF;rw[aiz _ agF]at c a b d;have i:=Ef n 240;generalize bits .and .i64 n 240=v at *;have m:aI v (2 ^ 4)=aI n 16:=by simpa using c
 have p:aI v (2 ^ 5)=aI n 32:=by simpa using a
 have o:aI v (2 ^ 6)=aI n 64:=by simpa using b
 have q:aI v (2 ^ 7)=aI n 128:=by simpa using d
 clear c a b d;have D:∀(k g h f)(j),j<64->aI ((if k=true then 16 else 0)+(if g=true then 32 else 0)+(if h=true then 64 else 0)+(if f=true then 128 else 0)) (2 ^ j)=(j==4&&k||(j==5&&g||(j==6&&h||j==7&&f))):=agF;refine Bp i ?_ (λj l=>?_)
 ·cases aI n 16<;>cases aI n 32<;>cases aI n 64<;>cases aI n 128<;>exact⟨by decide,by decide⟩
 ·rw[D _ _ _ _ j l];grind
theorem X8(n):bits .and .i64 n 448=Ie n:=by
 unfold Ie;have e:∀j,j<64->j∉[6,7,8]->aI (bits .and .i64 n 448) (2 ^ j)=false:=(by grind [jq,aiA])
 have b:=jq n 448 6 agF;have c:=jq n 448 7 agF;have a:=jq n 448 8 agF;rw[aiA _ agF]at b c a;have i:=Ef n 448;generalize bits .and .i64 n 448=v at *;have l:aI v (2 ^ 6)=aI n 64:=by simpa using b
 have m:aI v (2 ^ 7)=aI n 128:=by simpa using c
 have k:aI v (2 ^ 8)=aI n 256:=by simpa using a
 clear b c a;have D:∀(g d f)(j),j<64->aI ((if g=true then 64 else 0)+(if d=true then 128 else 0)+(if f=true then 256 else 0)) (2 ^ j)=(j==6&&g||(j==7&&d||j==8&&f)):=agF;refine Bp i ?_ (λj h=>?_)
 ·cases aI n 64<;>cases aI n 128<;>cases aI n 256<;>exact⟨by decide,by decide⟩
 ·rw[D _ _ _ j h];grind
theorem Ul(n)(h:-9223372036854775808<=n/\n<=9223372036854775807):(bits .andNot .i64 n 247==0)=decide (0<=n/\n<256/\aI n 8=false):=by
 rw[Bool.eq_iff_iff,db,decide_eq_true_iff];have b:=yl n h.1 h.2 8 agF 255 afs;constructor
 ·intro e;have g:∀j,j<64->(aI n (2 ^ j)&&!aI 247 (2 ^ j))=false:=(by grind [rF,tX])
  have c:bits .andNot .i64 n 255=0:=Bp (qN n 255) ⟨by decide,by decide⟩ (by grind [afr,rF,afs]);have a:=g 3 agF;have d:=b.1 c;exact⟨d.1,d.2,by rw[afr 3 agF]at a;simpa using a⟩
 ·rintro⟨i,f,a⟩;have c:=b.2 ⟨i,f⟩;refine Bp (qN n 247) ⟨by decide,by decide⟩ (λj k=>?_);grind [rF,afr,afs]
theorem Eg(n)(h:-9223372036854775808<=n/\n<=9223372036854775807):(bits .andNot .i64 n 15==0)=decide (0<=n/\n<16):=by
 have:=yl n h.1 h.2 4 agF 15 ais;grind
theorem m16:∀j,j<64->aI 16 (2 ^ j)=decide (j=4):=by decide
theorem zI(n)(h:-9223372036854775808<=n/\n<=9223372036854775807):bits .andNot .i64 n 16=if aI n 16=true then n-16 else n:=by
 cases e:aI n 16 with
 |false=>
  rw[if_neg agF];refine Bp (qN n 16) h (λj a=>?_);grind [rF,m16]
 |true=>
  rw[if_pos rfl];have f:=qN n 16;have b:=rF n 16 4 agF;rw[m16 4 agF,show aI n (2 ^ 4)=true from e]at b;rw[uz]at f b⊢;have d:BitVec.ofInt 64 n=(BitVec.ofInt 64 n &&& ~~~ BitVec.ofInt 64 16)+BitVec.ofInt 64 16:=by
   rw[BitVec.add_eq_or_of_and_eq_zero]
   ·apply BitVec.eq_of_getLsbD_eq;intro j a;rw[BitVec.getLsbD_or,BitVec.getLsbD_and,BitVec.getLsbD_not,kU n j a,kU 16 j a,m16 j a];grind
   ·apply BitVec.eq_of_getLsbD_eq;intro j a;rw[BitVec.getLsbD_and,BitVec.getLsbD_and,BitVec.getLsbD_not];cases(BitVec.ofInt 64 16).getLsbD j<;>simp
  have hn:(BitVec.ofInt 64 n).toInt=n:=ahh;have c:=congrArg BitVec.toInt d;rw[BitVec.toInt_add,hn]at c;generalize (BitVec.ofInt 64 n &&& ~~~ BitVec.ofInt 64 16).toInt=r at *;rw[show(BitVec.ofInt 64 16).toInt=16 from rfl,Int.bmod_def]at c;unfold aI at b;simp at b;split at c<;>omega
theorem X9(a b):aI (bits .and .i64 a b) 1=(aI a 1&&aI b 1):=jq a b 0 agF
theorem Ya(a b):aI (bits .and .i64 a b) 2=(aI a 2&&aI b 2):=jq a b 1 agF
theorem Mq(a b):aI (bits .and .i64 a b) 4=(aI a 4&&aI b 4):=jq a b 2 agF
end Go.Proofs.YtlfifnpjeangmaaGreatDoor
