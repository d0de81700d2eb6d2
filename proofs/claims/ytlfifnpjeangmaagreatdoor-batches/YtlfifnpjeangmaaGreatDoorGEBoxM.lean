import Derived.Test.YtlfifnpjeangmaaGreatDoorGEBox
import Derived.Test.YtlfifnpjeangmaaGreatDoorGEBase
namespace Go.Proofs.YtlfifnpjeangmaaGreatDoor
theorem jX(v):1<=Box.size v/\Box.size v<=8:=by unfold Box.size;(repeat' split)<;>omega
end Go.Proofs.YtlfifnpjeangmaaGreatDoor
namespace Go.Proofs.YtlfifnpjeangmaaGreatDoor.Box
variable {l:E}
def head(tag:UInt8)(n:Nat):E:=
 if n<128 then [tag,UInt8.ofNat n] else if n<256 then [tag,129,UInt8.ofNat n] else [tag,130,UInt8.ofNat (n / 256),UInt8.ofNat (n % 256)]
def box(tag:UInt8)(l:E):E:=head tag l.length++l
theorem pK(a)(n):(head a n).length=if n<128 then 2 else if n<256 then 3 else 4:=by
 grind [head]
def l9(v:Int)(i:Nat):UInt8:=UInt8.ofNat (v / 2 ^ (8*i) % 256).toNat
def pM(v:Int)(k:Nat):Nat->E
 |0=>[]
 |j+1=>pM v k j++[l9 v (k-1-j)]
def low(v:Int)(k:Nat):E:=pM v k k
theorem Ji(v)(k j):(pM v k j).length=j:=by
 induction j with
 |zero=>rfl
 |succ j a=>simp[pM,a]
theorem mQ(v)(k):(low v k).length=k:=Ji v k k
theorem Pt(x)(b):l9 (x*256+(b.toNat:Int)) 0=b:=by
 have:=b.toNat_lt;unfold l9;rw[Nat.mul_zero,Int.pow_zero,Int.ediv_one,show(x*256+(b.toNat:Int)) % 256=(b.toNat:Int) from by omega,Int.toNat_natCast];simp
theorem Pv(x)(b:UInt8)(i):l9 (x*256+(b.toNat:Int)) (i+1)=l9 x i:=by
 have:=b.toNat_lt;unfold l9;rw[show 8*(i+1)=8+8*i from by omega,Int.pow_add,show(2:Int) ^ 8=256 from by decide,<-Int.ediv_ediv_of_nonneg O,show(x*256+(b.toNat:Int)) / 256=x from by omega]
theorem Pw(x)(b:UInt8)(k j)(h:j<=k):pM (x*256+(b.toNat:Int)) (k+1) j=pM x k j:=by
 induction j with
 |zero=>rfl
 |succ j a=>rw[pM,pM,a G,show k+1-1-j=(k-1-j)+1 from by omega,Pv]
theorem Lh(x)(b)(k):low (x*256+(b.toNat:Int)) (k+1)=low x k++[b]:=by
 unfold low;rw[pM,Pw x b k k (cy _),show k+1-1-k=0 from by omega,Pt]
theorem Li(l)(v)(k):low (ja v l) (k+l.length)=low v k++l:=by
 induction l generalizing v k with
 |nil=>simp[ja]
 |cons b l a=>
  rw[ze,de,show k+(l.length+1)=(k+1)+l.length from by omega,a,Lh];simp
theorem Xq(b):low (sign b) 1=[b]:=by
 have h:=Lh (if b.toNat<128 then 0 else -1) b 0;have e:(if b.toNat<128 then(0:Int) else -1)*256+(b.toNat:Int)=sign b:=by
  unfold sign;split<;>omega
 rw[e]at h;exact h
theorem S'(h:1<=l.length):low (val l) l.length=l:=by
 cases l with
 |nil=>simp at h
 |cons b l=>
  have:=Li l (sign b) 1;grind [Xq,val]
theorem lg(a)(l):(box a l).length=l.length+(if l.length<128 then 2 else if l.length<256 then 3 else 4):=by
 grind [pK,box]
theorem Hr(a:1<=l.length)(b:l.length<=8)(v)(e:v=val l)(n)(d:n=size v):box 2 (low v n)=box 2 l↔size v=l.length:=by
 grind [lg,S',mQ]
def lead(l:E):Nat×Nat:=
 if (l.getD 1 0).toNat=129/\2<l.length then((l.getD 2 0).toNat,3)
 else if (l.getD 1 0).toNat=130/\3<l.length then((l.getD 2 0).toNat*256+(l.getD 3 0).toNat,4)
 else((l.getD 1 0).toNat,2)
def again(l:E):Option (UInt8×E×E):=
 if 2<=l.length/\(lead l).2+(lead l).1<=l.length/\box (l.getD 0 0) ((l.drop (lead l).2).take (lead l).1)=l.take ((lead l).2+(lead l).1) then
  some (l.getD 0 0,(l.drop (lead l).2).take (lead l).1,l.drop ((lead l).2+(lead l).1))
 else none
theorem rL(b):UInt8.ofNat b.toNat=b:=by simp
theorem two(l:E)(h:2<=l.length):∃a b r,l=a::b::r:=by
 match l,h with
 |a::b::r,_=>exact⟨a,b,r,rfl⟩
theorem Dm{tag:UInt8}{n k:Nat}(a:k+n<=l.length)(h:(if n<128 then 2 else if n<256 then 3 else 4)≠k):¬ box tag ((l.drop k).take n)=l.take (k+n):=by
 grind [lg]
theorem Ao{tag:UInt8}{n k:Nat}(b:k+n<=l.length)(h:head tag n=l.take k):box tag ((l.drop k).take n)=l.take (k+n):=by
 have a:((l.drop k).take n).length=n:=j';rw[box,a,h,List.take_add]
theorem Ht(l):again l=cut l:=by
 by_cases n:2<=l.length
 .obtain⟨tag,b,r,rfl⟩:=two l n;have t:=b.toNat_lt;unfold cut;rw[cZ Z,List.drop_succ_cons,List.drop_zero];unfold again;by_cases f:b.toNat=129/\2<(tag::b::r).length
  .have j:lead (tag::b::r)=(((tag::b::r).getD 2 0).toNat,3):=(by unfold lead;rw[dT (by simpa using f)]);rw[j];cases r with
   |nil=>simp at f
   |cons x r=>
    have p:=x.toNat_lt;have m:iJ (b::x::r)=if 128<=x.toNat then some (x.toNat,r) else none:=by
     grind [iJ]
    rw[m];have i:((tag::b::x::r).getD 2 0)=x:=rfl;have g:((tag::b::x::r).getD 0 0)=tag:=rfl;simp only[i,g];by_cases d:3+x.toNat<=(tag::b::x::r).length
    .by_cases e:128<=x.toNat
     .have k:=Ao (tag:=tag) d (by unfold head;rw[cZ G,dT G,rL];rw[show(129:UInt8)=b from by rw[<-rL b,f.1];rfl];rfl);grind
     grind [Dm]
    grind
  .by_cases a:b.toNat=130/\3<(tag::b::r).length
   .have j:lead (tag::b::r)=(((tag::b::r).getD 2 0).toNat*256+((tag::b::r).getD 3 0).toNat,4):=(by unfold lead;rw[cZ (by simpa using f),dT (by simpa using a)]);rw[j];match r,a with
    | [],a=>simp at a
    | [x],a=>simp at a
    |x::y::r,a=>
     have p:=x.toNat_lt;have q:=y.toNat_lt;have m:iJ (b::x::y::r)=if 256<=x.toNat*256+y.toNat then some (x.toNat*256+y.toNat,r) else none:=by
      grind [iJ]
     rw[m];have i:((tag::b::x::y::r).getD 2 0)=x:=rfl;have o:((tag::b::x::y::r).getD 3 0)=y:=rfl;have g:((tag::b::x::y::r).getD 0 0)=tag:=rfl;simp only[i,g,o];by_cases d:4+(x.toNat*256+y.toNat)<=(tag::b::x::y::r).length
     .by_cases e:256<=x.toNat*256+y.toNat
      .have k:=Ao (tag:=tag) d (by
        unfold head;rw[cZ G,cZ G,show(x.toNat*256+y.toNat) / 256=x.toNat from by omega,show(x.toNat*256+y.toNat) % 256=y.toNat from by omega,rL,rL,show(130:UInt8)=b from by rw[<-rL b,a.1];rfl]
        rfl)
       rw[dT ⟨n,d,k⟩,dT e];simp only;rw[dT (by simp at d;omega),<-List.drop_drop];rfl
      .have k:=Dm (tag:=tag) d (by split<;>(try split)<;>omega);rw[cZ (λh=>k h.2.2),cZ e]
     .rw[cZ (λh=>d h.2.1)];grind
   .have j:lead (tag::b::r)=(((tag::b::r).getD 1 0).toNat,2):=(by unfold lead;rw[cZ (by simpa using f),cZ (by simpa using a)]);rw[j];have i:((tag::b::r).getD 1 0)=b:=rfl;have g:((tag::b::r).getD 0 0)=tag:=rfl;simp only[i,g];by_cases d:b.toNat<128
    .grind [Ao,rL,head,iJ]
    grind [Dm,iJ]
 grind [again,iJ,cut]
def pN:Nat->E->Option (List (UInt8×E))
 |0,l=>if l.length=0 then some [] else none
 |n+1,l=>if l.length=0 then some [] else
  match cut l with
  |none=>none
  |some (t,i,r)=>(pN n r).map ((t,i)::·)
theorem TL:∀(n m)(l),l.length<=n->l.length<=m->pN n l=pN m l:=by
 intro n;induction n with
 |zero=>
  intro m l b _;have a:l.length=0:=G;cases m with
  |zero=>rfl
  |succ m=>simp[pN,a]
 |succ n d=>
  intro m l b f;cases m with
  |zero=>
   grind
  |succ m=>
   by_cases a:l.length=0
   .simp[pN,a]
   .simp only[pN,cZ a];cases h:cut l with
    |none=>rfl
    |some e=>
     obtain⟨t,i,r⟩:=e;have:=mP h;simp only;rw[d m r G G]
def dF(l:E):Option (List (UInt8×E)):=pN l.length l
theorem wR(h:l.length=0):dF l=some []:=by
 have:l=[]:=fA;subst this;rfl
theorem og(b:0<l.length)(h:cut l=none):dF l=none:=by
 unfold dF;obtain⟨m,a⟩:∃m,l.length=m+1:=⟨l.length-1,by omega⟩
 rw[a,pN,cZ G,h]
theorem qY{i r:E}{t:UInt8}(h:cut l=some (t,i,r)):dF l=(dF r).map ((t,i)::·):=by
 have a:=mP h;unfold dF;obtain⟨m,b⟩:∃m,l.length=m+1:=⟨l.length-1,by omega⟩
 rw[b,pN,cZ G,h];simp only;rw[TL m r.length r G G]
def wt:List (UInt8×E)->Nat
 | []=>0
 |p::ps=>p.2.length+2+wt ps
theorem Xr:∀(n)(l)(a),l.length<=n->dF l=some a->wt a<=l.length:=by
 intro n;induction n with
 |zero=>
  grind [wR,wt]
 |succ n j=>
  intro l a f h;by_cases e:l.length=0
  .grind [wR]
  .cases b:cut l with
   |none=>grind [og]
   |some d=>
    obtain⟨t,i,r⟩:=d;have g:=mP b;rw[qY b]at h;simp only[Option.map_eq_some_iff]at h;grind [wt]
end Go.Proofs.YtlfifnpjeangmaaGreatDoor.Box
namespace Go.Proofs.YtlfifnpjeangmaaGreatDoor
open Go.RowKit
set_option maxRecDepth 100000
theorem Si(w:World)(e)(b):(w.alloc (.cells #[.int .u8 (b.toNat:Int)] e)).ownsRow w.1.size e 1 (ς w.1.size 0 1 1) 1 ([b].map U8):=by
 refine⟨rfl,Or.inr ⟨w.1.size,1,_,rfl,cy _,heap_alloc_new w _,cy _,by decide,rfl,rfl⟩⟩
theorem uB(w:World)(o)(e)(b)(a)(h:b.toList=a.map U8):At ((w.alloc o).alloc (.cells b e)) (some ⟨w.1.size+1,0,none⟩) a:=by
 grind [cF,fw]
theorem Xt(n:Nat)(h:n<256):IntKind.u8.wrap (n:Int)=((UInt8.ofNat n).toNat:Int):=by
 rw[eo,ez G];simp[IntKind.wrap,IntKind.bits,IntKind.signed];omega
theorem Hw(v)(i):v / 2 ^ (8*i) % 256=((Box.l9 v i).toNat:Int):=by
 unfold Box.l9;generalize v / 2 ^ (8*i)=x;rw[eo,ez G];omega
theorem nA{w:World}{base a:Nat}{e:TypeId}{size:Nat}{v:Value}{n:Nat}{i:List Value}(h:w.ownsRow base e size v n i)(k:a<=base):w.ownsRow a e size v n i:=by
 obtain⟨j,d⟩:=h;refine⟨j,?_⟩;rcases d with d|⟨g,c,b,m,f,l⟩
 .exact Or.inl d
 .exact Or.inr ⟨g,c,b,m,cE k f,l⟩
variable {l:E}{k:Nat}
def jD(z:UInt8):Bool:=decide ((97<=z.toNat/\z.toNat<=122)\/(48<=z.toNat/\z.toNat<=57)\/z.toNat=47)
def di(l:E):Bool:=decide (1<=l.length/\l.length<=16)&&l.all jD
theorem xM(h:k<l.length):(l.take (k+1)).all jD=((l.take k).all jD&&jD (l.getD k 0)):=by
 rw[dy h,List.all_append];grind
structure mE where
 kind:Int
 name:E
 key:UInt64
 bI:Int
 aC:Int
 bB:Int
 ae:Int
abbrev mE.cells(a:mE):Array Value:=#[Y a.kind,.string ⟨a.name.toArray⟩,H (a.key.toNat:Int),Y a.bI,Y a.aC,Y a.bB,Y a.ae]
def mE.qm(a:mE):Bool:=decide (0<=a.bI/\0<=a.aC/\0<=a.ae/\a.ae<64)
structure BE where
 name:E
 aH:Int
 key:UInt64
 before:UInt64
 bI:Int
 aC:Int
 bB:Int
 ae:Int
structure PF where
 ay:E
 time:Int
 count:Int
 deriving DecidableEq
structure DM where
 aA:Int
 aF:List BE
 aJ:List PF
 aL:E
def BE.pq(es:List BE)(l:E):Option Nat:=es.findIdx? (λe=>e.name==l)
def BE.ins:List BE->E->Nat
 | [],_=>0
 |e::es,l=>if Op.bytesLess e.name l then BE.ins es l+1 else 0
def BE.new(a:mE):BE:=⟨a.name,1,a.key,0,a.bI,a.aC,a.bB,a.ae⟩
def BE.jo(x:BE)(key:UInt64):BE:=⟨x.name,x.aH+1,key,x.key,x.bI,x.aC,x.bB,x.ae⟩
def BE.ry(x:BE)(a:mE):BE:=⟨x.name,x.aH,x.key,x.before,a.bI,a.aC,a.bB,a.ae⟩
def fD(es:List BE)(a:mE):List BE×Int:=
 if a.kind=1 then
  (if di a.name=false then(es,4) else if a.qm=false then(es,1) else if (BE.pq es a.name).isSome then(es,5) else if 20<=es.length then(es,7)
   else(es.take (BE.ins es a.name)++[BE.new a]++es.drop (BE.ins es a.name),0))
 else if a.kind=2\/a.kind=3\/a.kind=4 then
  match BE.pq es a.name with
  |none=>(es,6)
  |some i=>
   if a.kind=2 then(es.take i++es.drop (i+1),0)
   else match es[i]? with
   |none=>(es,6)
   |some x=>if a.kind=3 then(es.set i (x.jo a.key),0) else if a.qm=false then(es,1) else(es.set i (x.ry a),0)
 else(es,1)
structure fZ(n:Nat)(es:List BE):Prop where
 len:es.length<=20
 name:∀e∈es,di e.name=true
 num:∀e∈es,1<=e.aH/\e.aH<=(n:Int)
 qm:∀e∈es,0<=e.bI/\0<=e.aC/\0<=e.ae/\e.ae<64
 sorted:es.Pairwise λx y=>Op.bytesLess x.name y.name=true
theorem Ic:∀a,Op.bytesLess a a=false
 | []=>rfl
 |x::a=>by simp[Op.bytesLess,Ic a]
theorem uC:∀a,Op.bytesLess a []=false
 | []=>rfl
 |_::_=>rfl
theorem zl:∀{a b c:E},Op.bytesLess a b=true->Op.bytesLess b c=true->Op.bytesLess a c=true:=by
 intro a;induction a with
 |nil=>
  intro b c d e;cases c with
  |nil=>grind [uC]
  |cons z c=>rfl
 |cons x a f=>
  intro b c d e;cases b with
  |nil=>grind [uC]
  |cons y b=>
   cases c with
   |nil=>grind [uC]
   |cons z c=>
    simp only[Op.bytesLess,Bool.or_eq_true,Bool.and_eq_true,decide_eq_true_eq,db]at d e⊢;grind
theorem XI:∀{a b:E},Op.bytesLess a b=false->a≠b->Op.bytesLess b a=true:=by
 intro a;induction a with
 |nil=>
  intro b d e;cases b with
  |nil=>exact absurd rfl e
  |cons y b=>simp[Op.bytesLess]at d
 |cons x a f=>
  intro b d e;cases b with
  |nil=>rfl
  |cons y b=>
   simp only[Op.bytesLess,Bool.or_eq_false_iff,Bool.and_eq_false_iff,decide_eq_false_iff_not,cJ]at d;simp only[Op.bytesLess,Bool.or_eq_true,Bool.and_eq_true,decide_eq_true_eq,db];grind
theorem PI(a)(l):BE.ins a l<=a.length:=by
 induction a with
 |nil=>exact cy _
 |cons x a b=>simp only[BE.ins,de];split<;>omega
theorem Ie(l):∀(a:List BE),∀x∈a.take (BE.ins a l),Op.bytesLess x.name l=true:=by
 intro a;induction a with
 |nil=>intro x b;simp at b
 |cons y a d=>
  grind [BE.ins]
theorem Dy(l):∀(a:List BE),a.Pairwise (λx y=>Op.bytesLess x.name y.name=true)->(∀x∈a,x.name≠l)->∀x∈a.drop (BE.ins a l),Op.bytesLess l x.name=true:=by
 intro a;induction a with
 |nil=>intro _ _ x b;simp at b
 |cons y a f=>
  intro d e x b;rw[List.pairwise_cons]at d;simp only[BE.ins]at b;grind [zl,XI]
theorem Sq{a:List BE}(h:BE.pq a l=none):∀x∈a,x.name≠l:=by
 grind [BE.pq]
theorem Cm{a:List BE}{i:Nat}(h:BE.pq a l=some i):∃b:i<a.length,a[i].name=l:=by
 rw[BE.pq,List.findIdx?_eq_some_iff_getElem]at h;grind
theorem Jq{a:List BE}{e x:BE}(h:x∈a.take k++[e]++a.drop k):x=e\/x∈a:=by
 grind
theorem Sr{a:List BE}{x:BE}(h:x∈a.take k++a.drop (k+1)):x∈a:=by
 grind
theorem fZ.mono{n m:Nat}{a:List BE}(h:fZ n a)(k:n<=m):fZ m a:=⟨h.len,h.name,λe b=>by have:=h.num e b;omega,h.qm,h.sorted⟩
theorem fZ.nil(n):fZ n []:=⟨by simp,by simp,by simp,by simp,.nil⟩
theorem Jr{a:List BE}(g:a.Pairwise (λx y=>Op.bytesLess x.name y.name=true))(i)(y)(e:i<a.length)(b:y.name=a[i].name):(a.set i y).Pairwise (λx y=>Op.bytesLess x.name y.name=true):=by
 have f:(a.set i y).map BE.name=a.map BE.name:=by
  rw[List.map_set,b];apply List.ext_getElem?;grind
 have d:(a.map BE.name).Pairwise (λx y=>Op.bytesLess x y=true):=fA;grind
theorem fZ.fD{n:Nat}{b:List BE}(h:fZ n b)(J:1<=n)(a):fZ (n+1) (fD b a).1:=by
 have f:=h.mono (fg n);have k:∀(i)(x y),b[i]?=some x->y.name=x.name->(1<=y.aH/\y.aH<=((n+1:Nat):Int))->(0<=y.bI/\0<=y.aC/\0<=y.ae/\y.ae<64)->fZ (n+1) (b.set i y):=by
  intro i x y g D v w;obtain⟨A,r⟩:=cM.1 g;have j:x∈b:=fA;refine⟨by simpa using h.len,?_,?_,?_,(by grind [Jr,fZ.sorted])⟩
  .grind [fZ.name]
  .intro e d;rcases List.mem_or_eq_of_mem_set d with q|q
   .exact f.num e q
   .rw[q];exact v
  .intro e d;rcases List.mem_or_eq_of_mem_set d with q|q
   .exact h.qm e q
   .rw[q];exact w
 have t:a.qm≠false->0<=a.bI/\0<=a.aC/\0<=a.ae/\a.ae<64:=by
  grind [mE.qm]
 unfold Proofs.YtlfifnpjeangmaaGreatDoor.fD;split
 .split
  .exact f
  .rename_i hnm;split
   .exact f
   .rename_i hp;split
    .exact f
    .rename_i hat;split
     .exact f
     .rename_i hfull;have l:BE.pq b a.name=none:=(by simpa using hat);have m:=Sq l;have C:=PI b a.name;refine⟨by simp;omega,?_,?_,?_,?_⟩
      .intro e d;rcases Jq d with q|q
       .rw[q];show di a.name=true;simpa using hnm
       .exact h.name e q
      .intro e d;rcases Jq d with q|q
       .rw[q];show 1<=(1:Int)/\(1:Int)<=_;omega
       .exact f.num e q
      .intro e d;rcases Jq d with q|q
       .rw[q];exact t hp
       .exact h.qm e q
      .rw[du,List.pairwise_append];refine⟨(by grind [fZ.sorted]),?_,?_⟩
       .rw[List.singleton_append,List.pairwise_cons];exact⟨λx g=>Dy a.name b h.sorted m x g,(by grind [fZ.sorted])⟩
       .intro x g y u;rw[List.singleton_append]at u;have p:=Ie a.name b x g;rcases List.mem_cons.1 u with q|q
        .rw[q];exact p
        .exact zl p (Dy a.name b h.sorted m y q)
 .split
  .split
   .exact f
   .rename_i i A;split
    .refine⟨?_,(by grind [fZ.name]),λe d=>f.num e (Sr d),λe d=>h.qm e (Sr d),?_⟩
     .have:=h.len;simp;omega
     .have o:(b.take i++b.drop (i+1)).Sublist b:=by
       conv=>rhs;rw[<-eN i b]
       grind
      exact h.sorted.sublist o
    .split
     .exact f
     .rename_i x g;obtain⟨B,r⟩:=cM.1 g;have j:x∈b:=fA;split
      .exact k i x (x.jo a.key) g rfl (by have:=h.num x j;show 1<=x.aH+1/\x.aH+1<=_;omega) (h.qm x j)
      .split
       .exact f
       .rename_i hp;exact k i x (x.ry a) g rfl (f.num x j) (t hp)
  .exact f
end Go.Proofs.YtlfifnpjeangmaaGreatDoor
namespace Go.Proofs.YtlfifnpjeangmaaGreatDoor.Box
end Go.Proofs.YtlfifnpjeangmaaGreatDoor.Box
namespace Go.Proofs.YtlfifnpjeangmaaGreatDoor
open Go.RowKit
variable {p:Prop}
def bS(v:Int):E:=Box.box 2 (Box.low v (Box.size v))
def iB(l:List Int):E:=(l.map bS).flatten
theorem fu(v):3<=(bS v).length/\(bS v).length<=10:=by
 grind [jX,Box.mQ,Box.lg,bS]
theorem lh(l):(iB l).length<=10*l.length:=by
 induction l with
 |nil=>simp[iB]
 |cons v l a=>
  grind [fu,iB]
set_option maxRecDepth 100000
variable {β:Type}
def mG(x:Int):Int:=if x < -9223372036854775808 then -9223372036854775808 else if 9223372036854775807<x then 9223372036854775807 else x
def aW(a b:Int):Int:=mG (a+b)
def gq(a b:Int):Int:=mG (a-b)
def dU(a b:Int):Int:=if a<b then gq b a else gq a b
def gS(a b:Int):Int:=if a<b then a else b
def j9(t:Int):Int:=if t=0 then 9223372036854775807 else t
def aI(n b:Int):Bool:=decide (n / b % 2=1)
def BE.has(e:BE)(f:Int):Bool:=aI e.ae f
def BE.gone(e:BE)(now:Int):Bool:=decide (e.bB≠0/\e.bB<=now)
def BE.find(es:List BE)(l:E):Option BE:=es.find? (λe=>e.name==l)
def BE.keyOf(e:BE)(n:Int):Option UInt64:=if n=e.aH then some e.key else if n=e.aH-1/\1<e.aH then some e.before else none
structure TK where
 ae:Int
 aN:UInt64
 ay:E
 dV:Int
 start:Int
 fin:Int
 aC:Int
def dx(l:E):E:=Box.box 4 l
def jO(l:List E):E:=Box.box 48 l.flatten
def nD(k:UInt64):E:=dx (Pure.be k 8)
def TK.plain(t:TK):E:=jO [bS t.ae,nD t.aN,dx t.ay,bS t.dV,bS t.start,bS t.fin,bS t.aC]
def wV(t:TK)(s:BE)(draw:UInt64):E:=jO [dx s.name,bS s.aH,dx (Pure.dY s.key 2 draw t.plain)]
def ow(t:TK)(bV:Int)(s:BE):E:=jO [nD t.aN,bS bV,bS t.ae,bS t.dV,bS t.start,bS t.fin,bS t.aC,dx s.name]
def lU(kind:Int)(t:TK)(s:BE)(bV aH:Int)(key use a b:UInt64):E:=
 jO [bS kind,dx t.ay,wV t s a,jO [bS aH,dx (Pure.dY key use b (ow t bV s))]]
def aY(now code:Int):E:=jO [bS 30,bS now,bS code]
abbrev qG:Type:=UInt8×E
def bG(p:qG):Option Int:=if p.1.toNat=2 then Box.num p.2 else none
def jq(p:qG):Option E:=if p.1.toNat=4 then some p.2 else none
def dm(p:qG):Option E:=if p.1.toNat=4/\di p.2=true then some p.2 else none
def P6(p:qG):Option UInt64:=if p.1.toNat=4/\p.2.length=8 then some (Pure.joinL 0 p.2) else none
def zu(p:qG):Option (List qG):=if p.1.toNat=48 then Box.dF p.2 else none
def bY{α β:Type}(f:qG->Option α)(k:α->List qG->Option β):List qG->Option β
 | []=>none
 |p::ps=>(f p).bind λa=>k a ps
def xE{β:Type}(b:β)(ps:List qG):Option β:=if ps=[] then some b else none
def dL{α β:Type}(f:qG->Option α)(k:α->E->Option β)(l:E):Option β:=
 match Box.cut l with
 |none=>none
 |some (t,i,r)=>(f (t,i)).bind λa=>k a r
def vw{β:Type}(b:β)(l:E):Option β:=if l=[] then some b else none
theorem wW(b:β)(l):vw b l=(Box.dF l).bind (xE b):=by
 unfold vw;cases l with
 |nil=>rfl
 |cons x l=>
  rw[cZ Z];cases h:Box.cut (x::l)with
  |none=>grind [Box.og]
  |some p=>
   obtain⟨t,i,r⟩:=p;rw[Box.qY h];cases Box.dF r<;>simp[xE]
theorem ek{α:Type}(f:qG->Option α)(k:α->List qG->Option β)(b:α->E->Option β)(h:∀a l,b a l=(Box.dF l).bind (k a))(l):dL f b l=(Box.dF l).bind (bY f k):=by
 unfold dL;cases a:Box.cut l with
 |none=>
  cases l with
  |nil=>rfl
  |cons x l=>grind [Box.og]
 |some p=>
  obtain⟨t,i,r⟩:=p;rw[Box.qY a];simp only[h];cases Box.dF r<;>cases d:f (t,i)<;>simp[bY,d]
theorem XT(l):(none:Option β)=(Box.dF l).bind (λ_=>none):=by cases Box.dF l<;>rfl
def lq(l:E):Option (List qG):=
 match Box.cut l with
 |some (t,i,[])=>if t.toNat=48 then Box.dF i else none
 |_=>none
structure FQ where
 ay:E
 aV:E
 bV:Int
 ma:Int
 dI:Int
 bX:Int
 aO:Int
 pre:Option (Int×E)
structure NQ where
 fU:E
 oC:Int
 dO:E
 proof:E
 aV:E
 bV:Int
 dI:Int
 bX:Int
 aO:Int
def qH:List qG->Option (Int×E):=bY bG λn=>bY jq λz=>xE (n,z)
def mi(p:qG):Option (Option (Int×E)):=
 match zu p with
 |none=>none
 |some []=>some none
 |some ps=>(qH ps).map some
def lu:List qG->Option FQ:=bY bG λk=>if k=10 then bY dm λc=>bY dm λs=>bY bG λn=>bY bG λf=>bY bG λt=>bY bG λr=>bY bG λo=>bY mi λp=>xE ⟨c,s,n,f,t,r,o,p⟩ else λ_=>none
def qI:List qG->Option (E×Int×E):=bY dm λs=>bY bG λn=>bY jq λz=>xE (s,n,z)
def gY(p:qG):Option (E×Int×E):=(zu p).bind qI
def lC:List qG->Option NQ:=bY bG λk=>if k=12 then bY gY λc=>bY jq λp=>bY dm λs=>bY bG λn=>bY bG λt=>bY bG λr=>bY bG λo=>xE ⟨c.1,c.2.1,c.2.2,p,s,n,t,r,o⟩ else λ_=>none
def nE(aX:E):Option FQ:=if aX.length<=300 then(lq aX).bind lu else none
def rD(aX:E):Option NQ:=if aX.length<=300 then(lq aX).bind lC else none
def eX(key use:UInt64)(z:E):Option E:=if 16<=z.length/\Pure.opens key use z=true then some (Pure.eO key use z) else none
def kR(l:E):Option Int:=
 match Box.cut l with
 |some (t,i,[])=>bG (t,i)
 |_=>none
def jP:List qG->Option TK:=bY bG λf=>bY P6 λk=>bY dm λc=>bY bG λa=>bY bG λs=>bY bG λe=>bY bG λr=>xE ⟨f,k,c,a,s,e,r⟩
def dR(l:E):Option TK:=(lq l).bind jP
def tQ:List qG->Option PF:=bY dm λc=>bY bG λt=>bY bG λn=>xE ⟨c,t,n⟩
def fI(l:E):Option PF:=(lq l).bind tQ
structure GR where
 kind:Int
 t:TK
 s:BE
 bV:Int
 aH:Int
 key:UInt64
 use:UInt64
def dS(x y:Option BE)(now a b c d:Int):Int:=
 match x,y with
 |none,_=>a
 |some _,none=>b
 |some x,some y=>if x.gone now=true then c else if y.gone now=true then d else if x.has 32=true\/y.has 32=true then 12 else 0
def eY(aA now:Int)(x:BE):Option (Int×E)->Int
 |none=>if x.has 1=true then 25 else 0
 |some (n,z)=>
  match (eX x.key 1 z).bind kR with
  |none=>24
  |some t=>if n≠x.aH then 24 else if aA<dU t now then 37 else 0
def ig(aO old:Int)(x s:BE):Int:=
 (if aI aO 1=true/\aI old 1=true/\x.has 4=true/\s.has 4=true then 1 else 0)+(if aI aO 2=true/\aI old 2=true/\x.has 8=true/\s.has 8=true then 2 else 0)
  + (if aI aO 4=true/\aI old 4=true/\x.has 2=true/\s.has 2=true then 4 else 0)
def fB(aO old:Int)(x s:BE)(start upto:Int):Int:=
 if aI aO 4=true/\aI old 4=true/\x.has 2=true/\s.has 2=true then gS upto (gS (aW start x.aC) (aW start s.aC)) else 0
def bH(now:Int)(q:FQ):Int:=if aI q.aO 8=true then q.ma else now
def fO(now:Int)(q:FQ)(x s:BE):Int:=gS (j9 q.dI) (gS (aW (bH now q) x.bI) (aW (bH now q) s.bI))
def mI(now:Int)(q:FQ)(x s:BE):TK:=
 ⟨32+(if q.pre.isSome then 64 else 0)+(if aI q.aO 8=true then 24 else 0)+ig q.aO 7 x s,0,q.ay,now,bH now q,fO now q x s,fB q.aO 7 x s (bH now q) (j9 q.bX)⟩
def cO(aA now:Int)(q:FQ)(x s:BE):Int:=
 if eY aA now x q.pre≠0 then eY aA now x q.pre
 else if q.aO<0\/15<q.aO then 13
 else if aI q.aO 8=true/\¬ (x.has 16=true/\s.has 16=true) then 10
 else if aI q.aO 8=false/\aW now aA<q.ma then 10
 else if fO now q x s<=bH now q then 11 else 0
def mB(M:DM)(now:Int)(q:FQ):Except Int GR:=
 match BE.find M.aF q.ay,BE.find M.aF q.aV with
 |none,_=>.error 6
 |some _,none=>.error 7
 |some x,some s=>
  if dS (some x) (some s) now 6 7 1 2≠0 then .error (dS (some x) (some s) now 6 7 1 2)
  else if cO M.aA now q x s≠0 then .error (cO M.aA now q x s)
  else .ok ⟨11,mI now q x s,s,q.bV,x.aH,x.key,3⟩
def iW(M:DM)(now:Int)(q:NQ):Except Int (TK×PF):=
 if q.fU≠[116,103,115]/\¬ ((aI q.aO 16=true\/aI q.aO 32=true)/\q.fU=q.aV) then .error 36
 else match BE.find M.aF q.fU with
 |none=>.error 7
 |some e=>
  match e.keyOf q.oC with
  |none=>.error 44
  |some key=>
   match (eX key 2 q.dO).bind dR with
   |none=>.error 31
   |some t=>
    match (eX t.aN 4 q.proof).bind fI with
    |none=>.error 31
    |some p=>if p.ay≠t.ay then .error 36 else if M.aA<dU p.time now then .error 37 else .ok (t,p)
def iQ(aA now:Int)(l:List PF):List PF:=l.filter λp=>decide (dU p.time now<=aA)
def bL(aA now:Int)(l:List PF)(p:PF):Int:=if p∈iQ aA now l then 34 else if 8<=(iQ aA now l).length then 60 else 0
def bJ(aA now:Int)(l:List PF)(p:PF):List PF:=if bL aA now l p=0 then iQ aA now l++[p] else iQ aA now l
def vM(aO:Int):Int:=(if aI aO 16=true then 1 else 0)+(if aI aO 32=true then 1 else 0)+(if aI aO 64=true then 1 else 0)+(if aI aO 128=true then 1 else 0)
def ku(aO ae:Int):Bool:=
 if aO<0\/255<aO\/aI aO 8=true then false
 else if 1<vM aO\/aI aO 32=true/\aO≠32 then false
 else if aI aO 16=true/\aI ae 4=false\/aI aO 64=true/\aI ae 1=false\/aI aO 128=true/\aI ae 2=false then false
 else !aI aO 32||aI ae 16
def Ii(ae:Int):Int:=(if aI ae 64=true then 64 else 0)+(if aI ae 128=true then 128 else 0)+(if aI ae 256=true then 256 else 0)
def iE(now dI:Int)(old:TK)(x s:BE):Int:=gS (gS (j9 dI) old.fin) (gS (aW now x.bI) (aW now s.bI))
def iL(aO:Int)(old:TK)(x s:BE):Int:=
 (if aI old.ae 64=true then 64 else 0)+(if aI old.ae 128=true\/aI aO 64=true then 128 else 0)+(if aI old.ae 256=true\/aI aO 128=true then 256 else 0)+ig aO old.ae x s
def fresh(now:Int)(old:TK)(x s:BE)(dI bX aO:Int):Except Int TK:=
 if aI aO 32=true then(if now<old.start then .error 33 else .ok {old with ae:=if aI old.ae 16=true then old.ae-16 else old.ae})
 else if aI aO 16=true then(if old.aC<=now then .error 32 else .ok {old with start:=now,fin:=gS old.aC (aW now (gq old.fin old.start))})
 else if iE now dI old x s<=now then .error 11
 else .ok {old with start:=now,fin:=iE now dI old x s,ae:=iL aO old x s,aC:=fB aO old.ae x s now (gS (j9 bX) old.aC)}
def eu(M:DM)(now:Int)(q:NQ)(old:TK):Except Int GR:=
 if aI old.ae 16=true/\aI q.aO 32=false\/aW now M.aA<old.start then .error 33
 else if old.fin<now then .error 32
 else match BE.find M.aF q.aV,BE.find M.aF old.ay with
 |none,_=>.error 7
 |some _,none=>.error 6
 |some s,some x=>
  if dS (some s) (some x) now 7 6 2 1≠0 then .error (dS (some s) (some x) now 7 6 2 1)
  else if ku q.aO old.ae=false then .error 13
  else match fresh now old x s q.dI q.bX q.aO with
  |.error c=>.error c
  |.ok t=>.ok ⟨13,t,s,q.bV,0,old.aN,5⟩
def eF(ds:E)(k:Nat):UInt64:=Pure.joinL 0 ((ds.drop (8*k)).take 8)
def GR.box(g:GR)(ds:E):E:=lU g.kind {g.t with aN:=eF ds 0} g.s g.bV g.aH g.key g.use (eF ds 1) (eF ds 2)
def dA(M:DM)(now:Int):Except Int GR->E×DM
 |.error c=>(aY now c,M)
 |.ok g=>if M.aL.length<24 then(aY now 60,M) else(g.box M.aL,{M with aL:=M.aL.drop 24})
def tT(M:DM)(now:Int)(q:NQ):E×DM:=
 match iW M now q with
 |.error c=>(aY now c,M)
 |.ok (t,p)=>
  let M':={M with aJ:=bJ M.aA now M.aJ p}
  if bL M.aA now M.aJ p≠0 then(aY now (bL M.aA now M.aJ p),M')
  else dA M' now (eu M' now q t)
def dG(M:DM)(now:Int)(aX:E):E×DM:=
 match nE aX with
 |some q=>dA M now (mB M now q)
 |none=>
  match rD aX with
  |some q=>tT M now q
  |none=>(aY now 60,M)
set_option maxHeartbeats 1000000
open Proofs.Tryz
theorem MA{S:ByteArray}{l:E}(a:S=⟨l.toArray⟩)(j)(h:j<S.size):S[j]'h=l.getD j 0:=by
 subst a;have b:j<l.length:=by simpa[ByteArray.size]using h
 simp only[List.getD,cL b,Option.getD_some];rfl
theorem sY(h:p:=by
 go_wp2
 go_ret
 exact⟨rfl,rfl⟩):p:=h
theorem DW(z)(w):Calls prog 202 #[.int .u8 (z.toNat:Int)] w λe a=>e=.returned (.bool (jD z))/\w=a:=by
 have n:=z.toNat_lt;have f:Hid (jD z=decide ((97<=z.toNat/\z.toNat<=122)\/(48<=z.toNat/\z.toNat<=57)\/z.toNat=47)):=rfl;have d:∀b,jD z=b->(b=true↔((97<=z.toNat/\z.toNat<=122)\/(48<=z.toNat/\z.toNat<=57)\/z.toNat=47)):=by
  intro b a;rw[<-a,f,decide_eq_true_iff]
 cases j:jD z
 .have i:¬ ((97<=z.toNat/\z.toNat<=122)\/(48<=z.toNat/\z.toNat<=57)\/z.toNat=47):=fA;have g:((z.toNat:Int)==47)=false:=fA;clear d f j;by_cases e:97<=z.toNat
  .have a:(97:Int)<=(z.toNat:Int):=G;have m:¬ (z.toNat:Int)<=122:=G;have l:¬ (z.toNat:Int)<=57:=G;clear i;go_in;exact sY
  .have a:¬ (97:Int)<=(z.toNat:Int):=G;by_cases h:48<=z.toNat
   .have b:(48:Int)<=(z.toNat:Int):=G;have l:¬ (z.toNat:Int)<=57:=G;clear i;go_in;exact sY
   .have b:¬ (48:Int)<=(z.toNat:Int):=G;clear i;go_in;exact sY
 .have k:=(d _ j).1 rfl;clear d f j;by_cases e:97<=z.toNat/\z.toNat<=122
  .have a:(97:Int)<=(z.toNat:Int):=G;have m:(z.toNat:Int)<=122:=G;clear k e;go_in;exact sY
  .by_cases h:48<=z.toNat/\z.toNat<=57
   .have a:¬ (97:Int)<=(z.toNat:Int):=G;have b:(48:Int)<=(z.toNat:Int):=G;have l:(z.toNat:Int)<=57:=G;clear k e h;go_in;exact sY
   .have a:¬ (97:Int)<=(z.toNat:Int):=G;have b:¬ (48:Int)<=(z.toNat:Int):=G;have g:((z.toNat:Int)==47)=true:=(by rw[db];omega);clear k e h;go_in;exact sY
theorem AH(h:p:=by
 go_wp2
 go_ret
 exact⟨by rw[HR];rfl,rfl⟩):p:=h
theorem DX(l)(n)(S)(w)(x:Hid (S=⟨l.toArray⟩))(r:Hid (l.length=n))(K:n<=9223372036854775807):Calls prog 161 #[.string S] w λe t=>e=.returned (.bool (di l))/\w=t:=by
 have B:S.size=n:=by rw[x,<-r];simp[ByteArray.size]
 have g:Hid (di l=(decide (1<=n/\n<=16)&&l.all jD)):=by show _=_;rw[di,r]
 by_cases v:1<=n
 .by_cases d:n<=16
  .have b:¬ (n:Int)<1:=G;have m:¬ (16:Int)<(n:Int):=G;have j:Hid (di l=l.all jD):=(by show _=_;rw[g,dk ⟨v,d⟩,gn]);clear g;go_in;go_wp2;go_loop [3,14] (λ_ i=>∃k:Nat,k<=n/\i = Y k/\Hid ((l.take k).all jD=true)) (λ_ i=>n-(intOf i).toNat)
   case atStart=>grind [I]
   case round=>
    obtain⟨k,J,rfl,u⟩:=hrel;by_cases q:k<n
    .have f:k<l.length:=(by rw[r];exact q);have i:=MA x k;have a:=I (xM f);rw[u,gn]at a;have h:Hid (jD (l.getD k 0)=false->di l=false):=by
      grind [Hid.o]
     generalize l.getD k 0=z at i a h;have C:(k:Int)<(n:Int):=G;have A:(0:Int)<=(k:Int):=G;cases y:jD z
     .have p:=I (h y);clear h a;go_wp2_with (go_at_call 202;refine(DW z _).mono ?_;rintro e t ⟨rfl,rfl⟩)
      go_ret;exact⟨by rw[p];rfl,rfl⟩
     .have D:=I (a.o.trans y);clear h a;go_wp2_with (go_at_call 202;refine(DW z _).mono ?_;rintro e t ⟨rfl,rfl⟩)
      go_round
      case rel=>grind
      case measure=>simp[intOf];omega
    .have p:k=n:=G;subst p;have HR:Hid (di l=true):=(by show _=_;rw[j,<-u,cU (by grind [Hid.o])]);have C:¬ (k:Int)<(k:Int):=G;exact AH
  .have b:¬ (n:Int)<1:=G;have m:(16:Int)<(n:Int):=G;have HR:Hid (di l=false):=(by show _=_;rw[g,cX (λh=>d h.2),gj]);go_in;exact AH
 .have b:(n:Int)<1:=G;have HR:Hid (di l=false):=by show _=_;rw[g,cX (λh=>v h.1),gj]
  go_in;exact AH
theorem vj(h:p:=by rw[BitVec.toInt_ofInt,Int.bmod_def];split<;>omega):p:=h
theorem wX(n):(BitVec.ofInt 64 n).toNat=(n % 18446744073709551616).toNat:=by
 rw[BitVec.toNat_ofInt];rfl
theorem kV(n)(k)(h:k<64):(BitVec.ofInt 64 n).getLsbD k=aI n (2 ^ k):=by
 rw[aI,<-BitVec.testBit_toNat,wX,Nat.testBit_eq_decide_div_mod_eq];congr 1;have i:(0:Int)<2 ^ k:=Int.pow_pos O;have e:((n % 18446744073709551616).toNat / 2 ^ k % 2:Nat)=1↔n / 2 ^ k % 2=1:=by
  have d:0<=n % 18446744073709551616:=Int.emod_nonneg _ O;have f:(((n % 18446744073709551616).toNat / 2 ^ k % 2:Nat):Int)=n % 18446744073709551616 / 2 ^ k % 2:=by
   grind
  have g:n % 18446744073709551616 / 2 ^ k % 2=n / 2 ^ k % 2:=by
   have a:(18446744073709551616:Int)=2 ^ k*2 ^ (64-k):=by
    rw[<-Int.pow_add,show k+(64-k)=64 from by omega];rfl
   have b:n / 2 ^ k=n % 18446744073709551616 / 2 ^ k+2 ^ (64-k)*(n / 18446744073709551616):=by
    have:=Int.emod_add_mul_ediv n 18446744073709551616;conv=>lhs;rw[<-this,a,Int.mul_assoc]
    rw[Int.add_mul_ediv_left _ _ G,<-a]
   rw[b,show(64-k)=(64-k-1)+1 from by omega,Int.pow_succ,Int.mul_comm (2 ^ (64-k-1)) 2,Int.mul_assoc,Int.add_mul_emod_self_left]
  omega
 simp only[e]
theorem LM(v:BitVec 64):(IntKind.i64.wrap (v.toNat:Int))=v.toInt:=by
 rw[IntKind.wrap_i64,BitVec.toInt_eq_toNat_cond];have:=v.isLt;split<;>omega
theorem JE(a b):bits .and .i64 a b=(BitVec.ofInt 64 a &&& BitVec.ofInt 64 b).toInt:=LM _
theorem uD(a b):bits .andNot .i64 a b=(BitVec.ofInt 64 a &&& ~~~ BitVec.ofInt 64 b).toInt:=LM _
theorem uE(v):BitVec.ofInt 64 v.toInt=v:=BitVec.ofInt_toInt
theorem Ug(n)(l:-9223372036854775808<=n)(m:n<=9223372036854775807)(v:BitVec 64)(k)(p:k<63)(r:∀j,j<64->v.getLsbD j=(aI n (2 ^ j)&&decide (k<=j))):(v.toInt=0)↔(0<=n/\n<2 ^ k):=by
 have q:(BitVec.ofInt 64 n).toInt=n:=vj;have a:v=(BitVec.ofInt 64 n >>> k) <<< k:=by
  grind [kV]
 have g:=(BitVec.ofInt 64 n).isLt;have i:v.toInt=0↔(BitVec.ofInt 64 n).toNat / 2 ^ k=0:=by
  have e:v.toInt=0↔v=0#64:=by
   grind [uE]
  rw[e,a];constructor
  .intro h;have b:=congrArg BitVec.toNat h;rw[BitVec.toNat_shiftLeft,BitVec.toNat_ushiftRight,Nat.shiftLeft_eq,Nat.shiftRight_eq_div_pow]at b;have j:(BitVec.ofInt 64 n).toNat / 2 ^ k*2 ^ k<=(BitVec.ofInt 64 n).toNat:=Nat.div_mul_le_self _ _;rw[ez G]at b;have o:=Nat.two_pow_pos k;have f:(BitVec.ofInt 64 n).toNat / 2 ^ k*2 ^ k=0:=b;rcases Nat.mul_eq_zero.1 f with d|d
   .exact d
   .omega
  .intro h;apply BitVec.eq_of_toNat_eq;rw[BitVec.toNat_shiftLeft,BitVec.toNat_ushiftRight,Nat.shiftRight_eq_div_pow,h];simp
 rw[i,Nat.div_eq_zero_iff_lt (Nat.two_pow_pos k),wX];have b:(2:Nat) ^ k<=2 ^ 62:=Nat.pow_le_pow_right O G;grind
theorem yu(n)(a:-9223372036854775808<=n)(b:n<=9223372036854775807)(k)(d:k<63)(m)(f:∀j,j<64->aI m (2 ^ j)=decide (j<k)):(bits .andNot .i64 n m=0)↔(0<=n/\n<2 ^ k):=by
 rw[uD];refine Ug n a b _ k d (λj e=>?_);grind [kV]
theorem M9:∀j,j<64->aI 63 (2 ^ j)=decide (j<6):=by decide
theorem MY:∀j,j<64->aI 15 (2 ^ j)=decide (j<4):=by decide
theorem X5(n)(a:-9223372036854775808<=n)(b:n<=9223372036854775807):(bits .andNot .i64 n 63==0)=decide (0<=n/\n<64):=by
 have:=yu n a b 6 O 63 M9;grind
theorem jy(a b)(k)(d:k<64):aI (bits .and .i64 a b) (2 ^ k)=(aI a (2 ^ k)&&aI b (2 ^ k)):=by
 rw[JE,<-kV _ k d,uE,BitVec.getLsbD_and,kV a k d,kV b k d]
theorem rH(a b)(k)(d:k<64):aI (bits .andNot .i64 a b) (2 ^ k)=(aI a (2 ^ k)&&!aI b (2 ^ k)):=by
 rw[uD,<-kV _ k d,uE,BitVec.getLsbD_and,BitVec.getLsbD_not,kV a k d,kV b k d];simp[d]
theorem Eh(a b):-9223372036854775808<=bits .and .i64 a b/\bits .and .i64 a b<=9223372036854775807:=by
 grind [JE]
theorem qQ(a b):-9223372036854775808<=bits .andNot .i64 a b/\bits .andNot .i64 a b<=9223372036854775807:=by
 grind [uD]
theorem Bu{a b:Int}(g:-9223372036854775808<=a/\a<=9223372036854775807)(i:-9223372036854775808<=b/\b<=9223372036854775807)(h:∀k,k<64->aI a (2 ^ k)=aI b (2 ^ k)):a=b:=by
 have e:BitVec.ofInt 64 a=BitVec.ofInt 64 b:=by
  apply BitVec.eq_of_getLsbD_eq;intro j d;rw[kV a j d,kV b j d,h j d]
 have f:(BitVec.ofInt 64 a).toInt=a:=vj;have d:(BitVec.ofInt 64 b).toInt=b:=vj;rw[<-f,<-d,e]
theorem tZ(k):aI 0 (2 ^ k)=false:=by
 unfold aI;rw[Int.zero_ediv];rfl
theorem Mw(n m)(a:List Nat)(d:∀k∈a,k<64)(e:∀j,j<64->aI m (2 ^ j)=decide (j∈a)):(bits .and .i64 n m==0)=a.all (λk=>!aI n (2 ^ k)):=by
 rw[Bool.eq_iff_iff,db,List.all_eq_true];constructor
 .grind [jy,tZ]
 .intro h;refine Bu (Eh n m) ⟨by decide,by decide⟩ (λj b=>?_);grind [jy,tZ]
theorem LN:∀j,j<64->aI 48 (2 ^ j)=decide (j∈[4,5]):=by decide
theorem m7:∀j,j<64->aI 7 (2 ^ j)=decide (j∈[0,1,2]):=by decide
theorem CM:∀j,j<64->aI 240 (2 ^ j)=decide (j∈[4,5,6,7]):=by decide
theorem CL:∀j,j<64->aI 448 (2 ^ j)=decide (j∈[6,7,8]):=by decide
theorem zv:∀j,j<64->aI 247 (2 ^ j)=decide (j<8/\j≠3):=by decide
theorem zr:∀j,j<64->aI 255 (2 ^ j)=decide (j<8):=by decide
theorem MD(n):(bits .and .i64 n 48==0)=(!aI n 16&&!aI n 32):=by
 rw[Mw n 48 [4,5] O LN];simp
theorem L8(n):(bits .and .i64 n 7==0)=(!aI n 1&&(!aI n 2&&!aI n 4)):=by
 rw[Mw n 7 [0,1,2] O m7];simp
theorem kH(n f)(k)(i:f=2 ^ k)(l:k<63):(bits .and .i64 n f==0)=!aI n f:=by
 subst i;have g:=jy n (2 ^ k) k G;have m:aI (2 ^ k) (2 ^ k)=true:=by
  unfold aI;rw[Int.ediv_self (by have:=Nat.pow_pos (n:=k) (show 0<2 by decide);have e:(2:Int) ^ k=((2 ^ k:Nat):Int):=Z;omega)];rfl
 rw[m,fW]at g;cases h:aI n (2 ^ k)with
 |true=>
  grind [tZ]
 |false=>
  rw[eM,db];refine Bu (Eh n _) ⟨by decide,by decide⟩ (λj b=>?_);rw[jy n _ j b,tZ];by_cases e:j=k
  .grind
  .have d:aI (2 ^ k) (2 ^ j)=false:=by
    rw[<-kV _ j b];have p:BitVec.ofInt 64 (2 ^ k)=BitVec.twoPow 64 k:=by
     apply BitVec.eq_of_toNat_eq;have o:(2:Int) ^ k<2 ^ 63:=by
      have h:=Nat.pow_lt_pow_right (a:=2) O l;exact_mod_cast h
     have j:(0:Int)<2 ^ k:=by
      have h:=Nat.pow_pos (n:=k) (show 0<2 by decide);exact_mod_cast h
     rw[wX,BitVec.toNat_twoPow];have:((2:Int) ^ k % 18446744073709551616)=2 ^ k:=Int.emod_eq_of_lt G G;rw[this];have b:((2:Int) ^ k).toNat=2 ^ k:=by
      have:(2:Int) ^ k=((2 ^ k:Nat):Int):=by simp
      rw[this,Int.toNat_natCast]
     rw[b,ez G]
    grind
   rw[d,Bool.and_false]
def Gv(n:Int):Int:=(if aI n 16=true then 16 else 0)+(if aI n 32=true then 32 else 0)+(if aI n 64=true then 64 else 0)+(if aI n 128=true then 128 else 0)
theorem Yr(n):bits .and .i64 n 240=Gv n:=by
 unfold Gv;have e:∀j,j<64->j∉[4,5,6,7]->aI (bits .and .i64 n 240) (2 ^ j)=false:=(by grind [CM,jy])
 have a:=jy n 240 4 O;have b:=jy n 240 5 O;have d:=jy n 240 6 O;have f:=jy n 240 7 O;rw[CM _ O]at a b d f;have i:=Eh n 240;generalize bits .and .i64 n 240=v at *;have g:aI v (2 ^ 4)=aI n 16:=by simpa using a
 have h:aI v (2 ^ 5)=aI n 32:=by simpa using b
 have k:aI v (2 ^ 6)=aI n 64:=by simpa using d
 have l:aI v (2 ^ 7)=aI n 128:=by simpa using f
 clear a b d f;have D:∀(a b d f)(j),j<64->aI ((if a=true then 16 else 0)+(if b=true then 32 else 0)+(if d=true then 64 else 0)+(if f=true then 128 else 0)) (2 ^ j)=(j==4&&a||(j==5&&b||(j==6&&d||j==7&&f))):=O;refine Bu i ?_ (λj a=>?_)
 .cases aI n 16<;>cases aI n 32<;>cases aI n 64<;>cases aI n 128<;>exact⟨by decide,by decide⟩
 .rw[D _ _ _ _ j a];grind
theorem Yt(n):bits .and .i64 n 448=Ii n:=by
 unfold Ii;have e:∀j,j<64->j∉[6,7,8]->aI (bits .and .i64 n 448) (2 ^ j)=false:=(by grind [jy,CL])
 have a:=jy n 448 6 O;have b:=jy n 448 7 O;have d:=jy n 448 8 O;rw[CL _ O]at a b d;have i:=Eh n 448;generalize bits .and .i64 n 448=v at *;have f:aI v (2 ^ 6)=aI n 64:=by simpa using a
 have g:aI v (2 ^ 7)=aI n 128:=by simpa using b
 have h:aI v (2 ^ 8)=aI n 256:=by simpa using d
 clear a b d;have D:∀(a b d)(j),j<64->aI ((if a=true then 64 else 0)+(if b=true then 128 else 0)+(if d=true then 256 else 0)) (2 ^ j)=(j==6&&a||(j==7&&b||j==8&&d)):=O;refine Bu i ?_ (λj a=>?_)
 .cases aI n 64<;>cases aI n 128<;>cases aI n 256<;>exact⟨by decide,by decide⟩
 .rw[D _ _ _ j a];grind
theorem Uy(n)(h:-9223372036854775808<=n/\n<=9223372036854775807):(bits .andNot .i64 n 247==0)=decide (0<=n/\n<256/\aI n 8=false):=by
 rw[Bool.eq_iff_iff,db,decide_eq_true_iff];have f:=yu n h.1 h.2 8 O 255 zr;constructor
 .intro e;have k:∀j,j<64->(aI n (2 ^ j)&&!aI 247 (2 ^ j))=false:=(by grind [rH,tZ])
  have b:bits .andNot .i64 n 255=0:=Bu (qQ n 255) ⟨by decide,by decide⟩ (by grind [zv,rH,zr]);have a:=k 3 O;have d:=f.1 b;exact⟨d.1,d.2,by rw[zv 3 O]at a;simpa using a⟩
 .rintro⟨g,i,a⟩;have b:=f.2 ⟨g,i⟩;refine Bu (qQ n 247) ⟨by decide,by decide⟩ (λj d=>?_);grind [rH,zv,zr]
theorem Ei(n)(h:-9223372036854775808<=n/\n<=9223372036854775807):(bits .andNot .i64 n 15==0)=decide (0<=n/\n<16):=by
 have:=yu n h.1 h.2 4 O 15 MY;grind
theorem xd:∀j,j<64->aI 16 (2 ^ j)=decide (j=4):=by decide
theorem zK(n)(h:-9223372036854775808<=n/\n<=9223372036854775807):bits .andNot .i64 n 16=if aI n 16=true then n-16 else n:=by
 cases d:aI n 16 with
 |false=>
  rw[cZ O];refine Bu (qQ n 16) h (λj a=>?_);grind [rH,xd]
 |true=>
  rw[dT rfl];have e:=qQ n 16;have b:=rH n 16 4 O;rw[xd 4 O,show aI n (2 ^ 4)=true from d]at b;rw[uD]at e b⊢;have g:BitVec.ofInt 64 n=(BitVec.ofInt 64 n &&& ~~~ BitVec.ofInt 64 16)+BitVec.ofInt 64 16:=by
   rw[BitVec.add_eq_or_of_and_eq_zero]
   .apply BitVec.eq_of_getLsbD_eq;intro j a;rw[BitVec.getLsbD_or,BitVec.getLsbD_and,BitVec.getLsbD_not,kV n j a,kV 16 j a,xd j a];grind
   .apply BitVec.eq_of_getLsbD_eq;intro j a;rw[BitVec.getLsbD_and,BitVec.getLsbD_and,BitVec.getLsbD_not];cases(BitVec.ofInt 64 16).getLsbD j<;>simp
  have f:(BitVec.ofInt 64 n).toInt=n:=vj;have a:=congrArg BitVec.toInt g;rw[BitVec.toInt_add,f]at a;generalize (BitVec.ofInt 64 n &&& ~~~ BitVec.ofInt 64 16).toInt=r at *;rw[show(BitVec.ofInt 64 16).toInt=16 from rfl,Int.bmod_def]at a;unfold aI at b;simp at b;split at a<;>omega
theorem Yu(a b):aI (bits .and .i64 a b) 1=(aI a 1&&aI b 1):=jy a b 0 O
theorem Yv(a b):aI (bits .and .i64 a b) 2=(aI a 2&&aI b 2):=jy a b 1 O
theorem Mx(a b):aI (bits .and .i64 a b) 4=(aI a 4&&aI b 4):=jy a b 2 O
