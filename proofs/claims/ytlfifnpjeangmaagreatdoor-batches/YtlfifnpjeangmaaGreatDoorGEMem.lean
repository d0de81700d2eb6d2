import Derived.Test.YtlfifnpjeangmaaGreatDoorGELaws
import Derived.Deep.MidRow
import Derived.Deep.AppendSrc
namespace Go.Proofs.YtlfifnpjeangmaaGreatDoor
open Go.RowKit
theorem ud{p:Prop}(h:p:=by grind [RowKit.Below.heap_setCell]):p:=h
theorem tj{p:Prop}(h:p:=by simpa using hj):p:=h
variable {ops:Array Oper}{Q:Exit->Act->World->Prop}{bs zs:E}{b n:Nat}{ex:Nat->Nat->Prop}{P:Program}{v:Value}{a w w' w1 w2:World}
structure CF(w w':World)(ex:Nat->Nat->Prop):Prop where
 os:w'.os=w.os
 tape:w'.tape=w.tape
 output:w'.output=w.output
 size:w.1.size<=w'.1.size
 block:∀b,b<w.1.size->(∀o,¬ ex b o)->w'.1[b]?=w.1[b]?
 cells:∀b cur e fz,w.1[b]?=some (.cells cur e fz)->∃cur',w'.1[b]?=some (.cells cur' e fz)/\cur'.size=cur.size/\∀o,¬ ex b o->cur'[o]?=cur[o]?
theorem CF.refl(w)(ex:Nat->Nat->Prop):CF w w ex:=⟨rfl,rfl,rfl,cy _,λ_ _ _=>rfl,fA⟩
theorem CF.mono{ex':Nat->Nat->Prop}(h:CF w w' ex)(k:∀b o,b<w.1.size->ex b o->ex' b o):CF w w' ex':=by
 refine⟨h.os,h.tape,h.output,h.size,(by grind [CF.block]),λb a e d f=>?_⟩;grind [CF.cells]
theorem CF.trans{b c:World}{ex2:Nat->Nat->Prop}(h:CF a b ex)(k:CF b c ex2)(m:∀i o,i<a.1.size->ex2 i o->ex i o):CF a c ex:=by
 have s:=h.size;refine⟨k.os.trans h.os,k.tape.trans h.tape,k.output.trans h.output,cE h.size k.size,λi f g=>?_,λi d e j l=>?_⟩
 .rw[k.block i G fA,h.block i f g]
 grind [CF.cells]
theorem CF.bF(h:w.grownBy w' none)(ex:Nat->Nat->Prop):CF w w' ex:=
 ⟨h.os,h.tape,h.output,h.size,oN,oN⟩
theorem CF.gb(h:CF w w' ex)(a:∀b o,b<w.1.size->¬ ex b o):w.grownBy w' none:=⟨h.os,h.tape,h.output,h.size,(by grind [CF.block])⟩
theorem CF.below{B:Nat}(h:CF w w' ex)(a:B<=w.1.size)(d:∀b o,b<B->¬ ex b o):Below B w w':=⟨h.os,h.tape,h.output,h.size,(by grind [CF.block])⟩
theorem CF.cell{o:Nat}(h:CF w w' ex)(d:w.cell? (F b o)=some v)(j:¬ ex b o):w'.cell? (F b o)=some v:=by
 cases a:w.1[b]? with
 |none=>simp[World.cell?,a]at d
 |some g=>
  cases g with
  |cells f e i=>
   grind [cell_of_row,CF.cells]
  |_=>simp[World.cell?,a]at d
theorem CF.range{o:Nat}{a:List Value}(h:CF w w' ex)(d:w.rangeAt b o a)(f:∀j,j<a.length->¬ ex b (o+j)):w'.rangeAt b o a:=
 λj v e=>h.cell (d j v e) fA
def b'(w:World)(b n:Nat):Prop:=∃cur e,w.1[b]?=some (.cells cur e (0,0))/\n<=cur.size
theorem b'.lt(h:b' w b n):b<w.1.size:=by
 obtain⟨a,e,d,_⟩:=h;grind
theorem b'.mono{m:Nat}(h:b' w b n)(k:m<=n):b' w b m:=by
 obtain⟨a,e,d,f⟩:=h;exact⟨a,e,d,by omega⟩
theorem b'.cf(h:b' w b n)(k:CF w w' ex):b' w' b n:=by
 obtain⟨d,e,f,i⟩:=h;obtain⟨a,g,j,_⟩:=k.cells b d e _ f;exact⟨a,e,g,by omega⟩
theorem b'.frozen(h:b' w b n)(j):w.frozen? (F b j)=false:=by
 obtain⟨a,e,d,f⟩:=h;simp[World.frozen?,d]
theorem b'.some(h:b' w b n)(j)(g:j<n):(w.cell? (F b j)).isSome=true:=by
 obtain⟨a,e,d,f⟩:=h;rw[cell_of_row w b j a e _ d];grind
theorem b'.there(h:b' w b n)(o k)(d:o+k<=n):w.there b o k:=λj a=>⟨h.some (o+j) G,h.frozen _⟩
theorem b'.new(w:World)(a)(e):b' (w.alloc (.cells a e)) w.1.size a.size:=⟨a,e,heap_alloc_new w _,cy _⟩
theorem b'.alloc(h:b' w b n)(o):b' (w.alloc o) b n:=h.cf (CF.bF (cx w o none) (λ_ _=>False))
theorem b'.drew(h:b' w b n):b' w.drew b n:=h
theorem b'.grown(h:b' w b n)(k:w.grownBy w' none):b' w' b n:=h.cf (CF.bF k (λ_ _=>False))
theorem CF.setCell(h:CF a w ex)(b o)(u)(l:b<a.1.size->ex b o):CF a (w.setCell (F b o) u) ex:=by
 refine h.trans (ex2:=λg f=>g=b/\f=o) ⟨rfl,rfl,rfl,by simp[World.setCell],ud,λk d e j i=>?_⟩ fA;by_cases e:k=b
 .subst e;refine⟨d.setIfInBounds o u,?_,by simp,λf g=>?_⟩
  .simp[World.setCell,Array.getElem?_modify,i]
  grind
 grind [RowKit.Below.heap_setCell]
theorem CF.setCells{a:World}{ex:Nat->Nat->Prop}(b):∀(d)(o)(w),CF a w ex->(∀j,j<d.length->b<a.1.size->ex b (o+j))->CF a (w.setCells b o d) ex
 | [],_,_,h,_=>h
 |v::r,o,w,h,d=>CF.setCells b r (o+1) _ (h.setCell b o v (by simpa using d 0 Z)) (λj f e=>by have:=d (j+1) j' e;rwa [show o+(j+1)=o+1+j from by omega]at this)
theorem CF.alloc(h:CF a w ex)(o):CF a (w.alloc o) ex:=h.trans (ex2:=λ_ _=>False) (CF.bF (cx w o none) _) (λ_ _ _ e=>e.elim)
theorem CF.grown(h:CF a w ex)(g:w.grownBy w' none):CF a w' ex:=h.trans (ex2:=λ_ _=>False) (CF.bF g _) (λ_ _ _ e=>e.elim)
theorem CF.before(g:a.grownBy w none)(h:CF w w' ex):CF a w' ex:=(CF.bF g ex).trans h (λ_ _ _ e=>e)
theorem CF.row{b c:World}{g:Nat}(h:CF a b ex)(k:b.grownBy c (some g))(n:a.1.size<=g):CF a c ex:=by
 have s:=h.size;refine⟨k.os.trans h.os,k.tape.trans h.tape,k.output.trans h.output,cE h.size k.size,λi f j=>?_,λi d e l m=>?_⟩
 .rw[k.block i G j',h.block i f j]
 grind [World.grownBy.block,CF.cells]
theorem CF.drew(h:CF a w ex):CF a w.drew ex:=⟨h.os,h.tape,h.output,h.size,h.block,h.cells⟩
theorem CF.drewN(h:CF a w ex)(n):CF a (w.drewN n) ex:=⟨h.os,h.tape,h.output,h.size,h.block,h.cells⟩
theorem CF.dM(h:CF a.drew w ex):CF a w ex:=⟨h.os,h.tape,h.output,h.size,h.block,h.cells⟩
theorem CF.jN(h:CF (a.drewN n) w ex):CF a w ex:=⟨h.os,h.tape,h.output,h.size,h.block,h.cells⟩
theorem At.range{a:Nat}(h:At w (.some ⟨b,a,.none⟩) zs):w.rangeAt b a (zs.map U8):=λj v d=>by
 simp only[eA,Option.map_eq_some_iff]at d
 obtain⟨y,f,rfl⟩:=d
 obtain⟨e,rfl⟩:=cM.1 f
 exact h.cells j e
theorem At.vB{a:Nat}(h:w.rangeAt b a (zs.map U8)):At w (.some ⟨b,a,.none⟩) zs:=
 At.some λj d=>h j (U8 zs[j]) (by simp[d])
theorem At.cf{d:Option Addr}(h:At w d zs)(k:CF w w' ex)(i:∀b a,d=.some ⟨b,a,.none⟩->∀j,j<zs.length->¬ ex b (a+j)):At w' d zs:=by
 intro j e;obtain⟨b,a,f,g⟩:=h j e;grind [CF.cell]
structure Pl where
 g:Nat
 off:Nat
 cap:Nat
def Pl.has(p:Option Pl)(b o:Nat):Prop:=∃q,p=some q/\b=q.g/\q.off<=o/\o<q.off+q.cap
def Pl.fresh(n:Nat)(p:Option Pl):Prop:=∀q,p=some q->n<=q.g
def f'(w:World)(v:Value)(p:Option Pl)(bs:E):Prop:=
 (p=none/\v = σ/\bs=[])\/
 ∃q,p=some q/\v = ς q.g q.off bs.length q.cap/\bs.length<=q.cap/\q.cap<=maxLen/\b' w q.g (q.off+q.cap)/\w.rangeAt q.g q.off (bs.map U8)
theorem f'.nil(w):f' w σ none []:=.inl ⟨rfl,rfl,rfl⟩
theorem f'.shape{p:Option Pl}(h:f' w v p bs):∃b a,v=.slice b bs.length a/\bs.length<=a/\a<=maxLen/\At w b bs/\(b=none->a=0):=by
 rcases h with⟨_,rfl,rfl⟩|⟨q,_,rfl,a,b,d,e⟩
 .exact⟨none,0,rfl,cy _,cS _,At.nil _ _,λ_=>rfl⟩
 grind [At.vB]
theorem f'.open{p:Option Pl}(h:f' w v p bs)(j:Hid (bs.length=n)):∃b a,v=.slice b n a/\n<=a/\a<=9223372036854775807/\At w b bs/\Hid (b=none->a=0):=by
 obtain⟨b,a,d,e,f,g,i⟩:=h.shape;rw[j]at d e;exact⟨b,a,d,e,by unfold maxLen at f;exact f,g,i⟩
theorem f'.cf{p:Option Pl}(h:f' w v p bs)(k:CF w w' ex)(i:∀q,p=some q->∀j,j<bs.length->¬ ex q.g (q.off+j)):f' w' v p bs:=by
 rcases h with h|⟨q,e,g,a,b,d,f⟩
 .exact .inl h
 .exact .inr ⟨q,e,g,a,b,d.cf k,k.range f (λj hj=>i q e j tj)⟩
theorem f'.grown{p:Option Pl}(h:f' w v p bs)(k:w.grownBy w' none):f' w' v p bs:=h.cf (CF.bF k (λ_ _=>False)) (λ_ _ _ _ e=>e)
theorem f'.lt{p:Option Pl}(h:f' w v p bs){o:Nat}(g:Pl.has p b o):b<w.1.size:=by
 obtain⟨q,a,e,_⟩:=g;rcases h with⟨h,_⟩|⟨i,d,_,_,_,f,_⟩
 .rw[h]at a;cases a
 .rw[d]at a;injection a with a;subst a;subst e;exact f.lt
theorem f'.K8{p:Option Pl}(h:f' w v p bs)(q)(a:p=some q):q.g<w.1.size:=by
 rcases h with⟨h,_⟩|⟨e,b,_,_,_,d,_⟩
 .rw[h]at a;cases a
 .rw[b]at a;injection a with a;subst a;exact d.lt
theorem f'.drew{p:Option Pl}(h:f' w v p bs):f' w.drew v p bs:=h
theorem f'.own{base:Nat}{e:TypeId}(h:w.ownsRow base e 1 v n (bs.map U8)):∃p,f' w v p bs/\Pl.fresh base p:=by
 have p:n=bs.length:=by simpa using h.1.symm
 rcases h.2 with⟨i,k⟩|⟨g,a,b,i,l,o,r,f,m,t⟩
 .subst k;have:bs=[]:=fA;exact⟨none,.inl ⟨rfl,i,this⟩,λq d=>by cases d⟩
 .refine⟨some ⟨g,0,a⟩,.inr ⟨_,rfl,by rw[i,p],by show bs.length<=a;omega,f,⟨b,e,o,by show 0+a<=b.size;omega⟩,?_⟩,λq d=>by injection d with d;subst d;exact l⟩;intro j u q;grind [cell_of_row]
theorem TG{p:Option Pl}(h:Pl.fresh n p){o:Nat}(d:b<n):¬ Pl.has p b o:=by
 rintro⟨q,a,e,_⟩;have:=h q a;omega
theorem mJ{m:Nat}{p:Option Pl}(h:Pl.fresh n p)(k:m<=n):Pl.fresh m p:=λq a=>by have:=h q a;omega
theorem aS(w:World)(a)(e):(w.alloc (.cells a e)).rangeAt w.1.size 0 a.toList:=λj v b=>by
 rw[cN,World.cell?_alloc_at (hn:=rfl)]
 simpa using b
def aU(w w':World)(v':Value)(p:Option Pl)(bs:E):Prop:=∃p',f' w' v' p' bs/\CF w w' (Pl.has p)/\(p'=p\/Pl.fresh w.1.size p')/\∀q,p=some q->bs.length<=q.cap->p'=p
theorem wQ(w)(e)(a)(n k)(f:n=a.length)(ex:Nat->Nat->Prop)(d:n+k<=maxLen):
  f' (w.drew.alloc (.cells ((a.map U8).toArray++Builtin.zeroCells #[.int .u8 0] k) e)) (ς w.1.size 0 n (n+k)) (some ⟨w.1.size,0,n+k⟩) a/\
   CF w (w.drew.alloc (.cells ((a.map U8).toArray++Builtin.zeroCells #[.int .u8 0] k) e)) ex:=by
 subst f
 refine⟨.inr ⟨_,rfl,rfl,en _ _,d,?_,?_⟩,(CF.refl w ex).drew.alloc _⟩
 .have:=b'.new w.drew ((a.map U8).toArray++Builtin.zeroCells #[.int .u8 0] k) e;refine this.mono ?_;simp[size_zeroCells]
 .intro j u b;have h:=aS w.drew ((a.map U8).toArray++Builtin.zeroCells #[.int .u8 0] k) e j u ?_
  .exact h
  .rw[Array.toList_append,cW (by simpa using(cM.1 b).1)];simpa using b
theorem uX(w)(t K R e)(i)(Q:P.underlying t=some (.slice e))(L:P.info? e=some i)(hz:i.zero=some (.int .u8 0))(M:i.size=1)(hb:i.bytes=1)(v x)(p)(bs a)(hv:f' w v p bs)(n)(d:Src P 1 K x n (a.map U8) w)(hl:bs.length+a.length<=140737488355328):
  ∃f w',(Builtin.append_ #[t,K] R #[v,x]).run P w=.ok f w'/\aU w w' f p (bs++a)/\∀b o u,w.c b o=some u->w'.c b o=some u\/∃y∈a,w'.c b o=some (U8 y):=by
 have r:∀f b o u,w.c b o=some u->(w.drew.alloc f).c b o=some u\/∃y∈a,(w.drew.alloc f).c b o=some (U8 y):=λf b o u B=>.inl ((aM (bg (cC w none)) f).cell B Z)
 have hn:n=a.length:=by have:=d.newsLen;simp at this;omega
 subst hn
 rw[<-M]at d
 have m:bs.length+a.length<=maxLen:=kO
 rcases hv with⟨A,rfl,rfl⟩|⟨q,A,rfl,h1,h2,U,X⟩
 .by_cases j:a.length=0
  .have:=List.length_eq_zero_iff.1 j;subst this;refine⟨σ,w,?_,⟨none,f'.nil w,CF.refl _ _,.inl A.symm,λ_ _ _=>A.symm⟩,λ_ _ _ h=>.inl h⟩;have f:(Builtin.lenOf x).run P w=.ok 0 w:=d.len w;have g:(Builtin.firstCells i.size 0 x).run P w=.ok #[] w:=d.cells;rcases d.kind with⟨h,D⟩|D<;>simp[Builtin.append_,run_underlying Q,run_underlying D,sizeOf,typeInfo,L,f,g]
  .have l:(Builtin.firstCells i.size 0 σ).run P w.drew=.ok ([]:List Value).toArray w.drew:=run_firstCells_none w.drew _ 0 0 0;have h:=growslice_fits (need:=0+a.length) (old:=0) (bytes:=i.bytes) G (by rw[hb];simp at hl;omega);have J:=run_append_grow_src (P:=P) w t K R e i (.int .u8 0) Q L hz none 0 0 [] l x a.length (a.map U8) d G (by simp at hl;omega) h;have V:=grownCap_ge w (0+a.length) 0 e;have g:grownCap w (0+a.length) 0 e<=maxLen:=grownCap_le_maxLen w _ 0 e (by simpa using m);obtain⟨k,D⟩:∃k,grownCap w (0+a.length) 0 e=a.length+k:=⟨grownCap w (0+a.length) 0 e-a.length,by omega⟩
   rw[D]at J g;obtain⟨S,T⟩:=wQ w e a a.length k rfl (Pl.has p) g;refine⟨_,_,J,?_,r _⟩;rw[show a.length+k-(0+a.length)=k from by omega,cN];exact⟨_,by simpa[Value.cells]using S,T,.inr (λq f=>by injection f with f;subst f;exact cy _),λq f=>by rw[A]at f;cases f⟩
 .by_cases C:bs.length+a.length<=q.cap
  .have ad:(a.map U8).length=a.length:=Z
   have hc:=run_append_room_src (P:=P) w t K R e i Q L q.g q.off bs.length q.cap x a.length (a.map U8) d C
    (λj hj=>U.some _ (by rw[M,fR];omega)) (λj _=>U.frozen _)
   have F:CF w (w.setCells q.g (q.off+bs.length*i.size) (a.map U8)) (Pl.has p):=by
    refine CF.setCells q.g (a.map U8) _ w (CF.refl _ _) (λj hj _=>⟨q,A,rfl,?_,?_⟩)
    .omega
    .rw[M];omega
   have ab:=World.cell?_setCells_in q.g (a.map U8) (q.off+bs.length*i.size) w (by grind [b'.some]);refine⟨_,_,hc,⟨some q,?_,F,.inl A.symm,λ_ _ _=>A.symm⟩,λb o u B=>?_⟩;rotate_left
   .by_cases W:b=q.g/\q.off+bs.length*i.size<=o/\o<q.off+bs.length*i.size+(a.map U8).length
    .obtain⟨rfl,h7,h8⟩:=W;obtain⟨j,rfl⟩:∃j,o=q.off+bs.length*i.size+j:=⟨o-(q.off+bs.length*i.size),by omega⟩
     grind
    grind [World.cell?_setCells_out]
   refine .inr ⟨q,rfl,by rw[cD],by grind,h2,U.cf F,?_⟩;intro j u B;rw[ef]at B;by_cases hj:j<bs.length
   .rw[cW tj]at B;rw[World.cell?_setCells_out q.g (a.map U8) _ w _ fA];exact X j u B
   grind
  .have l:(Builtin.firstCells i.size bs.length (ς q.g q.off bs.length q.cap)).run P w.drew=.ok (bs.map U8).toArray w.drew:=
    run_firstCells_some w.drew _ bs.length ⟨q.g,q.off,none⟩ bs.length q.cap (bs.map U8) (by simp[M]) (λj u B=>by rw[Addr.add_lit];exact X j u B)
   have h:=growslice_fits (need:=bs.length+a.length) (old:=q.cap) (bytes:=i.bytes) G (by rw[hb];omega);have J:=run_append_grow_src (P:=P) w t K R e i (.int .u8 0) Q L hz (some ⟨q.g,q.off,none⟩) bs.length q.cap (bs.map U8) l x a.length (a.map U8) d G G h;have V:=grownCap_ge w (bs.length+a.length) q.cap e;have g:=grownCap_le_maxLen w _ q.cap e m;obtain⟨k,D⟩:∃k,grownCap w (bs.length+a.length) q.cap e=bs.length+a.length+k:=⟨grownCap w (bs.length+a.length) q.cap e-(bs.length+a.length),by omega⟩
   rw[D]at J g;obtain⟨S,T⟩:=wQ w e (bs++a) (bs.length+a.length) k Z (Pl.has p) g;refine⟨_,_,J,?_,r _⟩;rw[show bs.length+a.length+k-(bs.length+a.length)=k from by omega,<-ef];exact⟨_,S,T,.inr (λq f=>by injection f with f;subst f;exact cy _),λo f j=>by rw[A]at f;injection f with f;subst f;rw[cD]at j;omega⟩
theorem vC(w)(t f g e)(i)(q:P.underlying t=some (.slice e))(l:P.info? e=some i)(u:i.zero=some (.int .u8 0))(o:i.size=1)(k:i.bytes=1)(v x)(p)(bs d)(r:f' w v p bs)(n)(a:Src P 1 f x n (d.map U8) w)(m:bs.length+d.length<=140737488355328):
  ∃b w',(Builtin.append_ #[t,f] g #[v,x]).run P w=.ok b w'/\aU w w' b p (bs++d):=by
 obtain⟨b,w',h,j,_⟩:=uX (P:=P) w t f g e i q l u o k v x p bs d r n a m
 exact⟨b,w',h,j⟩
theorem aU.comp{d:Value}{p b:Option Pl}{bs1 a:E}(h:CF w w1 (Pl.has p)/\(b=p\/Pl.fresh w.1.size b)/\∀q,p=some q->bs1.length<=q.cap->b=p)(k:aU w1 w2 d b a)(t:bs1.length<=a.length):aU w w2 d p a:=by
 obtain⟨f,e,n⟩:=h;obtain⟨m,j,l,x,y⟩:=k;have s:=f.size;refine⟨m,j,f.trans l (λi o r v=>?_),?_,λq u g=>?_⟩
 .grind [TG]
 .grind [mJ]
 grind
theorem aU.from{b:Value}{p:Option Pl}{a:E}(h:CF w w1 (Pl.has p))(k:aU w1 w2 b p a):aU w w2 b p a:=aU.comp (bs1:=[]) ⟨h,.inl rfl,λ_ _ _=>rfl⟩ k Z
theorem aU.refl{p:Option Pl}(h:f' w v p bs):aU w w v p bs:=⟨p,h,CF.refl _ _,.inl rfl,λ_ _ _=>rfl⟩
theorem aU.cf{p:Option Pl}(h:aU w w' v p bs):CF w w' (Pl.has p):=by
 obtain⟨_,_,f,_⟩:=h;exact f
theorem aU.before{a:World}{p:Option Pl}(g:a.grownBy w none)(h:aU w w' v p bs):aU a w' v p bs:=by
 obtain⟨f,b,d,i,e⟩:=h;exact⟨f,b,CF.before g d,by grind [World.grownBy.size,mJ],e⟩
theorem aU.grown{p:Option Pl}(h:aU w w1 v p bs)(g:w1.grownBy w2 none):aU w w2 v p bs:=by
 obtain⟨f,a,b,d,e⟩:=h;exact⟨f,a.grown g,b.grown g,d,e⟩
theorem aU.drewN{p:Option Pl}(h:aU w w' v p bs)(n):aU w (w'.drewN n) v p bs:=by
 obtain⟨e,a,b,d⟩:=h;exact⟨e,a,b.drewN n,d⟩
theorem aU.shape{p:Option Pl}(h:aU w w' v p bs):∃b a,v=.slice b bs.length a/\bs.length<=a/\a<=maxLen/\At w' b bs/\(b=none->a=0):=by
 obtain⟨b,a,_⟩:=h;exact a.shape
theorem dK(w){b:List Oper}{o:Oper}{a:Act}(C:o.guard=none)(s x)(t l)(k:o.op=Op.call {callee:=Callee.builtin Builtin.append,args:=#[s,x],argTypes:=#[t,l]})(e)(i)(q:P.underlying t=some (.slice e))(r:P.info? e=some i)(u:i.zero=some (.int .u8 0))(y:i.size=1)(A:i.bytes=1)(v m)(p)(bs h)(J:a.eval s=v)(M:a.eval x=m)(L:f' w v p bs)(n)(f:Src P 1 l m n (h.map U8) w)(D:bs.length+h.length<=140737488355328)(B:∀g w',aU w w' g p (bs++h)->wpList P ops Q b (a.put o.dst g) w'):
  wpList P ops Q (o::b) a w:=by
 refine wpList_plain C λK j=>?_
 obtain⟨g,w',d,K⟩:=vC (P:=P) w t l o.type e i q r u y A v m p bs h L n f D
 unfold Oper.wp
 simp[execOp,k,resolve,invoke,builtin,J,M,d,Result.andThen]
 exact j _ _ (B g w' K)
def KM(w w':World)(u:Value):Prop:=∀b o,w.cell? (F b o)=some u->w'.cell? (F b o)=some u
theorem mK(w){d:List Oper}{o:Oper}{a:Act}(J:o.guard=none)(s x)(t q)(l:o.op=Op.call {callee:=Callee.builtin Builtin.append,args:=#[s,x],argTypes:=#[t,q]})(e)(i)(u:P.underlying t=some (.slice e))(y:P.info? e=some i)(A:i.zero=some (.int .u8 0))(B:i.size=1)(C:i.bytes=1)(v r)(p)(m)(bs)(k)(L:a.eval s=v)(R:a.eval x=r)(M:f' w v p bs)(n)(g:Src P 1 q r n ((List.replicate k m).map U8) w)(S:bs.length+k<=140737488355328)(D:∀h w',aU w w' h p (bs++List.replicate k m)->KM w w' (U8 m)->wpList P ops Q d (a.put o.dst h) w'):
  wpList P ops Q (o::d) a w:=by
 refine wpList_plain J λK j=>?_
 obtain⟨h,w',f,K,U⟩:=uX (P:=P) w t q o.type e i u y A B C v r p bs (List.replicate k m) M n g fA
 unfold Oper.wp
 simp[execOp,l,resolve,invoke,builtin,L,R,f,Result.andThen]
 refine j _ _ (D h w' K (λb o T=>?_))
 grind
theorem BP{o:Oper}{a:Act}{K:Act->World->Prop}{E:Prop}(A:o.guard=none)(s x)(t j)(h:o.op=Op.call {callee:=Callee.builtin Builtin.append,args:=#[s,x],argTypes:=#[t,j]})(e)(i)(l:P.underlying t=some (.slice e))(m:P.info? e=some i)(q:i.zero=some (.int .u8 0))(r:i.size=1)(u:i.bytes=1)(v k)(p)(bs g)(C:a.eval s=v)(J:a.eval x=k)(D:f' w v p bs)(n)(d:Src P 1 j k n (g.map U8) w)(B:bs.length+g.length<=140737488355328)(y:∀f w',aU w w' f p (bs++g)->K (a.put o.dst f) w'):
  if Region.wanted o (yielded ops a.tmps)=true then Oper.wp P o a w K Q else E:=by
 have hw:Region.wanted o (yielded ops a.tmps)=true:=by simp[Region.wanted,A]
 rw[dT hw]
 obtain⟨f,w',b,L⟩:=vC (P:=P) w t j o.type e i l m q r u v k p bs g D n d B
 unfold Oper.wp
 simp[execOp,h,resolve,invoke,builtin,C,J,b,Result.andThen]
 exact y f w' L
theorem sN{d e:TypeId}(i:P.underlying d=some (.slice e))(a)(n c)(b)(f:b.length=n)(h:At w a b):Src P 1 d (.slice a n c) n (b.map U8) w:=by
 subst f;cases a with
 |none=>grind [Src.ofNil,At.none]
 |some g=>grind [tL,oW,Src.ofSlice]
theorem Tb{b:TypeId}(d:P.underlying b=some .string)(a:E):Src P 1 b (.string ⟨a.toArray⟩) a.length (a.map U8) w:=by
 have h:=Src.ofString (P:=P) w d (⟨a.toArray⟩:ByteArray);have e:byteCells ⟨a.toArray⟩=a.map U8:=by simp[byteCells,U8]
 rw[e]at h;simpa[ByteArray.size]using h
