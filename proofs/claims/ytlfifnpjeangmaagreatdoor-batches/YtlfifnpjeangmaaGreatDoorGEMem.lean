import Derived.Test.YtlfifnpjeangmaaGreatDoorGELaws
import Derived.Deep.MidRow
import Derived.Deep.AppendSrc
namespace Go.Proofs.YtlfifnpjeangmaaGreatDoor
open Go.RowKit
theorem ahF{p:Prop}(h:p:=by grind [RowKit.Below.heap_setCell]):p:=h
theorem aiV{p:Prop}(h:p:=by simpa using hj):p:=h
variable {ops:Array Oper}{Q:Exit->Act->World->Prop}{bs zs:List UInt8}{b n:Nat}{ex:Nat->Nat->Prop}{P:Program}{v:Value}{a w w' w1 w2:World}
structure CF(w w':World)(ex:Nat->Nat->Prop):Prop where
 os:w'.os=w.os
 tape:w'.tape=w.tape
 output:w'.output=w.output
 size:w.heap.size<=w'.heap.size
 block:∀b,b<w.heap.size->(∀o,¬ ex b o)->w'.heap[b]?=w.heap[b]?
 cells:∀b cur e fz,w.heap[b]?=some (.cells cur e fz)->∃cur',w'.heap[b]?=some (.cells cur' e fz)/\cur'.size=cur.size/\∀o,¬ ex b o->cur'[o]?=cur[o]?
theorem CF.refl(w)(ex:Nat->Nat->Prop):CF w w ex:=⟨rfl,rfl,rfl,cy _,λ_ _ _=>rfl,agM⟩
theorem CF.mono{ex':Nat->Nat->Prop}(h:CF w w' ex)(k:∀b o,b<w.heap.size->ex b o->ex' b o):CF w w' ex':=by
 refine⟨h.os,h.tape,h.output,h.size,(by grind [CF.block]),λb c e f d=>?_⟩;grind [CF.cells]
theorem CF.trans{b c:World}{ex2:Nat->Nat->Prop}(h:CF a b ex)(k:CF b c ex2)(g:∀i o,i<a.heap.size->ex2 i o->ex i o):CF a c ex:=by
 have s:=h.size;refine⟨k.os.trans h.os,k.tape.trans h.tape,k.output.trans h.output,cE h.size k.size,λi f hn=>?_,λi d e l j=>?_⟩
 ·rw[k.block i agE agM,h.block i f hn]
 grind [CF.cells]
theorem CF.bF(h:w.grownBy w' none)(ex:Nat->Nat->Prop):CF w w' ex:=
 ⟨h.os,h.tape,h.output,h.size,ag8,ag8⟩
theorem CF.gb(h:CF w w' ex)(c:∀b o,b<w.heap.size->¬ ex b o):w.grownBy w' none:=⟨h.os,h.tape,h.output,h.size,(by grind [CF.block])⟩
theorem CF.below{B:Nat}(h:CF w w' ex)(c:B<=w.heap.size)(d:∀b o,b<B->¬ ex b o):Below B w w':=⟨h.os,h.tape,h.output,h.size,(by grind [CF.block])⟩
theorem CF.cell{o:Nat}(h:CF w w' ex)(d:w.cell? (b,o)=some v)(i:¬ ex b o):w'.cell? (b,o)=some v:=by
 cases c:w.heap[b]? with
 |none=>simp[World.cell?,c]at d
 |some g=>
  cases g with
  |cells f e j=>
   grind [cell_of_row,CF.cells]
  |_=>simp[World.cell?,c]at d
theorem CF.range{o:Nat}{cs:List Value}(h:CF w w' ex)(c:w.rangeAt b o cs)(e:∀j,j<cs.length->¬ ex b (o+j)):w'.rangeAt b o cs:=
 λj v d=>h.cell (c j v d) agM
def Live(w:World)(b n:Nat):Prop:=∃cur e,w.heap[b]?=some (.cells cur e (0,0))/\n<=cur.size
theorem Live.lt(h:Live w b n):b<w.heap.size:=by
 obtain⟨c,e,d,_⟩:=h;grind
theorem Live.mono{m:Nat}(h:Live w b n)(k:m<=n):Live w b m:=by
 obtain⟨c,e,d,f⟩:=h;exact⟨c,e,d,by omega⟩
theorem Live.cf(h:Live w b n)(k:CF w w' ex):Live w' b n:=by
 obtain⟨d,e,f,j⟩:=h;obtain⟨c,g,i,_⟩:=k.cells b d e _ f;exact⟨c,e,g,by omega⟩
theorem Live.frozen(h:Live w b n)(j:Nat):w.frozen? (b,j)=false:=by
 obtain⟨d,e,c,f⟩:=h;simp[World.frozen?,c]
theorem Live.some(h:Live w b n)(j:Nat)(f:j<n):(w.cell? (b,j)).isSome=true:=by
 obtain⟨c,e,d,g⟩:=h;rw[cell_of_row w b j c e _ d];grind
theorem Live.there(h:Live w b n)(o k)(c:o+k<=n):w.there b o k:=λj d=>⟨h.some (o+j) agE,h.frozen _⟩
theorem Live.new(w:World)(cs)(e):Live (w.alloc (.cells cs e)) w.heap.size cs.size:=⟨cs,e,heap_alloc_new w _,cy _⟩
theorem Live.alloc(h:Live w b n)(o):Live (w.alloc o) b n:=h.cf (CF.bF (cx w o none) (λ_ _=>False))
theorem Live.drew(h:Live w b n):Live w.drew b n:=h
theorem Live.grown(h:Live w b n)(k:w.grownBy w' none):Live w' b n:=h.cf (CF.bF k (λ_ _=>False))
theorem CF.setCell(h:CF a w ex)(b o:Nat)(u)(m:b<a.heap.size->ex b o):CF a (w.setCell (b,o) u) ex:=by
 refine h.trans (ex2:=λg d=>g=b/\d=o) ⟨rfl,rfl,rfl,by simp[World.setCell],ahF,λk c e l i=>?_⟩ agM;by_cases f:k=b
 ·subst f;refine⟨c.setIfInBounds o u,?_,by simp,λd j=>?_⟩
  ·simp[World.setCell,Array.getElem?_modify,i]
  grind
 grind [RowKit.Below.heap_setCell]
theorem CF.setCells{a:World}{ex:Nat->Nat->Prop}(b):∀(d)(o)(w),CF a w ex->(∀j,j<d.length->b<a.heap.size->ex b (o+j))->CF a (w.setCells b o d) ex
 | [],_,_,h,_=>h
 |v::r,o,w,h,c=>CF.setCells b r (o+1) _ (h.setCell b o v (by simpa using c 0 agI)) (λj f e=>by have:=c (j+1) ag2 e;rwa [show o+(j+1)=o+1+j from by omega]at this)
theorem CF.alloc(h:CF a w ex)(o):CF a (w.alloc o) ex:=h.trans (ex2:=λ_ _=>False) (CF.bF (cx w o none) _) (λ_ _ _ e=>e.elim)
theorem CF.grown(h:CF a w ex)(g:w.grownBy w' none):CF a w' ex:=h.trans (ex2:=λ_ _=>False) (CF.bF g _) (λ_ _ _ e=>e.elim)
theorem CF.before(g:a.grownBy w none)(h:CF w w' ex):CF a w' ex:=(CF.bF g ex).trans h (λ_ _ _ e=>e)
theorem CF.row{b c:World}{g:Nat}(h:CF a b ex)(k:b.grownBy c (some g))(o:a.heap.size<=g):CF a c ex:=by
 have s:=h.size;refine⟨k.os.trans h.os,k.tape.trans h.tape,k.output.trans h.output,cE h.size k.size,λi j f=>?_,λi d e m l=>?_⟩
 ·rw[k.block i agE ag2,h.block i j f]
 grind [World.grownBy.block,CF.cells]
theorem CF.drew(h:CF a w ex):CF a w.drew ex:=⟨h.os,h.tape,h.output,h.size,h.block,h.cells⟩
theorem CF.drewN(h:CF a w ex)(n):CF a (w.drewN n) ex:=⟨h.os,h.tape,h.output,h.size,h.block,h.cells⟩
theorem CF.dM(h:CF a.drew w ex):CF a w ex:=⟨h.os,h.tape,h.output,h.size,h.block,h.cells⟩
theorem CF.jM(h:CF (a.drewN n) w ex):CF a w ex:=⟨h.os,h.tape,h.output,h.size,h.block,h.cells⟩
theorem At.range{off:Nat}(h:At w (.some ⟨b,off,.none⟩) zs):w.rangeAt b off (zs.map U8):=λj v c=>by
 simp only[eA,Option.map_eq_some_iff]at c
 obtain⟨y,hy,rfl⟩:=c
 obtain⟨d,rfl⟩:=cM.1 hy
 exact h.cells j d
theorem At.yR{off:Nat}(h:w.rangeAt b off (zs.map U8)):At w (.some ⟨b,off,.none⟩) zs:=
 At.some λj c=>h j (U8 zs[j]) (by simp[c])
theorem At.cf{c:Option Addr}(h:At w c zs)(k:CF w w' ex)(f:∀b off,c=.some ⟨b,off,.none⟩->∀j,j<zs.length->¬ ex b (off+j)):At w' c zs:=by
 intro j d;obtain⟨b,off,e,g⟩:=h j d;grind [CF.cell]
structure Pl where
 g:Nat
 off:Nat
 cap:Nat
def Pl.has(p:Option Pl)(b o:Nat):Prop:=∃q,p=some q/\b=q.g/\q.off<=o/\o<q.off+q.cap
def Pl.fresh(n:Nat)(p:Option Pl):Prop:=∀q,p=some q->n<=q.g
def Out(w:World)(v:Value)(p:Option Pl)(bs:List UInt8):Prop:=
 (p=none/\v=.slice none 0 0/\bs=[])\/
 ∃q,p=some q/\v=.slice (some (q.g,q.off)) bs.length q.cap/\bs.length<=q.cap/\q.cap<=maxLen/\Live w q.g (q.off+q.cap)/\w.rangeAt q.g q.off (bs.map U8)
theorem Out.nil(w):Out w (.slice none 0 0) none []:=.inl ⟨rfl,rfl,rfl⟩
theorem Out.shape{p:Option Pl}(h:Out w v p bs):∃c cap,v=.slice c bs.length cap/\bs.length<=cap/\cap<=maxLen/\At w c bs/\(c=none->cap=0):=by
 rcases h with⟨_,rfl,rfl⟩|⟨q,_,rfl,d,e,f,g⟩
 ·exact⟨none,0,rfl,cy _,cS _,At.nil _ _,λ_=>rfl⟩
 grind [At.yR]
theorem Out.open{p:Option Pl}(h:Out w v p bs)(hn:Hid (bs.length=n)):∃c cap,v=.slice c n cap/\n<=cap/\cap<=9223372036854775807/\At w c bs/\Hid (c=none->cap=0):=by
 obtain⟨c,cap,d,e,f,i,g⟩:=h.shape;rw[hn.o]at d e;exact⟨c,cap,d,e,by unfold maxLen at f;exact f,i,g⟩
theorem Out.cf{p:Option Pl}(h:Out w v p bs)(k:CF w w' ex)(d:∀q,p=some q->∀j,j<bs.length->¬ ex q.g (q.off+j)):Out w' v p bs:=by
 rcases h with h|⟨q,e,i,c,f,l,m⟩
 ·exact .inl h
 ·exact .inr ⟨q,e,i,c,f,l.cf k,k.range m (λj hj=>d q e j aiV)⟩
theorem Out.grown{p:Option Pl}(h:Out w v p bs)(k:w.grownBy w' none):Out w' v p bs:=h.cf (CF.bF k (λ_ _=>False)) (λ_ _ _ _ e=>e)
theorem Out.lt{p:Option Pl}(h:Out w v p bs){o:Nat}(d:Pl.has p b o):b<w.heap.size:=by
 obtain⟨q,c,e,_⟩:=d;rcases h with⟨h,_⟩|⟨i,g,_,_,_,f,_⟩
 ·rw[h]at c;cases c
 ·rw[g]at c;injection c with c;subst c;subst e;exact f.lt
theorem Out.KU{p:Option Pl}(h:Out w v p bs)(q)(c:p=some q):q.g<w.heap.size:=by
 rcases h with⟨h,_⟩|⟨f,e,_,_,_,d,_⟩
 ·rw[h]at c;cases c
 ·rw[e]at c;injection c with c;subst c;exact d.lt
theorem Out.drew{p:Option Pl}(h:Out w v p bs):Out w.drew v p bs:=h
theorem Out.own{base:Nat}{e:TypeId}(h:w.ownsRow base e 1 v n (bs.map U8)):∃p,Out w v p bs/\Pl.fresh base p:=by
 have hn:n=bs.length:=by simpa using h.1.symm
 rcases h.2 with⟨i,o⟩|⟨g,cap,c,i,k,s,r,f,m,l⟩
 ·subst o;have:bs=[]:=agM;exact⟨none,.inl ⟨rfl,i,this⟩,λq d=>by cases d⟩
 ·refine⟨some ⟨g,0,cap⟩,.inr ⟨_,rfl,by rw[i,hn],by show bs.length<=cap;omega,f,⟨c,e,s,by show 0+cap<=c.size;omega⟩,?_⟩,λq d=>by injection d with d;subst d;exact k⟩;intro j u t;grind [cell_of_row]
theorem Tt{p:Option Pl}(h:Pl.fresh n p){o:Nat}(d:b<n):¬ Pl.has p b o:=by
 rintro⟨q,c,e,_⟩;have:=h q c;omega
theorem mI{m:Nat}{p:Option Pl}(h:Pl.fresh n p)(k:m<=n):Pl.fresh m p:=λq c=>by have:=h q c;omega
theorem aS(w:World)(cs)(e):(w.alloc (.cells cs e)).rangeAt w.heap.size 0 cs.toList:=λj v c=>by
 rw[cN,World.cell?_alloc_at (hn:=rfl)]
 simpa using c
def aU(w w':World)(v':Value)(p:Option Pl)(bs:List UInt8):Prop:=∃p',Out w' v' p' bs/\CF w w' (Pl.has p)/\(p'=p\/Pl.fresh w.heap.size p')/\∀q,p=some q->bs.length<=q.cap->p'=p
theorem wM(w)(e)(c)(n k)(hn:n=c.length)(ex:Nat->Nat->Prop)(f:n+k<=maxLen):
  Out (w.drew.alloc (.cells ((c.map U8).toArray++Builtin.zeroCells #[.int .u8 0] k) e)) (.slice (some (w.heap.size,0)) n (n+k)) (some ⟨w.heap.size,0,n+k⟩) c/\
   CF w (w.drew.alloc (.cells ((c.map U8).toArray++Builtin.zeroCells #[.int .u8 0] k) e)) ex:=by
 subst hn
 refine⟨.inr ⟨_,rfl,rfl,en _ _,f,?_,?_⟩,(CF.refl w ex).drew.alloc _⟩
 ·have:=Live.new w.drew ((c.map U8).toArray++Builtin.zeroCells #[.int .u8 0] k) e;refine this.mono ?_;simp[size_zeroCells]
 ·intro j u d;have h:=aS w.drew ((c.map U8).toArray++Builtin.zeroCells #[.int .u8 0] k) e j u ?_
  ·exact h
  ·rw[Array.toList_append,cW (by simpa using(cM.1 d).1)];simpa using d
theorem uU(w)(t G L e)(i)(H:P.underlying t=some (.slice e))(J:P.info? e=some i)(W:i.zero=some (.int .u8 0))(K:i.size=1)(Y:i.bytes=1)(v x)(p)(bs c)(hv:Out w v p bs)(n)(d:Src P 1 G x n (c.map U8) w)(V:bs.length+c.length<=140737488355328):
  ∃U w',(Builtin.append_ #[t,G] L #[v,x]).run P w=.ok U w'/\aU w w' U p (bs++c)/\∀b o u,w.cell? ⟨b,o,none⟩=some u->w'.cell? ⟨b,o,none⟩=some u\/∃y∈c,w'.cell? ⟨b,o,none⟩=some (U8 y):=by
 have s:∀I b o u,w.cell? ⟨b,o,none⟩=some u->(w.drew.alloc I).cell? ⟨b,o,none⟩=some u\/∃y∈c,(w.drew.alloc I).cell? ⟨b,o,none⟩=some (U8 y):=λI b o u B=>.inl ((aM (bg (cC w none)) I).cell B agI)
 have hn:n=c.length:=by have:=d.newsLen;simp at this;omega
 subst hn
 rw[<-K]at d
 have z:bs.length+c.length<=maxLen:=ag1
 rcases hv with⟨A,rfl,rfl⟩|⟨q,A,rfl,h1,Z,T,X⟩
 ·by_cases h0:c.length=0
  ·have:=List.length_eq_zero_iff.1 h0;subst this;refine⟨.slice none 0 0,w,?_,⟨none,Out.nil w,CF.refl _ _,.inl A.symm,λ_ _ _=>A.symm⟩,λ_ _ _ h=>.inl h⟩;have l1:(Builtin.lenOf x).run P w=.ok 0 w:=d.len w;have l2:(Builtin.firstCells i.size 0 x).run P w=.ok #[] w:=d.cells;rcases d.kind with⟨e',D⟩|D<;>simp[Builtin.append_,run_underlying H,run_underlying D,sizeOf,typeInfo,J,l1,l2]
  ·have r:(Builtin.firstCells i.size 0 (.slice none 0 0)).run P w.drew=.ok ([]:List Value).toArray w.drew:=run_firstCells_none w.drew _ 0 0 0;have l:=growslice_fits (need:=0+c.length) (old:=0) (bytes:=i.bytes) agE (by rw[Y];simp at V;omega);have E:=run_append_grow_src (P:=P) w t G L e i (.int .u8 0) H J W none 0 0 [] r x c.length (c.map U8) d agE (by simp at V;omega) l;have R:=grownCap_ge w (0+c.length) 0 e;have m:grownCap w (0+c.length) 0 e<=maxLen:=grownCap_le_maxLen w _ 0 e (by simpa using z);obtain⟨k,D⟩:∃k,grownCap w (0+c.length) 0 e=c.length+k:=⟨grownCap w (0+c.length) 0 e-c.length,by omega⟩
   rw[D]at E m;obtain⟨M,O⟩:=wM w e c c.length k rfl (Pl.has p) m;refine⟨_,_,E,?_,s _⟩;rw[show c.length+k-(0+c.length)=k from by omega,cN];exact⟨_,by simpa[Value.cells]using M,O,.inr (λq f=>by injection f with f;subst f;exact cy _),λq f=>by rw[A]at f;cases f⟩
 ·by_cases C:bs.length+c.length<=q.cap
  ·have aa:(c.map U8).length=c.length:=agI
   have hc:=run_append_room_src (P:=P) w t G L e i H J q.g q.off bs.length q.cap x c.length (c.map U8) d C
    (λj hj=>T.some _ (by rw[K,fR];omega)) (λj _=>T.frozen _)
   have F:CF w (w.setCells q.g (q.off+bs.length*i.size) (c.map U8)) (Pl.has p):=by
    refine CF.setCells q.g (c.map U8) _ w (CF.refl _ _) (λj hj _=>⟨q,A,rfl,?_,?_⟩)
    ·omega
    ·rw[K];omega
   have ab:=World.cell?_setCells_in q.g (c.map U8) (q.off+bs.length*i.size) w (by grind [Live.some]);refine⟨_,_,hc,⟨some q,?_,F,.inl A.symm,λ_ _ _=>A.symm⟩,λb o u B=>?_⟩;rotate_left
   ·by_cases S:b=q.g/\q.off+bs.length*i.size<=o/\o<q.off+bs.length*i.size+(c.map U8).length
    ·obtain⟨rfl,h7,h8⟩:=S;obtain⟨j,rfl⟩:∃j,o=q.off+bs.length*i.size+j:=⟨o-(q.off+bs.length*i.size),by omega⟩
     grind
    grind [World.cell?_setCells_out]
   refine .inr ⟨q,rfl,by rw[cD],by grind,Z,T.cf F,?_⟩;intro j u B;rw[eg]at B;by_cases hj:j<bs.length
   ·rw[cW aiV]at B;rw[World.cell?_setCells_out q.g (c.map U8) _ w _ agM];exact X j u B
   grind
  ·have r:(Builtin.firstCells i.size bs.length (.slice (some (q.g,q.off)) bs.length q.cap)).run P w.drew=.ok (bs.map U8).toArray w.drew:=
    run_firstCells_some w.drew _ bs.length ⟨q.g,q.off,none⟩ bs.length q.cap (bs.map U8) (by simp[K]) (λj u B=>by rw[Addr.add_lit];exact X j u B)
   have l:=growslice_fits (need:=bs.length+c.length) (old:=q.cap) (bytes:=i.bytes) agE (by rw[Y];omega);have E:=run_append_grow_src (P:=P) w t G L e i (.int .u8 0) H J W (some ⟨q.g,q.off,none⟩) bs.length q.cap (bs.map U8) r x c.length (c.map U8) d agE agE l;have R:=grownCap_ge w (bs.length+c.length) q.cap e;have m:=grownCap_le_maxLen w _ q.cap e z;obtain⟨k,D⟩:∃k,grownCap w (bs.length+c.length) q.cap e=bs.length+c.length+k:=⟨grownCap w (bs.length+c.length) q.cap e-(bs.length+c.length),by omega⟩
   rw[D]at E m;obtain⟨M,O⟩:=wM w e (bs++c) (bs.length+c.length) k agI (Pl.has p) m;refine⟨_,_,E,?_,s _⟩;rw[show bs.length+c.length+k-(bs.length+c.length)=k from by omega,<-eg];exact⟨_,M,O,.inr (λq f=>by injection f with f;subst f;exact cy _),λq' f N=>by rw[A]at f;injection f with f;subst f;rw[cD]at N;omega⟩
theorem vo(w)(t g h e)(i)(j:P.underlying t=some (.slice e))(o:P.info? e=some i)(u:i.zero=some (.int .u8 0))(r:i.size=1)(m:i.bytes=1)(v x)(p)(bs f)(s:Out w v p bs)(n)(c:Src P 1 g x n (f.map U8) w)(l:bs.length+f.length<=140737488355328):
  ∃d w',(Builtin.append_ #[t,g] h #[v,x]).run P w=.ok d w'/\aU w w' d p (bs++f):=by
 obtain⟨d,w',k,q,_⟩:=uU (P:=P) w t g h e i j o u r m v x p bs f s n c l
 exact⟨d,w',k,q⟩
theorem aU.comp{v2:Value}{p d:Option Pl}{bs1 c:List UInt8}(h:CF w w1 (Pl.has p)/\(d=p\/Pl.fresh w.heap.size d)/\∀q,p=some q->bs1.length<=q.cap->d=p)(k:aU w1 w2 v2 d c)(r:bs1.length<=c.length):aU w w2 v2 p c:=by
 obtain⟨f,e,A⟩:=h;obtain⟨m,j,l,u,z⟩:=k;have s:=f.size;refine⟨m,j,f.trans l (λi o x t=>?_),?_,λq y g=>?_⟩
 ·grind [Tt]
 ·grind [mI]
 grind
theorem aU.from{v2:Value}{p:Option Pl}{c:List UInt8}(h:CF w w1 (Pl.has p))(k:aU w1 w2 v2 p c):aU w w2 v2 p c:=aU.comp (bs1:=[]) ⟨h,.inl rfl,λ_ _ _=>rfl⟩ k agI
theorem aU.refl{p:Option Pl}(h:Out w v p bs):aU w w v p bs:=⟨p,h,CF.refl _ _,.inl rfl,λ_ _ _=>rfl⟩
theorem aU.cf{p:Option Pl}(h:aU w w' v p bs):CF w w' (Pl.has p):=by
 obtain⟨_,_,f,_⟩:=h;exact f
theorem aU.before{c:World}{p:Option Pl}(g:c.grownBy w none)(h:aU w w' v p bs):aU c w' v p bs:=by
 obtain⟨p',d,e,i,f⟩:=h;exact⟨p',d,CF.before g e,by grind [World.grownBy.size,mI],f⟩
theorem aU.grown{p:Option Pl}(h:aU w w1 v p bs)(g:w1.grownBy w2 none):aU w w2 v p bs:=by
 obtain⟨p',c,f,d,e⟩:=h;exact⟨p',c.grown g,f.grown g,d,e⟩
theorem aU.drewN{p:Option Pl}(h:aU w w' v p bs)(n):aU w (w'.drewN n) v p bs:=by
 obtain⟨p',c,e,d⟩:=h;exact⟨p',c,e.drewN n,d⟩
theorem dK(w){c:List Oper}{o:Oper}{a:Act}(G:o.guard=none)(s x)(t m)(j:o.op=Op.call {callee:=Callee.builtin Builtin.append,args:=#[s,x],argTypes:=#[t,m]})(e)(i)(D:P.underlying t=some (.slice e))(r:P.info? e=some i)(F:i.zero=some (.int .u8 0))(C:i.size=1)(y:i.bytes=1)(v k)(p)(bs h)(A:a.eval s=v)(E:a.eval x=k)(B:Out w v p bs)(n)(d:Src P 1 m k n (h.map U8) w)(u:bs.length+h.length<=140737488355328)(z:∀g w',aU w w' g p (bs++h)->wpList P ops Q c (a.put o.dst g) w'):
  wpList P ops Q (o::c) a w:=by
 refine wpList_plain G λK l=>?_
 obtain⟨g,w',f,q⟩:=vo (P:=P) w t m o.type e i D r F C y v k p bs h B n d u
 unfold Oper.wp
 simp[execOp,j,resolve,invoke,builtin,A,E,f,Result.andThen]
 exact l _ _ (z g w' q)
def KM(w w':World)(u:Value):Prop:=∀b o,w.cell? ⟨b,o,none⟩=some u->w'.cell? ⟨b,o,none⟩=some u
theorem mJ(w){c:List Oper}{o:Oper}{a:Act}(G:o.guard=none)(s x)(t q)(h:o.op=Op.call {callee:=Callee.builtin Builtin.append,args:=#[s,x],argTypes:=#[t,q]})(e)(i)(D:P.underlying t=some (.slice e))(u:P.info? e=some i)(F:i.zero=some (.int .u8 0))(C:i.size=1)(y:i.bytes=1)(v j)(p)(m)(bs)(k)(A:a.eval s=v)(E:a.eval x=j)(B:Out w v p bs)(n)(d:Src P 1 q j n ((List.replicate k m).map U8) w)(H:bs.length+k<=140737488355328)(z:∀g w',aU w w' g p (bs++List.replicate k m)->KM w w' (U8 m)->wpList P ops Q c (a.put o.dst g) w'):
  wpList P ops Q (o::c) a w:=by
 refine wpList_plain G λK l=>?_
 obtain⟨g,w',f,r,J⟩:=uU (P:=P) w t q o.type e i D u F C y v j p bs (List.replicate k m) B n d agM
 unfold Oper.wp
 simp[execOp,h,resolve,invoke,builtin,A,E,f,Result.andThen]
 refine l _ _ (z g w' r (λb o I=>?_))
 grind
theorem BK{o:Oper}{a:Act}{K:Act->World->Prop}{E:Prop}(F:o.guard=none)(s x)(t k)(h:o.op=Op.call {callee:=Callee.builtin Builtin.append,args:=#[s,x],argTypes:=#[t,k]})(e)(i)(B:P.underlying t=some (.slice e))(m:P.info? e=some i)(D:i.zero=some (.int .u8 0))(A:i.size=1)(r:i.bytes=1)(v j)(p)(bs g)(y:a.eval s=v)(C:a.eval x=j)(z:Out w v p bs)(n)(c:Src P 1 k j n (g.map U8) w)(q:bs.length+g.length<=140737488355328)(u:∀f w',aU w w' f p (bs++g)->K (a.put o.dst f) w'):
  if Region.wanted o (yielded ops a.tmps)=true then Oper.wp P o a w K Q else E:=by
 have hw:Region.wanted o (yielded ops a.tmps)=true:=by simp[Region.wanted,F]
 rw[if_pos hw]
 obtain⟨f,w',d,l⟩:=vo (P:=P) w t k o.type e i B m D A r v j p bs g z n c q
 unfold Oper.wp
 simp[execOp,h,resolve,invoke,builtin,y,C,d,Result.andThen]
 exact u f w' l
theorem sK{f g:TypeId}(j:P.underlying f=some (.slice g))(d)(n c)(e)(hn:e.length=n)(h:At w d e):Src P 1 f (.slice d n c) n (e.map U8) w:=by
 subst hn;cases d with
 |none=>grind [Src.ofNil,At.none]
 |some i=>grind [tJ,oQ,Src.ofSlice]
theorem abd{d:TypeId}(f:P.underlying d=some .string)(c:List UInt8):Src P 1 d (.string c) c.length (c.map U8) w:=by
 have h:=Src.ofString (P:=P) w f (⟨c.toArray⟩:ByteArray);have e:byteCells ⟨c.toArray⟩=c.map U8:=by simp[byteCells,U8]
 rw[e]at h;simpa[ByteArray.size]using h
end Go.Proofs.YtlfifnpjeangmaaGreatDoor
