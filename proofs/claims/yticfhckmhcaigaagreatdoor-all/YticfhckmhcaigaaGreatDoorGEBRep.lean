import Derived.Test.YticfhckmhcaigaaGreatDoorGEABoth
namespace Go.Proofs.YticfhckmhcaigaaGreatDoor
open Go.RowKit
set_option maxRecDepth 100000
variable {r:Bool}{base wb:Nat}{w0:World}{U:Nat->Prop}
theorem Tryz.uW:(Tryz.prog.info? 41).map (·.size)=some 7:=by kernel_rfl
theorem KF{α:Type}{l:List α}{k:Nat}{a:α}(h:l[k]?=some a):l.set k a=l:=by
 refine List.ext_getElem? λi=>?_;grind
theorem JX.new{w0 w:World}{d:List LJ}{a:Nat}{f:Value}(h:JX w0 w d a f):∀b,(b=a\/∃x∈d,x.g=some b)->w0.1.size<=b/\b<w.1.size:=by
 rintro b (e|⟨x,g,e⟩)
 .rw[e];exact⟨h.jl,h.lv.lt⟩
 .exact(h.tq x g).1.Yo b e
theorem j'.set{d:BW r}{k:Nat}{p f:QD}{P:Nat->Prop}(l:d.qs[k]?=some p)(g:∀j b,f.F j b->(∃i,p.F i b)\/P b){b:Nat}(h:j' wb (d.put k f) b):j' wb d b\/P b:=by
 have gN:k<d.qs.length:=dT;obtain⟨i,a⟩:=h;match i,a with
 |(0,s),a=>exact .inl ⟨(0,s),a⟩
 |(1,s),a=>exact .inl ⟨(1,s),a⟩
 |(2,s),a=>exact .inl ⟨(2,s),a⟩
 |(3,s),a=>exact .inl ⟨(3,s),a⟩
 |(j+4,s),⟨q,hq,a⟩=>
  have hq:(d.qs.set k f)[s]?=some q:=hq;by_cases e:s=k
  .subst e;rw[dj gN]at hq;cases hq;rcases g j b a with⟨i,q⟩|q
   .exact .inl ⟨(i+4,s),p,l,q⟩
   .exact .inr q
  .rw[fg (λq=>e q.symm)]at hq;exact .inl ⟨(j+4,s),q,hq,a⟩
theorem Ig{d:BW r}{k:Nat}{p:QD}{w x t y:World}{ni:Option Pl}{M':DM}{v:Nat->Prop}(n:jS base wb d w)(o:d.qs[k]?=some p)(A:w.grownBy x none)(i:CF x t (λb _=>b=p.xb))(D:rf r t p.xb ni M')(l:∀g,ni=some g->∃q,p.dp=some q/\q.g=g.g)(f:iO t y v)(J:∀b,v b->w.1.size<=b):
  Us base wb w (j' wb d) (d.put k {p with dp:=ni,M:=M'}) y/\∀b,j' wb (d.put k {p with dp:=ni,M:=M'}) b->b<w.1.size:=by
 have C:=n.part o
 have hF:∀b,QD.F {p with dp:=ni,M:=M'} 1 b->p.F 1 b:=by
  rintro b (e|e)
  .exact .inl e
  .cases h:ni with
   |none=>rw[h]at e;cases e
   |some g=>
    obtain⟨q,m,u⟩:=l g h;rw[h]at e;have e:g.g=b:=nF;exact .inr (by rw[m];show some q.g=some b;rw[u,e])
 have B:∀b,j' wb (d.put k {p with dp:=ni,M:=M'}) b->b<w.1.size:=λb a=>by
  rcases j'.set (P:=λ_=>False) o (λj b a=>.inl (by
   by_cases e:j=1
   .grind
   .match j,e,a with
    |0,_,a=>exact⟨0,a⟩
    |2,_,a=>exact⟨2,a⟩
    |3,_,a=>exact⟨3,a⟩)) a with e|e
  .exact(n.low e).2
  .exact e.elim
 refine⟨(((Us.start n).grown A).put (p':={p with dp:=ni,M:=M'}) o rfl (λj=>j=1) ⟨i.os,i.tape,i.output,i.size,λb a e=>i.block b a (λ_ q=>e ⟨1,rfl,.inl q⟩)⟩ ?_ ?_ ?_ ?_).far f dT,B⟩
 .rintro j rfl;refine⟨D,λg e=>?_⟩;obtain⟨q,m,u⟩:=l g e;show g.g≠p.xb;have:=(C 1).2 q m;omega
 .grind
 .omega
 .intro j a;match j,a with
  |0,_=>exact⟨λq=>q,λ_ q=>q⟩
  |2,_=>exact⟨λq=>q,λ_ q=>q⟩
  |3,_=>exact⟨λq=>q,λ_ q=>q⟩
  |_+4,_=>exact⟨λq=>q,λ_ q=>q⟩
theorem Us.doc{d:BW r}{k:Nat}{p:QD}{w f:World}{Ni:RG}{N':DM}(h:Us base wb w0 U d w)(m:d.qs[k]?=some p)(a:RD f 0 p.yb N' Ni)(l:∀b,Ni.foot p.yb b->p.rg.foot p.yb b\/w.1.size<=b)(g:iO w f (p.rg.foot p.yb)):Us base wb w0 U (d.put k {p with rg:=Ni,N:=N'}) f:=by
 refine h.put (p':={p with rg:=Ni,N:=N'}) m rfl (λj=>j=2) (g.mono (λb _ e=>⟨2,rfl,e⟩)) ?_ ?_ ?_ ?_
 .rintro j rfl;exact a
 .rintro j b rfl i;exact(l b i).imp (λe=>⟨2,rfl,e⟩) id
 .omega
 .intro j b;match j,b with
  |0,_=>exact⟨λq=>q,λ_ q=>q⟩
  |1,_=>exact⟨λq=>q,λ_ q=>q⟩
  |3,_=>exact⟨λq=>q,λ_ q=>q⟩
  |_+4,_=>exact⟨λq=>q,λ_ q=>q⟩
theorem Us.hears{d:BW r}{k:Nat}{p:QD}{w B:World}(h:Us base wb w0 U d w)(u:d.qs[k]?=some p)(K:qf w B 0 p.pb 2 p.sv p.kl):∃n a,Us base wb w0 U (d.put k {p with sv:=n,kl:=a}) B/\a.length<=p.kl.length+1:=by
 obtain⟨n,a,y,L,C,v,D,f,J⟩:=K;have A:=h.sep.part u;have g:∀b,p.F 0 b->p.F 3 b->False:=λb l m=>by
  have:=h.sep.one (0+4,k) (3+4,k) b ⟨p,u,l⟩ ⟨p,u,m⟩;simp at this
 have o:∀b,QD.F {p with sv:=n,kl:=a} 3 b->p.F 3 b\/w.1.size<=b:=by
  rintro b (e|⟨x,i,e⟩)
  .exact(C b e).imp .inl id
  .rcases v x i with q|q
   .exact .inl (.inr ⟨x,q,e⟩)
   .exact .inr (q b e).1
 have M:=QD.lt (A 0) rfl;refine⟨n,a,h.put (p':={p with sv:=n,kl:=a}) u rfl (λj=>j=0\/j=3) (f.mono (λb _ e=>?_)) ?_ ?_ ?_ ?_,L⟩
 .rcases e with e|e
  .exact⟨0,.inl rfl,e⟩
  .exact⟨3,.inr rfl,.inl e⟩
 .rintro j (rfl|rfl)
  .exact J _ (A 0)
  .refine⟨y.row,λx i=>⟨y.own x i,λb t=>?_⟩⟩;rcases v x i with q|q
   .exact D x q b t
   .exact(q b t).2
 .rintro j b (rfl|rfl) t
  .exact .inl ⟨0,.inl rfl,t⟩
  grind
 .rintro i j b (rfl|rfl) (rfl|rfl) l m
  .rfl
  .rcases o b m with e|e
   .exact(g b l e).elim
   .have l:b=p.pb:=l;omega
  .rcases o b l with e|e
   .exact(g b m e).elim
   .have m:b=p.pb:=m;omega
  .rfl
 .intro j e;match j,e with
  |1,_=>exact⟨λq=>q,λ_ q=>q⟩
  |2,_=>exact⟨λq=>q,λ_ q=>q⟩
  |0,e=>exact absurd (.inl rfl) e
  |3,e=>exact absurd (.inr rfl) e
  |_+4,_=>exact⟨λq=>q,λ_ q=>q⟩
theorem QN(M)(a:List vT)(k)(h:k<a.length):jo M (a.take (k+1))=(MK (jo M (a.take k)) a[k]).2:=by
 rw[dy h,Hf]
theorem iQ.VI{base e n:Nat}{M:DM}{g:RG}{a:nC}{w d:World}(h:iQ base e M g a (w.drewN n) d):iQ base e M g a w d:=by
 obtain⟨f,i,b,j⟩:=h;exact⟨f,i,⟨b.os,b.tape,b.output,b.size,b.block⟩,j⟩
theorem iQ.KG{base e:Nat}{M:DM}{g:RG}{a:nC}{w w':World}{b o:Nat}{v:Value}(h:iQ base e M g a w w')(d:w.c b o=some v)(i:¬ g.foot e b):w'.cell? (F b o)=some v:=by
 obtain⟨j,k,f,l⟩:=h;rw[World.cell?_of_block (w:=w) (w':=w') (a:=⟨b,o,none⟩) (f.block b (World.block_lt_of_cell? w _ d) i)];exact d
theorem Eo{M:DM}{j:vT}(h:j.1.kind≠0):MK M j=(([],(fD M.aC j.1).2),{M with aC:=(fD M.aC j.1).1}):=by unfold MK;rw[b' h]
theorem Ep{M:DM}{j:vT}(h:j.1.kind=0):MK M j=(((dF M j.2.1 j.2.2).1,0),(dF M j.2.1 j.2.2).2):=by unfold MK;rw[dQ h]
def L3(base wb:Nat)(yu:World)(d2:BW true)(k pb xb:Nat)(dp:Option Pl)(yb:Nat)(M' M:DM)(ms:List vT)(n j:Nat)(w:World):Prop:=
 ∃rg sv kl,Us base wb yu (j' wb d2) (d2.put k ⟨pb,xb,dp,yb,rg,M',jo M (ms.take j),sv,kl⟩) w/\kl.length<=n+j
theorem L3.adm{r W p:World}{b:BW true}{k l q:Nat}{g:Option Pl}{e:Nat}{f M:DM}{a:List vT}{n j:Nat}{m:RG}{o:Value}{d:List KN}(h:Us base wb r (j' wb b) (b.put k ⟨l,q,g,e,m,f,jo M (a.take j),o,d⟩) W)(gN:k<b.qs.length)(B:d.length<=n+j)(x:j<a.length)(y:a[j].1.kind≠0)(A:iQ 0 e (jo M (a.take j)) m a[j].1 W p):L3 base wb r b k l q g e f M a n (j+1) p:=by
 obtain⟨i,t,v,w⟩:=A;have u:=h.doc (dj gN) (Ni:=i) (N':={jo M (a.take j)with aC:=(fD (jo M (a.take j)).aC a[j].1).1}) t w v;refine⟨i,o,d,?_,by omega⟩;rw[QN M a j x,Eo y];rw[BW.Ej]at u;exact u
theorem L3.said{t W q:World}{a:BW true}{k m r:Nat}{i:Option Pl}{d:Nat}{f N:DM}{n:RG}{p o:Value}{l:List KN}{R:E×DM}(h:Us base wb t (j' wb a) (a.put k ⟨m,r,i,d,n,f,N,p,l⟩) W)(gN:k<a.qs.length)(A:vV 0 d n R W q o):∃Ni,Us base wb t (j' wb a) (a.put k ⟨m,r,i,d,Ni,f,R.2,p,l⟩) q:=by
 obtain⟨_,⟨j,v,w⟩,g⟩:=A;have u:=h.doc (dj gN) (Ni:=j) (N':=R.2) v w ((iO.bD g).mono (λb _ e=>.inl (by injection e with e;exact e.symm)));refine⟨j,?_⟩;rw[BW.Ej]at u;exact u
theorem L3.heard{r W o:World}{a:BW true}{k e p:Nat}{g:Option Pl}{q:Nat}{f N M:DM}{l:RG}{m:Value}{b:List KN}{i:List vT}{n j:Nat}(h:Us base wb r (j' wb a) (a.put k ⟨e,p,g,q,l,f,N,m,b⟩) W)(gN:k<a.qs.length)(y:b.length<=n+j)(w:jo M (i.take (j+1))=N)(v:qf W o 0 e 2 m b):L3 base wb r a k e p g q f M i n (j+1) o:=by
 obtain⟨t,d,u,x⟩:=h.hears (dj gN) v;refine⟨l,t,d,?_,by grind⟩;rw[w];rw[BW.Ej]at u;exact u
theorem Ih(M)(a)(R):(dD M a R).2.aI=M.aI:=by
 obtain⟨b,h,_⟩:=Qj M a R;rw[h]
theorem ac0{ax now:Int}{l:List PF}(h:l.length<=8):(iX ax now l).length<=8:=cE (List.length_filter_le _ _) h
theorem UG{M:DM}(h:M.aI.length<=8)(now)(b):(dF M now b).2.aI.length<=8:=by
 have a:∀p,(bK M.ax now M.aI p).length<=8:=λp=>by
  have:=ac0 (ax:=M.ax) (now:=now) h;unfold bK;split
  .rename_i hc;rw[cF,eL];unfold bM at hc;split at hc
   .cases hc
   .split at hc
    .cases hc
    .omega
  .exact this
 unfold dF;split
 .rw[Ih];exact h
 .split
  .unfold uJ;split
   .exact h
   .dsimp only;split
    .exact a _
    .rw[Ih];exact a _
  .exact h
theorem YA{M:DM}(h:M.aI.length<=8):∀a,(jo M a).aI.length<=8:=by
 intro a;induction a generalizing M with
 |nil=>exact h
 |cons m a b=>
  refine b ?_;grind [Eo,Ep,UG]
set_option maxHeartbeats 4000000
open Proofs.Tryz
theorem bX.booked{w b:World}{g:Nat}{a:Option Pl}{d:DM}{f:List BE}(h:bX w g 0 a d)(k:CF w b (JR g 2))(hb:bN b g 2 f)(hd:∀q,a=some q->q.g≠g):bX b g 0 a {d with aC:=f}:=by
 exact Kx
theorem Fin.cx{w d:World}{g:Nat}{f:Option Pl}{i:Value}{R:E×DM}(h:Fin w d g none none f (λ_ _=>False) i R):CF w d (λb _=>b=g):=
 h.cf.mono (λb o _ e=>by
  rcases e with e|(e|e)|e
  .exact e.1
  .exact e.elim
  .obtain⟨q,a,_⟩:=e;cases a
  .obtain⟨q,a,_⟩:=e;cases a)
theorem Fin.row{w a:World}{g:Nat}{b:Option Pl}{d:Value}{R:E×DM}(h:Fin w a g none none b (λ_ _=>False) d R):w.grownBy a (some g):=h.cx.akC (λ_ _ _ e=>e)
theorem Fin.iE{w d:World}{g n:Nat}{a:Option Pl}{b:Value}{R:E×DM}(h:Fin (w.drewN n) d g none none a (λ_ _=>False) b R):Fin w d g none none a (λ_ _=>False) b R:=⟨h.out,h.bU,h.cf.iE⟩
theorem lI.row{j w i:World}{a:Option Addr}{b:Nat}{l:E}{e d:Option Nat}(h:lI j w a b l e)(k:w.grownBy i d)(p:∀g,e=some g->some g≠d):lI j i a b l e:=by
 rcases h with h|⟨g,m,f,n,o⟩
 .exact .inl h
 .exact .inr ⟨g,m,f,n,o.grown k (p g f)⟩
def As(d:BW false)(k pb:Nat)(n:Nat)(kl:List KN)(qs:List QD):Prop:=∃p',qs=d.qs.set k p'/\p'.pb=pb/\p'.N=p'.M/\dK p'.M n/\p'.kl.length<=kl.length+16
theorem QO(d:BW false)(n k f m)(V)(l)(r)(M)(sv)(kl)(a:nC)(D)(w)(J:d.qs[k]?=some ⟨f,m,V,l,r,M,M,sv,kl⟩)(h0:D[0]?=some (Y 6))(ha:∀i v,a.cells.toList[i]?=some v->D[8+i]?=some v)(hinv:dK M n)(L:1<=n)(hn:n<4611686018427387904)(x:bT a.ae)(K:bT a.bH)(Q:bT a.aD)(hl:a.name.length<=9223372036854775807)(X:jS base wb d w):Calls prog 8 #[N wb 0,.agg D,N f 0] w λe w'=>oJ base wb 16 d w e w' (As d k f (n+1) kl):=by
 have hp:=X.part J
 have B:=FC.start w D
 obtain⟨U,o⟩:=aw (w.alloc (.cells D 48))
 rw[<-o]at B
 have u:Hid (∀j,QD.C false ⟨f,m,V,l,r,M,M,sv,kl⟩ j U):=λj=>QD.loc (hp j) (λb hb=>B.gb.block b (QD.lt (hp j) hb) Z)
 have g:=λi j b p q=>by
  have h:=X.one (i+4,k) (j+4,k) b ⟨_,J,p⟩ ⟨_,J,q⟩;simpa using h
 have p:=hinv.aC
 have t:=I (λw' (h:bN w' m 2 M.aC)=>Fv m M.aC a w' h p.sorted (λe q=>by have:=p.num e q;omega) x.1 x.2 hl)
 have C:=I (λw' (h:RD w' 0 l M r)=>E9 n 0 l M r a w' h p hn hl (cS _))
 have k0:=(B.bk.cell 0).trans h0
 have q0:U.c f 0=some (N m 0):=dm.cell (u 0) 0
 have q1:U.c f 1=some (N l 0):=dm.cell (u 0) 1
 have A:U.rangeAt w.1.size 8 a.cells.toList:=λi v R=>(B.bk.cell (8+i)).trans (ha i v R)
 have y:∀j,¬ QD.F ⟨f,m,V,l,r,M,M,sv,kl⟩ j w.1.size:=λj e=>by have:=QD.lt (hp j) e;omega
 have ad:w.1.size≠m:=λe=>y 1 (.inl e)
 have P:f≠m:=λe=>by have:=g 0 1 f rfl (.inl e);omega
 have ae:¬ r.foot l w.1.size:=y 2
 have ab:¬ r.foot l f:=λe=>by have:=g 0 2 f rfl e;omega
 have af:∀b,r.foot l b->b≠m:=λb e q=>by have:=g 1 2 b (.inl q) e;omega
 have HI:=I (cZ X J)
 have HG:=I B.gb
 have T:=I (cZ hinv (cZ L (cZ K Q)))
 obtain⟨W,HE⟩:∃W,Hid ((fD M.aC a).2=W):=⟨_,I rfl⟩
 rw[HE]at t C
 clear hp B g p hinv L hn x K Q hl X J h0 ha y
 rw[o]at k0
 go_in
 go_wp2_with fail
 rw[<-o]
 clear o k0
 refine wp_region_held_drew (S:=(λw'=>w'.c f 0=some (N m 0)/\w'.rangeAt w.1.size 8 a.cells.toList)) f' ⟨q0,A⟩ (λhHeld=>?_)
 refine eH 0 (N f 0) ?_
 refine eH 1 (N f 0) ?_
 refine eH 2 (N f 0) ?_
 refine eH 3 (N m 0) ?_
 refine eH 4 (N w.1.size 8) ?_
 refine eH 5 (.agg a.cells.toList.toArray) ?_ (hy:=yieldsIf_load_mid (by rfl) _ _ rfl w.1.size 8 rfl a.cells.toList _ (λw' h=>h.2) underlying41 rfl Tryz.uW)
 refine mT (i:=6) rfl f' (λK hK=>?_)
 go_simp
 refine(t _ ((u 1).1.aC.drewN 1)).mono ?_
 rintro e p ⟨rfl,B,j⟩
 have g:=j.dE
 clear j
 have x:Hid (p.c f 0=some (N m 0)/\p.rangeAt w.1.size 8 a.cells.toList):=⟨g.cell q0 (λq=>P q.1),λi v R=>g.cell (A i v R) (λq=>ad q.1)⟩
 go_wp2_with fail
 refine hK.out _ _ x (λhHeld=>?_)
 clear hK K
 refine eH 7 (Y W) ?_
 refine wpAnyH_done f' ?_ _
 have u1:=g.cell q1 (λq=>P q.1)
 have j:=x.2
 have y:Hid (RD p 0 l M r):=RD.keep (u 2) (λb hb=>g.block b (QD.lt (u 2) hb) (λo e=>af b hb e.1))
 have J:=I (cZ (bX.booked (u 1).1 g B (u 1).2) g)
 clear q0 q1 A g B x hHeld t
 go_wp2_with fail
 refine wp_region_held_drew (S:=(λw'=>w'.c f 1=some (N l 0)/\w'.rangeAt w.1.size 8 a.cells.toList)) f' ⟨u1,j⟩ (λhHeld=>?_)
 refine eH 0 (N f 0) ?_
 refine eH 1 (N f 0) ?_
 refine eH 2 (N f 1) ?_
 refine eH 3 (N l 0) ?_
 refine eH 4 (N w.1.size 8) ?_
 refine eH 5 (.agg a.cells.toList.toArray) ?_ (hy:=yieldsIf_load_mid (by rfl) _ _ rfl w.1.size 8 rfl a.cells.toList _ (λw' h=>h.2) underlying41 rfl Tryz.uW)
 refine mT (i:=6) rfl f' (λK hK=>?_)
 go_simp
 refine(C _ (y.keep (w':=p.drewN 1) (λ_ _=>rfl))).mono ?_
 rintro e A ⟨rfl,g⟩
 have x:=g.VI
 clear g
 have g:Hid (A.c f 1=some (N l 0)/\A.rangeAt w.1.size 8 a.cells.toList):=⟨x.KG u1 ab,λi v R=>x.KG (j i v R) ae⟩
 go_wp2_with fail
 refine hK.out _ _ g (λhHeld=>?_)
 clear hK K
 refine eH 7 (Y W) ?_
 refine wpAnyH_done f' ?_ _
 clear hHeld g u1 j
 go_wp2
 go_ret
 obtain⟨j,v,B,K⟩:=x
 have gN:=(cM.1 HI.2).1
 have g:=(Ig (ni:=V) (M':={M with aC:=(fD M.aC a).1}) HI.1 HI.2 HG (J.2.mono (λb o _ e=>e.1)) J.1 (λq e=>⟨q,e,rfl⟩) (iO.refl p (λ_=>False)) (λ_ e=>e.elim)).1
 have b:=g.doc (dj gN) (Ni:=j) (N':={M with aC:=(fD M.aC a).1}) v K B
 exact⟨rfl,_,b,⟨rfl,rfl⟩,⟨_,List.set_set ..,rfl,rfl,T.1.adm T.2.1 a T.2.2.1 T.2.2.2,ep _ _⟩,λt=>ep _ _⟩
theorem Na(d:BW false)(n k l A)(dp)(m)(rg)(M)(L)(B)(a:qH)(p C)(zs:E)(cs)(w)(u:d.qs[k]?=some ⟨l,A,dp,m,rg,M,M,L,B⟩)(h0:cs[0]?=some (Y 7))(h3:cs[3]?=some (Y C))(h6:cs[6]?=some (Y p))(h7:cs[7]?=some (.string ⟨zs.toArray⟩))(q:∀j v,a.cells[j]?=some v->cs[15+j]?=some v)(ha:a.Ok)(hz:zs.length<=1048576)(T:bT p)(hinv:dK M n)(Q:n<=4611686018427387904)(gN:B.length<=1073741824)(y:((d.le 0).length+1)*112<=140737488355328)(K:jS base wb d w):Calls prog 8 #[N wb 0,.agg cs,N l 0] w λe w'=>oJ base wb 16 d w e w' (As d k l n B):=by
 have R:=K.part u
 have t:=λi j b e1 e2=>by
  have h:=K.one (i+4,k) (j+4,k) b ⟨_,u,e1⟩ ⟨_,u,e2⟩;simpa using h
 have U:∀j b,QD.F ⟨l,A,dp,m,rg,M,M,L,B⟩ j b->b<w.1.size:=λj b e=>QD.lt (R j) e
 have o:=FC.start w cs
 obtain⟨W0,hW0⟩:=aw (w.alloc (.cells cs 48))
 have s0:W0.1.size=w.1.size+1:=vl
 rw[<-hW0]at o
 have HP:Hid (∀V,w.grownBy V none->∀j,QD.C false ⟨l,A,dp,m,rg,M,M,L,B⟩ j V):=λV g j=>QD.loc (R j) (λb f=>g.block b (U j b f) Z)
 have k0:=(o.bk.cell 0).trans h0
 have k3:=(o.bk.cell 3).trans h3
 have x:=(o.bk.cell 6).trans h6
 have W:=(o.bk.cell 7).trans h7
 have J:Hid (W0.rangeAt w.1.size 15 a.cells):=λj v X=>(o.bk.cell (15+j)).trans (q j v X)
 have q0:W0.c l 0=some (N A 0):=dm.cell (HP _ o.gb 0) 0
 have D:W0.c l 1=some (N m 0):=dm.cell (HP _ o.gb 0) 1
 have cd:l≠A:=λe=>by have:=t 0 1 l rfl (.inl e);omega
 have az:w.1.size≠A:=λe=>by have:=U 1 A (.inl rfl);omega
 have cr:some l≠some m:=λe=>by have:=t 0 2 l rfl (.inl nF);omega
 have bn:some w.1.size≠some m:=λe=>by
  injection e with e;have:=U 2 m (.inl rfl);omega
 have HB:=I (hinv.aC.mono Q)
 have DU:=I (cZ hinv Q)
 have HI:=I (cZ K u)
 have HL:=I (cZ y (cZ gN T))
 have HW:=I (cZ t U)
 have sU:Hid (∀V,W0.grownBy V none->Calls prog 31 #[N l 2,N m 0,.string ⟨zs.toArray⟩,.agg a.cells.toArray] V λe w'=>∃r:E,e=.returned (.string ⟨r.toArray⟩)/\r.length<=300000000/\V.grownBy w' none):=λV gV=>
  have h:=HP V (aa o.gb gV)
  Bi 0 m M rg a zs l 2 L B V (h 2) HB ha hz (QD.said (h 0) (h 3))
 have sV:=I o.gb
 clear R t U K u h0 h3 h6 h7 q ha hz hinv Q gN y o T
 rw[hW0]at k0
 go_in
 go_wp2_with fail
 rw[<-hW0]
 clear hW0 k0
 refine wp_region_held_drew (S:=(λw'=>w'.c l 1=some (N m 0)/\w'.c w.1.size 7=some (.string ⟨zs.toArray⟩)/\w'.rangeAt w.1.size 15 a.cells)) f' ⟨D,W,J⟩ (λhHeld=>?_)
 refine mM 0 (N l 0) ?_
 refine mM 1 (N l 0) ?_
 refine mM 2 (N l 2) ?_
 refine mM 3 (N l 0) ?_
 refine mM 4 (N l 0) ?_
 refine mM 5 (N l 1) ?_
 refine mM 6 (N m 0) ?_
 refine mM 7 (N w.1.size 7) ?_
 refine mM 8 (.string ⟨zs.toArray⟩) ?_
 refine mM 9 (N w.1.size 15) ?_
 refine eH 10 (.agg a.cells.toArray) ?_ (hy:=yieldsIf_load_mid (by rfl) _ _ rfl w.1.size 15 rfl a.cells _ (λw' h=>h.2.2) underlying45 rfl Tryz.yE)
 refine mT (i:=11) rfl f' (λK hK=>?_)
 go_simp
 refine(sU _ (aN (cC _ _) 1)).mono ?_
 rintro e w1 ⟨r,rfl,q,o⟩
 have T:=pR o
 clear o
 have o:Hid (w1.c l 1=some (N m 0)/\w1.c w.1.size 7=some (.string ⟨zs.toArray⟩)/\w1.rangeAt w.1.size 15 a.cells):=⟨T.cell D Z,T.cell W Z,aA J T⟩
 go_wp2_with fail
 refine hK.out _ _ o (λhHeld=>?_)
 clear hK K
 refine mM 12 (.string ⟨r.toArray⟩) ?_
 refine wpAnyH_done f' ?_ _
 have av:=aa sV T
 have ku:=I T
 have cp:r.length<=140737488351232:=G
 have YE:Hid (r.length<=140737488355328):=by show _<=_;omega
 have df:=T.cell k3 Z
 have V:=T.cell x Z
 have ch:=T.cell q0 Z
 have ad:=T.cell D Z
 have bo:=I (aA J T)
 clear k3 x W q0 D J sU o hHeld q
 go_wp2_with fail
 refine(rT r _ _ cp).mono ?_
 rintro e Q ⟨al,cl,gB,rfl,hL,g2⟩
 have G2:=aa av g2
 obtain⟨rn,W⟩:=aq r.length
 have ar:=I W
 obtain⟨R,hR⟩:=aq (dF M p r)
 have cj:=I hR
 obtain⟨nn,ax⟩:=aq R.1.length
 have Ko:=I ax
 have bl:Hid (R.1.length<=900):=by show _<=_;rw[<-hR];exact yA DU.1 p r
 have bc:Hid (dK R.2 n):=by show dK _ _;rw[<-hR];exact DU.1.answer p r
 have q0:=g2.cell ch Z
 have D:=g2.cell ad Z
 have x:=g2.cell V Z
 have E:=I (aA bo g2)
 have vZ:Hid (Calls prog 32 #[N A 0,Y p,.slice al rn cl] (Q.drewN 1) λe w'=>∃J,e=.returned J/\Fin (Q.drewN 1) w' A none none dp (λ_ _=>False) J R):=by
  have o:=(HP _ (aN G2 1)) 1;rw[<-hR];exact DT A dp M p (al,r) r rn al cl (Q.drewN 1) o.1 (λe=>by cases h:dp with|none=>rw[h]at e;cases e|some q=>rw[h]at e;injection e with e;exact o.2 q h e) (DU.1.bin DU.2) DU.1.aC.sorted ar (hL.grown (aN (cC _ _) 1)).at ⟨al,cl,by rw[W],hL.cap.1,hL.cap.2,YE,λu h=>h⟩ HL.2.2 DU.1.ax DU.1.times
 have pU:Hid (∀w' J,Fin (Q.drewN 1) w' A none none dp (λ_ _=>False) J R->Fin Q w' A none none dp (λ_ _=>False) J R):=λw' J h=>h.iE
 have bf:Hid (∀w' J,Fin Q w' A none none dp (λ_ _=>False) J R->∃ao co,J=.slice ao nn co):=λw' J h=>by
  obtain⟨p',ho,_⟩:=h.out;obtain⟨ao,co,X,_⟩:=ho.shape;exact⟨ao,co,by rw[X,ax]⟩
 have y:Hid (∀w' J,Fin Q w' A none none dp (λ_ _=>False) J R->∀(b o)(u),Q.c b o=some u->b≠A->w'.c b o=some u):=λw' J h b o u hu f=>h.row.cell hu (λe=>f nF)
 have af:=I (cZ hL av)
 have ae:=I G2
 have ck:=I g2
 rw[W]
 clear df V ch ad bo hL av T g2 G2 W hR ax
 go_wp2_with fail
 refine wp_region_held_drew (S:=(λw'=>w'.c l 0=some (N A 0)/\w'.c w.1.size 6=some (Y p))) f' ⟨q0,x⟩ (λhHeld=>?_)
 refine eH 0 (N l 0) ?_
 refine eH 1 (N l 0) ?_
 refine eH 2 (N l 0) ?_
 refine eH 3 (N A 0) ?_
 refine eH 4 (N w.1.size 6) ?_
 refine eH 5 (Y p) ?_
 refine eH 6 (.slice al rn cl) ?_
 refine mT (i:=7) rfl f' (λK hK=>?_)
 go_simp
 refine vZ.mono ?_
 rintro e w3 ⟨v3,rfl,T⟩
 have u:=pU w3 v3 T
 clear T
 obtain⟨ao,co,da⟩:=bf w3 v3 u
 subst da
 have T:Hid (w3.c l 0=some (N A 0)/\w3.c w.1.size 6=some (Y p)):=⟨y _ _ u _ _ _ q0 cd,y _ _ u _ _ _ x az⟩
 have JY:=I u
 clear u
 go_wp2_with fail
 refine hK.out _ _ T (λhHeld=>?_)
 clear hK K
 refine eH 8 (.slice ao nn co) ?_
 refine wpAnyH_done f' ?_ _
 have ad:=y _ _ JY _ _ _ D cd
 have V:=y _ _ JY _ _ _ x az
 have bp:Hid (w3.rangeAt w.1.size 15 a.cells):=λj v X=>y _ _ JY _ _ _ (E j v X) az
 have bb:Hid (lI w1 w3 al cl r gB):=af.1.row JY.row (λg W e=>by
  have u:=af.1.Yo g W;have h2:=af.2.size;have h3:=HW.2 1 A (.inl rfl);injection e with e
  omega)
 clear q0 D x E vZ pU bf y hHeld T
 go_wp2_with fail
 refine(rU r rn al cl gB _ _ ar (by have:=ar.o;omega) bb.o).mono ?_
 rintro e w4 ⟨rfl,T⟩
 have ab:Hid (∀g,gB=some g->w.1.size+1<=g/\g<Q.1.size):=λg W=>by
  have u:=af.1.Yo g W;have h2:=ku.size;rw[s0]at h2;exact⟨by omega,u.2⟩
 have ca:some l≠gB:=λe=>by
  have u:=(ab _ e.symm).1;have h3:=HW.2 0 l rfl;omega
 have y:some w.1.size≠gB:=λe=>by
  have u:=(ab _ e.symm).1;omega
 have D:=T.cell ad ca
 have x:=T.cell V y
 have bq:Hid (w4.rangeAt w.1.size 15 a.cells):=λj v X=>T.cell (bp j v X) y
 have Bt:=I T
 have XV:Hid (∀(W)(b5 g),w4.grownBy W none->r.length<=g->g<=maxLen->At W (some ⟨b5,0,none⟩) r->Calls prog 33 #[N m 0,Y p,ς b5 0 r.length g] W λe w'=>∃o,e=.returned o/\vV 0 m rg R W w' o):=by
  intro W b5 g gW Bv cv ah;have o:RD Q 0 m M rg:=HP _ ae 2;have dc:∀b,rg.foot m b->b≠A:=λb f e=>by have:=HW.1 1 2 b (.inl e) f;omega
  have dd:=o.keep (λb f=>by
   have cz:=(o.lt b f).2;have U:=HW.2 2 b f;have z3:=JY.row.size;have z4:=Bt.size
   rw[gW.block b G Z,Bt.block b G (λe=>by have:=(ab.o b e.symm).1;omega),JY.row.block b cz (λe=>dc b f nF)])
  rw[<-cj];exact Dr 0 m M rg p r _ W dd HB (cS _) ⟨some ⟨b5,0,none⟩,g,rfl,Bv,cv,(λe=>by cases e),ah⟩ YE HL.2.2 DU.1.ax DU.1.Jo DU.1.aL (by have h:M.aI.length<=8:=(HP _ ae 1).1.few;omega) DU.1.times
 clear ad V bp T ca y bb
 go_wp2_with fail
 refine wp_region_held_drew (S:=(λw'=>w'.c l 1=some (N m 0)/\w'.c w.1.size 6=some (Y p))) f' ⟨D,x⟩ (λhHeld=>?_)
 refine eH 0 (N l 0) ?_
 refine eH 1 (N l 0) ?_
 refine eH 2 (N l 1) ?_
 refine eH 3 (N m 0) ?_
 refine eH 4 (N w.1.size 6) ?_
 refine eH 5 (Y p) ?_
 refine eH 6 (.string ⟨r.toArray⟩) ?_
 refine mT (i:=7) rfl f' (λK hK=>?_)
 refine Eq.mpr (dQ f') ?_
 refine Dm _ _ 9 37 rfl 5 underlying9 underlying37 underlying5 r rfl YE ?_
 intro b5 g w5 Bv T V o
 have g5:=pR o
 clear o
 have T9:=I (XV w5 b5 g g5 Bv T V)
 have y:Hid (w5.c l 1=some (N m 0)/\w5.c w.1.size 6=some (Y p)):=⟨g5.cell D Z,g5.cell x Z⟩
 clear Bv T V D x
 have D:=y.1
 have x:=y.2
 refine hK.out _ _ y (λhHeld=>?_)
 clear hK K
 try simp only[Act.put,ei,eo,eM]
 refine mT (i:=8) rfl f' (λK hK=>?_)
 go_simp
 refine T9.mono ?_
 rintro e V ⟨o6,rfl,o⟩
 obtain⟨am,cm,bz⟩:=o.1.has.shape
 rw[Ko]at bz
 subst bz
 have Nf:=I o
 have ba:Hid (V.c l 1=some (N m 0)/\V.c w.1.size 6=some (Y p)):=⟨o.2.2.cell D cr,o.2.2.cell x bn⟩
 clear o
 go_wp2_with fail
 refine hK.out _ _ ba (λhHeld=>?_)
 clear hK K
 refine eH 9 (.slice am nn cm) ?_
 refine wpAnyH_done f' ?_ _
 obtain⟨po,W,cc⟩:=JY.o.out
 obtain⟨ni,bt,bu⟩:=JY.bU
 have YF:=cc.elim (λe=>by rw[e];intro q hq;cases hq) id
 have z2:=ae.size
 have z3:=JY.row.size
 have z4:=Bt.size
 have z5:=g5.size
 have an:fA V (.slice ao nn co) po R.1:=by
  have h4:=W.uE (iO.bD Bt) (λq hq e=>by have u:=(ab q.g e).2;have h2:=YF q hq;omega);refine(h4.grown g5).uE (iO.bD Nf.2.2) (λq hq e=>?_);have u:=HW.2 2 m (.inl rfl);have h2:=YF q hq;injection e with e;omega
 have gN:=(cM.1 HI.2).1
 obtain⟨U5,T5⟩:=Ig (ni:=ni) (M':=R.2) HI.1 HI.2 ae JY.cx bt bu (iO.bD Bt) (λb e=>by have:=(ab b e).1;omega)
 obtain⟨bs,⟨Ni,y1,y3⟩,g6⟩:=Nf.o
 have U6:=(U5.grown g5).doc (dj gN) (Ni:=Ni) (N':=R.2) y1 y3 ((iO.bD g6).mono (λb _ e=>.inl (by injection e with e;exact e.symm)))
 have T6:∀b,j' wb ((d.put k ⟨l,A,ni,m,rg,R.2,M,L,B⟩).put k ⟨l,A,ni,m,Ni,R.2,R.2,L,B⟩) b->b<w.1.size\/w5.1.size<=b:=λb h=>by
  rcases j'.set (d:=d.put k ⟨l,A,ni,m,rg,R.2,M,L,B⟩) (P:=λb=>w5.1.size<=b) (dj gN) (λj b f=>by
   match j,f with
   |0,f=>exact .inl ⟨0,f⟩
   |1,f=>exact .inl ⟨1,f⟩
   |2,f=>exact(y3 b f).imp (λe=>⟨2,e⟩) id
   |3,f=>exact .inl ⟨3,f⟩) h with e|e
  .exact .inl (T5 b e)
  .exact .inr e
 have U6:Us base wb w (j' wb d) ((d.put k ⟨l,A,ni,m,rg,R.2,M,L,B⟩).put k ⟨l,A,ni,m,Ni,R.2,R.2,L,B⟩) V:=U6
 rw[BW.Ej]at U6 T6
 obtain⟨o,ai⟩:∃o:BW false,o=d.put k ⟨l,A,ni,m,Ni,R.2,R.2,L,B⟩:=⟨_,rfl⟩
 rw[<-ai]at U6 T6
 have bx:o.qs[k]?=some ⟨l,A,ni,m,Ni,R.2,R.2,L,B⟩:=by rw[ai];exact dj gN
 have T:Hid (o.pv=d.pv/\o.qv=d.qv/\o.lv=d.lv/\o.le=d.le/\∀p',o.qs.set k p'=d.qs.set k p'):=by rw[ai];exact⟨rfl,rfl,rfl,rfl,λp'=>List.set_set ..⟩
 clear ai
 have ag:=I bs
 have cb:∀q,po=some q->base<=q.g/\q.g<V.1.size/\¬ j' wb o q.g:=λq hq=>by
  have h2:=YF q hq;have h3:=W.Iw q hq;have h4:=HI.1.room;have h6:=g6.size;exact⟨by omega,by omega,λe=>by rcases T6 _ e with e|e<;>omega⟩
 have r1:=ek (P:=prog) V 37 9 5 underlying37 underlying5 underlying9 ao co R.1 (an.at' Ko)
 have r2:(convert 37 9 (.slice am R.1.length cm)).run prog V=.ok (.string ⟨R.1.toArray⟩) V:=by
  obtain⟨dn,dq,e,_,_,_,ah⟩:=ag.has;injection e with e1 e2 e3;rw[<-e1]at ah;exact ek (P:=prog) V 37 9 5 underlying37 underlying5 underlying9 am cm R.1 ah
 rw[Ko]at r1 r2
 have CB:=I (Qz o (.slice ao nn co) po R.1 nn V (Us.start U6.sep) an Ko (by have:=Ko.o;have:=bl.o;omega) cb (by rw[T.2.2.2.1];exact HL.1))
 have cu:Hid (V.rangeAt w.1.size 15 a.cells):=λj v X=>Nf.2.2.cell (g5.cell (bq j v X) Z) bn
 have ak:Hid (∀b,(b=wb\/(o.lv 0).ownBlock=some b\/Pl.blk po=some b)->b<w.1.size\/Q.1.size<=b/\b<w5.1.size):=λb e=>by
  rcases e with e|e|e
  .exact .inl (by rw[e];exact HI.1.lt (0,0) wb ⟨rfl,rfl⟩)
  .exact .inl (HI.1.lt (2,0) b (by rw[T.2.2.1]at e;exact e))
  .refine .inr ?_;cases hq:po with
   |none=>rw[hq]at e;cases e
   |some q=>
    rw[hq]at e;injection e with e;have u:=YF q hq;have h2:=W.Iw q hq;have e:q.g=b:=e;omega
 have Q0:Hid (∀b,Pl.blk po=some b->Q.1.size<=b):=λb e=>by
  cases hq:po with
  |none=>rw[hq]at e;cases e
  |some q=>rw[hq]at e;injection e with e;rw[<-e];exact YF q hq
 have bk:=I U6
 have cn:=I bx
 have HZ:Hid (w.1.size+1<=Q.1.size/\Q.1.size<=w5.1.size):=by
  have u:=ku.size;have h3:=ck.size;rw[s0]at u;exact⟨by omega,by omega⟩
 clear an U5 T5 U6 T6 bx cb bq ba T9 y hHeld W cc YF XV D x g5 bs y1 y3 g6 bt bu z2 z3 z4 z5
 go_wp2_with fail
 refine CB.mono ?_
 rintro e w7 ⟨rfl,⟨x,J,S7⟩,F7⟩
 have W:(o.add 0 J x).qs[k]?=some ⟨l,A,ni,m,Ni,R.2,R.2,L,B⟩:=cn.o
 have aj:=S7.sep.part W
 have t:=λi j b e1 e2=>by
  have h:=S7.sep.one (i+4,k) (j+4,k) b ⟨_,W,e1⟩ ⟨_,W,e2⟩;simpa using h
 have au:Hid (w7.rangeAt w.1.size 15 a.cells):=λj v X=>by
  have u:=cu j v X;have h2:=HZ.o;rw[World.cell?_of_block (w:=V) (w':=w7) (a:=⟨w.1.size,15+j,none⟩) (F7.block w.1.size (World.block_lt_of_cell? V _ u) (λe=>by have:=ak.o _ e;omega))];exact u
 have D:w7.c l 1=some (N m 0):=dm.cell (aj 0) 1
 have bm:mB w5.1.size w7 (.slice am nn cm) R.1:=dh ag (λb f=>F7.block b (ag.o.lt b f).2 (λe=>by
  have u:=(ag.o.lt b f).1;have h2:=HZ.o;have:=ak b e
  omega))
 have Mm:Hid (Calls prog 34 #[N l 2,.slice am nn cm,.agg a.cells.toArray,N m 0] (w7.drewN 1) λe w'=>e=.returned (.tuple #[])/\qf (w7.drewN 1) w' 0 l 2 L B):=by
  have h7:=λj=>QD.loc (aj j) (w':=w7.drewN 1) (λ_ _=>rfl);exact Hy 0 m R.2 Ni a R.1 _ l 2 L B _ (h7 2) (bc.aC.mono DU.2) (bm.has.grown (aN (cC w7 none) 1)) bl (QD.said (h7 0) (h7 3)) HL.2.1 (cS _) (A7 (h7 0) 3 (cA 3)) (λe=>by have:=t 0 3 l rfl (.inl e);omega) (λy hy b f=>⟨λe=>by have:=t 0 3 b e (.inr ⟨y,hy,f⟩);omega,((h7 3).2 y hy).2 b f⟩)
 have y:Hid (∀w',qf w7 w' 0 l 2 L B->w'.cell? (F l 1)=some (N m 0)/\w'.rangeAt w.1.size 15 a.cells):=by
  intro w' h;obtain⟨Qw,ds,_,_,_,_,_,f,hB⟩:=h;refine⟨(hB _ (aj 0)).cell 1,λj v X=>?_⟩;have u:=au j v X
  rw[World.cell?_of_block (w:=w7) (w':=w') (a:=⟨w.1.size,15+j,none⟩) (f.block w.1.size (World.block_lt_of_cell? w7 _ u) (λe=>by
   rcases e with e|e
   .have:=HW.2 0 l rfl;omega
   .have:=HW.2 3 _ (.inl e);omega))]
  exact u
 have v:=I (cZ S7 W)
 clear S7 F7 W aj t bm r1 r2 CB ak
 go_wp2_with fail
 refine wp_region_held_drew (S:=(λw'=>w'.c l 1=some (N m 0)/\w'.rangeAt w.1.size 15 a.cells)) f' ⟨D,au⟩ (λhHeld=>?_)
 refine eH 0 (N l 0) ?_
 refine eH 1 (N l 0) ?_
 refine eH 2 (N l 2) ?_
 refine eH 3 (.slice am nn cm) ?_
 refine eH 4 (N w.1.size 15) ?_
 refine eH 5 (.agg a.cells.toArray) ?_ (hy:=yieldsIf_load_mid (by rfl) _ _ rfl w.1.size 15 rfl a.cells _ (λw' h=>h.2) underlying45 rfl Tryz.yE)
 refine eH 6 (N l 0) ?_
 refine eH 7 (N l 0) ?_
 refine eH 8 (N l 1) ?_
 refine eH 9 (N m 0) ?_
 refine mT (i:=10) rfl f' (λK hK=>?_)
 go_simp
 refine Mm.mono ?_
 rintro e u ⟨rfl,f⟩
 have j:=I (f.iE)
 clear f
 have f:Hid (u.c l 1=some (N m 0)/\u.rangeAt w.1.size 15 a.cells):=y u j.o
 go_wp2_with fail
 refine hK.out _ _ f (λhHeld=>?_)
 clear hK K
 refine wpAnyH_done f' ?_ _
 clear hHeld f Mm y au D
 go_wp2
 go_ret
 obtain⟨D,f,U8,y⟩:=v.1.hears v.2 j.o
 refine⟨rfl,_,Us.trans bk.uE U8 (λb e=>?_),⟨T.1,T.2.1⟩,⟨_,T.2.2.2.2 _,rfl,rfl,bc,cE y (by show B.length+1<=_;omega)⟩,λt=>?_⟩
 .rcases e with e|e
  .exact bk.own b e
  .have:=Q0 b e;have:=HZ.o;exact .inr G
 .have:=BW.uh o 0 J x t;rw[T.2.2.2.1]at this;show(((o.add 0 J x).le t)).length<=_;omega
variable {w:World}{cs:Array Value}
theorem Tryz.adk(r:Bool):(prog.info? (sd r)).map (λi=>(i.zero,i.size,i.bytes))=some (some (.pointer none),1,8):=by cases r<;>kernel_rfl
abbrev Mi(r:Bool):FuncId:=match r with
 |true=>28
 |false=>26
theorem ZY(r:Bool)(a:Int)(v:Value)(w:World)(h:a<0\/300<a):Calls prog (Mi r) #[Y a,v] w λe b=>e=.returned (.tuple #[.pointer none,Y 1])/\w.grownBy b none:=by
 cases r
 .exact Mo a v w h
 .exact Mw a v w h
theorem S0(r:Bool)(d:Int)(f:E)(a:Option Addr)(g:Nat)(n:Option Nat)(o w:World)(j:0<=d)(k:d<=300)(l:f.length<=140737488355328)(h:lI o w a g f n):Calls prog (Mi r) #[Y d,.slice a f.length g] w λe m=>∃b i,e=.returned (.tuple #[N b 0,Y 0])/\rf r m b i ⟨d,[],[],f⟩/\w.1.size<=b/\Pl.fresh w.1.size i/\(∀q,i=some q->q.g≠b)/\w.grownBy m none:=by
 cases r
 .exact PW d _ _ f w j k (Vx (I rfl) l h)
 .exact PY d _ _ f w j k (Vx (I rfl) l h)
def An(r:Bool)(kind:Int):Prop:=r=true/\kind=9\/r=false/\kind=5
theorem SW{b A B C:Int}{K D:UInt64}{m:E}(y:Hid (An r b))(n:rh cs b A B C K D m)(x:m.length<=140737488351232)(J:Hid (A<0\/300<A)):Calls prog 7 #[N wb 0,.agg cs] w λe a=>e=.returned (.bool true)/\w.grownBy a none:=by
 have u:m.length<=140737488355328:=G
 have o:=FC.start w cs
 have L:=I (λv w=>ZY r A v w J)
 rcases y.o with⟨rfl,rfl⟩|⟨rfl,rfl⟩
 all_goals
  clear y
  obtain⟨f,g,h,i,j,k,l⟩:=o.k n
  go_in
  go_wp2_with fail
  refine(rT m _ _ x).mono ?_
  rintro e T ⟨a,q,M,rfl,v,d⟩
  have p:=o.grown d
  clear f g h i j k l d o
  obtain⟨f,g,h,i,j,k,l⟩:=p.k n
  go_wp2_with fail
  refine(L _ _).mono ?_
  rintro e U ⟨rfl,t⟩
  have d:=v.grown t
  have F2:=p.grown t
  clear f g h i j k l v t p
  obtain⟨f,g,h,i,j,k,l⟩:=F2.k n
  go_wp2_with fail
  refine(rU m m.length a q M _ _ (I rfl) x d).mono ?_
  rintro e V ⟨rfl,t⟩
  have p:=F2.back d t
  clear f g h i j k l t d F2
  obtain⟨f,g,h,i,j,k,l⟩:=p.k n
  go_wp2_with (first|(refine jw _ rfl _ 9 37 rfl 5 underlying9 underlying37 underlying5 m rfl u ?_;intro S d W Q R P t))
  refine(Z8 A _ _ J).mono ?_
  rintro e X ⟨rfl,rfl⟩
  have v:=p.grown t
  clear f g h i j k l t p P
  go_wp2
  go_ret
  exact⟨rfl,v.gb⟩
theorem Rg(d:BW r){M A B C:Int}{K D:UInt64}{g:E}(hr:Hid (An r M))(hO:rh cs M A B C K D g)(hl:g.length<=140737488351232)(a:0<=A)(h1:A<=300)(b:jS base wb d w)(au:(d.qs.length+1)*112<=140737488355328):Calls prog 7 #[N wb 0,.agg cs] w λe w'=>e=.returned (.bool true)/\Fk base wb d ⟨A,[],[],g⟩ w w':=by
 obtain⟨ie,ao,ak,al,an⟩:=info_parts (Tryz.adk r)
 have S:g.length<=140737488355328:=G
 have HI:=I b
 have h:=I (cZ a h1)
 clear b a h1
 have F0:=FC.start w cs
 have HN:=I (λa J gB b w=>S0 r A g a J gB b w h.o.1 h.o.2 S)
 rcases hr.o with⟨rfl,rfl⟩|⟨rfl,rfl⟩
 all_goals
  clear hr
  obtain⟨T,U,V,W,X,k5,k7⟩:=F0.k hO
  go_in
  go_wp2_with fail
  refine(rT g _ _ hl).mono ?_
  rintro e w1 ⟨a,J,gB,rfl,u,b⟩
  have t:=F0.grown b
  clear T U V W X k5 k7 b F0
  obtain⟨T,U,V,W,X,k5,k7⟩:=t.k hO
  go_wp2_with fail
  refine(HN.o a J gB _ _ u).mono ?_
  rintro e w2 ⟨b,dp,rfl,l,m,n,o,v⟩
  have j:=u.grown v
  have F2:=t.grown v
  have ad:=I (λk f=>u.lt k f)
  have s1:=t.gb.size
  have x:∀k,(k=b\/Pl.blk dp=some k)->w1.1.size<=k:=by
   rintro k (rfl|e)
   .exact m
   .cases dp with
    |none=>cases e
    |some q=>injection e with e;rw[<-e];exact n q rfl
  have i:=I (cZ l (cZ x o))
  clear T U V W X k5 k7 u t v m n o l x
  obtain⟨T,U,V,W,X,k5,k7⟩:=F2.k hO
  go_wp2_with fail
  refine(rU g g.length a J gB _ _ (I rfl) hl j).mono ?_
  rintro e w4 ⟨rfl,l⟩
  have F4:=F2.back j l
  have P:=I (i.o.1.kp (w':=w4) (λk f=>l.block k (i.o.1.dk.lt f) (λe=>by have:=ad.o k e;have:=i.o.2.1 k f;omega)))
  clear T U V W X k5 k7 l j F2
  obtain⟨T,U,V,W,X,k5,k7⟩:=F4.k hO
  go_wp2_with (first|(refine jw _ rfl _ 9 37 rfl 5 underlying9 underlying37 underlying5 g rfl S ?_;intro b5 ae y Bv Cq ql g5))
  refine(Wz y.1.size A g g.length _ ae _ h.o.1 h.o.2 (I rfl) S (I (λe=>by cases e)) ql (cA _)).mono ?_
  rintro e l ⟨dv,rfl,R,g6⟩
  have s5:=g5.size
  have s6:=g6.size
  have s4:=F4.gb.size
  have Q:=aa g5 g6
  have G6:=(F4.grown Q).gb
  have m:=HI.o.grown G6
  have o:=m.row
  have u:dm l wb d.cells:=m.blk
  have aj:=m.room
  obtain⟨ab,cb,n⟩:=bA o
  have c0:=u.cell 0
  have c1:=u.cell 1
  have ag:=n
  simp only[BW.rv,cond]at ag
  simp only[cI,cH,cL,ag]at c0 c1
  have v:=o
  rw[n]at v
  have M6:=I n
  have ar:(Value.slice ab d.qs.length cb).ownBlock≠some wb:=λe=>by have:=m.one (0,0) (1,0) wb ⟨rfl,rfl⟩ ⟨rfl,(by rw[<-n]at e;exact e)⟩;simp at this
  have af:∀k,dv.ownBlock=some k->y.1.size<=k:=λk e=>(R.aL.lt k e).1
  have ah:d.qs.length+1<=maxLen:=lA
  have ai:(d.qs.length+1)*8<=140737488355328:=G
  obtain⟨p,L⟩:∃p:QD,p=⟨l.1.size,b,dp,y.1.size,⟨σ,σ,dv,[]⟩,⟨A,[],[],g⟩,⟨A,[],[],g⟩,σ,[]⟩:=⟨_,rfl⟩
  have y6:=RD.new R
  have gA:=λt=>cy l (.cells #[N b 0,N y.1.size 0,σ] t) none
  have x4:=P.o.dk
  have HX:Hid (∀t j,d.pc p j (l.alloc (.cells #[N b 0,N y.1.size 0,σ] t))):=by
   intro t j;subst L;match j with
   |0=>exact dm.new l _ _
   |1=>exact⟨P.o.kp (λk f=>(aa Q (gA t)).block k (x4.lt f) Z),λq e=>i.o.2.2 q e⟩
   |2=>exact(y6.down (cS _)).keep (λk f=>((gA t).block k (y6.lt k f).2 Z))
   |3=>exact⟨World.ownsRow_nil _ _ _ _,λk f=>by cases f⟩
   |_+4=>trivial
  have HF:Hid (∀j k,p.F j k->(j=0/\k=l.1.size\/j=1/\w1.1.size<=k/\k<w4.1.size\/j=2/\y.1.size<=k/\k<l.1.size)):=by
   intro j k f;subst L;match j,f with
   |0,e=>exact .inl ⟨rfl,e⟩
   |1,e=>exact .inr (.inl ⟨rfl,i.o.2.1 k e,x4.lt e⟩)
   |2,e=>
    refine .inr (.inr ⟨rfl,?_,(y6.lt k e).2⟩);rcases e with e|e|e|e
    .have e:k=y.1.size:=e;omega
    .cases e
    .cases e
    .exact af k e
   |3,e=>
    rcases e with e|⟨x,q,_⟩
    .cases e
    .cases q
  have HO:Hid (w.1.size<=w1.1.size/\w.1.size<=w4.1.size/\w4.1.size<=y.1.size/\y.1.size<=l.1.size):=⟨by omega,by omega,by omega,by omega⟩
  have q:Hid (p.pb=l.1.size/\p.M=⟨A,[],[],g⟩/\p.N=p.M/\p.kl=[]):=by subst L;exact⟨rfl,rfl,rfl,rfl⟩
  have Q8:=I G6
  have x:=I u
  clear T U V W X k5 k7 g5 g6 Q F4 G6 ql R o m u P af x4 y6 gA L ad n i s1 s4 s5 s6
  go_wp2_with (at_builtin;refine dN _ rfl _ _ _ rfl base _ ie _ 1 8 (by first|exact underlying28|exact underlying27) ao ak al an rfl H (.slice ab d.qs.length cb) d.qs.length _ rfl ((v.alloc _).alloc _) ⟨l.1.size+1,0,none⟩ 1 1 [N l.1.size 0] rfl rfl (by have:=λt u=>gX (l.alloc (.cells #[N b 0,N y.1.size 0,σ] t)) u [N l.1.size 0];simp only[cG]at this;exact this _ _) (by intro u hu;rw[eC.1 hu];rfl) G ah ai (by rw[cG,cG];omega) ?_;intro av w7 Q o n;obtain⟨Zw,U,T⟩:=bA Q;subst T;have m:=((x.o.alloc _).alloc _).grown o (λe=>ar e.symm);have L:=m.cell 0;have X:=m.frozen 0;have P:=m.cell 1;have W:=m.frozen 1;simp only[cI,cH,cL]at L P)
  have R:=jS.pushed (p:=p) HI.o (aM (aM Q8.o _) _) (λj=>QD.loc (HX.o _ j) (λk f=>Below.heap_alloc _ _ k (QD.lt (HX.o _ j) f))) (λj k f=>by have h1:=HF.o j k f;have t:=HO.o;have V:=Q8.o.size;omega) (λi j k hi hj=>by have h1:=HF.o i k hi;have t:=HF.o j k hj;have V:=HO.o;omega) (by rw[M6.o];exact o) (by rw[q.o.1];exact Q) (by have:=n.o;rw[M6.o];exact this)
  go_ret
  exact⟨rfl,_,p,R,q.o.2.1,q.o.2.2.1,q.o.2.2.2,h.o.1,h.o.2⟩
theorem QW(d:BW r){a A B C:Int}{K D:UInt64}{g:E}(k:Hid (An r a))(i:rh cs a A B C K D g)(j:g.length<=140737488351232)(l:jS base wb d w)(f:(d.qs.length+1)*112<=140737488355328):Calls prog 7 #[N wb 0,.agg cs] w λe b=>e=.returned (.bool true)/\(w.grownBy b none\/Fk base wb d ⟨A,[],[],g⟩ w b):=by
 by_cases m:A<0\/300<A
 .exact(SW k i j (I m)).mono λe b h=>⟨h.1,.inl h.2⟩
 .exact(Rg d k i j G G l f).mono λe b h=>⟨h.1,.inr h.2⟩
