import Derived.Test.YtlfifnpjeangmaaGreatDoorGEPNexB
namespace Go.Proofs.YtlfifnpjeangmaaGreatDoor
set_option maxHeartbeats 1000000
open Go.RowKit
set_option maxRecDepth 100000
theorem Gp{P:Program}{W:World}{b n:Nat}(o)(a)(h:Live W b n)(hn:o+a.length<=n)(c:∀v∈a,v.oneCell'=true):(storeCells ⟨b,o,none⟩ a).run P W=.ok () (W.setCells b o a):=by
 grind [Live.some,Live.frozen,run_storeCells_cells]
def Mj:Array Value:=#[.string ⟨#[]⟩,ι 0,υ 0,υ 0,ι 0,ι 0,ι 0,ι 0,.string ⟨#[]⟩,ι 0,υ 0,υ 0,ι 0,ι 0,ι 0,ι 0,.string ⟨#[]⟩,ι 0,υ 0,υ 0,ι 0,ι 0,ι 0,ι 0,.string ⟨#[]⟩,ι 0,υ 0,υ 0,ι 0,ι 0,ι 0,ι 0,ι 0,ι 0]
theorem Tryz.XZ:(Tryz.prog.info? 147).map (·.size)=some Mj.size:=by kernel_rfl
theorem Uj:Mj.all (·.oneCell')=true:=by kernel_rfl
theorem Qb(g o:Nat)(w)(h:Live w g (o+34)):
  Calls Tryz.prog 282 #[(g,o)] w λe w'=>e=.returned (.tuple #[])/\jF w' g o [] 0/\CF w w' (λb y=>b=g/\o<=y/\y<o+34):=by
 have f:Hid (CF w (w.setCells g o Mj.toList) (λb y=>b=g/\o<=y/\y<o+34)):=CF.setCells g _ o w (CF.refl _ _) (λj d _=>⟨rfl,by omega,by have d:j<34:=d;omega⟩)
 have c:=hid (World.rangeAt_setCells_same w g o Mj.toList (h.there o _ (cy _)))
 have a:=hid h
 clear h
 go_enter Tryz.func282,Tryz.ntmps282
 go_wp2_with (refine wpList_store_mid rfl 147 _ _ rfl g o Mj rfl rfl (a.o.there o _ (cy _)) Tryz.XZ Uj ?_)
 go_end0
 exact⟨rfl,⟨a.o.cf f.o,agM,c.o 32 _ rfl,c.o 33 _ rfl,by simp,by decide,λ_=>rfl⟩,f.o⟩
def Mk(ls:List BE)(nx:Nat)(e:BE):List BE:=if ls.length<4 then ls++[e] else ls.set nx e
theorem X3{a:List BE}{b:Nat}{e x:BE}(h:x∈Mk a b e):x∈a\/x=e:=by
 grind [Mk]
set_option maxHeartbeats 2000000
theorem JK(g o m a F s:Nat)(e:BE)(w)(u:Live w g (o+34))(G:w.cell? (g,o+32)=some (ι m))(J:w.cell? (g,o+33)=some (ι a))(hn:a<4)(W:m<=4)(q:min ((m:Int)+1) 4=F)(p:((a:Int)+1) % 4=s):
  Calls Tryz.prog 287 #[(g,o),.agg e.bE.toArray] w λr w'=>r=.returned (.tuple #[])/\w'.rangeAt g (o+a*8) e.bE/\w'.cell? (g,o+32)=some (ι F)/\w'.cell? (g,o+33)=some (ι s)/\CF w w' (λb y=>b=g/\(o+a*8<=y/\y<o+a*8+8\/y=o+32\/y=o+33)):=by
 obtain⟨v0,v1,v2,v3,v4,v5,v6,v7,P,B⟩:=uC e
 clear B
 rw[P]
 obtain⟨k,hW0⟩:=aw (w.alloc (.cells #[.string v0,ι v1,υ v2,υ v3,ι v4,ι v5,ι v6,ι v7] 126))
 have f:w.grownBy k none:=ahE
 have I:k.rangeAt w.heap.size 0 [.string v0,ι v1,υ v2,υ v3,ι v4,ι v5,ι v6,ι v7]:=by rw[hW0];exact aS w #[.string v0,ι v1,υ v2,υ v3,ι v4,ι v5,ι v6,ι v7] _
 obtain⟨x0,x1,x2,x3,x4,x5,x6,x7⟩:=jX I
 have L:=f.cell G agI
 have Q:=f.cell J agI
 have R:w.heap.size≠g:=λe=>by have:=u.lt;omega
 have c:=u.grown f
 have X:=c.frozen (o+a*8)
 have f1:=c.frozen (o+a*8+1)
 have f2:=c.frozen (o+a*8+2)
 have f3:=c.frozen (o+a*8+3)
 have S:=c.frozen (o+a*8+4)
 have f5:=c.frozen (o+a*8+5)
 have f6:=c.frozen (o+a*8+6)
 have f7:=c.frozen (o+a*8+7)
 obtain⟨d0,q0⟩:=cA.1 (c.some (o+a*8) agE)
 obtain⟨U,q1⟩:=cA.1 (c.some (o+a*8+1) agE)
 obtain⟨d2,q2⟩:=cA.1 (c.some (o+a*8+2) agE)
 obtain⟨d3,q3⟩:=cA.1 (c.some (o+a*8+3) agE)
 obtain⟨d4,q4⟩:=cA.1 (c.some (o+a*8+4) agE)
 obtain⟨d5,q5⟩:=cA.1 (c.some (o+a*8+5) agE)
 obtain⟨Z,q6⟩:=cA.1 (c.some (o+a*8+6) agE)
 obtain⟨d7,q7⟩:=cA.1 (c.some (o+a*8+7) agE)
 have N:(a:Int)<4:=agE
 have K:=hid f
 have E:=hid hW0
 have HL:=hid u
 have M:=hid c
 obtain⟨d,i⟩:=aw (k.setCells g (o+a*8) [.string v0,ι v1,υ v2,υ v3,ι v4,ι v5,ι v6,ι v7])
 have C:Hid (d.rangeAt g (o+a*8) [.string v0,ι v1,υ v2,υ v3,ι v4,ι v5,ι v6,ι v7]):=by
  show World.rangeAt _ _ _ _;rw[i];exact World.rangeAt_setCells_same k g (o+a*8) _ (c.there _ _ (by show _+8<=_;omega))
 have h:Hid (CF k d (λb y=>b=g/\o+a*8<=y/\y<o+a*8+8)):=by
  show CF _ _ _;rw[i];exact CF.setCells g _ _ k (CF.refl _ _) (λj l _=>⟨rfl,by omega,by have l:j<8:=l;omega⟩)
 have D:Hid (d.cell? (g,o+32)=some (ι m)/\d.cell? (g,o+33)=some (ι a)):=⟨h.o.cell L (λe=>by omega),h.o.cell Q (λe=>by omega)⟩
 have O:Hid (∀j,d.frozen? ⟨g,j,none⟩=false):=λj=>(c.cf h.o).frozen j
 have t:Hid (∀v,(d.setCell (g,o+33) v).cell? (g,o+32)=some (ι m)):=λv=>by
  rw[World.cell?_setCell_other _ _ _ _ (λe=>by injection e with _ e;omega)];exact D.o.1
 have x:Hid (∀v,CF d (d.setCell (g,o+33) v) (λb y=>b=g/\y=o+33)):=λv=>(CF.refl _ _).setCell g (o+33) _ (λ_=>⟨rfl,rfl⟩)
 have y1:∀v,(d.setCell (g,o+33) v).drew.cell? (g,o+32)=some (ι m):=t.o
 have Y:d.drew.cell? (g,o+33)=some (ι a):=D.o.2
 have V:∀v,(d.setCell (g,o+33) v).drew.frozen? (g,o+32)=false:=λv=>((c.cf h.o).cf (x.o v)).frozen _
 have T:d.drew.frozen? (g,o+33)=false:=O.o _
 have n:=hid i
 have z:=hid q
 have A:=hid p
 clear f I hW0 G J c u i q p
 go_enter Tryz.func287,Tryz.ntmps287
 go_wp2_with (first|(rw[<-E.o];fail_if_success done)|fail)
 go_region
 all_goals
  simp only[World.setCells]at n
  rw[<-n.o]
  go_wp2
  go_end0
  refine⟨rfl,?_,?_,?_,?_⟩
  ·refine CF.range (w:=d) (ex:=λb y=>b=g/\(y=o+32\/y=o+33)) ?_ C.o (λj l e=>by have l:j<8:=l;omega);first
   |exact(((CF.refl _ _).setCell g (o+33) _ (λ_=>⟨rfl,.inr rfl⟩)).setCell g (o+32) _ (λ_=>⟨rfl,.inl rfl⟩)).drew
   |exact(((CF.refl _ _).setCell g (o+33) _ (λ_=>⟨rfl,.inr rfl⟩)).drew.setCell g (o+32) _ (λ_=>⟨rfl,.inl rfl⟩))
  ·rw[<-z.o];exact World.cell?_setCell_same _ _ _ (t.o _)
  ·rw[<-A.o];show((d.setCell (g,o+33) _).setCell (g,o+32) _).cell? _=_;rw[World.cell?_setCell_other _ _ _ _ (λe=>by injection e with _ e;omega)];exact World.cell?_setCell_same _ _ _ D.o.2
  ·have H:=(CF.before K.o h.o).mono (ex':=λb y=>b=g/\(o+a*8<=y/\y<o+a*8+8\/y=o+32\/y=o+33)) (λ_ _ _ e=>⟨e.1,.inl e.2⟩);first
   |exact((H.setCell g (o+33) _ (λ_=>⟨rfl,.inr (.inr rfl)⟩)).setCell g (o+32) _ (λ_=>⟨rfl,.inr (.inl rfl)⟩)).drew
   |exact((H.setCell g (o+33) _ (λ_=>⟨rfl,.inr (.inr rfl)⟩)).drew.setCell g (o+32) _ (λ_=>⟨rfl,.inr (.inl rfl)⟩))
theorem Gr(g o:Nat)(d)(c)(e)(w)(h:jF w g o d c):
  Calls Tryz.prog 287 #[(g,o),.agg e.bE.toArray] w λr w'=>r=.returned (.tuple #[])/\(∃a,jF w' g o (Mk d c e) a)/\CF w w' (λb y=>b=g/\o<=y/\y<o+34):=by
 have s:=h.len
 have hn:=h.nx4
 obtain⟨l,f⟩:∃l:Nat,min ((d.length:Int)+1) 4=l:=⟨(min ((d.length:Int)+1) 4).toNat,by omega⟩
 obtain⟨a,m⟩:∃q:Nat,((c:Int)+1) % 4=q:=⟨(((c:Int)+1) % 4).toNat,by omega⟩
 refine(JK g o d.length c l a e w h.live h.count h.next hn s f m).mono ?_
 rintro r w' ⟨rfl,v,x,t,p⟩
 have i:∀k(i),k≠c->w'.rangeAt g (o+k*8) d[k].bE:=λk i u=>p.range (h.R9 k i) (λj n e=>by have n:j<8:=n;omega)
 refine⟨rfl,⟨a,h.live.cf p,?_,?_,t,?_,by omega,?_⟩,(by grind [CF.mono])⟩
 ·grind [jF.nxl,Mk]
 ·grind [Mk]
 ·grind [Mk]
 grind [jF.nxl,Mk]
variable {dQ:Nat->Nat->Prop}{po:Option Pl}{S:Source}{v:Value}{w:World}
theorem Y4{z:List UInt8}(h:Bs S v z)(f:At w S.1 S.2):∃c cap,v=.slice c z.length cap/\z.length<=cap/\At w c z/\∀b off,c=some ⟨b,off,none⟩->∀j,j<z.length->∃a,S.1=some ⟨b,a,none⟩/\a<=off+j/\off+j<a+S.2.length:=by
 obtain⟨c,cap,m,k,_,_,d⟩:=h;refine⟨c,cap,m,k,d w f,λb off o j g=>Classical.byContradiction λn=>?_⟩;have key:At (w.setCell (b,off+j) (.bool true)) S.1 S.2:=by
  intro i l;obtain⟨B,a,e,t⟩:=f i l;grind [World.cell?_setCell_other]
 obtain⟨y,u,x,q⟩:=d w f j g;obtain⟨s,r,p,A⟩:=d _ key j g;exact agq
def Apart(S:Source)(po:Option Pl)(dQ:Nat->Nat->Prop):Prop:=∀b off,S.1=some ⟨b,off,none⟩->∀j,j<S.2.length->¬ Pl.has po b (off+j)/\¬ dQ b (off+j)
theorem AO{z:List UInt8}(h:Bs S v z)(n:At w S.1 S.2)(i:Apart S po dQ):vW w po dQ z v:=by
 obtain⟨l,cap,k,m,g,p⟩:=Y4 h n;refine⟨l,cap,k,m,g,λb off e j f=>?_⟩;obtain⟨a,d,r,t⟩:=p b off e j f;have:=i b a d (off+j-a) agE;rw[show a+(off+j-a)=off+j from by omega]at this;refine⟨this.1,this.2,?_⟩;obtain⟨s,q,c,o⟩:=g j f;rw[e]at c;injection c with c;injection c with d _ _;subst d;exact jE o
theorem SX(a):(Sw a).pre=if (Cn a).1=[] then none else some (FJ a).1:=by
 grind [Sw]
theorem Y5(a)(h:Bs S v (FJ a).1.2)(e:At w S.1 S.2)(d:Apart S po dQ):SC w po dQ (Sw a) (FJ a).1.1 v:=by
 have b:=SX a;unfold SC;rw[b];generalize (FJ a).1=P at *;generalize (Cn a).1=c at *;clear b;obtain⟨n,z⟩:=P;by_cases f:c=[]
 ·grind
 ·rw[if_neg f];obtain⟨i,cap,g,j,k,l⟩:=AO (z:=z) h e d;grind
theorem QU(a)(v):uG a v=(Sw a).cells (FJ a).1.1 v:=by
 have b:(Sw a).pre.isSome=decide ((Cn a).1≠[]):=by
  grind [SX]
 grind [Sw,FQ.cells,uG]
theorem UY(a)(v u):Av a v u=(rnQ a).cells v u:=by
 grind [Av,NQ.cells,rnQ]
theorem Fin.before{W w':World}{g:Nat}{a dp:Option Pl}{b:Value}{R:List UInt8×DM}(h:Fin W w' g po a dp dQ b R)(k:w.grownBy W none):Fin w w' g po a dp dQ b R:=by
 obtain⟨⟨p',c,d⟩,e,f⟩:=h;exact⟨⟨p',c,d.imp id (λq=>mI q k.size)⟩,e,CF.before k f⟩
set_option maxHeartbeats 4000000
open Proofs.Tryz
theorem acN(a):∃(q:FQ) (b:Int) (z:List UInt8) (ok:Bool) (d:Value->List Value),Sw a=q/\uF a=ok/\(FJ a).1.2=z/\uG a=d/\(∀v,d v=q.cells b v)/\(∀S v w c e,Bs S v z->At w S.1 S.2->Apart S c e->SC w c e q b v)/\In64 q.bU/\In64 q.ma/\In64 q.dI/\In64 q.bW/\In64 q.aO:=by
 with_reducible refine⟨Sw a,(FJ a).1.1,(FJ a).1.2,uF a,uG a,rfl,rfl,rfl,rfl,QU a,(by grind [Y5]),?_⟩
 grind [tZ,Af,Sw]
theorem acO(a):∃(q:NQ) (z u:List UInt8) (ok:Bool) (b:Value->Value->List Value),rnQ a=q/\zN a=ok/\(OP a).1.2=z/\(Yk a).1=u/\Av a=b/\(∀v x,b v x=q.cells v x)/\q.dO=z/\q.proof=u/\In64 q.bU/\In64 q.dI/\In64 q.bW/\In64 q.aO:=by
 with_reducible refine⟨rnQ a,(OP a).1.2,(Yk a).1,zN a,Av a,rfl,rfl,rfl,rfl,rfl,UY a,?_⟩
 grind [tZ,Es,rnQ]
theorem QV(M)(now)(c):dG M now c=if uF c=true then dz M now (firstM M now (Sw c)) else if zN c=true then tO M now (rnQ c) else(aY now 60,M):=by
 unfold dG;rw[Qo,Uy];generalize uF c=a;generalize zN c=b;generalize Sw c=q;generalize rnQ c=q2;cases a<;>cases b<;>rfl
theorem afT{p:Prop}(h:p:=by
 go_ret
 exact⟨_,rfl,by rw[<-HR.o];exact r2⟩):p:=h
theorem JZ(g T:Nat)(m rv ro rr)(l p dp)(J:World->Prop)(r sU:Nat->Nat->Prop)(M)(now)(S)(I)(n)(ao)(cap)(w)(SS:HS (w.heap.size+1) g (w.heap.size+2) T m rv l p dp J r sU M.aG)(hd:dE w g 0 dp M)(hJ:J w)(ho:Out w ro l [])(hr:Out w rr p [])(hn:Hid (I.length=n))(hs:At w S.1 S.2)(hb:Bs S (.slice ao n cap) I)(ha:Apart S l r)(dA:In64 now)(G:In64 M.aA)(Ag:∀y∈M.aJ,In64 y.time):
  Calls prog 95 #[(g,0),.agg #[.iface T m,ro,rr],ι now,.slice ao n cap] w λe w'=>∃a,e=.returned a/\Fin w w' g l p dp r a (dG M now I)/\J w':=by
 rw[QV]
 obtain⟨c,b,ah,_⟩:=vU ho
 obtain⟨d,f,aj,_⟩:=vU hr
 subst ah aj
 obtain⟨A,C⟩:=aw ((w.alloc (.cells #[.iface T m,.slice c 0 b,.slice d 0 f] 217)).alloc (.cells #[.iface T m,.slice c 0 b,.slice d 0 f,(g,0),ι now] 265))
 have G0:w.grownBy A none:=by grind [cx,aM]
 have s0:A.heap.size=w.heap.size+2:=by rw[C,cF,cF]
 have H0:yB A (w.heap.size+1) g T m (.slice c 0 b) (.slice d 0 f) now:=by
  have h:=aS (w.alloc (.cells #[.iface T m,.slice c 0 b,.slice d 0 f] 217)) #[.iface T m,.slice c 0 b,.slice d 0 f,(g,0),ι now] 265;rw[cF,<-C]at h;exact⟨h 0 _ rfl,h 1 _ rfl,h 2 _ rfl,h 3 _ rfl,h 4 _ rfl⟩
 have C1:=hid (Gu S I n ao cap A hn (hs.below G0) hb)
 have C2:=hid (λW (hW:At W S.1 S.2)=>JQ S I n ao cap W hn hW hb)
 obtain⟨q,pn,z,Q,FC,hq,H,hz,Y,f1,f2,i1,i2,i3,i4,i5⟩:=acN I
 obtain⟨nq,nz,nu,Z,NC,ad,s,V,af,X,n1,n2,n3,m1,m2,m3,m4⟩:=acO I
 rw[H,hz,Y]at C1
 simp only[s,V,af,X]at C2
 rw[H,hq,s,ad]
 clear hq H hz Y ad s V af X
 have HQ:Hid (∀W,A.grownBy W none->HS (w.heap.size+1) g (w.heap.size+2) T m rv l p dp J r sU M.aG/\yB W (w.heap.size+1) g T m (.slice c 0 b) (.slice d 0 f) now/\dE W g 0 dp M/\J W/\Out W (.slice c 0 b) l []/\Out W (.slice d 0 f) p []/\At W S.1 S.2/\w.heap.size+2<=W.heap.size/\w.grownBy W none):=by
  intro W k;have t:=aa G0 k;exact⟨SS,H0.grown k,hd.grown t,SS.finds.stay _ _ hJ (CF.bF t _),ho.grown t,hr.grown t,hs.below t,by have:=k.size;omega,t⟩
 have L:Hid (∀(v)(W),A.grownBy W none->Bs S v z->Calls prog 138 #[(w.heap.size+1,0),.agg (FC v).toArray] W λe w'=>∃a,e=.returned a/\Fin w w' g l p dp r a (dz M now (firstM M now q))/\J w'):=by
  intro v W k D;obtain⟨K,q2,q3,q4,q5,q6,q7,q8,q9⟩:=HQ.o W k;rw[f1];refine(BR (w.heap.size+1) g (w.heap.size+2) T m rv _ _ l p dp J r sU M now pn q v W K q2 q3 q4 q5 q6 (f2 S v W l r D q7 ha) dA G i1 i2 i3 i4 i5 q8).mono ?_;grind [Fin.before]
 have B:Hid (∀(v u)(W),A.grownBy W none->Bs S v nz->Bs S u nu->Calls prog 140 #[(w.heap.size+1,0),.agg (NC v u).toArray] W λe w'=>∃a,e=.returned a/\Fin w w' g l p dp r a (tO M now nq)/\J w'):=by
  intro v u W k D hu;obtain⟨K,q2,q3,q4,q5,q6,q7,q8,q9⟩:=HQ.o W k;rw[n1];refine(EI (w.heap.size+1) g (w.heap.size+2) T m rv _ _ l p dp J r sU M now nq v u W K q2 q3 q4 q5 q6 (by grind [AO]) (by grind [AO]) dA G Ag m1 m2 m3 m4 q8).mono ?_;grind [Fin.before]
 have x:Hid (∀(W),A.grownBy W none->Calls prog 141 #[(w.heap.size+1,0),ι 60] W λe w'=>∃a,e=.returned a/\Fin w w' g l p dp r a (aY now 60,M)/\J w'):=by
  intro W k;obtain⟨K,q2,q3,q4,q5,q6,q7,q8,q9⟩:=HQ.o W k;refine(yC (w.heap.size+1) g T m _ _ p now 60 W q2 q6 K.prH dA ⟨by decide,by decide⟩).mono ?_;rintro e w' ⟨a,r1,r2⟩;obtain⟨p',o1,o2,o3,_⟩:=r2;have ab:Fin W w' g l p dp r a (aY now 60,M):=by
   refine⟨⟨p',o1,o3⟩,⟨dp,q3.cf o2 (by grind [HS.prG]) (λq hq j _ e=>((K.MX q hq).2.2.2 _).2.2 e),agM⟩,(by grind [CF.mono])⟩
  exact⟨a,r1,ab.before q9,K.finds.stay _ _ q4 (by grind [HS.prJ,CF.mono])⟩
 have ai:Hid (∀W,A.grownBy W none->At W S.1 S.2):=agR
 obtain⟨R,hR⟩:=aq ((if Q=true then dz M now (firstM M now q) else if Z=true then tO M now nq else(aY now 60,M)))
 rw[hR]
 have HR:=hid hR
 clear hR
 have ae:=hid C
 clear HQ C G0 s0 H0 SS hd hJ ho hr hs hb ha dA G Ag f1 f2 n1 n2 n3 i1 i2 i3 i4 i5 m1 m2 m3 m4 hn
 go_enter func95,ntmps95
 go_wp2_with (first|(rw[<-ae.o];fail_if_success done)|fail)
 refine C1.o.mono ?_
 rintro e E ⟨cs,rfl,O,⟨t,k3⟩,g1⟩
 have L1:Live (E.alloc (.cells vR 269)) E.heap.size 10:=Live.new E vR 269
 have h1:∀v∈cs.toList,v.oneCell'=true:=agM
 have ag:=eF (P:=prog) cs.toList L1 (by rw[cV,t];exact cy _) h1
 have RA:=World.rangeAt_setCells_same (E.alloc (.cells vR 269)) E.heap.size 0 cs.toList (L1.there 0 _ (by rw[cV,t];omega))
 have Iu:=hid (And.intro RA (show(prog.info? 269).map (·.size)=some cs.toList.length by rw[Tryz.IB,cV,t]))
 have kF:=hid (aa g1 (gQ E.heap.size (cy _) cs.toList 0 _ (cx E (.cells vR 269) none)))
 have OJ:=hid O
 clear C1 O k3 g1 ae RA L1 h1
 cases Q with
 |true=>
  obtain⟨v,D,hB⟩:=OJ.o rfl;have N:=hid (L.o v _ kF.o hB);rw[<-D]at N;rw[if_pos rfl]at HR;clear OJ D hB C2 B x L;go_wp2_with (first|(refine wpList_load_mid rfl 269 _ rfl E.heap.size 0 rfl cs.toList _ Iu.o.1 underlying269 rfl Iu.o.2 ?_)|(go_at_call 138;refine N.o.mono ?_;rintro e w' ⟨a,rfl,r2⟩))
  exact afT
 |false=>
  rw[if_neg agF]at HR;have C4:=hid (C2.o _ (ai.o _ kF.o));clear C2 OJ L Iu;go_wp2_with fail;refine C4.o.mono ?_;rintro e w2 ⟨i,rfl,O,⟨F,k3⟩,g2⟩;have L2:Live (w2.alloc (.cells zO 276)) w2.heap.size 9:=Live.new w2 zO 276;have h2:∀v∈i.toList,v.oneCell'=true:=agM;have Y6:=eF (P:=prog) i.toList L2 (by rw[cV,F];exact cy _) h2;have RA:=World.rangeAt_setCells_same (w2.alloc (.cells zO 276)) w2.heap.size 0 i.toList (L2.there 0 _ (by rw[cV,F];omega));have Ui:=hid (And.intro RA (show(prog.info? 276).map (·.size)=some i.toList.length by rw[Tryz.ME,cV,F]));have U:=hid (aa kF.o (aa g2 (gQ w2.heap.size (cy _) i.toList 0 _ (cx w2 (.cells zO 276) none))));have P7:=hid O;clear C4 O k3 g2 kF L2 h2 RA ag;cases Z with
  |true=>
   obtain⟨v,u,D,hB,hU⟩:=P7.o rfl;have N:=hid (B.o v u _ U.o hB hU);rw[<-D]at N;rw[if_pos rfl]at HR;clear P7 D hB hU B x;go_wp2_with (first|(refine wpList_load_mid rfl 276 _ rfl w2.heap.size 0 rfl i.toList _ Ui.o.1 underlying276 rfl Ui.o.2 ?_)|(go_at_call 140;refine N.o.mono ?_;rintro e w' ⟨a,rfl,r2⟩))
   exact afT
  |false=>
   rw[if_neg agF]at HR;have N:=hid (x.o _ U.o);clear P7 B x;go_wp2_with (go_at_call 141;refine N.o.mono ?_;rintro e w' ⟨a,rfl,r2⟩)
   exact afT
theorem dE.KU{w:World}{g o:Nat}{dp:Option Pl}{d:DM}(h:dE w g o dp d){q:Pl}(b:dp=some q):q.g<w.heap.size:=by
 obtain⟨v,_,a⟩:=h.aL;exact a.KU q b
variable {vs:List Int}{b:Nat}{p q:Pc}
theorem Tryz.NB:(prog.info? 43).map (·.size)=some 7:=by kernel_rfl
theorem Tryz.QX:(prog.info? 283).map (·.size)=some 3:=by kernel_rfl
theorem fe(h:Live w b 7)(v0 v1 v2 v3 v4 v5 v6):(((((((w.setCell (b,0) v0).setCell (b,1) v1).setCell (b,2) v2).setCell (b,3) v3).setCell (b,4) v4).setCell (b,5) v5).setCell (b,6) v6).rangeAt b 0 [v0,v1,v2,v3,v4,v5,v6]:=jH [v0,v1,v2,v3,v4,v5,v6] 0 w b 7 h (cy 7)
theorem iE{v0 v1 v2 v3 v4 v5 v6:Value}(h:w.rangeAt b 0 [v0,v1,v2,v3,v4,v5,v6]):(loadVar 43 ⟨b,0,none⟩).run prog w=.ok (.agg #[v0,v1,v2,v3,v4,v5,v6]) w:=eG h 43 _ underlying43 rfl Tryz.NB
theorem oJ{x y z:Value}(h:w.rangeAt b 0 [x,y,z]):(loadVar 283 ⟨b,0,none⟩).run prog w=.ok (.agg #[x,y,z]) w:=eG h 283 _ underlying283 rfl Tryz.QX
theorem jI{base:Nat}{e:TypeId}{size:Nat}{v:Value}{n:Nat}{f:List Value}(h:w.ownsRow base e size v n f)(hn:0<n):∃g c,v=.slice (some ⟨g,0,none⟩) n c/\w.rangeAt g 0 f/\base<=g:=by
 have a:=h.lt;rcases h.2 with⟨i,t⟩|⟨g,l,k,i,s,hg,r,m,o,d⟩
 ·omega
 ·subst i;refine⟨g,l,rfl,λj u hu=>?_,(a g rfl).1⟩;rw[cN];rw[<-d]at hu;have hj:j<n*size:=by
   grind
  exact agp
theorem QY{α:Type}{l:List α}(h:l.length=7):∃a b c d e f g,l=[a,b,c,d,e,f,g]:=by
 match l,h with
 | [a,b,c,d,e,f,g],_=>grind
theorem rG.two(h:rG [p,q] vs):∃a b,vs=[a,b]/\iI p a/\iI q b:=by
 match vs,h with
 | [a,b],h=>exact⟨a,b,rfl,h.1,h.2.1⟩
theorem rG.four{r s:Pc}(h:rG [p,q,r,s] vs):∃a b c d,vs=[a,b,c,d]/\iI p a/\iI q b/\iI r c/\iI s d:=by
 match vs,h with
 | [a,b,c,d],h=>exact⟨a,b,c,d,rfl,h.1,h.2.1,h.2.2.1,h.2.2.2.1⟩
theorem rG.five{r s t:Pc}(h:rG [p,q,r,s,t] vs):∃a b c d e,vs=[a,b,c,d,e]/\iI p a/\iI q b/\iI r c/\iI s d/\iI t e:=by
 match vs,h with
 | [a,b,c,d,e],h=>exact⟨a,b,c,d,e,rfl,h.1,h.2.1,h.2.2.1,h.2.2.2.1,h.2.2.2.2.1⟩
theorem ES(ps)(h:ps.length≠3):tN ps=none:=by
 unfold tN;match ps with
 | []=>rfl
 | [p]=>show(dh p).bind _=none;cases dh p<;>rfl
 | [p,q]=>
  exact aeX
 | [p,q,r]=>exact absurd rfl h
 |p::q::r::s::ps=>
  show(dh p).bind _=none;cases dh p with
  |none=>rfl
  |some n=>
   show(bG q).bind _=none;cases bG q with
   |none=>rfl
   |some z=>show(bG r).bind _=none;cases bG r<;>rfl
theorem QZ{α β:Type}(f:qz->Option α)(k:α->List qz->Option β)(ps)(h:∀a r,k a r=none\/r.length+1≠ps.length):bX f k ps=none:=by
 cases ps with
 |nil=>rfl
 |cons p ps=>
  show(f p).bind _=none;cases f p with
  |none=>rfl
  |some a=>
   grind
theorem Vf{β:Type}(b:β)(ps)(h:ps.length≠0):xB b ps=none:=by
 unfold xB;rw[if_neg (λe=>h (by rw[e];rfl))]
theorem Ca(ps)(h:ps.length≠7):jO ps=none:=by
 unfold jO;grind [Vf,QZ]
theorem Ki(key a)(x)(b off:Nat)(zs)(M cap)(w)(r:1<=x)(u:x<=5)(J:Hid (x=a.toNat))(z:Hid (zs.length=M+16))(T:M<=900)(L:M+16<=cap)(X:cap<=9223372036854775807)(B:At w (some ⟨b,off,none⟩) zs):
  Calls prog 47 #[υ key.toNat,ι x,.slice (some (b,off)) (M+16) cap] w λe w'=>
   (Pure.opens key a zs=true->∃g c,e=.returned (.tuple #[.slice (some ⟨g,8,none⟩) M c,.bool true])/\At w' (some ⟨g,8,none⟩) (Pure.eQ key a zs)/\M<=c/\c<=maxLen)/\
   (Pure.opens key a zs=false->e=.returned (.tuple #[.slice none 0 0,.bool false]))/\w.grownBy w' none:=by
 obtain⟨Q,m,Y,v,V⟩:=info_parts Tryz.info5
 have y:∀w,(Instr.sliceAt 37 (.slice (some (b,off)) (M+16) cap) (some (ι 8)) (some (ι ((M:Int)+16-8))) none).run prog w=.ok (.slice (some (b,off+8)) M (cap-8)) w:=by
  intro w;have h:=yV (P:=prog) 37 5 Q underlying37 m v b off (M+16) cap 8 (M+8) 8 ((M:Int)+16-8) agE agE agE agE agE w;rw[show M+8-8=M from by omega]at h;exact h
 have U:Hid (((zs.drop 8).take M).length=M):=agR
 have H:Hid ((Pure.eQ key a zs).length=M):=by have h:=z.o;show _=_;grind [Pure.kX]
 have HS:Hid ((Pure.fE key a (Pure.kN zs) (Pure.eQ key a zs)).length=M+16):=by show _=_;rw[Pure.dx,H.o]
 have s:M<=1000:=agE
 have C:M+16<=140737488355328:=agE
 go_enter func47,ntmps47
 go_wp2_with fail
 refine(vw (zs.take 8) 8 _ _ _ agR agE (B.take 8)).mono ?_
 rintro e w' ⟨rfl,rfl⟩
 go_wp2_with fail
 refine(vz key a (Pure.kN zs) x ((zs.drop 8).take M) M (some ⟨b,off+8,none⟩) (cap-8) _ ⟨r,u⟩ J U s ahw ((B.drop 8).take _)).mono ?_
 rintro e R ⟨W,rfl,d,q⟩
 obtain⟨g,n,t,Z,ab,K⟩:∃g c,W=.slice (some ⟨g,0,none⟩) (M+16) c/\M+16<=c/\c<=maxLen/\At R (some ⟨g,0,none⟩) (Pure.fE key a (Pure.kN zs) ((zs.drop 8).take M)):=by
  obtain⟨ao,cap,t,h1,h2,_,h4⟩:=iY d;rcases d.2 with⟨l,_⟩|⟨g,O,S,l,_⟩
  ·rw[t]at l;simp at l
  grind
 subst t
 have p:∀w,(Instr.sliceAt 37 (.slice (some (g,0)) (M+16) n) (some (ι 8)) (some (ι ((M:Int)+16-8))) none).run prog w=.ok (.slice (some (g,8)) M (n-8)) w:=by
  intro w;have h:=yV (P:=prog) 37 5 Q underlying37 m v g 0 (M+16) n 8 (M+8) 8 ((M:Int)+16-8) agE agE agE agE agE w;rw[show M+8-8=M from by omega,cN]at h;exact h
 have A:At R (some ⟨g,8,none⟩) (Pure.eQ key a zs):=by
  have h:=(K.drop 8).take M;grind [Pure.aeC,RowKit.Hid.o,Pure.eQ]
 clear d K y
 go_wp2_with fail
 refine(vz key a (Pure.kN zs) x (Pure.eQ key a zs) M (some ⟨g,8,none⟩) (n-8) _ ⟨r,u⟩ J H s ahw A).mono ?_
 rintro e w2 ⟨o2,rfl,f,k⟩
 obtain⟨a2,c2,t,_,_,_,F⟩:=iY f
 subst t
 have D:=aa q k
 have i:=B.below D
 have E:=A.below k
 clear f q k A p
 go_wp2_with fail
 refine(Ah (Pure.fE key a (Pure.kN zs) (Pure.eQ key a zs)) zs (M+16) (M+16) _ _ _ _ _ HS z C F i).mono ?_
 rintro e w3 ⟨rfl,j⟩
 have I:=aa D j
 have xZ:=E.below j
 clear D j E F i
 rw[Pure.O7 key a zs (by rw[z.o];omega)]
 cases N:Pure.opens key a zs
 all_goals
  have G:=hid N
  clear N
  go_wp2
  go_ret2
  first
   |exact⟨λh=>absurd h (by rw[G.o];decide),λ_=>rfl,I⟩
   |exact⟨λ_=>⟨g,n-8,rfl,xZ,by omega,by omega⟩,λh=>absurd h (by rw[G.o];decide),I⟩
theorem xh(key a)(x)(zs)(v)(w)(i:1<=x)(j:x<=5)(s:x=a.toNat)(D:zs.length<=900)(h:vX w v zs):
  Calls prog 47 #[υ key.toNat,ι x,v] w λe w'=>∃o,e=.returned (.tuple #[o,.bool (eP key a zs).isSome])/\(∀l,eP key a zs=some l->Has w' o l/\l.length<=900)/\(eP key a zs=none->o=.slice none 0 0)/\w.grownBy w' none:=by
 obtain⟨r,cap,rfl,k,B,m⟩:=h
 by_cases t:zs.length<16
 ·refine(K8 _ x r zs.length cap w t).mono ?_;grind [cC,eP]
 ·obtain⟨b,off,rfl,_⟩:=m.addr agE;obtain⟨M,p⟩:∃M,zs.length=M+16:=⟨zs.length-16,by omega⟩
  rw[p]at k⊢;refine(Ki key a x b off zs M cap w i j (hid s) (hid p) agE k (by unfold maxLen at B;omega) m).mono ?_;rintro e w' ⟨u,E,A⟩;cases n:Pure.opens key a zs with
  |false=>
   grind [eP]
  |true=>
   have hn:eP key a zs=some (Pure.eQ key a zs):=(by unfold eP;rw[if_pos ⟨by omega,n⟩]);have d:(Pure.eQ key a zs).length=M:=(by grind [Pure.kX]);rw[hn];obtain⟨g,c,q,y,z,C⟩:=u n;refine⟨_,q,λl f=>?_,λh=>(by cases h),A⟩;injection f with f;subst f;refine⟨⟨some ⟨g,8,none⟩,c,by rw[d],by rw[d];exact z,C,λh=>(by cases h),y⟩,by omega⟩
end Go.Proofs.YtlfifnpjeangmaaGreatDoor
