import Derived.Test.YticfhckmhcaigaaGreatDoorGEPNexB
namespace Go.Proofs.YticfhckmhcaigaaGreatDoor
set_option maxHeartbeats 1000000
open Go.RowKit
set_option maxRecDepth 100000
theorem I8{P:Program}{W:World}{b n:Nat}(o)(a)(h:b9 W b n)(e:o+a.length<=n)(d:∀v∈a,v.oneCell'=true):(storeCells ⟨b,o,none⟩ a).run P W=.ok () (W.setCells b o a):=by
 grind [b9.some,b9.frozen,run_storeCells_cells]
def OE:Array Value:=#[ε,Y 0,O 0,O 0,Y 0,Y 0,Y 0,Y 0,ε,Y 0,O 0,O 0,Y 0,Y 0,Y 0,Y 0,ε,Y 0,O 0,O 0,Y 0,Y 0,Y 0,Y 0,ε,Y 0,O 0,O 0,Y 0,Y 0,Y 0,Y 0,Y 0,Y 0]
theorem Tryz.aaG:(Tryz.prog.info? 147).map (·.size)=some OE.size:=by kernel_rfl
theorem WS:OE.all (·.oneCell')=true:=by kernel_rfl
theorem SV(g o)(w)(h:b9 w g (o+34)):Calls Tryz.prog 282 #[N g o] w λe a=>e=.returned (.tuple #[])/\jO a g o [] 0/\CF w a (λb y=>b=g/\o<=y/\y<o+34):=by
 have a:Hid (CF w (w.setCells g o OE.toList) (λb y=>b=g/\o<=y/\y<o+34)):=CF.setCells g _ o w (CF.refl _ _) (λj e _=>⟨rfl,by omega,by have e:j<34:=e;omega⟩)
 have d:=I (World.rangeAt_setCells_same w g o OE.toList (h.there o _ (cA _)))
 have b:=I h
 clear h
 go_enter Tryz.func282,Tryz.ntmps282
 go_wp2_with (refine wpList_store_mid rfl 147 _ _ rfl g o OE rfl rfl (b.there o _ (cA _)) Tryz.aaG WS ?_)
 go_end0
 exact⟨rfl,⟨b.cf a,dT,d 32 _ rfl,d 33 _ rfl,by simp,by decide,λ_=>rfl⟩,a.o⟩
def OG(ls:List BE)(nx:Nat)(e:BE):List BE:=if ls.length<4 then ls++[e] else ls.set nx e
theorem aaH{a:List BE}{b:Nat}{e x:BE}(h:x∈OG a b e):x∈a\/x=e:=by
 grind [OG]
set_option maxHeartbeats 2000000
theorem LX(g o m a X x:Nat)(e:BE)(w)(M:b9 w g (o+34))(V:w.cell? (F g (o+32))=some (Y m))(W:w.cell? (F g (o+33))=some (Y a))(hn:a<4)(hm:m<=4)(t:min ((m:Int)+1) 4=X)(u:((a:Int)+1) % 4=x):Calls Tryz.prog 287 #[N g o,.agg e.bF.toArray] w λr d=>r=.returned (.tuple #[])/\d.rangeAt g (o+a*8) e.bF/\d.cell? (F g (o+32))=some (Y X)/\d.cell? (F g (o+33))=some (Y x)/\CF w d (λb y=>b=g/\(o+a*8<=y/\y<o+a*8+8\/y=o+32\/y=o+33)):=by
 obtain⟨r,A,B,C,D,J,K,L,hv,d⟩:=vF e
 clear d
 rw[hv]
 obtain⟨l,hW0⟩:=aw (w.alloc (.cells #[.string r,Y A,O B,O C,Y D,Y J,Y K,Y L] 126))
 have i:w.grownBy l none:=tB
 have U:l.rangeAt w.1.size 0 [.string r,Y A,O B,O C,Y D,Y J,Y K,Y L]:=by rw[hW0];exact aS w #[.string r,Y A,O B,O C,Y D,Y J,Y K,Y L] _
 obtain⟨x0,x1,x2,x3,x4,x5,x6,x7⟩:=kI U
 have c1:=i.cell V Z
 have c2:=i.cell W Z
 have ae:w.1.size≠g:=λe=>by have:=M.lt;omega
 have d:=M.grown i
 have f0:=d.frozen (o+a*8)
 have f1:=d.frozen (o+a*8+1)
 have f2:=d.frozen (o+a*8+2)
 have f3:=d.frozen (o+a*8+3)
 have f4:=d.frozen (o+a*8+4)
 have f5:=d.frozen (o+a*8+5)
 have f6:=d.frozen (o+a*8+6)
 have f7:=d.frozen (o+a*8+7)
 obtain⟨d0,q0⟩:=cD.1 (d.some (o+a*8) G)
 obtain⟨d1,q1⟩:=cD.1 (d.some (o+a*8+1) G)
 obtain⟨d2,q2⟩:=cD.1 (d.some (o+a*8+2) G)
 obtain⟨d3,q3⟩:=cD.1 (d.some (o+a*8+3) G)
 obtain⟨d4,q4⟩:=cD.1 (d.some (o+a*8+4) G)
 obtain⟨d5,q5⟩:=cD.1 (d.some (o+a*8+5) G)
 obtain⟨d6,q6⟩:=cD.1 (d.some (o+a*8+6) G)
 obtain⟨d7,q7⟩:=cD.1 (d.some (o+a*8+7) G)
 have ad:(a:Int)<4:=G
 have HG:=I i
 have R:=I hW0
 have HL:=I M
 have ab:=I d
 obtain⟨f,k⟩:=aw (l.setCells g (o+a*8) [.string r,Y A,O B,O C,Y D,Y J,Y K,Y L])
 have Q:Hid (f.rangeAt g (o+a*8) [.string r,Y A,O B,O C,Y D,Y J,Y K,Y L]):=by
  show World.rangeAt _ _ _ _;rw[k];exact World.rangeAt_setCells_same l g (o+a*8) _ (d.there _ _ (by show _+8<=_;omega))
 have h:Hid (CF l f (λb y=>b=g/\o+a*8<=y/\y<o+a*8+8)):=by
  show CF _ _ _;rw[k];exact CF.setCells g _ _ l (CF.refl _ _) (λj q _=>⟨rfl,by omega,by have q:j<8:=q;omega⟩)
 have S:Hid (f.cell? (F g (o+32))=some (Y m)/\f.cell? (F g (o+33))=some (Y a)):=⟨h.cell c1 (λe=>by omega),h.cell c2 (λe=>by omega)⟩
 have HF:Hid (∀j,f.frozen? (F g j)=false):=λj=>(d.cf h).frozen j
 have p:Hid (∀v,(f.setCell (F g (o+33)) v).cell? (F g (o+32))=some (Y m)):=λv=>by
  rw[j9 _ _ _ _ (λe=>by injection e with _ e;omega)];exact S.1
 have T:Hid (∀v,CF f (f.setCell (F g (o+33)) v) (λb y=>b=g/\y=o+33)):=λv=>(CF.refl _ _).setCell g (o+33) _ (λ_=>⟨rfl,rfl⟩)
 have y1:∀v,(f.setCell (F g (o+33)) v).drew.cell? (F g (o+32))=some (Y m):=p.o
 have y2:f.drew.cell? (F g (o+33))=some (Y a):=S.2
 have z1:∀v,(f.setCell (F g (o+33)) v).drew.frozen? (F g (o+32))=false:=λv=>((d.cf h).cf (T v)).frozen _
 have z2:f.drew.frozen? (F g (o+33))=false:=HF _
 have n:=I k
 have v:=I t
 have P:=I u
 clear i U hW0 V W d M k t u
 go_enter Tryz.func287,Tryz.ntmps287
 go_wp2_with (first|(rw[<-R];fail_if_success done)|fail)
 go_region
 all_goals
  simp only[World.setCells]at n
  rw[<-n]
  go_wp2
  go_end0
  refine⟨rfl,?_,?_,?_,?_⟩
  .refine CF.range (w:=f) (ex:=λb y=>b=g/\(y=o+32\/y=o+33)) ?_ Q (λj q e=>by have q:j<8:=q;omega);first
   |exact(((CF.refl _ _).setCell g (o+33) _ (λ_=>⟨rfl,.inr rfl⟩)).setCell g (o+32) _ (λ_=>⟨rfl,.inl rfl⟩)).drew
   |exact(((CF.refl _ _).setCell g (o+33) _ (λ_=>⟨rfl,.inr rfl⟩)).drew.setCell g (o+32) _ (λ_=>⟨rfl,.inl rfl⟩))
  .rw[<-v];exact World.cell?_setCell_same _ _ _ (p _)
  .rw[<-P];show((f.setCell (F g (o+33)) _).setCell (F g (o+32)) _).cell? _=_;rw[j9 _ _ _ _ (λe=>by injection e with _ e;omega)];exact World.cell?_setCell_same _ _ _ S.2
  .have d:=(CF.before HG h).mono (ex':=λb y=>b=g/\(o+a*8<=y/\y<o+a*8+8\/y=o+32\/y=o+33)) (λ_ _ _ e=>⟨e.1,.inl e.2⟩);first
   |exact((d.setCell g (o+33) _ (λ_=>⟨rfl,.inr (.inr rfl)⟩)).setCell g (o+32) _ (λ_=>⟨rfl,.inr (.inl rfl)⟩)).drew
   |exact((d.setCell g (o+33) _ (λ_=>⟨rfl,.inr (.inr rfl)⟩)).drew.setCell g (o+32) _ (λ_=>⟨rfl,.inr (.inl rfl)⟩))
theorem I9(g o)(d)(f)(e)(w)(h:jO w g o d f):Calls Tryz.prog 287 #[N g o,.agg e.bF.toArray] w λr i=>r=.returned (.tuple #[])/\(∃a,jO i g o (OG d f e) a)/\CF w i (λb y=>b=g/\o<=y/\y<o+34):=by
 have v:=h.len
 have x:=h.nx4
 obtain⟨p,m⟩:∃p:Nat,min ((d.length:Int)+1) 4=p:=⟨(min ((d.length:Int)+1) 4).toNat,by omega⟩
 obtain⟨a,n⟩:∃B:Nat,((f:Int)+1) % 4=B:=⟨(((f:Int)+1) % 4).toNat,by omega⟩
 refine(LX g o d.length f p a e w h.live h.count h.next x v m n).mono ?_
 rintro r i ⟨rfl,C,D,u,q⟩
 have l:∀k(l),k≠f->i.rangeAt g (o+k*8) d[k].bF:=λk l A=>q.range (h.ent k l) (λj t e=>by have t:j<8:=t;omega)
 refine⟨rfl,⟨a,h.live.cf q,?_,?_,u,?_,by omega,?_⟩,(by grind [CF.mono])⟩
 .grind [jO.nxl,OG]
 .grind [OG]
 .grind [OG]
 grind [jO.nxl,OG]
variable {dS:Nat->Nat->Prop}{po:Option Pl}{S:l'}{v:Value}{w:World}
theorem abO{z:E}(h:Bs S v z)(l:At w S.1 S.2):∃g f,v=.slice g z.length f/\z.length<=f/\At w g z/\∀b d,g=some ⟨b,d,none⟩->∀j,j<z.length->∃a,S.1=some ⟨b,a,none⟩/\a<=d+j/\d+j<a+S.2.length:=by
 obtain⟨g,f,o,p,_,_,k⟩:=h;refine⟨g,f,o,p,k w l,λb d e j n=>Classical.byContradiction λi=>?_⟩;have m:At (w.setCell (F b (d+j)) (.bool true)) S.1 S.2:=by
  intro i b;obtain⟨d,a,e,u⟩:=l i b;grind [j9]
 obtain⟨q,x,t,r⟩:=k w l j n;obtain⟨a,e,d,b⟩:=k _ m j n;exact we
def x'(S:l')(po:Option Pl)(dS:Nat->Nat->Prop):Prop:=∀b off,S.1=some ⟨b,off,none⟩->∀j,j<S.2.length->¬ Pl.has po b (off+j)/\¬ dS b (off+j)
theorem Cc{z:E}(h:Bs S v z)(t:At w S.1 S.2)(q:x' S po dS):xz w po dS z v:=by
 obtain⟨m,g,n,o,k,p⟩:=abO h t;refine⟨m,g,n,o,k,λb d e j l=>?_⟩;obtain⟨a,i,x,y⟩:=p b d e j l;have:=q b a i (d+j-a) G;rw[show a+(d+j-a)=d+j from by omega]at this;refine⟨this.1,this.2,?_⟩;obtain⟨u,A,f,r⟩:=k j l;rw[e]at f;injection f with f;injection f with i _ _;subst i;exact jN r
theorem Vw(a):(Vj a).pre=if (Ea a).1=[] then none else some (IA a).1:=by
 grind [Vj]
theorem abP(a)(h:Bs S v (IA a).1.2)(f:At w S.1 S.2)(d:x' S po dS):Vo w po dS (Vj a) (IA a).1.1 v:=by
 have b:=Vw a;unfold Vo;rw[b];generalize (IA a).1=P at *;generalize (Ea a).1=c at *;clear b;obtain⟨n,z⟩:=P;by_cases e:c=[]
 .grind
 .rw[b' e];obtain⟨g,b,i,j,k,l⟩:=Cc (z:=z) h f d;grind
theorem TY(a)(v):vJ a v=(Vj a).cells (IA a).1.1 v:=by
 have b:(Vj a).pre.isSome=decide ((Ea a).1≠[]):=by
  grind [Vw]
 grind [Vj,FQ.cells,vJ]
theorem XE(a)(v u):BQ a v u=(pP a).cells v u:=by
 grind [BQ,NQ.cells,pP]
theorem Fin.before{W e:World}{g:Nat}{b a:Option Pl}{d:Value}{R:E×DM}(h:Fin W e g po b a dS d R)(k:w.grownBy W none):Fin w e g po b a dS d R:=by
 obtain⟨⟨m,j,l⟩,f,i⟩:=h;exact⟨⟨m,j,l.imp id (λq=>kK q k.size)⟩,f,CF.before k i⟩
set_option maxHeartbeats 4000000
open Proofs.Tryz
theorem S'(a):∃(q:FQ) (d:Int) (z:E) (ok:Bool) (FC:Value->List Value),Vj a=q/\vI a=ok/\(IA a).1.2=z/\vJ a=FC/\(∀v,FC v=q.cells d v)/\(∀S v w e b,Bs S v z->At w S.1 S.2->x' S e b->Vo w e b q d v)/\bT q.bW/\bT q.mG/\bT q.dM/\bT q.bY/\bT q.aR:=by
 with_reducible refine⟨Vj a,(IA a).1.1,(IA a).1.2,vI a,vJ a,rfl,rfl,rfl,rfl,TY a,(by grind [abP]),?_⟩
 grind [uO,Bu,Vj]
theorem S9(a):∃(q:NQ) (z u:E) (ok:Bool) (b:Value->Value->List Value),pP a=q/\AX a=ok/\(Q7 a).1.2=z/\(oY a).1=u/\BQ a=b/\(∀v x,b v x=q.cells v x)/\q.dR=z/\q.proof=u/\bT q.bW/\bT q.dM/\bT q.bY/\bT q.aR:=by
 with_reducible refine⟨pP a,(Q7 a).1.2,(oY a).1,AX a,BQ a,rfl,rfl,rfl,rfl,rfl,XE a,?_⟩
 grind [uO,Gg,pP]
theorem TZ(M)(d)(e):dF M d e=if vI e=true then dD M d (mS M d (Vj e)) else if AX e=true then uJ M d (pP e) else(aY d 60,M):=by
 unfold dF;rw[Tq,Xh];generalize vI e=a;generalize AX e=b;generalize Vj e=q;generalize pP e=q2;cases a<;>cases b<;>rfl
theorem AK{p:Prop}(h:p:=by
 go_ret
 exact⟨_,rfl,by rw[<-HR];exact r2⟩):p:=h
theorem A9(g T)(t rv ro rr)(p x r)(J:World->Prop)(A uo:Nat->Nat->Prop)(M)(a)(S)(X)(n)(ao)(L)(w)(SS:HS (w.1.size+1) g (w.1.size+2) T t rv p x r J A uo M.aC)(hd:bX w g 0 r M)(hJ:J w)(ho:fA w ro p [])(hr:fA w rr x [])(hn:Hid (X.length=n))(hs:At w S.1 S.2)(hb:Bs S (.slice ao n L) X)(ha:x' S p A)(cO:bT a)(ab:bT M.ax)(yo:∀y∈M.aI,bT y.time):Calls prog 95 #[N g 0,.agg #[.iface T t,ro,rr],Y a,.slice ao n L] w λe d=>∃b,e=.returned b/\Fin w d g p x r A b (dF M a X)/\J d:=by
 rw[TZ]
 obtain⟨f,i,ah,_⟩:=xx ho
 obtain⟨l,m,ai,_⟩:=xx hr
 subst ah ai
 obtain⟨K,Q⟩:=aw ((w.alloc (.cells #[.iface T t,.slice f 0 i,.slice l 0 m] 217)).alloc (.cells #[.iface T t,.slice f 0 i,.slice l 0 m,N g 0,Y a] 265))
 have G0:w.grownBy K none:=by grind [cy,aM]
 have s0:K.1.size=w.1.size+2:=by rw[Q,cG,cG]
 have H0:zJ K (w.1.size+1) g T t (.slice f 0 i) (.slice l 0 m) a:=by
  have h:=aS (w.alloc (.cells #[.iface T t,.slice f 0 i,.slice l 0 m] 217)) #[.iface T t,.slice f 0 i,.slice l 0 m,N g 0,Y a] 265;rw[cG,<-Q]at h;exact⟨h 0 _ rfl,h 1 _ rfl,h 2 _ rfl,h 3 _ rfl,h 4 _ rfl⟩
 have C1:=I (Jb S X n ao L K hn (hs.below G0) hb)
 have C2:=I (λW (h:At W S.1 S.2)=>Me S X n ao L W hn h hb)
 obtain⟨q,pn,z,ae,FC,hq,j,D,k,f1,f2,i1,i2,i3,i4,i5⟩:=S' X
 obtain⟨nq,nz,nu,af,NC,v,h,C,B,u,n1,n2,n3,m1,m2,m3,m4⟩:=S9 X
 rw[j,D,k]at C1
 simp only[h,C,B,u]at C2
 rw[j,hq,h,v]
 clear hq j D k v h C B u
 have HQ:Hid (∀W,K.grownBy W none->HS (w.1.size+1) g (w.1.size+2) T t rv p x r J A uo M.aC/\zJ W (w.1.size+1) g T t (.slice f 0 i) (.slice l 0 m) a/\bX W g 0 r M/\J W/\fA W (.slice f 0 i) p []/\fA W (.slice l 0 m) x []/\At W S.1 S.2/\w.1.size+2<=W.1.size/\w.grownBy W none):=by
  intro W k;have B:=aa G0 k;exact⟨SS,H0.grown k,hd.grown B,SS.finds.stay _ _ hJ (CF.bD B _),ho.grown B,hr.grown B,hs.below B,by have:=k.size;omega,B⟩
 have V:Hid (∀(v)(W),K.grownBy W none->Bs S v z->Calls prog 138 #[N (w.1.size+1) 0,.agg (FC v).toArray] W λe d=>∃b,e=.returned b/\Fin w d g p x r A b (dD M a (mS M a q))/\J d):=by
  intro v W k U;obtain⟨h,q2,q3,q4,q5,q6,q7,q8,q9⟩:=HQ W k;rw[f1];refine(DD (w.1.size+1) g (w.1.size+2) T t rv _ _ p x r J A uo M a pn q v W h q2 q3 q4 q5 q6 (f2 S v W p A U q7 ha) cO ab i1 i2 i3 i4 i5 q8).mono ?_;grind [Fin.before]
 have C:Hid (∀(v u)(W),K.grownBy W none->Bs S v nz->Bs S u nu->Calls prog 140 #[N (w.1.size+1) 0,.agg (NC v u).toArray] W λe d=>∃b,e=.returned b/\Fin w d g p x r A b (uJ M a nq)/\J d):=by
  intro v u W k U j;obtain⟨h,q2,q3,q4,q5,q6,q7,q8,q9⟩:=HQ W k;rw[n1];refine(GH (w.1.size+1) g (w.1.size+2) T t rv _ _ p x r J A uo M a nq v u W h q2 q3 q4 q5 q6 (by grind [Cc]) (by grind [Cc]) cO ab yo m1 m2 m3 m4 q8).mono ?_;grind [Fin.before]
 have D:Hid (∀(W),K.grownBy W none->Calls prog 141 #[N (w.1.size+1) 0,Y 60] W λe d=>∃b,e=.returned b/\Fin w d g p x r A b (aY a 60,M)/\J d):=by
  intro W k;obtain⟨h,q2,q3,q4,q5,q6,q7,q8,q9⟩:=HQ W k;refine(zK (w.1.size+1) g T t _ _ x a 60 W q2 q6 h.prH cO ⟨by decide,by decide⟩).mono ?_;rintro e d ⟨b,r1,r2⟩;obtain⟨p',o1,o2,o3,_⟩:=r2;have R:Fin W d g p x r A b (aY a 60,M):=by
   refine⟨⟨p',o1,o3⟩,⟨r,q3.cf o2 (by grind [HS.prG]) (λq hq j _ e=>((h.Po q hq).2.2.2 _).2.2 e),dT⟩,(by grind [CF.mono])⟩
  exact⟨b,r1,R.before q9,h.finds.stay _ _ q4 (by grind [HS.prJ,CF.mono])⟩
 have ag:Hid (∀W,K.grownBy W none->At W S.1 S.2):=kO
 obtain⟨R,h⟩:=aq ((if ae=true then dD M a (mS M a q) else if af=true then uJ M a nq else(aY a 60,M)))
 rw[h]
 have HR:=I h
 clear h
 have h:=I Q
 clear HQ Q G0 s0 H0 SS hd hJ ho hr hs hb ha cO ab yo f1 f2 n1 n2 n3 i1 i2 i3 i4 i5 m1 m2 m3 m4 hn
 go_in
 go_wp2_with (first|(rw[<-h];fail_if_success done)|fail)
 refine C1.mono ?_
 rintro e j ⟨cs,rfl,k1,⟨B,k3⟩,Q⟩
 have k:b9 (j.alloc (.cells xq 269)) j.1.size 10:=b9.new j xq 269
 have W:∀v∈cs.toList,v.oneCell'=true:=dT
 have aj:=dZ (P:=prog) cs.toList k (by rw[cV,B];exact cA _) W
 have RA:=World.rangeAt_setCells_same (j.alloc (.cells xq 269)) j.1.size 0 cs.toList (k.there 0 _ (by rw[cV,B];omega))
 have Dz:=I (cZ RA (show(prog.info? 269).map (·.size)=some cs.toList.length by rw[Tryz.Ke,cV,B]))
 have ku:=I (aa Q (fK j.1.size (cA _) cs.toList 0 _ (cy j (.cells xq 269) none)))
 have Q3:=I k1
 clear C1 k1 k3 Q h RA k W
 cases ae with
 |true=>
  obtain⟨v,U,hB⟩:=Q3 rfl;have Q:=I (V v _ ku hB);rw[<-U]at Q;rw[dQ rfl]at HR;clear Q3 U hB C2 C D V;go_wp2_with (first|(refine wpList_load_mid rfl 269 _ rfl j.1.size 0 rfl cs.toList _ Dz.1 underlying269 rfl Dz.2 ?_)|(go_at_call 138;refine Q.mono ?_;rintro e d ⟨b,rfl,r2⟩))
  exact AK
 |false=>
  rw[b' H]at HR;have C4:=I (C2 _ (ag _ ku));clear C2 Q3 V Dz;go_wp2_with fail;refine C4.mono ?_;rintro e k ⟨h,rfl,k1,⟨W,k3⟩,g2⟩;have L2:b9 (k.alloc (.cells AY 276)) k.1.size 9:=b9.new k AY 276;have h2:∀v∈h.toList,v.oneCell'=true:=dT;have ak:=dZ (P:=prog) h.toList L2 (by rw[cV,W];exact cA _) h2;have RA:=World.rangeAt_setCells_same (k.alloc (.cells AY 276)) k.1.size 0 h.toList (L2.there 0 _ (by rw[cV,W];omega));have E:=I (cZ RA (show(prog.info? 276).map (·.size)=some h.toList.length by rw[Tryz.O5,cV,W]));have ad:=I (aa ku (aa g2 (fK k.1.size (cA _) h.toList 0 _ (cy k (.cells AY 276) none))));have SH:=I k1;clear C4 k1 k3 g2 ku L2 h2 RA aj;cases af with
  |true=>
   obtain⟨v,u,U,hB,hU⟩:=SH rfl;have Q:=I (C v u _ ad hB hU);rw[<-U]at Q;rw[dQ rfl]at HR;clear SH U hB hU C D;go_wp2_with (first|(refine wpList_load_mid rfl 276 _ rfl k.1.size 0 rfl h.toList _ E.1 underlying276 rfl E.2 ?_)|(go_at_call 140;refine Q.mono ?_;rintro e d ⟨b,rfl,r2⟩))
   exact AK
  |false=>
   rw[b' H]at HR;have Q:=I (D _ ad);clear SH C D;go_wp2_with (go_at_call 141;refine Q.mono ?_;rintro e d ⟨b,rfl,r2⟩)
   exact AK
theorem bX.Iw{w:World}{g o:Nat}{a:Option Pl}{d:DM}(h:bX w g o a d){q:Pl}(e:a=some q):q.g<w.1.size:=by
 obtain⟨v,_,b⟩:=h.aL;exact b.Iw q e
variable {vs:List Int}{b:Nat}{p q:Pc}
theorem Tryz.P8:(prog.info? 43).map (·.size)=some 7:=by kernel_rfl
theorem Tryz.Uc:(prog.info? 283).map (·.size)=some 3:=by kernel_rfl
theorem fw(h:b9 w b 7)(a d e f g i j):(((((((w.s b 0 a).s b 1 d).s b 2 e).s b 3 f).s b 4 g).s b 5 i).s b 6 j).rangeAt b 0 [a,d,e,f,g,i,j]:=jQ [a,d,e,f,g,i,j] 0 w b 7 h (cA 7)
theorem iK{a d e f g i j:Value}(h:w.rangeAt b 0 [a,d,e,f,g,i,j]):(loadVar 43 ⟨b,0,none⟩).run prog w=.ok (.agg #[a,d,e,f,g,i,j]) w:=eO h 43 _ underlying43 rfl Tryz.P8
theorem pI{x y z:Value}(h:w.rangeAt b 0 [x,y,z]):(loadVar 283 ⟨b,0,none⟩).run prog w=.ok (.agg #[x,y,z]) w:=eO h 283 _ underlying283 rfl Tryz.Uc
theorem jR{a:Nat}{e:TypeId}{size:Nat}{v:Value}{n:Nat}{i:List Value}(h:w.ownsRow a e size v n i)(r:0<n):∃g c,v = ς g 0 n c/\w.rangeAt g 0 i/\a<=g:=by
 have b:=h.lt;rcases h.2 with⟨f,t⟩|⟨g,k,l,f,q,hg,p,m,o,d⟩
 .omega
 .subst f;refine⟨g,k,rfl,λj u hu=>?_,(b g rfl).1⟩;rw[cR];rw[<-d]at hu;have hj:j<n*size:=by
   grind
  exact Ek
theorem Ud{α:Type}{l:List α}(h:l.length=7):∃a b c d e f g,l=[a,b,c,d,e,f,g]:=by
 match l,h with
 | [a,b,c,d,e,f,g],_=>grind
theorem sN.two(h:sN [p,q] vs):∃a b,vs=[a,b]/\iN p a/\iN q b:=by
 match vs,h with
 | [a,b],h=>exact⟨a,b,rfl,h.1,h.2.1⟩
theorem sN.four{r s:Pc}(h:sN [p,q,r,s] vs):∃a b c d,vs=[a,b,c,d]/\iN p a/\iN q b/\iN r c/\iN s d:=by
 match vs,h with
 | [a,b,c,d],h=>exact⟨a,b,c,d,rfl,h.1,h.2.1,h.2.2.1,h.2.2.2.1⟩
theorem sN.five{r s t:Pc}(h:sN [p,q,r,s,t] vs):∃a b c d e,vs=[a,b,c,d,e]/\iN p a/\iN q b/\iN r c/\iN s d/\iN t e:=by
 match vs,h with
 | [a,b,c,d,e],h=>exact⟨a,b,c,d,e,rfl,h.1,h.2.1,h.2.2.1,h.2.2.2.1,h.2.2.2.2.1⟩
theorem GZ(a)(h:a.length≠3):uI a=none:=by
 unfold uI;match a with
 | []=>rfl
 | [p]=>show(dz p).bind _=none;cases dz p<;>rfl
 | [p,q]=>
  exact ID
 | [p,q,r]=>exact absurd rfl h
 |p::q::r::s::a=>
  show(dz p).bind _=none;cases dz p with
  |none=>rfl
  |some n=>
   show(bG q).bind _=none;cases bG q with
   |none=>rfl
   |some z=>show(bG r).bind _=none;cases bG r<;>rfl
theorem Ue{α β:Type}(f:ry->Option α)(k:α->List ry->Option β)(b)(h:∀a r,k a r=none\/r.length+1≠b.length):bZ f k b=none:=by
 cases b with
 |nil=>rfl
 |cons p b=>
  show(f p).bind _=none;cases f p with
  |none=>rfl
  |some a=>
   grind
theorem XT{β:Type}(b:β)(a)(h:a.length≠0):yK b a=none:=by
 unfold yK;rw[b' (λe=>h (by rw[e];rfl))]
theorem DN(a)(h:a.length≠7):jX a=none:=by
 unfold jX;grind [XT,Ue]
theorem MH(a d)(x)(b off)(f)(M cap)(w)(q:1<=x)(r:x<=5)(K:Hid (x=d.toNat))(u:Hid (f.length=M+16))(T:M<=900)(J:M+16<=cap)(V:cap<=9223372036854775807)(y:At w (some ⟨b,off,none⟩) f):Calls prog 47 #[O (a.toNat:Int),Y x,ς b off (M+16) cap] w λe B=>
   (Pure.opens a d f=true->∃g c,e=.returned (.tuple #[ς g 8 M c,.bool true])/\At B (some ⟨g,8,none⟩) (Pure.dI a d f)/\M<=c/\c<=maxLen)/\
   (Pure.opens a d f=false->e=.returned (.tuple #[σ,.bool false]))/\w.grownBy B none:=by
 obtain⟨i0,hif,W,hz1,X⟩:=info_parts Tryz.info5
 have k:∀w,(Instr.sliceAt 37 (ς b off (M+16) cap) (some (Y 8)) (some (Y ((M:Int)+16-8))) none).run prog w=.ok (ς b (off+8) M (cap-8)) w:=by
  exact J0
 have R:Hid (((f.drop 8).take M).length=M):=kO
 have D:Hid ((Pure.dI a d f).length=M):=by have h:=u.o;show _=_;grind [Pure.jd]
 have HS:Hid ((Pure.eB a d (Pure.iI f) (Pure.dI a d f)).length=M+16):=by show _=_;rw[Pure.bR,D]
 have m:M<=1000:=G
 have v:M+16<=140737488355328:=G
 go_in
 go_wp2_with fail
 refine(tF (f.take 8) 8 _ _ _ kO G (y.take 8)).mono ?_
 rintro e B ⟨rfl,rfl⟩
 go_wp2_with fail
 refine(nH a d (Pure.iI f) x ((f.drop 8).take M) M (some ⟨b,off+8,none⟩) (cap-8) _ ⟨q,r⟩ K R m pH ((y.drop 8).take _)).mono ?_
 rintro e Q ⟨o1,rfl,i,l⟩
 obtain⟨g,c1,p,U,S,t⟩:∃g c,o1 = ς g 0 (M+16) c/\M+16<=c/\c<=maxLen/\At Q (some ⟨g,0,none⟩) (Pure.eB a d (Pure.iI f) ((f.drop 8).take M)):=by
  obtain⟨C,cap,p,L,h2,_,h4⟩:=ig i;rcases i.2 with⟨j,_⟩|⟨g,n,A,j,_⟩
  .rw[p]at j;simp at j
  grind
 subst p
 have n:∀w,(Instr.sliceAt 37 (ς g 0 (M+16) c1) (some (Y 8)) (some (Y ((M:Int)+16-8))) none).run prog w=.ok (ς g 8 M (c1-8)) w:=by
  exact J1
 have A:At Q (some ⟨g,8,none⟩) (Pure.dI a d f):=by
  have h:=(t.drop 8).take M;grind [Pure.Zb,Hid.o,Pure.dI]
 clear i t k
 go_wp2_with fail
 refine(nH a d (Pure.iI f) x (Pure.dI a d f) M (some ⟨g,8,none⟩) (c1-8) _ ⟨q,r⟩ K D m pH A).mono ?_
 rintro e w2 ⟨o2,rfl,i,k⟩
 obtain⟨a2,c2,p,_,_,_,L⟩:=ig i
 subst p
 have t:=aa l k
 have j:=y.below t
 have C:=A.below k
 clear i l k A n
 go_wp2_with fail
 refine(xS (Pure.eB a d (Pure.iI f) (Pure.dI a d f)) f (M+16) (M+16) _ _ _ _ _ HS u v L j).mono ?_
 rintro e w3 ⟨rfl,i⟩
 have k:=aa t i
 have l:=C.below i
 clear t i C L j
 rw[Pure.Et a d f (by rw[u];omega)]
 cases i:Pure.opens a d f
 all_goals
  have HO:=I i
  clear i
  go_wp2
  go_ret2
  first
   |exact⟨λh=>absurd h sy,λ_=>rfl,k⟩
   |exact⟨λ_=>⟨g,c1-8,rfl,l,by omega,by omega⟩,λh=>absurd h sy,k⟩
theorem yw(a d)(x)(f)(v)(w)(m:1<=x)(n:x<=5)(D:x=d.toNat)(S:f.length<=900)(h:xA w v f):Calls prog 47 #[O (a.toNat:Int),Y x,v] w λe p=>∃o,e=.returned (.tuple #[o,.bool (fe a d f).isSome])/\(∀l,fe a d f=some l->gQ p o l/\l.length<=900)/\(fe a d f=none->o = σ)/\w.grownBy p none:=by
 obtain⟨y,k,rfl,q,A,r⟩:=h
 by_cases C:f.length<16
 .refine(Cu _ x y f.length k w C).mono ?_;grind [cC,fe]
 .obtain⟨b,o,rfl,_⟩:=r.addr G;obtain⟨M,t⟩:∃M,f.length=M+16:=⟨f.length-16,by omega⟩
  rw[t]at q⊢;refine(MH a d x b o f M k w m n (I D) (I t) G q (by unfold maxLen at A;omega) r).mono ?_;rintro e p ⟨J,T,K⟩;cases u:Pure.opens a d f with
  |false=>
   grind [fe]
  |true=>
   have B:fe a d f=some (Pure.dI a d f):=(by unfold fe;rw[dQ ⟨by omega,u⟩]);have i:(Pure.dI a d f).length=M:=(by grind [Pure.jd]);rw[B];obtain⟨g,c,L,P,Q,R⟩:=J u;refine⟨_,L,λl j=>?_,λh=>(by cases h),K⟩;injection j with j;subst j;refine⟨⟨some ⟨g,8,none⟩,c,by rw[i],by rw[i];exact Q,R,λh=>(by cases h),P⟩,by omega⟩
