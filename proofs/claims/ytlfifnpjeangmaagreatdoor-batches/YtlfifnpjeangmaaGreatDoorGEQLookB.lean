import Derived.Test.YtlfifnpjeangmaaGreatDoorGEPNexB
namespace Go.Proofs.YtlfifnpjeangmaaGreatDoor
set_option maxHeartbeats 1000000
open Go.RowKit
set_option maxRecDepth 100000
theorem Gt{P:Program}{W:World}{b n:Nat}(o)(a)(h:b' W b n)(e:o+a.length<=n)(d:∀v∈a,v.oneCell'=true):(storeCells ⟨b,o,none⟩ a).run P W=.ok () (W.setCells b o a):=by
 grind [b'.some,b'.frozen,run_storeCells_cells]
def Mr:Array Value:=#[ε,Y 0,H 0,H 0,Y 0,Y 0,Y 0,Y 0,ε,Y 0,H 0,H 0,Y 0,Y 0,Y 0,Y 0,ε,Y 0,H 0,H 0,Y 0,Y 0,Y 0,Y 0,ε,Y 0,H 0,H 0,Y 0,Y 0,Y 0,Y 0,Y 0,Y 0]
theorem Tryz.Ym:(Tryz.prog.info? 147).map (·.size)=some Mr.size:=by kernel_rfl
theorem Uw:Mr.all (·.oneCell')=true:=by kernel_rfl
theorem Ql(g o)(w)(h:b' w g (o+34)):Calls Tryz.prog 282 #[π g o] w λe a=>e=.returned (.tuple #[])/\jG a g o [] 0/\CF w a (λb y=>b=g/\o<=y/\y<o+34):=by
 have a:Hid (CF w (w.setCells g o Mr.toList) (λb y=>b=g/\o<=y/\y<o+34)):=CF.setCells g _ o w (CF.refl _ _) (λj e _=>⟨rfl,by omega,by have e:j<34:=e;omega⟩)
 have d:=I (World.rangeAt_setCells_same w g o Mr.toList (h.there o _ (cy _)))
 have b:=I h
 clear h
 go_enter Tryz.func282,Tryz.ntmps282
 go_wp2_with (refine wpList_store_mid rfl 147 _ _ rfl g o Mr rfl rfl (b.there o _ (cy _)) Tryz.Ym Uw ?_)
 go_end0
 exact⟨rfl,⟨b.cf a,fA,d 32 _ rfl,d 33 _ rfl,by simp,by decide,λ_=>rfl⟩,a.o⟩
def Ms(ls:List BE)(nx:Nat)(e:BE):List BE:=if ls.length<4 then ls++[e] else ls.set nx e
theorem Yn{a:List BE}{b:Nat}{e x:BE}(h:x∈Ms a b e):x∈a\/x=e:=by
 grind [Ms]
set_option maxHeartbeats 2000000
theorem JO(g o m a X x:Nat)(e:BE)(w)(M:b' w g (o+34))(V:w.cell? (F g (o+32))=some (Y m))(W:w.cell? (F g (o+33))=some (Y a))(hn:a<4)(hm:m<=4)(t:min ((m:Int)+1) 4=X)(u:((a:Int)+1) % 4=x):Calls Tryz.prog 287 #[π g o,.agg e.bE.toArray] w λr d=>r=.returned (.tuple #[])/\d.rangeAt g (o+a*8) e.bE/\d.cell? (F g (o+32))=some (Y X)/\d.cell? (F g (o+33))=some (Y x)/\CF w d (λb y=>b=g/\(o+a*8<=y/\y<o+a*8+8\/y=o+32\/y=o+33)):=by
 obtain⟨r,A,B,C,D,J,K,L,hv,d⟩:=uG e
 clear d
 rw[hv]
 obtain⟨l,hW0⟩:=aw (w.alloc (.cells #[.string r,Y A,H B,H C,Y D,Y J,Y K,Y L] 126))
 have i:w.grownBy l none:=tp
 have U:l.rangeAt w.1.size 0 [.string r,Y A,H B,H C,Y D,Y J,Y K,Y L]:=by rw[hW0];exact aS w #[.string r,Y A,H B,H C,Y D,Y J,Y K,Y L] _
 obtain⟨x0,x1,x2,x3,x4,x5,x6,x7⟩:=jY U
 have c1:=i.cell V Z
 have c2:=i.cell W Z
 have ae:w.1.size≠g:=λe=>by have:=M.lt;omega
 have d:=M.grown i
 have f0:=d.frozen (o+a*8)
 have f1:=d.frozen (o+a*8+1)
 have f2:=d.frozen (o+a*8+2)
 have f3:=d.frozen (o+a*8+3)
 have f4:=d.frozen (o+a*8+4)
 have f5:=d.frozen (o+a*8+5)
 have f6:=d.frozen (o+a*8+6)
 have f7:=d.frozen (o+a*8+7)
 obtain⟨d0,q0⟩:=cA.1 (d.some (o+a*8) G)
 obtain⟨d1,q1⟩:=cA.1 (d.some (o+a*8+1) G)
 obtain⟨d2,q2⟩:=cA.1 (d.some (o+a*8+2) G)
 obtain⟨d3,q3⟩:=cA.1 (d.some (o+a*8+3) G)
 obtain⟨d4,q4⟩:=cA.1 (d.some (o+a*8+4) G)
 obtain⟨d5,q5⟩:=cA.1 (d.some (o+a*8+5) G)
 obtain⟨d6,q6⟩:=cA.1 (d.some (o+a*8+6) G)
 obtain⟨d7,q7⟩:=cA.1 (d.some (o+a*8+7) G)
 have ad:(a:Int)<4:=G
 have HG:=I i
 have R:=I hW0
 have HL:=I M
 have ab:=I d
 obtain⟨f,k⟩:=aw (l.setCells g (o+a*8) [.string r,Y A,H B,H C,Y D,Y J,Y K,Y L])
 have Q:Hid (f.rangeAt g (o+a*8) [.string r,Y A,H B,H C,Y D,Y J,Y K,Y L]):=by
  show World.rangeAt _ _ _ _;rw[k];exact World.rangeAt_setCells_same l g (o+a*8) _ (d.there _ _ (by show _+8<=_;omega))
 have h:Hid (CF l f (λb y=>b=g/\o+a*8<=y/\y<o+a*8+8)):=by
  show CF _ _ _;rw[k];exact CF.setCells g _ _ l (CF.refl _ _) (λj q _=>⟨rfl,by omega,by have q:j<8:=q;omega⟩)
 have S:Hid (f.cell? (F g (o+32))=some (Y m)/\f.cell? (F g (o+33))=some (Y a)):=⟨h.cell c1 (λe=>by omega),h.cell c2 (λe=>by omega)⟩
 have HF:Hid (∀j,f.frozen? (F g j)=false):=λj=>(d.cf h).frozen j
 have p:Hid (∀v,(f.setCell (F g (o+33)) v).cell? (F g (o+32))=some (Y m)):=λv=>by
  rw[iA _ _ _ _ (λe=>by injection e with _ e;omega)];exact S.1
 have T:Hid (∀v,CF f (f.setCell (F g (o+33)) v) (λb y=>b=g/\y=o+33)):=λv=>(CF.refl _ _).setCell g (o+33) _ (λ_=>⟨rfl,rfl⟩)
 have y1:∀v,(f.setCell (F g (o+33)) v).drew.cell? (F g (o+32))=some (Y m):=p.o
 have y2:f.drew.cell? (F g (o+33))=some (Y a):=S.2
 have z1:∀v,(f.setCell (F g (o+33)) v).drew.frozen? (F g (o+32))=false:=λv=>((d.cf h).cf (T v)).frozen _
 have z2:f.drew.frozen? (F g (o+33))=false:=HF _
 have n:=I k
 have v:=I t
 have P:=I u
 clear i U hW0 V W d M k t u
 go_enter Tryz.func287,Tryz.ntmps287
 go_wp2_with (first|(rw[<-R];fail_if_success done)|fail)
 go_region
 all_goals
  simp only[World.setCells]at n
  rw[<-n]
  go_wp2
  go_end0
  refine⟨rfl,?_,?_,?_,?_⟩
  .refine CF.range (w:=f) (ex:=λb y=>b=g/\(y=o+32\/y=o+33)) ?_ Q (λj q e=>by have q:j<8:=q;omega);first
   |exact(((CF.refl _ _).setCell g (o+33) _ (λ_=>⟨rfl,.inr rfl⟩)).setCell g (o+32) _ (λ_=>⟨rfl,.inl rfl⟩)).drew
   |exact(((CF.refl _ _).setCell g (o+33) _ (λ_=>⟨rfl,.inr rfl⟩)).drew.setCell g (o+32) _ (λ_=>⟨rfl,.inl rfl⟩))
  .rw[<-v];exact World.cell?_setCell_same _ _ _ (p _)
  .rw[<-P];show((f.setCell (F g (o+33)) _).setCell (F g (o+32)) _).cell? _=_;rw[iA _ _ _ _ (λe=>by injection e with _ e;omega)];exact World.cell?_setCell_same _ _ _ S.2
  .have d:=(CF.before HG h).mono (ex':=λb y=>b=g/\(o+a*8<=y/\y<o+a*8+8\/y=o+32\/y=o+33)) (λ_ _ _ e=>⟨e.1,.inl e.2⟩);first
   |exact((d.setCell g (o+33) _ (λ_=>⟨rfl,.inr (.inr rfl)⟩)).setCell g (o+32) _ (λ_=>⟨rfl,.inr (.inl rfl)⟩)).drew
   |exact((d.setCell g (o+33) _ (λ_=>⟨rfl,.inr (.inr rfl)⟩)).drew.setCell g (o+32) _ (λ_=>⟨rfl,.inr (.inl rfl)⟩))
theorem Gu(g o)(d)(f)(e)(w)(h:jG w g o d f):Calls Tryz.prog 287 #[π g o,.agg e.bE.toArray] w λr i=>r=.returned (.tuple #[])/\(∃a,jG i g o (Ms d f e) a)/\CF w i (λb y=>b=g/\o<=y/\y<o+34):=by
 have v:=h.len
 have x:=h.nx4
 obtain⟨p,m⟩:∃p:Nat,min ((d.length:Int)+1) 4=p:=⟨(min ((d.length:Int)+1) 4).toNat,by omega⟩
 obtain⟨a,n⟩:∃B:Nat,((f:Int)+1) % 4=B:=⟨(((f:Int)+1) % 4).toNat,by omega⟩
 refine(JO g o d.length f p a e w h.live h.count h.next x v m n).mono ?_
 rintro r i ⟨rfl,C,D,u,q⟩
 have l:∀k(l),k≠f->i.rangeAt g (o+k*8) d[k].bE:=λk l A=>q.range (h.Sm k l) (λj t e=>by have t:j<8:=t;omega)
 refine⟨rfl,⟨a,h.live.cf q,?_,?_,u,?_,by omega,?_⟩,(by grind [CF.mono])⟩
 .grind [jG.nxl,Ms]
 .grind [Ms]
 .grind [Ms]
 grind [jG.nxl,Ms]
variable {dQ:Nat->Nat->Prop}{po:Option Pl}{S:lR}{v:Value}{w:World}
theorem Zo{z:E}(h:Bs S v z)(l:At w S.1 S.2):∃g f,v=.slice g z.length f/\z.length<=f/\At w g z/\∀b d,g=some ⟨b,d,none⟩->∀j,j<z.length->∃a,S.1=some ⟨b,a,none⟩/\a<=d+j/\d+j<a+S.2.length:=by
 obtain⟨g,f,o,p,_,_,k⟩:=h;refine⟨g,f,o,p,k w l,λb d e j n=>Classical.byContradiction λi=>?_⟩;have m:At (w.setCell (F b (d+j)) (.bool true)) S.1 S.2:=by
  intro i b;obtain⟨d,a,e,u⟩:=l i b;grind [iA]
 obtain⟨q,x,t,r⟩:=k w l j n;obtain⟨a,e,d,b⟩:=k _ m j n;exact vp
def wN(S:lR)(po:Option Pl)(dQ:Nat->Nat->Prop):Prop:=∀b off,S.1=some ⟨b,off,none⟩->∀j,j<S.2.length->¬ Pl.has po b (off+j)/\¬ dQ b (off+j)
theorem AV{z:E}(h:Bs S v z)(t:At w S.1 S.2)(q:wN S po dQ):wh w po dQ z v:=by
 obtain⟨m,g,n,o,k,p⟩:=Zo h t;refine⟨m,g,n,o,k,λb d e j l=>?_⟩;obtain⟨a,i,x,y⟩:=p b d e j l;have:=q b a i (d+j-a) G;rw[show a+(d+j-a)=d+j from by omega]at this;refine⟨this.1,this.2,?_⟩;obtain⟨u,A,f,r⟩:=k j l;rw[e]at f;injection f with f;injection f with i _ _;subst i;exact jF r
theorem Tj(a):(SH a).pre=if (Cs a).1=[] then none else some (FM a).1:=by
 grind [SH]
theorem Zp(a)(h:Bs S v (FM a).1.2)(f:At w S.1 S.2)(d:wN S po dQ):SV w po dQ (SH a) (FM a).1.1 v:=by
 have b:=Tj a;unfold SV;rw[b];generalize (FM a).1=P at *;generalize (Cs a).1=c at *;clear b;obtain⟨n,z⟩:=P;by_cases e:c=[]
 .grind
 .rw[cZ e];obtain⟨g,b,i,j,k,l⟩:=AV (z:=z) h f d;grind
theorem Q6(a)(v):uK a v=(SH a).cells (FM a).1.1 v:=by
 have b:(SH a).pre.isSome=decide ((Cs a).1≠[]):=by
  grind [Tj]
 grind [SH,FQ.cells,uK]
theorem Ve(a)(v u):AA a v u=(oY a).cells v u:=by
 grind [AA,NQ.cells,oY]
theorem Fin.before{W e:World}{g:Nat}{b a:Option Pl}{d:Value}{R:E×DM}(h:Fin W e g po b a dQ d R)(k:w.grownBy W none):Fin w e g po b a dQ d R:=by
 obtain⟨⟨m,j,l⟩,f,i⟩:=h;exact⟨⟨m,j,l.imp id (λq=>mJ q k.size)⟩,f,CF.before k i⟩
set_option maxHeartbeats 4000000
open Proofs.Tryz
theorem SJ(a):∃(q:FQ) (e:Int) (z:E) (ok:Bool) (b:Value->List Value),SH a=q/\uJ a=ok/\(FM a).1.2=z/\uK a=b/\(∀v,b v=q.cells e v)/\(∀S v w f d,Bs S v z->At w S.1 S.2->wN S f d->SV w f d q e v)/\b9 q.bV/\b9 q.ma/\b9 q.dI/\b9 q.bX/\b9 q.aO:=by
 with_reducible refine⟨SH a,(FM a).1.1,(FM a).1.2,uJ a,uK a,rfl,rfl,rfl,rfl,Q6 a,(by grind [Zp]),?_⟩
 grind [ug,Ah,SH]
theorem S8(a):∃(q:NQ) (z u:E) (ok:Bool) (b:Value->Value->List Value),oY a=q/\zP a=ok/\(O3 a).1.2=z/\(YF a).1=u/\AA a=b/\(∀v x,b v x=q.cells v x)/\q.dO=z/\q.proof=u/\b9 q.bV/\b9 q.dI/\b9 q.bX/\b9 q.aO:=by
 with_reducible refine⟨oY a,(O3 a).1.2,(YF a).1,zP a,AA a,rfl,rfl,rfl,rfl,rfl,Ve a,?_⟩
 grind [ug,Eu,oY]
theorem Q7(M)(d)(e):dG M d e=if uJ e=true then dA M d (mB M d (SH e)) else if zP e=true then tT M d (oY e) else(aY d 60,M):=by
 unfold dG;rw[Qy,UJ];generalize uJ e=a;generalize zP e=b;generalize SH e=q;generalize oY e=q2;cases a<;>cases b<;>rfl
theorem yq{p:Prop}(h:p:=by
 go_ret
 exact⟨_,rfl,by rw[<-HR];exact r2⟩):p:=h
theorem J6(g T)(t rv ro rr)(p x r)(J:World->Prop)(A sW:Nat->Nat->Prop)(M)(a)(S)(X)(n)(ao)(L)(w)(SS:HS (w.1.size+1) g (w.1.size+2) T t rv p x r J A sW M.aF)(hd:dE w g 0 r M)(hJ:J w)(ho:f' w ro p [])(hr:f' w rr x [])(hn:Hid (X.length=n))(hs:At w S.1 S.2)(hb:Bs S (.slice ao n L) X)(ha:wN S p A)(dB:b9 a)(ab:b9 M.aA)(Ai:∀y∈M.aJ,b9 y.time):Calls prog 95 #[π g 0,.agg #[.iface T t,ro,rr],Y a,.slice ao n L] w λe d=>∃b,e=.returned b/\Fin w d g p x r A b (dG M a X)/\J d:=by
 rw[Q7]
 obtain⟨f,i,ah,_⟩:=vY ho
 obtain⟨l,m,ai,_⟩:=vY hr
 subst ah ai
 obtain⟨K,Q⟩:=aw ((w.alloc (.cells #[.iface T t,.slice f 0 i,.slice l 0 m] 217)).alloc (.cells #[.iface T t,.slice f 0 i,.slice l 0 m,π g 0,Y a] 265))
 have G0:w.grownBy K none:=by grind [cx,aM]
 have s0:K.1.size=w.1.size+2:=by rw[Q,cF,cF]
 have H0:yE K (w.1.size+1) g T t (.slice f 0 i) (.slice l 0 m) a:=by
  have h:=aS (w.alloc (.cells #[.iface T t,.slice f 0 i,.slice l 0 m] 217)) #[.iface T t,.slice f 0 i,.slice l 0 m,π g 0,Y a] 265;rw[cF,<-Q]at h;exact⟨h 0 _ rfl,h 1 _ rfl,h 2 _ rfl,h 3 _ rfl,h 4 _ rfl⟩
 have C1:=I (Gy S X n ao L K hn (hs.below G0) hb)
 have C2:=I (λW (h:At W S.1 S.2)=>JV S X n ao L W hn h hb)
 obtain⟨q,pn,z,ae,FC,hq,j,D,k,f1,f2,i1,i2,i3,i4,i5⟩:=SJ X
 obtain⟨nq,nz,nu,af,NC,v,h,C,B,u,n1,n2,n3,m1,m2,m3,m4⟩:=S8 X
 rw[j,D,k]at C1
 simp only[h,C,B,u]at C2
 rw[j,hq,h,v]
 clear hq j D k v h C B u
 have HQ:Hid (∀W,K.grownBy W none->HS (w.1.size+1) g (w.1.size+2) T t rv p x r J A sW M.aF/\yE W (w.1.size+1) g T t (.slice f 0 i) (.slice l 0 m) a/\dE W g 0 r M/\J W/\f' W (.slice f 0 i) p []/\f' W (.slice l 0 m) x []/\At W S.1 S.2/\w.1.size+2<=W.1.size/\w.grownBy W none):=by
  intro W k;have B:=aa G0 k;exact⟨SS,H0.grown k,hd.grown B,SS.finds.stay _ _ hJ (CF.bF B _),ho.grown B,hr.grown B,hs.below B,by have:=k.size;omega,B⟩
 have V:Hid (∀(v)(W),K.grownBy W none->Bs S v z->Calls prog 138 #[π (w.1.size+1) 0,.agg (FC v).toArray] W λe d=>∃b,e=.returned b/\Fin w d g p x r A b (dA M a (mB M a q))/\J d):=by
  intro v W k U;obtain⟨h,q2,q3,q4,q5,q6,q7,q8,q9⟩:=HQ W k;rw[f1];refine(BZ (w.1.size+1) g (w.1.size+2) T t rv _ _ p x r J A sW M a pn q v W h q2 q3 q4 q5 q6 (f2 S v W p A U q7 ha) dB ab i1 i2 i3 i4 i5 q8).mono ?_;grind [Fin.before]
 have C:Hid (∀(v u)(W),K.grownBy W none->Bs S v nz->Bs S u nu->Calls prog 140 #[π (w.1.size+1) 0,.agg (NC v u).toArray] W λe d=>∃b,e=.returned b/\Fin w d g p x r A b (tT M a nq)/\J d):=by
  intro v u W k U j;obtain⟨h,q2,q3,q4,q5,q6,q7,q8,q9⟩:=HQ W k;rw[n1];refine(EK (w.1.size+1) g (w.1.size+2) T t rv _ _ p x r J A sW M a nq v u W h q2 q3 q4 q5 q6 (by grind [AV]) (by grind [AV]) dB ab Ai m1 m2 m3 m4 q8).mono ?_;grind [Fin.before]
 have D:Hid (∀(W),K.grownBy W none->Calls prog 141 #[π (w.1.size+1) 0,Y 60] W λe d=>∃b,e=.returned b/\Fin w d g p x r A b (aY a 60,M)/\J d):=by
  intro W k;obtain⟨h,q2,q3,q4,q5,q6,q7,q8,q9⟩:=HQ W k;refine(yF (w.1.size+1) g T t _ _ x a 60 W q2 q6 h.prH dB ⟨by decide,by decide⟩).mono ?_;rintro e d ⟨b,r1,r2⟩;obtain⟨p',o1,o2,o3,_⟩:=r2;have R:Fin W d g p x r A b (aY a 60,M):=by
   refine⟨⟨p',o1,o3⟩,⟨r,q3.cf o2 (by grind [HS.prG]) (λq hq j _ e=>((h.M6 q hq).2.2.2 _).2.2 e),fA⟩,(by grind [CF.mono])⟩
  exact⟨b,r1,R.before q9,h.finds.stay _ _ q4 (by grind [HS.prJ,CF.mono])⟩
 have ag:Hid (∀W,K.grownBy W none->At W S.1 S.2):=kA
 obtain⟨R,h⟩:=N ((if ae=true then dA M a (mB M a q) else if af=true then tT M a nq else(aY a 60,M)))
 rw[h]
 have HR:=I h
 clear h
 have h:=I Q
 clear HQ Q G0 s0 H0 SS hd hJ ho hr hs hb ha dB ab Ai f1 f2 n1 n2 n3 i1 i2 i3 i4 i5 m1 m2 m3 m4 hn
 go_in
 go_wp2_with (first|(rw[<-h];fail_if_success done)|fail)
 refine C1.mono ?_
 rintro e j ⟨cs,rfl,k1,⟨B,k3⟩,Q⟩
 have k:b' (j.alloc (.cells vV 269)) j.1.size 10:=b'.new j vV 269
 have W:∀v∈cs.toList,v.oneCell'=true:=fA
 have aj:=eH (P:=prog) cs.toList k (by rw[cV,B];exact cy _) W
 have RA:=World.rangeAt_setCells_same (j.alloc (.cells vV 269)) j.1.size 0 cs.toList (k.there 0 _ (by rw[cV,B];omega))
 have Iz:=I (dN RA (show(prog.info? 269).map (·.size)=some cs.toList.length by rw[Tryz.IG,cV,B]))
 have kG:=I (aa Q (gT j.1.size (cy _) cs.toList 0 _ (cx j (.cells vV 269) none)))
 have OV:=I k1
 clear C1 k1 k3 Q h RA k W
 cases ae with
 |true=>
  obtain⟨v,U,hB⟩:=OV rfl;have Q:=I (V v _ kG hB);rw[<-U]at Q;rw[dT rfl]at HR;clear OV U hB C2 C D V;go_wp2_with (first|(refine wpList_load_mid rfl 269 _ rfl j.1.size 0 rfl cs.toList _ Iz.1 underlying269 rfl Iz.2 ?_)|(go_at_call 138;refine Q.mono ?_;rintro e d ⟨b,rfl,r2⟩))
  exact yq
 |false=>
  rw[cZ O]at HR;have C4:=I (C2 _ (ag _ kG));clear C2 OV V Iz;go_wp2_with fail;refine C4.mono ?_;rintro e k ⟨h,rfl,k1,⟨W,k3⟩,g2⟩;have L2:b' (k.alloc (.cells zQ 276)) k.1.size 9:=b'.new k zQ 276;have h2:∀v∈h.toList,v.oneCell'=true:=fA;have Zq:=eH (P:=prog) h.toList L2 (by rw[cV,W];exact cy _) h2;have RA:=World.rangeAt_setCells_same (k.alloc (.cells zQ 276)) k.1.size 0 h.toList (L2.there 0 _ (by rw[cV,W];omega));have Uv:=I (dN RA (show(prog.info? 276).map (·.size)=some h.toList.length by rw[Tryz.ML,cV,W]));have ad:=I (aa kG (aa g2 (gT k.1.size (cy _) h.toList 0 _ (cx k (.cells zQ 276) none))));have Qh:=I k1;clear C4 k1 k3 g2 kG L2 h2 RA aj;cases af with
  |true=>
   obtain⟨v,u,U,hB,hU⟩:=Qh rfl;have Q:=I (C v u _ ad hB hU);rw[<-U]at Q;rw[dT rfl]at HR;clear Qh U hB hU C D;go_wp2_with (first|(refine wpList_load_mid rfl 276 _ rfl k.1.size 0 rfl h.toList _ Uv.1 underlying276 rfl Uv.2 ?_)|(go_at_call 140;refine Q.mono ?_;rintro e d ⟨b,rfl,r2⟩))
   exact yq
  |false=>
   rw[cZ O]at HR;have Q:=I (D _ ad);clear Qh C D;go_wp2_with (go_at_call 141;refine Q.mono ?_;rintro e d ⟨b,rfl,r2⟩)
   exact yq
theorem dE.K8{w:World}{g o:Nat}{a:Option Pl}{d:DM}(h:dE w g o a d){q:Pl}(e:a=some q):q.g<w.1.size:=by
 obtain⟨v,_,b⟩:=h.aL;exact b.K8 q e
variable {vs:List Int}{b:Nat}{p q:Pc}
theorem Tryz.NJ:(prog.info? 43).map (·.size)=some 7:=by kernel_rfl
theorem Tryz.Q9:(prog.info? 283).map (·.size)=some 3:=by kernel_rfl
theorem fq(h:b' w b 7)(a d e f g i j):(((((((w.s b 0 a).s b 1 d).s b 2 e).s b 3 f).s b 4 g).s b 5 i).s b 6 j).rangeAt b 0 [a,d,e,f,g,i,j]:=jI [a,d,e,f,g,i,j] 0 w b 7 h (cy 7)
theorem iF{a d e f g i j:Value}(h:w.rangeAt b 0 [a,d,e,f,g,i,j]):(loadVar 43 ⟨b,0,none⟩).run prog w=.ok (.agg #[a,d,e,f,g,i,j]) w:=eP h 43 _ underlying43 rfl Tryz.NJ
theorem oL{x y z:Value}(h:w.rangeAt b 0 [x,y,z]):(loadVar 283 ⟨b,0,none⟩).run prog w=.ok (.agg #[x,y,z]) w:=eP h 283 _ underlying283 rfl Tryz.Q9
theorem jJ{a:Nat}{e:TypeId}{size:Nat}{v:Value}{n:Nat}{i:List Value}(h:w.ownsRow a e size v n i)(r:0<n):∃g c,v = ς g 0 n c/\w.rangeAt g 0 i/\a<=g:=by
 have b:=h.lt;rcases h.2 with⟨f,t⟩|⟨g,k,l,f,q,hg,p,m,o,d⟩
 .omega
 .subst f;refine⟨g,k,rfl,λj u hu=>?_,(b g rfl).1⟩;rw[cN];rw[<-d]at hu;have hj:j<n*size:=by
   grind
  exact DH
theorem Ra{α:Type}{l:List α}(h:l.length=7):∃a b c d e f g,l=[a,b,c,d,e,f,g]:=by
 match l,h with
 | [a,b,c,d,e,f,g],_=>grind
theorem rJ.two(h:rJ [p,q] vs):∃a b,vs=[a,b]/\iI p a/\iI q b:=by
 match vs,h with
 | [a,b],h=>exact⟨a,b,rfl,h.1,h.2.1⟩
theorem rJ.four{r s:Pc}(h:rJ [p,q,r,s] vs):∃a b c d,vs=[a,b,c,d]/\iI p a/\iI q b/\iI r c/\iI s d:=by
 match vs,h with
 | [a,b,c,d],h=>exact⟨a,b,c,d,rfl,h.1,h.2.1,h.2.2.1,h.2.2.2.1⟩
theorem rJ.five{r s t:Pc}(h:rJ [p,q,r,s,t] vs):∃a b c d e,vs=[a,b,c,d,e]/\iI p a/\iI q b/\iI r c/\iI s d/\iI t e:=by
 match vs,h with
 | [a,b,c,d,e],h=>exact⟨a,b,c,d,e,rfl,h.1,h.2.1,h.2.2.1,h.2.2.2.1,h.2.2.2.2.1⟩
theorem EU(a)(h:a.length≠3):tQ a=none:=by
 unfold tQ;match a with
 | []=>rfl
 | [p]=>show(dm p).bind _=none;cases dm p<;>rfl
 | [p,q]=>
  exact E4
 | [p,q,r]=>exact absurd rfl h
 |p::q::r::s::a=>
  show(dm p).bind _=none;cases dm p with
  |none=>rfl
  |some n=>
   show(bG q).bind _=none;cases bG q with
   |none=>rfl
   |some z=>show(bG r).bind _=none;cases bG r<;>rfl
theorem Rb{α β:Type}(f:qG->Option α)(k:α->List qG->Option β)(b)(h:∀a r,k a r=none\/r.length+1≠b.length):bY f k b=none:=by
 cases b with
 |nil=>rfl
 |cons p b=>
  show(f p).bind _=none;cases f p with
  |none=>rfl
  |some a=>
   grind
theorem Vq{β:Type}(b:β)(a)(h:a.length≠0):xE b a=none:=by
 unfold xE;rw[cZ (λe=>h (by rw[e];rfl))]
theorem Cf(a)(h:a.length≠7):jP a=none:=by
 unfold jP;grind [Vq,Rb]
theorem Km(a d)(x)(b k)(f)(M i)(w)(v:1<=x)(y:x<=5)(T:Hid (x=d.toNat))(C:Hid (f.length=M+16))(ab:M<=900)(S:M+16<=i)(af:i<=9223372036854775807)(J:At w (some ⟨b,k,none⟩) f):Calls prog 47 #[H (a.toNat:Int),Y x,ς b k (M+16) i] w λe L=>
   (Pure.opens a d f=true->∃g c,e=.returned (.tuple #[ς g 8 M c,.bool true])/\At L (some ⟨g,8,none⟩) (Pure.eO a d f)/\M<=c/\c<=maxLen)/\
   (Pure.opens a d f=false->e=.returned (.tuple #[σ,.bool false]))/\w.grownBy L none:=by
 obtain⟨U,q,ag,A,ah⟩:=info_parts Tryz.info5
 have m:∀w,(Instr.sliceAt 37 (ς b k (M+16) i) (some (Y 8)) (some (Y ((M:Int)+16-8))) none).run prog w=.ok (ς b (k+8) M (i-8)) w:=by
  intro w;have h:=yY (P:=prog) 37 5 U underlying37 q A b k (M+16) i 8 (M+8) 8 ((M:Int)+16-8) G G G G G w;rw[show M+8-8=M from by omega]at h;exact h
 have X:Hid (((f.drop 8).take M).length=M):=kA
 have R:Hid ((Pure.eO a d f).length=M):=by have h:=C.o;show _=_;grind [Pure.kY]
 have HS:Hid ((Pure.dY a d (Pure.je f) (Pure.eO a d f)).length=M+16):=by show _=_;rw[Pure.dh,R]
 have r:M<=1000:=G
 have D:M+16<=140737488355328:=G
 go_in
 go_wp2_with fail
 refine(vD (f.take 8) 8 _ _ _ kA G (J.take 8)).mono ?_
 rintro e L ⟨rfl,rfl⟩
 go_wp2_with fail
 refine(vE a d (Pure.je f) x ((f.drop 8).take M) M (some ⟨b,k+8,none⟩) (i-8) _ ⟨v,y⟩ T X r qC ((J.drop 8).take _)).mono ?_
 rintro e W ⟨o1,rfl,j,p⟩
 obtain⟨g,n,u,ae,ad,B⟩:∃g c,o1 = ς g 0 (M+16) c/\M+16<=c/\c<=maxLen/\At W (some ⟨g,0,none⟩) (Pure.dY a d (Pure.je f) ((f.drop 8).take M)):=by
  obtain⟨Q,i,u,V,h2,_,h4⟩:=iZ j;rcases j.2 with⟨l,_⟩|⟨g,t,K,l,_⟩
  .rw[u]at l;simp at l
  grind
 subst u
 have t:∀w,(Instr.sliceAt 37 (ς g 0 (M+16) n) (some (Y 8)) (some (Y ((M:Int)+16-8))) none).run prog w=.ok (ς g 8 M (n-8)) w:=by
  intro w;have h:=yY (P:=prog) 37 5 U underlying37 q A g 0 (M+16) n 8 (M+8) 8 ((M:Int)+16-8) G G G G G w;rw[show M+8-8=M from by omega,cN]at h;exact h
 have K:At W (some ⟨g,8,none⟩) (Pure.eO a d f):=by
  have h:=(B.drop 8).take M;grind [Pure.Pj,Hid.o,Pure.eO]
 clear j B m
 go_wp2_with fail
 refine(vE a d (Pure.je f) x (Pure.eO a d f) M (some ⟨g,8,none⟩) (n-8) _ ⟨v,y⟩ T R r qC K).mono ?_
 rintro e w2 ⟨o2,rfl,j,m⟩
 obtain⟨a2,c2,u,_,_,_,V⟩:=iZ j
 subst u
 have B:=aa p m
 have l:=J.below B
 have Q:=K.below m
 clear j p m K t
 go_wp2_with fail
 refine(Al (Pure.dY a d (Pure.je f) (Pure.eO a d f)) f (M+16) (M+16) _ _ _ _ _ HS C D V l).mono ?_
 rintro e w3 ⟨rfl,j⟩
 have m:=aa B j
 have p:=Q.below j
 clear B j Q V l
 rw[Pure.Pk a d f (by rw[C];omega)]
 cases l:Pure.opens a d f
 all_goals
  have j:=I l
  clear l
  go_wp2
  go_ret2
  first
   |exact⟨λh=>absurd h (by rw[j];decide),λ_=>rfl,m⟩
   |exact⟨λ_=>⟨g,n-8,rfl,p,by omega,by omega⟩,λh=>absurd h (by rw[j.o];decide),m⟩
theorem xu(a d)(x)(f)(v)(w)(m:1<=x)(n:x<=5)(D:x=d.toNat)(S:f.length<=900)(h:wm w v f):Calls prog 47 #[H (a.toNat:Int),Y x,v] w λe p=>∃o,e=.returned (.tuple #[o,.bool (eX a d f).isSome])/\(∀l,eX a d f=some l->gN p o l/\l.length<=900)/\(eX a d f=none->o = σ)/\w.grownBy p none:=by
 obtain⟨y,k,rfl,q,A,r⟩:=h
 by_cases C:f.length<16
 .refine(Lf _ x y f.length k w C).mono ?_;grind [cC,eX]
 .obtain⟨b,o,rfl,_⟩:=r.addr G;obtain⟨M,t⟩:∃M,f.length=M+16:=⟨f.length-16,by omega⟩
  rw[t]at q⊢;refine(Km a d x b o f M k w m n (I D) (I t) G q (by unfold maxLen at A;omega) r).mono ?_;rintro e p ⟨J,T,K⟩;cases u:Pure.opens a d f with
  |false=>
   grind [eX]
  |true=>
   have B:eX a d f=some (Pure.eO a d f):=(by unfold eX;rw[dT ⟨by omega,u⟩]);have i:(Pure.eO a d f).length=M:=(by grind [Pure.kY]);rw[B];obtain⟨g,c,L,P,Q,R⟩:=J u;refine⟨_,L,λl j=>?_,λh=>(by cases h),K⟩;injection j with j;subst j;refine⟨⟨some ⟨g,8,none⟩,c,by rw[i],by rw[i];exact Q,R,λh=>(by cases h),P⟩,by omega⟩
