import Derived.Test.YtlfifnpjeangmaaGreatDoorGEMem
import Derived.Test.YtlfifnpjeangmaaGreatDoorGEBase
import Derived.Lib.AppendZerosOnto
import Derived.Shelf.Spec.SlicesInsert
namespace Go.Proofs.YtlfifnpjeangmaaGreatDoor
set_option maxHeartbeats 1000000
open Proofs.Tryz Go.RowKit
set_option maxRecDepth 100000
variable {p:Prop}
theorem gJ(h:p:=by kernel_rfl):p:=h
theorem kA(h:p:=by grind [Hid.o]):p:=h
theorem oE(h:p:=by rw[IntKind.wrap_i64];omega):p:=h
theorem mN(h:p:=by rw[cJ];omega):p:=h
theorem ux(h:p:=by simp[Act.eval,Act.put]):p:=h
variable {cs ds:List Value}{b:Nat}{w:World}
theorem qy{o:Nat}(h:w.rangeAt b o cs)(k:w.rangeAt b (o+cs.length) ds):w.rangeAt b o (cs++ds):=by
 intro j u a;by_cases d:j<cs.length
 .rw[cW d]at a;exact h j u a
 .rw[cY G]at a;have:=k (j-cs.length) u a;grind
theorem xZ{o:Nat}(h:w.rangeAt b o (cs++ds)):w.rangeAt b o cs:=λj u a=>h j u fA
theorem rY{o:Nat}(h:w.rangeAt b o (cs++ds)):w.rangeAt b (o+cs.length) ds:=λj u a=>by
 have:=h (cs.length+j) u fA
 grind
theorem yf{P:Program}(w){d:Array Oper}{b:List Oper}{o:Oper}{a:Act}{Q:Exit->Act->World->Prop}(e:o.guard=none)(s x)(t f)(k:o.op=.call {callee:=.builtin .append,args:=#[s,x],argTypes:=#[t,f]})(v u)(m:a.eval s=v)(n:a.eval x=u){g:Value}{i:World}(l:(Builtin.append_ #[t,f] o.type #[v,u]).run P w=.ok g i)(h:wpList P d Q b (a.put o.dst g) i):wpList P d Q (o::b) a w:=by
 refine wpList_plain e λK j=>?_
 unfold Oper.wp execOp
 simp only[k,resolve,invoke,builtin,Sem.run_bind,Sem.run_pure,Result.andThen_ok,List.map_toArray,eE,fy,m,n,l]
 exact j _ _ h
theorem Pn(v)(p)(A d)(n)(i:Int)(q a m x)(w)(u:f' w v p A)(t:Hid (A.length=n))(D:i=n)(r:Hid (d.length=m))(K:0<m)(h:w.rangeAt q a (d.map U8))(S:n+m<=1000000):Calls prog 123 #[v,Y i,ς q a m x] w λe f=>∃b,e=.returned b/\aU w f b p (A++d):=by
 subst D
 obtain⟨M,f,k,l,o⟩:=info_parts Tryz.info5
 obtain⟨Q,y,j,B,C,e,g⟩:=u.open t
 have b:=sN (P:=prog) (w:=w) underlying37 (some ⟨q,a,none⟩) m x d r (At.vB h)
 subst j
 have L:((m:Int)==0)=false:=fA
 have J:((n:Int)==(n:Int))=true:=Z
 clear e g
 go_in
 go_wp2_with (at_builtin;refine dK _ rfl _ _ 37 37 rfl 5 M underlying37 f k l o _ _ p A d rfl rfl u m b (by rw[t,r];omega) ?_;intro e g R)
 all_goals
  go_wp2
  go_ret
  exact⟨e,rfl,R⟩
theorem K9(g a f)(A B r:E)(i n)(ii:Int)(p d m X)(w)(S:f<=maxLen)(y:b' w g (a+f))(hr:w.rangeAt g a ((A++B).map U8))(hi:Hid (A.length=i))(af:ii=i)(hn:Hid ((A++B).length=n))(bf:i<n)(hm:Hid (r.length=m))(bk:0<m)(aj:b' w p (d+m))(ak:w.rangeAt p d (r.map U8))(ag:p≠g)(ai:n+m<=f):Calls prog 123 #[ς g a n f,Y ii,ς p d m X] w λe h=>e=.returned (ς g a (n+m) f)/\h.rangeAt g a ((A++r++B).map U8)/\CF w h (λb o=>b=g/\a<=o/\o<a+f):=by
 subst af
 have bb:f<=9223372036854775807:=by unfold maxLen at S;exact S
 have bl:((m:Int)==0)=false:=fA
 have bc:((i:Int)==(n:Int))=false:=fA
 have P:B.length=n-i:=kA
 have HB:=I P
 obtain⟨ab,tV,k,ad⟩:=aj
 obtain⟨J,tG,v,Q⟩:=y
 obtain⟨i0,U,al,V,an⟩:=info_parts Tryz.info5
 have h:(prog.info? 5).map (·.size)=some 1:=by rw[U];simp[V]
 have bn:IntKind.i64.wrap ((i:Int)+(m:Int))=(i:Int)+(m:Int):=oE
 have au:(0:Int)<=(i:Int)+(m:Int):=G
 have ao:i<=n:=G
 have bm:((i:Int)+(m:Int)).toNat=i+m:=G
 have av:¬ (f=i+m):=G
 have ay:(i:Int)<=(n:Int)+(m:Int):=G
 have ba:¬ (f=i):=G
 have y:b' w g (a+f):=⟨J,tG,v,Q⟩
 have ah:∀l j,(callFunc 151 #[ς p d m X,ς g (a+(i+m)) l j]).run prog w=.ok (.value (.bool false)) w:=λl j=>by
  rw[run_callFunc_extern func151 gJ gJ gJ (e:=Extern.SlicesOverlaps.overlaps #[37,37] #[4]) gJ,
   Lib.run_overlaps_apart w 37 4 5 underlying37 1 sizeOf5 ⟨p,d,none⟩ ⟨g,a+(i+m),none⟩ m X l j ag tV tG ab.size J.size (by simp[World.shape?,k]) (by simp[World.shape?,v]) G (by simp[World.frozen?,k]) (by simp[World.frozen?,k])]
  rfl
 have q:∀C t j,(Builtin.copy_ #[37,37] C #[ς g (a+(i+m)) (n+m-(i+m)) t,ς g (a+i) (n+m-i) j]).run prog w.drew=.ok (goInt (B.map U8).length) (w.drew.setCells g (a+(i+m)) (B.map U8)):=λC t j=>
  run_copy_cells w.drew _ _ C 5 g (a+(i+m)) (n+m-(i+m)) t ⟨g,a+i,none⟩ (n+m-i) j (B.map U8) underlying37 h (by rw[cR,HB];simp only[Nat.min_def];split<;>omega)
   (λj u hu=>by
    rw[Addr.add_lit,gi]
    exact hr (i+j) u (by rw[ef,cY (by rw[cR,hi];omega),cR,hi.o,show i+j-i=j from by omega];exact hu))
   (λj l=>by rw[gi];exact y.some _ (by rw[cR,HB]at l;omega)) (λj _=>y.frozen _) (oW B)
 obtain⟨D,l⟩:=aw (w.drew.setCells g (a+(i+m)) (B.map U8))
 have F1:CF w D (λb o=>b=g/\a<=o/\o<a+f):=by
  grind [CF.setCells,CF.drew,CF.refl]
 have M:D.rangeAt g (a+(i+m)) (B.map U8):=by
  rw[l];exact World.rangeAt_setCells_same _ _ _ _ (y.drew.there _ _ fA)
 have L:D.rangeAt g a (A.map U8):=by
  rw[l];refine World.rangeAt_setCells_apart (λj u hu=>?_) _ _ _ kA;exact hr j u fA
 have K:D.rangeAt p d (r.map U8):=(by grind [CF.range])
 have R:=y.cf F1
 have T:∀(W),(∀x,W.cell? x=D.cell? x)->(∀x,W.frozen? x=D.frozen? x)->∀C t,(Builtin.copy_ #[37,37] C #[ς g (a+i) (n+m-i) t,ς p d m X]).run prog W=.ok (goInt (r.map U8).length) (W.setCells g (a+i) (r.map U8)):=λW ae ar C t=>
  run_copy_cells W _ _ C 5 g (a+i) (n+m-i) t ⟨p,d,none⟩ m X (r.map U8) underlying37 h (by rw[cR,hm];simp only[Nat.min_def];split<;>omega)
   (λj u hu=>by rw[Addr.add_lit,ae];exact K j u hu) (by grind [Hid.o,b'.some]) (by grind [b'.frozen]) (oW r)
 rw[<-l]at q
 have u:=I F1
 have j:=I L
 have t:=I M
 have x:=I R
 clear l F1 M L K R hr ak k ad v Q y P h U al V an
 go_in
 go_wp2_with (simp only[ah])
 go_region_law (refine step_copy_runI rfl _ _ 37 37 rfl _ _ ux ux (q _ _ _) ?_)
 go_wp2_with (at_builtin;refine wpList_copy_runI _ rfl _ _ 37 37 rfl _ _ rfl rfl (T _ (λ_=>rfl) (λ_=>rfl) _ _) ?_)
 go_ret
 refine⟨rfl,?_,?_⟩
 .grind [qy,World.rangeAt_setCells_apart,Hid.o,b'.there,World.rangeAt_setCells_same]
 grind [Hid.o,CF.setCells]
theorem La(g d a)(A B p:E)(i n)(ii:Int)(vb f m vc)(w)(af:a<=maxLen)(ay:n<=a)(an:g<w.1.size)(hr:w.rangeAt g d ((A++B).map U8))(K:Hid (A.length=i))(aj:ii=i)(hn:Hid ((A++B).length=n))(ar:i<n)(hm:Hid (p.length=m))(au:0<m)(ah:w.rangeAt vb f (p.map U8))(ak:a<n+m)(hl:n+m<=1000000):Calls prog 123 #[ς g d n a,Y ii,ς vb f m vc] w λe h=>∃b,e=.returned (ς w.1.size 0 (n+m) b)/\n+m<=b/\b<=maxLen/\b' h w.1.size b/\h.rangeAt w.1.size 0 ((A++p++B).map U8)/\w.grownBy h none:=by
 subst aj
 have al:a<=9223372036854775807:=by unfold maxLen at af;exact af
 have av:((m:Int)==0)=false:=mN
 have ao:((i:Int)==(n:Int))=false:=mN
 have ae:B.length=n-i:=by have h1:=K.o;have h2:=hn.o;rw[cD]at h2;omega
 have HB:=I ae
 obtain⟨i0,Q,ai,R,S⟩:=info_parts Tryz.info5
 have q:(prog.info? 5).map (·.size)=some 1:=by rw[Q];simp[R]
 have Po:=xZ (by rw[<-ef];exact hr)
 have WY:w.rangeAt g (d+i) (B.map U8):=by
  have:=rY (cs:=A.map U8) (ds:=B.map U8) (by rw[<-ef];exact hr);rw[cR,K]at this;exact this
 have L:(Builtin.firstCells i0.size i (ς g d i a)).run prog w.drew=.ok (A.map U8).toArray w.drew:=
  run_firstCells_some w.drew _ i ⟨g,d,none⟩ i a (A.map U8) (by rw[cR,K,R,fR]) (λj u l=>by rw[Addr.add_lit];exact Po j u l)
 have k:=λx=>Lib.run_append_grow_zeros (P:=prog) w 37 3 x 5 i0 (.int .u8 0) .i64 .i64 underlying37 underlying3 Q ai (some ⟨g,d,none⟩) i a (A.map U8) L (n+m-i) G G G G (by rw[S];omega) (growslice_fits G (by rw[S];omega))
 rw[show i+(n+m-i)=n+m from by omega]at k
 have ag:=grownCap_ge w (n+m) a 5
 have v:grownCap w (n+m) a 5<=maxLen:=grownCap_le_maxLen w _ a 5 kO
 obtain⟨C,hC⟩:=N (grownCap w (n+m) a 5)
 rw[hC]at k ag v
 obtain⟨t,o⟩:=aw ((A.map U8).toArray++Builtin.zeroCells (Value.int .u8 0).cells (n+m-i)++Builtin.zeroCells (Value.int .u8 0).cells (C-(n+m)))
 rw[<-o]at k
 have h:t.size=C:=by rw[o];simp[size_zeroCells,Value.cells,K.o];omega
 obtain⟨r,b⟩:=aw (w.drew.alloc (.cells t 5))
 have G0:w.grownBy r none:=by rw[b];exact aM (bg (cC _ _)) _
 have T:b' r w.1.size C:=by rw[b,<-h];exact b'.new w.drew t 5
 have R0:r.rangeAt w.1.size 0 (A.map U8):=by
  rw[b];intro j u l;refine aS w.drew t 5 j u ?_;rw[o,Array.toList_append,Array.toList_append,du,cW (by simpa using(cM.1 l).1)];simpa using l
 rw[<-b]at k
 clear b o h
 have X:r.rangeAt vb f (p.map U8):=λj u l=>G0.cell (ah j u l) Z
 have ab:r.rangeAt g (d+i) (B.map U8):=λj u l=>G0.cell (WY j u l) Z
 have D:∀x M,(Builtin.copy_ #[37,37] x #[ς w.1.size i (n+m-i) M,ς vb f m vc]).run prog r=.ok (goInt (p.map U8).length) (r.setCells w.1.size i (p.map U8)):=λx M=>
  run_copy_cells r _ _ x 5 w.1.size i (n+m-i) M ⟨vb,f,none⟩ m vc (p.map U8) underlying37 q (by rw[cR,hm];simp only[Nat.min_def];split<;>omega)
   (λj u l=>by rw[Addr.add_lit];exact X j u l) (λj hj=>T.some _ (by rw[cR,hm]at hj;omega)) (λj _=>T.frozen _) (oW p)
 obtain⟨y,o⟩:=aw (r.setCells w.1.size i (p.map U8))
 rw[<-o]at D
 have F1:CF r y (λb _=>b=w.1.size):=by rw[o];exact CF.setCells _ _ _ _ (CF.refl _ _) (λ_ _ _=>rfl)
 have V:y.rangeAt w.1.size 0 (A.map U8):=by rw[o];exact World.rangeAt_setCells_apart R0 _ _ _ (.inr (.inl (by rw[cR,K];omega)))
 have W:y.rangeAt w.1.size i (p.map U8):=by rw[o];exact World.rangeAt_setCells_same _ _ _ _ (T.there _ _ (by rw[cR,hm];omega))
 have U:=T.cf F1
 have ad:=F1.range ab (λj _ h=>by omega)
 clear o
 have J:∀x M h,(Builtin.copy_ #[37,37] x #[ς w.1.size (i+m) (n+m-(i+m)) M,ς g (d+i) (n-i) h]).run prog y.drew=.ok (goInt (B.map U8).length) (y.drew.setCells w.1.size (i+m) (B.map U8)):=λx M h=>
  run_copy_cells y.drew _ _ x 5 w.1.size (i+m) (n+m-(i+m)) M ⟨g,d+i,none⟩ (n-i) h (B.map U8) underlying37 q (by rw[cR,HB];simp only[Nat.min_def];split<;>omega)
   (λj u l=>by rw[Addr.add_lit];exact ad j u l) (λj hj=>U.some _ (by rw[cR,HB]at hj;omega)) (λj _=>U.frozen _) (oW B)
 obtain⟨j,h⟩:=aw (y.drew.setCells w.1.size (i+m) (B.map U8))
 rw[<-h]at J
 have F2:CF y j (λb _=>b=w.1.size):=by rw[h];exact CF.setCells _ _ _ _ (CF.refl _ _).drew (λ_ _ _=>rfl)
 have l:j.rangeAt w.1.size 0 (A.map U8):=by rw[h];exact World.rangeAt_setCells_apart (by simpa using V) _ _ _ (.inr (.inl (by rw[cR,K.o];omega)))
 have x:j.rangeAt w.1.size i (p.map U8):=by rw[h];exact World.rangeAt_setCells_apart (by simpa using W) _ _ _ (.inr (.inl (by rw[cR,hm.o];omega)))
 have u:j.rangeAt w.1.size (i+m) (B.map U8):=by rw[h];exact World.rangeAt_setCells_same _ _ _ _ (U.drew.there _ _ (by rw[cR,HB];omega))
 have M:=U.cf F2
 clear h
 have h:Hid (b' j w.1.size C/\j.rangeAt w.1.size 0 ((A++p++B).map U8)/\w.grownBy j none):=by
  refine⟨M,?_,?_⟩
  .rw[ef,ef];refine qy (qy l ?_) ?_
   .rw[cR,K,cN];exact x
   .rw[cD,cR,cR,K,hm,cN];exact u
  .exact(((CF.bF G0 (λ_ _=>False)).trans F1 (λb o hb e=>by omega)).trans F2 (λb o hb e=>by omega)).gb (λ_ _ _ e=>e)
 clear V W l x u F1 F2 T U M R0 G0 X ab ad Po WY hr ah L ae Q ai R S q hC
 have o:(0:Int)<=(i:Int)+(m:Int):=G
 have l:(0:Int)<=(n:Int)+(m:Int)-(i:Int):=G
 have Q:((i:Int)+(m:Int)).toNat=i+m:=G
 have q:¬ (C=i+m):=G
 have u:¬ (a=i):=G
 have x:¬ (C=i):=G
 have L:(a:Int)<(n:Int)+(m:Int):=G
 have b:(((n+m-i:Nat)):Int)=(n:Int)+(m:Int)-(i:Int):=G
 rw[b]at k
 clear b
 go_in
 go_wp2_with (first|(at_builtin;refine yf _ rfl _ _ 37 3 rfl _ _ rfl rfl (k _) ?_)|(at_builtin;refine wpList_copy_runI _ rfl _ _ 37 37 rfl _ _ rfl rfl (D _ _) ?_))
 have e:C<=9223372036854775807:=by unfold maxLen at v;exact v
 have S:(i:Int)<=(n:Int)+(m:Int):=G
 have b:i<=n:=G
 have M:(i:Int)+(m:Int)<=(n:Int)+(m:Int):=G
 have R:IntKind.i64.wrap ((i:Int)+(m:Int))=(i:Int)+(m:Int):=oE
 go_region_law (refine step_copy_runI rfl _ _ 37 37 rfl _ _ ux ux (J _ _ _) ?_)
 go_wp2
 go_ret
 exact⟨C,rfl,ag,v,h.1,h.2.1,h.2.2⟩
theorem Di(v)(p)(A B g)(i)(y:Int)(n a m J)(w)(Q:f' w v p (A++B))(t:Hid (A.length=i))(j:y=i)(x:Hid (g.length=m))(k:0<m)(R:b' w n (a+m))(l:w.rangeAt n a (g.map U8))(P:∀q,p=some q->n≠q.g)(M:(A++B).length+m<=1000000):Calls prog 123 #[v,Y y,ς n a m J] w λe T=>∃b,e=.returned b/\aU w T b p (A++g++B):=by
 by_cases V:B=[]
 .subst V;rw[fS]at Q M;refine(Pn v p A g i y n a m J w Q t j x k l (by rw[<-t];exact M)).mono ?_;grind
 .have ab:=fX.2 V;have f:(A++B).length=A.length+B.length:=cD;rcases Q with⟨_,_,h⟩|⟨q,C,rfl,X,K,L,U⟩
  .rw[h]at f;simp at f;omega
  .have u:i<(A++B).length:=(by have:=t.o;omega);by_cases d:(A++B).length+m<=q.cap
   .refine(K9 q.g q.off q.cap A B g i (A++B).length y n a m J w K L U t j (I rfl) u x k R l (P q C) d).mono ?_;rintro e T ⟨rfl,S,D⟩;have r:(A++g++B).length=(A++B).length+m:=(by simp only[cD];rw[x];omega);refine⟨_,rfl,p,.inr ⟨q,C,by rw[r],by rw[r];exact d,K,L.cf D,S⟩,D.mono (λb o _ e=>⟨q,C,e⟩),.inl rfl,λ_ _ _=>rfl⟩
   .refine(La q.g q.off q.cap A B g i (A++B).length y n a m J w K X L.lt U t j (I rfl) u x k l G M).mono ?_;rintro e T ⟨W,rfl,S,D,r3,r4,r5⟩;have r:(A++g++B).length=(A++B).length+m:=(by simp only[cD];rw[x];omega);refine⟨_,rfl,some ⟨w.1.size,0,W⟩,.inr ⟨_,rfl,by rw[r],by rw[r];exact S,D,by simpa using r3,r4⟩,CF.bF r5 _,.inr (λq' b=>by injection b with b;subst b;exact cy _),λq' b o=>?_⟩;rw[C]at b;injection b with b;subst b;rw[r]at o;omega
