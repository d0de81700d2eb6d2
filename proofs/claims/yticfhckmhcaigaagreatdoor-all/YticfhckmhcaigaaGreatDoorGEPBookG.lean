import Derived.Test.YticfhckmhcaigaaGreatDoorGEPBookF
import Derived.Test.YticfhckmhcaigaaGreatDoorGEPBookH
namespace Go.Proofs.YticfhckmhcaigaaGreatDoor
set_option maxHeartbeats 4000000
open Proofs.Tryz Go.RowKit
set_option maxRecDepth 100000
variable {es:List BE}{p:Prop}
theorem Oi{a:nC}(h:a.kind=1):fD es a=Az es a:=by rw[fD,dQ h];rfl
theorem uL{a:nC}(h:a.kind=2\/a.kind=3\/a.kind=4)(b:(BE.pY es a.name).isSome=false):fD es a=(es,6):=by
 rw[fD,b' G,dQ h];grind
theorem Oj{a:nC}(h:a.kind=2)(i)(b:BE.pY es a.name=some i):fD es a=(es.take i++es.drop (i+1),0):=by
 rw[fD,b' G,dQ (.inl h)];simp only[b];rw[dQ h]
theorem Fu{a:nC}(h:a.kind=3)(i)(b:i<es.length)(d:BE.pY es a.name=some i):fD es a=(es.set i (es[i].jC a.key),0):=by
 rw[fD,b' G,dQ (.inr (.inl h))];simp only[d];rw[b' G];simp only[cN b];rw[dQ h]
theorem Sw{a:nC}(h:a.kind=4)(i)(b:i<es.length)(d:BE.pY es a.name=some i)(e:a.qQ=true):fD es a=(es.set i (es[i].si a),0):=by
 rw[fD,b' G,dQ (.inr (.inr h))];simp only[d];rw[b' G];simp only[cN b];rw[b' G,b' (by rw[e];simp)]
theorem aat{a:nC}(h:a.kind=4)(i)(b:i<es.length)(d:BE.pY es a.name=some i)(e:a.qQ=false):fD es a=(es,1):=by
 rw[fD,b' G,dQ (.inr (.inr h))];simp only[d];rw[b' G];simp only[cN b];rw[b' G,dQ e]
theorem Sy{a:nC}(b:a.kind≠1)(d:a.kind≠2)(e:a.kind≠3)(f:a.kind≠4):fD es a=(es,1):=by
 rw[fD,b' b,b' G]
theorem Sz(g o)(es)(a)(w)(h:bN w g o es)(f:es.Pairwise (λx y=>Op.bytesLess x.name y.name=true))(i:∀e∈es,1<=e.aH/\e.aH<=4611686018427387904)(b:-9223372036854775808<=a.ae)(d:a.ae<=9223372036854775807)(k:a.name.length<=9223372036854775807):Calls prog 92 #[N g o,.agg a.cells] w λe j=>e=.returned (Y (fD es a).2)/\bN j g o (fD es a).1/\CF w j (JR g o):=by
 have JP:=I f
 have yJ:=I i
 have HAdd:=I (λw h=>Wc g o es a w h f b d k)
 have y:=I (λw h=>Sv g o es a.name ⟨a.name.toArray⟩ w h f (I rfl))
 have A:=I (λw h=>WC g o es a.name ⟨a.name.toArray⟩ a.key w h f (I rfl) i)
 have B:=I (λw h=>LH g o es a.name ⟨a.name.toArray⟩ a w h f (I rfl) b d)
 have D:=I (λw=>Ay a w)
 have x:=I (cy w (.cells a.cells 41) none)
 have HB:=I (h.grown x)
 have K:=I (xe.new w a 41)
 have L:=h.live.lt
 clear h f i b d k
 by_cases r:a.kind=1
 .have d:=I r;have J:(a.kind==1)=true:=by rw[r];rfl
  clear r;go_in;go_wp2_with fail;refine(HAdd _ HB).mono ?_;rintro e P ⟨rfl,l,k⟩;have C:=CF.before x k;clear k HAdd y A B D;go_wp2;go_ret;exact⟨by rw[Oi d.o];rfl,by rw[Oi d.o];exact l,C⟩
 by_cases t:a.kind=2
 .have d:=I t;have J:(a.kind==1)=false:=by rw[t];rfl
  have C:(a.kind==2)=true:=by rw[t];rfl
  clear r t;go_in;go_wp2_with fail;refine(y _ HB).mono ?_;rintro e P n;have p:=I n;clear n;cases b:BE.pY es a.name with
  |none=>
   have f:Hid ((BE.pY es a.name).isSome=false):=(by show _=_;rw[b];rfl);obtain⟨rfl,m⟩:=p.1 f.o;clear HAdd y A B D p b;go_wp2;go_ret;exact⟨by rw[uL (.inl d.o) f.o];rfl,by rw[uL (.inl d.o) f.o];exact HB.grown m,CF.bD (aa x m) _⟩
  |some i=>
   have f:=I b;obtain⟨rfl,l,k⟩:=p.2 i f.o;clear HAdd y A B D p b;go_wp2;go_ret;exact⟨by rw[Oj d.o i f.o];rfl,by rw[Oj d.o i f.o];exact l,CF.before x k⟩
 by_cases u:a.kind=3
 .have d:=I u;have J:(a.kind==1)=false:=by rw[u];rfl
  have C:(a.kind==2)=false:=by rw[u];rfl
  have M:(a.kind==3)=true:=by rw[u];rfl
  clear r t u;go_in;go_wp2_with fail;refine(A _ HB).mono ?_;rintro e P n;have p:=I n;clear n;cases b:BE.pY es a.name with
  |none=>
   have f:Hid ((BE.pY es a.name).isSome=false):=(by show _=_;rw[b];rfl);obtain⟨rfl,m⟩:=p.1 f.o;clear HAdd y A B D p b;go_wp2;go_ret;exact⟨by rw[uL (.inr (.inl d.o)) f.o];rfl,by rw[uL (.inr (.inl d.o)) f.o];exact HB.grown m,CF.bD (aa x m) _⟩
  |some i=>
   have f:=I b;obtain⟨q,_⟩:=DZ b;obtain⟨rfl,l,k⟩:=p.2 i q f.o;clear HAdd y A B D p b;go_wp2;go_ret;exact⟨by rw[Fu d.o i q f.o];rfl,by rw[Fu d.o i q f.o];exact l,CF.before x k⟩
 by_cases v:a.kind=4
 .have d:=I v;have J:(a.kind==1)=false:=by rw[v];rfl
  have C:(a.kind==2)=false:=by rw[v];rfl
  have M:(a.kind==3)=false:=by rw[v];rfl
  have ke:(a.kind==4)=true:=by rw[v];rfl
  clear r t u v;have l:Hid (∀w,bN w g o es->Calls prog 135 #[N g o,.string ⟨a.name.toArray⟩,.agg (wZ a.bH a.aD a.bB a.ae)] w λe j=>e=.returned (Y (fD es a).2)/\bN j g o (fD es a).1/\CF w j (JR g o)):=by
   intro w h;refine(B w h).mono ?_;rintro e j ⟨p,P,Q⟩;cases b:BE.pY es a.name with
   |none=>
    have f:(BE.pY es a.name).isSome=false:=(by rw[b];rfl);obtain⟨rfl,m⟩:=p f;rw[uL (.inr (.inr d.o)) f];exact⟨rfl,h.grown m,CF.bD m _⟩
   |some i=>
    obtain⟨q,_⟩:=DZ b;cases n:a.qQ with
    |false=>
     obtain⟨rfl,m⟩:=P (by rw[b];rfl) n;rw[aat d.o i q b n];exact⟨rfl,h.grown m,CF.bD m _⟩
    |true=>
     obtain⟨rfl,k,m⟩:=Q i q b n;rw[Sw d.o i q b n];exact⟨rfl,k,m⟩
  have f:w.1.size≠g:=λe=>by have:=L;omega
  obtain⟨p,P,Q,R,S,T,U⟩:=K.o;clear HAdd y A B;go_in;go_wp2_with fail;go_region_held3 (λj=>j.c w.1.size 0=some (Y a.kind)/\j.c w.1.size 1=some (.string ⟨a.name.toArray⟩)/\j.c w.1.size 2=some (O (a.key.toNat:Int))/\j.c w.1.size 3=some (Y a.bH)/\j.c w.1.size 4=some (Y a.aD)/\j.c w.1.size 5=some (Y a.bB)/\j.c w.1.size 6=some (Y a.ae)) (go_keep) (first|(go_at_call 136;refine(D _).mono ?_;rintro e w5 ⟨rfl,k⟩;have b:=iZ k;have m:=HB.grown b;have V:=bP b p;have W:=bP b P;have X:=bP b Q;have d3:=bP b R;have d4:=bP b S;have d5:=bP b T;have d6:=bP b U;clear k)|(go_at_call 135;refine(l _ m).mono ?_;rintro e w6 ⟨rfl,n,i⟩;have e0:=i.cell V (λq=>f q.1);have e1:=i.cell W (λq=>f q.1);have e2:=i.cell X (λq=>f q.1);have e3:=i.cell d3 (λq=>f q.1);have e4:=i.cell d4 (λq=>f q.1);have e5:=i.cell d5 (λq=>f q.1);have e6:=i.cell d6 (λq=>f q.1)));go_wp2;go_ret;exact⟨rfl,n,CF.before (aa x b) i⟩
 .have J:(a.kind==1)=false:=by rw[cJ];exact r
  have C:(a.kind==2)=false:=by rw[cJ];exact t
  have M:(a.kind==3)=false:=by rw[cJ];exact u
  have ke:(a.kind==4)=false:=by rw[cJ];exact v
  have b:Hid (fD es a=(es,1)):=Sy r t u v;clear HAdd y A B D r t u v;go_in;go_wp2;go_ret;exact⟨by rw[b];rfl,by rw[b];exact HB,CF.bD x _⟩
theorem yX(g o)(i)(a)(w)(h:bN w g (o+2) i)(p:i.Pairwise (λx y=>Op.bytesLess x.name y.name=true))(m:∀e∈i,1<=e.aH/\e.aH<=4611686018427387904)(f:-9223372036854775808<=a.ae)(j:a.ae<=9223372036854775807)(n:a.name.length<=9223372036854775807):Calls Tryz.prog 53 #[N g o,.agg a.cells] w λe d=>e=.returned (Y (fD i a).2)/\bN d g (o+2) (fD i a).1/\CF w d (JR g (o+2)):=by
 have k:=I (λw h=>Sz g (o+2) i a w h p m f j n)
 have l:=I (cy w (.cells a.cells 41) none)
 have HB:=I (h.grown l)
 have B:=h.live.lt
 have b:w.1.size≠g:=λe=>by omega
 obtain⟨r,t,u,v,x,y,A⟩:=xe.new w a 41
 clear h p m f j n
 go_enter Tryz.func53,Tryz.ntmps53
 go_wp2_with fail
 go_region_held3 (λd=>d.c w.1.size 0=some (Y a.kind)/\d.c w.1.size 1=some (.string ⟨a.name.toArray⟩)/\d.c w.1.size 2=some (O (a.key.toNat:Int))/\d.c w.1.size 3=some (Y a.bH)/\d.c w.1.size 4=some (Y a.aD)/\d.c w.1.size 5=some (Y a.bB)/\d.c w.1.size 6=some (Y a.ae)) (go_keep) (first|(go_at_call 92;refine(k _ (HB.drewN 1)).mono ?_;rintro e K ⟨rfl,h,f⟩;have j:=f.dE.cell r (λq=>b q.1);have m:=f.dE.cell t (λq=>b q.1);have n:=f.dE.cell u (λq=>b q.1);have p:=f.dE.cell v (λq=>b q.1);have C:=f.dE.cell x (λq=>b q.1);have D:=f.dE.cell y (λq=>b q.1);have J:=f.dE.cell A (λq=>b q.1)))
 go_wp2
 go_ret
 exact⟨rfl,h,CF.before l f.dE⟩
def PF.bF(p:PF):List Value:=[.string ⟨p.az.toArray⟩,Y p.time,Y p.count]
def cB(l:List PF):List Value:=(l.map PF.bF).flatten
theorem ji(l):(cB l).length=l.length*3:=by
 induction l with
 |nil=>rfl
 |cons x l a=>simp only[cB,eN,eR,cF,de]at *;rw[a];show 3+_=_;omega
structure bX(w:World)(g o:Nat)(dp:Option Pl)(d:DM):Prop where
 live:b9 w g (o+188)
 ax:w.cell? (F g o)=some (Y d.ax)
 aL:∃v,w.cell? (F g (o+1))=some v/\fA w v dp d.aL
 aC:bN w g (o+2) d.aC
 aI:w.rangeAt g (o+163) (cB d.aI)
 count:w.cell? (F g (o+187))=some (Y d.aI.length)
 few:d.aI.length<=8
theorem WJ(g o)(n)(w)(h:w.c g (o+24)=some (Y n)):Calls prog 116 #[N g o] w λe a=>e=.returned (Y n)/\a=w:=by
 go_in
 exact lR
theorem aau(g o)(a)(n c)(w:World)(h:w.c g o=some (.slice a n c)):Calls prog 117 #[N g o] w λe b=>e=.returned (Y n)/\b=w:=by
 go_in
 exact lR
variable {g:Nat}{w w':World}
theorem WK{a:Nat}{e:TypeId}{n c:Nat}{f:List Value}(h:w.ownsRow a e 1 (ς g 0 n c) n f)(k:w.grownBy w' none):w'.ownsRow a e 1 (ς g 0 n c) n f:=
 dh h (λb d=>k.block b (by injection d with d;subst d;exact(BK h).1) Z)
theorem eT{a b j:Nat}{e:TypeId}{n c:Nat}{u:Value}{i:List Value}(h:w.ownsRow a e 1 (ς g 0 n c) n i)(q:b<a):(w.setCell (F b j) u).ownsRow a e 1 (ς g 0 n c) n i:=by
 have r:a<=g:=by
  rcases h.2 with⟨f,_⟩|⟨p,l,m,f,o,_⟩
  .cases f
  grind
 exact dh h (λk d=>by injection d with d;grind [RowKit.Below.heap_setCell])
theorem SU{a:Nat}{d e f h:Value}(i:w.c g a=some d)(k:w.c g (a+1)=some e)(l:w.c g (a+2)=some f)(m:w.c g (a+3)=some h):w.rangeAt g a [d,e,f,h]:=by
 intro j u b;match j,b with
 |0,b=>injection b with b;subst b;exact i
 |1,b=>injection b with b;subst b;exact k
 |2,b=>injection b with b;subst b;exact l
 |3,b=>injection b with b;subst b;exact m
 |j+4,b=>simp at b
theorem D8(w:World)(b)(a d e f){g h i j:Value}(k:w.c b 0=some g)(l:w.c b 1=some h)(m:w.c b 2=some i)(n:w.c b 3=some j):
  ((((w.s b 0 a).s b 1 d).s b 2 e).s b 3 f).rangeAt b 0 [a,d,e,f]:=by
 refine SU ?_ ?_ ?_ ?_<;>try simp only[cR]
 .grind [ay,dA]
 .grind [ay,dA]
 .grind [ay,dA]
 grind [ay,dA]
theorem fC{e:Func}{a:Tmp}{f:TypeId}(h:e.results=#[.cell a f])(d)(P)(w)(b)(hp:d.getD a undef = N b 0)(x)(hl:(loadVar f ⟨b,0,none⟩).run P w=.ok x w):
  (results e d).run P w=.ok x w:=by
 have hp':d[a]?.getD undef = N b 0:=rI
 exact rL
theorem Tryz.yf:(prog.info? 101).map (·.size)=some 4:=by kernel_rfl
theorem bX.cf{ex:Nat->Nat->Prop}{o:Nat}{a:Option Pl}{d:DM}(h:bX w g o a d)(k:CF w w' ex)(i:∀j,o<=j->j<o+188->¬ ex g j)(b:∀q,a=some q->∀j,j<d.aL.length->¬ ex q.g (q.off+j)):bX w' g o a d:=by
 obtain⟨v,f,e⟩:=h.aL;exact⟨h.live.cf k,(by grind [CF.cell,bX.ax]),⟨v,(by grind [CF.cell]),e.cf k b⟩,h.aC.cf k dT,(by grind [ji,CF.range,bX.aI,bX.few]),(by grind [CF.cell,bX.count]),h.few⟩
theorem bX.grown{o:Nat}{a:Option Pl}{d:DM}(h:bX w g o a d)(k:w.grownBy w' none):bX w' g o a d:=h.cf (CF.bD k (λ_ _=>False)) (λ_ _ _ e=>e) (λ_ _ _ _ e=>e)
theorem wN(h:p:=by
 exact dw (eT (eT (eT (eT oN1 s0) s0) s0) s0) (fj _)):p:=h
theorem yY(g o)(t)(d)(w)(h:bX w g o t d):Calls prog 72 #[N g o] w λe w'=>∃f i,e=.returned (.agg #[ς f 0 d.aC.length d.aC.length,ς i 0 d.aC.length d.aC.length,Y d.aI.length,Y d.aL.length])/\w'.ownsRow w.1.size 9 1 (ς f 0 d.aC.length d.aC.length) d.aC.length (d.aC.map λx=>.string ⟨x.name.toArray⟩)/\w'.ownsRow w.1.size 3 1 (ς i 0 d.aC.length d.aC.length) d.aC.length (d.aC.map λx=>Y x.aH)/\w.grownBy w' none:=by
 have b:=bg (cy w (.cells #[σ,σ,Y 0,Y 0] 101) none)
 have j:=I (λa (k:World.grownBy (w.alloc (.cells #[σ,σ,Y 0,Y 0] 101)).drew a none)=>(h.grown b).grown k)
 have n:Hid (b9 (w.alloc (.cells #[σ,σ,Y 0,Y 0] 101)).drew w.1.size 4):=(b9.new w _ _).drew
 have J:=I b
 obtain⟨v,m,l⟩:=h.aL
 obtain⟨q,r,rfl,_⟩:=l.shape
 have p:=I (λa (k:World.grownBy (w.alloc (.cells #[σ,σ,Y 0,Y 0] 101)).drew a none)=>bP k (bP b m))
 clear h b m l
 go_in
 go_wp2_with fail
 go_region_held3 (λ_=>True) (trivial) (first|(go_at_call 114;refine(WI g (o+2) d.aC _ (j _ (cC _ _)).aC).mono ?_;rintro e V ⟨f,rfl,u,h⟩)|(go_at_call 115;refine(Oh g (o+2) d.aC _ (j _ h).aC).mono ?_;rintro e W ⟨i,rfl,x,k⟩;have b:=aa h k)|(go_at_call 116;refine(WJ g (o+163) d.aI.length _ (j _ b).count).mono ?_;rintro e a ⟨rfl,rfl⟩;have L:=n.grown b;obtain⟨K,A⟩:=cD.1 (L.some 0 H);obtain⟨M,B⟩:=cD.1 (L.some 1 H);obtain⟨P,C⟩:=cD.1 (L.some 2 H);obtain⟨Q,D⟩:=cD.1 (L.some 3 H);have R:=L.frozen 0;have S:=L.frozen 1;have T:=L.frozen 2;have U:=L.frozen 3)|(go_at_call 117;refine(aau g (o+1) q d.aL.length r _ (p _ b)).mono ?_;rintro e a ⟨rfl,rfl⟩))
 go_wp2
 have s0:w.1.size<w.1.size+1:=fX _
 have oN1:=dw (WK u k) (by show w.1.size+1<=(w.alloc _).1.size;grind [cG])
 have y:=dw x (by have l:=h.size;have m:w.1.size+1<=(w.alloc (.cells #[σ,σ,Y 0,Y 0] 101)).1.size:=(by rw[cG];exact cA _);exact cE m l)
 refine bodyPost_ret (fC results72 _ _ _ w.1.size rfl _ (eO (D8 a w.1.size _ _ _ _ A B C D) 101 _ underlying101 rfl Tryz.yf)) rfl ⟨f,i,rfl,?_,?_,?_⟩
 .exact wN
 .exact dw (by grind [eT]) (fj _)
 grind [aB,aa,Hid.o]
theorem rB(h:p:=by grind [cG]):p:=h
theorem Fv(g)(i)(a)(w)(h:bN w g 2 i)(o:i.Pairwise (λx y=>Op.bytesLess x.name y.name=true))(m:∀e∈i,1<=e.aH/\e.aH<=4611686018427387904)(f:-9223372036854775808<=a.ae)(j:a.ae<=9223372036854775807)(n:a.name.length<=9223372036854775807):Calls prog 29 #[N g 0,.agg a.cells] w λe d=>e=.returned (Y (fD i a).2)/\bN d g 2 (fD i a).1/\CF w d (JR g 2):=by
 have k:=I (λw h=>yX g 0 i a w h o m f j n)
 have l:=I (cy w (.cells a.cells 41) none)
 have HB:=I (h.grown l)
 have A:=h.live.lt
 have b:w.1.size≠g:=λe=>by omega
 obtain⟨p,r,t,u,v,x,y⟩:=xe.new w a 41
 clear h o m f j n
 go_in
 go_wp2_with fail
 go_region_held3 (λd=>d.c w.1.size 0=some (Y a.kind)/\d.c w.1.size 1=some (.string ⟨a.name.toArray⟩)/\d.c w.1.size 2=some (O (a.key.toNat:Int))/\d.c w.1.size 3=some (Y a.bH)/\d.c w.1.size 4=some (Y a.aD)/\d.c w.1.size 5=some (Y a.bB)/\d.c w.1.size 6=some (Y a.ae)) (go_keep) (first|(go_at_call 53;refine(k _ (HB.drewN 1)).mono ?_;rintro e J ⟨rfl,h,f⟩;have j:=f.dE.cell p (λq=>b q.1);have m:=f.dE.cell r (λq=>b q.1);have n:=f.dE.cell t (λq=>b q.1);have o:=f.dE.cell u (λq=>b q.1);have B:=f.dE.cell v (λq=>b q.1);have C:=f.dE.cell x (λq=>b q.1);have D:=f.dE.cell y (λq=>b q.1)))
 go_wp2
 go_ret
 exact⟨rfl,h,CF.before l f.dE⟩
theorem Fw(g)(j)(d)(w)(h:bX w g 0 j d):Calls prog 35 #[N g 0] w λe f=>∃a b,e=.returned (.agg #[ς a 0 d.aC.length d.aC.length,ς b 0 d.aC.length d.aC.length,Y d.aI.length,Y d.aL.length])/\f.ownsRow w.1.size 9 1 (ς a 0 d.aC.length d.aC.length) d.aC.length (d.aC.map λx=>.string ⟨x.name.toArray⟩)/\f.ownsRow w.1.size 3 1 (ς b 0 d.aC.length d.aC.length) d.aC.length (d.aC.map λx=>Y x.aH)/\w.grownBy f none:=by
 have i:=I (cy w (.cells #[σ,σ,Y 0,Y 0] 101) none)
 have l:=I (h.grown i)
 have m:Hid (b9 (w.alloc (.cells #[σ,σ,Y 0,Y 0] 101)) w.1.size 4):=b9.new w _ _
 clear h
 go_in
 go_wp2_with fail
 refine(yY g 0 j d _ l).mono ?_
 rintro e u ⟨a,b,rfl,h,k,f⟩
 have L:=m.grown f
 obtain⟨x,p⟩:=cD.1 (L.some 0 H)
 obtain⟨y,q⟩:=cD.1 (L.some 1 H)
 obtain⟨A,r⟩:=cD.1 (L.some 2 H)
 obtain⟨B,t⟩:=cD.1 (L.some 3 H)
 have C:=L.frozen 0
 have D:=L.frozen 1
 have J:=L.frozen 2
 have K:=L.frozen 3
 have v:=I (aa i f)
 have n:=I h
 have o:=I k
 clear L f h k
 go_wp2
 have s0:w.1.size<w.1.size+1:=fX _
 have f:w.1.size+1<=(w.alloc (.cells #[σ,σ,Y 0,Y 0] 101)).1.size:=rB
 have oN1:=dw n f
 have h:=dw o f
 refine bodyPost_ret (fC results35 _ _ _ w.1.size rfl _ (eO (D8 u w.1.size _ _ _ _ p q r t) 101 _ underlying101 rfl Tryz.yf)) rfl ⟨a,b,rfl,?_,?_,?_⟩
 .exact wN
 .exact dw (by grind [eT]) (fj _)
 grind [aB,Hid.o]
theorem Tryz.JW:(prog.info? 122).map (·.size)=some 1:=by kernel_rfl
theorem aaw{w b:World}(h:w.grownBy b none){a:Addr}{v:Value}(d:w.cell? a=some v):b.cell? a=some v:=by
 grind [World.grownBy.block,World.block_lt_of_cell?,World.cell?_of_block]
theorem PQ(a)(n c)(h:E)(w)(J:Hid (h.length=n))(f:n<=140737488355328)(l:∀i,i<n->w.cell? (a.add i)=some (.int .u8 ((h.map λz=>(z.toNat:Int)).getD i 0))):Calls prog 91 #[.slice (some a) n c] w λe b=>∃v,e=.returned (.agg #[v])/\b.ownsRow w.1.size 5 1 v n (h.map U8)/\w.grownBy b none:=by
 have k:=I (cy w (.cells #[σ] 122) none)
 have m:Hid (b9 (w.alloc (.cells #[σ] 122)) w.1.size 1):=b9.new w _ _
 go_in
 go_wp2_with fail
 refine(Tryz.bytes_Clone_at a n c (h.map λz=>(z.toNat:Int)) _ kO f (λi b=>?_)).mono ?_
 .exact aaw k.o (l i b)
 rintro e A ⟨v,rfl,own,g,d⟩;have i:World.grownBy (w.alloc (.cells #[σ] 122)) A none:=⟨d.os,d.tape,d.output,d.size,λb j _=>d.block b j⟩
 have L:=m.grown i;obtain⟨C,r⟩:=cD.1 (L.some 0 H);have D:=L.frozen 0;have B:=I (aa k i);have OW:=I own;obtain⟨x,y,rfl⟩:=bA own;have p:=I g;clear own d L i l g;go_wp2;have t:w.1.size<w.1.size+1:=fX _;have q:w.1.size+1<=(w.alloc (.cells #[σ] 122)).1.size:=rB;have i:=dw OW q;rw[List.map_map]at i;obtain⟨d,g⟩:∃d,x=some ⟨d,0,none⟩:=by
  rcases i.2 with⟨b,_⟩|⟨d,j,l,b,_⟩
  .exact absurd b p.o
  grind
 subst g;refine bodyPost_ret (fC results91 _ _ _ w.1.size rfl _ (eO (cs:=[ς d 0 n y]) (λj u b=>?_) 122 _ underlying122 rfl Tryz.JW)) rfl ⟨_,rfl,?_,?_⟩
 .match j,b with
  |0,b=>injection b with b;subst b;exact dA _ r
  |j+1,b=>simp at b
 .exact dw (eT i t) (fj _)
 grind [Hid.o,aB]
theorem Tryz.xh:(prog.info? 136).map (·.size)=some 188:=by kernel_rfl
theorem Tryz.lS:zeroCells136.size=188:=by kernel_rfl
theorem Tryz.Cz:zeroCells136.all (·.oneCell')=true:=by kernel_rfl
theorem dZ{P:Program}{W:World}{b n:Nat}(a)(h:b9 W b n)(e:a.length<=n)(d:∀v∈a,v.oneCell'=true):(storeCells ⟨b,0,none⟩ a).run P W=.ok () (W.setCells b 0 a):=by
 grind [b9.frozen,run_storeCells_cells,b9.some]
theorem JT(h:p:=by
 go_in
 go_wp2
 exact bodyPost_ret (aG results51 _ _ _ w.1.size rfl _ RL) rfl ⟨_,Tryz.lS,(by first|exact HO.o|(intro v hv;exact HO v (Array.mem_toList_iff.2 hv))),rfl,G⟩):p:=h
theorem CE(a)(v)(w)(h:a<0\/300<a):Calls prog 51 #[Y a,v] w λe b=>∃x,x.size=188/\(∀v∈x.toList,v.oneCell'=true)/\e=.returned (.tuple #[.agg x,Y 1])/\w.grownBy b none:=by
 have b:=I (b9.new w zeroCells136 136)
 have HO:Hid (∀v∈zeroCells136.toList,v.oneCell'=true):=λv hv=>by have:=Tryz.Cz;rw[Array.all_eq_true_iff_forall_mem]at this;exact this v (Array.mem_toList_iff.1 hv)
 have d:=dZ (P:=prog) zeroCells136.toList b (by rw[cV];exact cA _) HO.o
 have G:=I (fK w.1.size (cA _) zeroCells136.toList 0 _ (cy w (.cells zeroCells136 136) none))
 have R:=I (World.rangeAt_setCells_same (w.alloc (.cells zeroCells136 136)) w.1.size 0 zeroCells136.toList (b.there 0 _ (by rw[cV];omega)))
 have RL:=I (eO R 136 _ underlying136 rfl (by rw[Tryz.xh,cV,Tryz.lS]))
 rcases h with h|h
 .exact JT
 .have e:¬ a<0:=aZ;exact JT
def eY(Z:List Value)(ax:Int)(dv:Value):List Value:=(Z.set 0 (Y ax)).set 1 dv
theorem jZ(a)(b):(eY zeroCells136.toList a b).length=188:=by
 rw[eY,eA,eA,cV,Tryz.lS]
theorem tQ(d)(b)(h:b.oneCell'=true):∀v∈eY zeroCells136.toList d b,v.oneCell'=true:=by
 intro v a;rcases List.mem_or_eq_of_mem_set a with a|rfl
 .rcases List.mem_or_eq_of_mem_set a with a|rfl
  .have:=Tryz.Cz;rw[Array.all_eq_true_iff_forall_mem]at this;grind
  .rfl
 .exact h
theorem Fx(f)(v)(n)(t)(w)(M:0<=f)(Q:f<=300)(C:∀g,w.grownBy g none->Calls prog 91 #[v] g λe b=>∃d c,e=.returned (.agg #[.slice d n c])/\b.ownsRow g.1.size 5 1 (.slice d n c) n t/\g.grownBy b none):Calls prog 51 #[Y f,v] w λe b=>∃d c,e=.returned (.tuple #[.agg (eY zeroCells136.toList f (.slice d n c)).toArray,Y 0])/\b.ownsRow (w.1.size+1) 5 1 (.slice d n c) n t/\w.grownBy b none:=by
 have S:¬ f<0:=G
 have R:¬ 300<f:=G
 have D:=I C
 clear C
 have C:=I (b9.new w zeroCells136 136)
 have u:=I (cy w (.cells zeroCells136 136) none)
 go_in
 go_wp2_with fail
 refine(D _ u).mono ?_
 rintro e g ⟨d,c,rfl,own,i⟩
 have k:=C.grown i
 rw[Tryz.lS]at k
 have r:=dZ (P:=prog) (eY zeroCells136.toList f (.slice d n c)) k (by rw[jZ];exact cA _) (tQ _ _ rfl)
 have A:=World.rangeAt_setCells_same g w.1.size 0 (eY zeroCells136.toList f (.slice d n c)) (k.there 0 _ (by rw[jZ];omega))
 have B:=I (eO A 136 _ underlying136 rfl (by rw[Tryz.xh,jZ]))
 have x:=I (fK w.1.size (cA _) (eY zeroCells136.toList f (.slice d n c)) 0 g (aa u i))
 have l:=dw own (by rw[cG];exact cA _)
 have y:Hid ((g.setCells w.1.size 0 (eY zeroCells136.toList f (.slice d n c))).ownsRow (w.1.size+1) 5 1 (.slice d n c) n t):=by
  refine dh l (λb h=>?_);have L:w.1.size+1<=b:=by
   rcases l.2 with⟨j,_⟩|⟨J,m,o,j,p,_⟩
   .injection j with e1 _ _;subst e1;cases h
   .injection j with e1 _ _;subst e1;injection h with h;subst h;exact p
  exact((CF.setCells (a:=g) (ex:=λq _=>q=w.1.size) w.1.size _ 0 g (CF.refl _ _) (λ_ _ _=>rfl)).block b (by
   rcases l.2 with⟨j,_⟩|⟨J,m,o,j,_,K,_⟩
   .injection j with e1 _ _;subst e1;cases h
   .injection j with e1 _ _;subst e1;injection h with h;subst h;exact(Array.getElem?_eq_some_iff.1 K).1) (λ_ q=>by omega))
 unfold eY at r B x y
 clear A k own i l
 go_wp2
 exact bodyPost_ret (aG results51 _ _ _ w.1.size rfl _ B) rfl ⟨d,c,rfl,y,x⟩
theorem tx(h:p:=by rw[cV,hcs];exact cA _):p:=h
theorem PV(l:List Value):∀(k)(Z)(i),k+l.length<=Z.size->((l.zipIdx k).foldl (λ(a:Array Value) (x:Value×Nat)=>a.setIfInBounds x.snd x.fst) Z)[i]?=if k<=i/\i<k+l.length then l[i-k]? else Z[i]?:=by
 induction l with
 |nil=>intro k Z i _;rw[b' dT];rfl
 |cons x l a=>
  intro k Z i h;simp only[de]at h;rw[List.zipIdx_cons,List.foldl_cons,a (k+1) _ i dT];grind
theorem XI(Z a:Array Value)(h:a.size=188)(d:Z.size=188):Array.foldl (λa x=>a.setIfInBounds x.snd x.fst) Z a.zipIdx 0 188=a:=by
 have e:Array.foldl (λ(a:Array Value) (x:Value×Nat)=>a.setIfInBounds x.snd x.fst) Z a.zipIdx 0 188=(a.toList.zipIdx 0).foldl (λ(b:Array Value) (x:Value×Nat)=>b.setIfInBounds x.snd x.fst) Z:=by
  rw[<-Array.toList_zipIdx,Array.foldl_toList,Array.size_zipIdx,h]
 rw[e];refine Array.ext_getElem? λi=>?_;grind [PV]
theorem Tryz.De:zeroCells136[162]?=some (Y 0):=by kernel_rfl
theorem Tryz.Df:zeroCells136[187]?=some (Y 0):=by kernel_rfl
theorem Tryz.XJ:zeroCells140.size=188:=by kernel_rfl
theorem Ub{W:World}{b:Nat}{Z:Array Value}{g:Int}{f:Value}{i:Option Pl}{h:E}(m:Z.size=188)(q:Z[162]?=some (Y 0))(r:Z[187]?=some (Y 0))(k:dm W b (eY Z.toList g f).toArray)(p:fA W f i h):bX W b 0 i ⟨g,[],[],h⟩:=by
 have o:Z.toList.length=188:=by rw[cV,m]
 have l:(eY Z.toList g f).length=188:=by rw[eY,eA,eA,o]
 have a:∀j,W.cell? (F b j)=(eY Z.toList g f)[j]?:=λj=>by rw[k.cell j,cI]
 have d:b9 W b 188:=by
  obtain⟨e,n⟩:=k;exact⟨_,e,n,by grind⟩
 have v:∀j,1<j->(eY Z.toList g f)[j]?=Z[j]?:=λj t=>by
  rw[eY,fg G,fg G,Array.getElem?_toList]
 refine⟨d,?_,⟨f,?_,p⟩,⟨d.mono G,λj u e=>by simp[dP]at e,?_,by simp⟩,λj u e=>by simp[cB]at e,?_,by simp⟩
 .rw[a,eY,fg G,dj G]
 .rw[a,eY,dj (by rw[eA];omega)]
 .grind
 grind
theorem PW(f)(v)(n)(k)(w)(y:0<=f)(A:f<=300)(C:∀d,w.grownBy d none->Calls prog 91 #[v] d λe a=>∃j c,e=.returned (.agg #[.slice j n c])/\a.ownsRow d.1.size 5 1 (.slice j n c) n (k.map U8)/\d.grownBy a none):Calls prog 26 #[Y f,v] w λe a=>∃b g,e=.returned (.tuple #[N b 0,Y 0])/\bX a b 0 g ⟨f,[],[],k⟩/\w.1.size<=b/\Pl.fresh w.1.size g/\(∀q,g=some q->q.g≠b)/\w.grownBy a none:=by
 have l:=I (Fx f v n (k.map U8) w y A C)
 clear C
 go_in
 go_wp2_with fail
 refine l.mono ?_
 rintro e d ⟨j,c,rfl,own,h⟩
 obtain⟨a,b⟩:∃a:Array Value,Hid (a=(eY zeroCells136.toList f (.slice j n c)).toArray):=⟨_,I rfl⟩
 rw[<-b]
 have i:=b9.new d zeroCells136 136
 rw[Tryz.lS]at i
 have hcs:a.size=188:=by rw[b,List.size_toArray,jZ]
 have C:=dZ (P:=prog) a.toList i tx (λv m=>tQ _ _ rfl v (by rw[b]at m;exact m))
 have m:=World.rangeAt_setCells_same (d.alloc (.cells zeroCells136 136)) d.1.size 0 a.toList (i.there 0 _ (by rw[cV,hcs];omega))
 have o:(prog.info? 136).map (·.size)=some a.toList.length:=by rw[Tryz.xh,cV,hcs]
 have GW:=I (fK d.1.size (cA _) a.toList 0 _ (cy d (.cells zeroCells136 136) none))
 have u:=I hcs
 have p:=I (cZ m o)
 have t:=I own
 have r:=I h
 clear i hcs own h m o l
 go_wp2_with (refine wpList_load_mid rfl 136 _ rfl d.1.size 0 rfl a.toList _ p.1 underlying136 rfl p.2 ?_)
 have i:=aa GW (cy ((d.alloc (.cells zeroCells136 136)).setCells d.1.size 0 a.toList) (.cells (Array.foldl (λa x=>a.setIfInBounds x.snd x.fst) zeroCells140 a.zipIdx 0 188) 140) none)
 have m:=dm.new ((d.alloc (.cells zeroCells136 136)).setCells d.1.size 0 a.toList) (Array.foldl (λa x=>a.setIfInBounds x.snd x.fst) zeroCells140 a.zipIdx 0 188) 140
 obtain⟨g,o,l⟩:=fA.own t.o
 have B:∀q,g=some q->q.g<d.1.size:=by
  intro q e;rcases o with⟨h,_⟩|⟨J,h,_,_,_,x,_⟩
  .rw[h]at e;cases e
  .rw[h]at e;cases e;exact x.lt
 have D:=GW.size
 have h:=r.size
 go_ret2
 refine⟨_,g,rfl,Ub Tryz.lS Tryz.De Tryz.Df ?_ (o.cf (CF.bD i (λ_ _=>False)) (λ_ _ _ _ e=>e)),by omega,λq e=>by have:=l q e;omega,λq e=>by have:=B q e;omega,aa r.o i⟩
 have e:=XI _ _ u Tryz.XJ
 rw[<-b,e]
 rw[e]at m
 exact m
theorem Mo(b)(v)(w)(h:b<0\/300<b):Calls prog 26 #[Y b,v] w λe a=>e=.returned (.tuple #[.pointer none,Y 1])/\w.grownBy a none:=by
 have g:=I (CE b v w h)
 clear h
 go_in
 go_wp2_with fail
 refine g.mono ?_
 rintro e f ⟨h,hcs,i,rfl,a⟩
 have d:=b9.new f zeroCells136 136
 rw[Tryz.lS]at d
 have j:=dZ (P:=prog) h.toList d tx i
 have GW:=I (aa a (fK f.1.size (cA _) h.toList 0 _ (cy f (.cells zeroCells136 136) none)))
 clear d a i g
 go_wp2
 go_ret2
 exact⟨rfl,GW⟩
