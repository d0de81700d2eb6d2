import Derived.Test.YtlfifnpjeangmaaGreatDoorGEPBookF
import Derived.Test.YtlfifnpjeangmaaGreatDoorGEPBookH
namespace Go.Proofs.YtlfifnpjeangmaaGreatDoor
set_option maxHeartbeats 4000000
open Proofs.Tryz Go.RowKit
set_option maxRecDepth 100000
variable {es:List BE}{p:Prop}
theorem LY{a:mE}(h:a.kind=1):fD es a=zF es a:=by rw[fD,dT h];rfl
theorem tY{a:mE}(h:a.kind=2\/a.kind=3\/a.kind=4)(b:(BE.pq es a.name).isSome=false):fD es a=(es,6):=by
 rw[fD,cZ G,dT h];grind
theorem LZ{a:mE}(h:a.kind=2)(i)(b:BE.pq es a.name=some i):fD es a=(es.take i++es.drop (i+1),0):=by
 rw[fD,cZ G,dT (.inl h)];simp only[b];rw[dT h]
theorem D7{a:mE}(h:a.kind=3)(i)(b:i<es.length)(d:BE.pq es a.name=some i):fD es a=(es.set i (es[i].jo a.key),0):=by
 rw[fD,cZ G,dT (.inr (.inl h))];simp only[d];rw[cZ G];simp only[cL b];rw[dT h]
theorem P8{a:mE}(h:a.kind=4)(i)(b:i<es.length)(d:BE.pq es a.name=some i)(e:a.qm=true):fD es a=(es.set i (es[i].ry a),0):=by
 rw[fD,cZ G,dT (.inr (.inr h))];simp only[d];rw[cZ G];simp only[cL b];rw[cZ G,cZ (by rw[e];simp)]
theorem Ya{a:mE}(h:a.kind=4)(i)(b:i<es.length)(d:BE.pq es a.name=some i)(e:a.qm=false):fD es a=(es,1):=by
 rw[fD,cZ G,dT (.inr (.inr h))];simp only[d];rw[cZ G];simp only[cL b];rw[cZ G,dT e]
theorem P9{a:mE}(b:a.kind≠1)(d:a.kind≠2)(e:a.kind≠3)(f:a.kind≠4):fD es a=(es,1):=by
 rw[fD,cZ b,cZ G]
theorem Qa(g o)(es)(a)(w)(h:bU w g o es)(f:es.Pairwise (λx y=>Op.bytesLess x.name y.name=true))(i:∀e∈es,1<=e.aH/\e.aH<=4611686018427387904)(b:-9223372036854775808<=a.ae)(d:a.ae<=9223372036854775807)(k:a.name.length<=9223372036854775807):Calls prog 92 #[π g o,.agg a.cells] w λe j=>e=.returned (Y (fD es a).2)/\bU j g o (fD es a).1/\CF w j (KT g o):=by
 have Ij:=I f
 have F8:=I i
 have HAdd:=I (λw h=>Tr g o es a w h f b d k)
 have y:=I (λw h=>P7 g o es a.name ⟨a.name.toArray⟩ w h f (I rfl))
 have A:=I (λw h=>Uh g o es a.name ⟨a.name.toArray⟩ a.key w h f (I rfl) i)
 have B:=I (λw h=>JG g o es a.name ⟨a.name.toArray⟩ a w h f (I rfl) b d)
 have D:=I (λw=>zD a w)
 have x:=I (cx w (.cells a.cells 41) none)
 have HB:=I (h.grown x)
 have K:=I (xO.new w a 41)
 have L:=h.live.lt
 clear h f i b d k
 by_cases r:a.kind=1
 .have d:=I r;have J:(a.kind==1)=true:=by rw[r];rfl
  clear r;go_in;go_wp2_with fail;refine(HAdd _ HB).mono ?_;rintro e P ⟨rfl,l,k⟩;have C:=CF.before x k;clear k HAdd y A B D;go_wp2;go_ret;exact⟨by rw[LY d.o];rfl,by rw[LY d.o];exact l,C⟩
 by_cases t:a.kind=2
 .have d:=I t;have J:(a.kind==1)=false:=by rw[t];rfl
  have C:(a.kind==2)=true:=by rw[t];rfl
  clear r t;go_in;go_wp2_with fail;refine(y _ HB).mono ?_;rintro e P n;have p:=I n;clear n;cases b:BE.pq es a.name with
  |none=>
   have f:Hid ((BE.pq es a.name).isSome=false):=(by show _=_;rw[b];rfl);obtain⟨rfl,m⟩:=p.1 f.o;clear HAdd y A B D p b;go_wp2;go_ret;exact⟨by rw[tY (.inl d.o) f.o];rfl,by rw[tY (.inl d.o) f.o];exact HB.grown m,CF.bF (aa x m) _⟩
  |some i=>
   have f:=I b;obtain⟨rfl,l,k⟩:=p.2 i f.o;clear HAdd y A B D p b;go_wp2;go_ret;exact⟨by rw[LZ d.o i f.o];rfl,by rw[LZ d.o i f.o];exact l,CF.before x k⟩
 by_cases u:a.kind=3
 .have d:=I u;have J:(a.kind==1)=false:=by rw[u];rfl
  have C:(a.kind==2)=false:=by rw[u];rfl
  have M:(a.kind==3)=true:=by rw[u];rfl
  clear r t u;go_in;go_wp2_with fail;refine(A _ HB).mono ?_;rintro e P n;have p:=I n;clear n;cases b:BE.pq es a.name with
  |none=>
   have f:Hid ((BE.pq es a.name).isSome=false):=(by show _=_;rw[b];rfl);obtain⟨rfl,m⟩:=p.1 f.o;clear HAdd y A B D p b;go_wp2;go_ret;exact⟨by rw[tY (.inr (.inl d.o)) f.o];rfl,by rw[tY (.inr (.inl d.o)) f.o];exact HB.grown m,CF.bF (aa x m) _⟩
  |some i=>
   have f:=I b;obtain⟨q,_⟩:=Cm b;obtain⟨rfl,l,k⟩:=p.2 i q f.o;clear HAdd y A B D p b;go_wp2;go_ret;exact⟨by rw[D7 d.o i q f.o];rfl,by rw[D7 d.o i q f.o];exact l,CF.before x k⟩
 by_cases v:a.kind=4
 .have d:=I v;have J:(a.kind==1)=false:=by rw[v];rfl
  have C:(a.kind==2)=false:=by rw[v];rfl
  have M:(a.kind==3)=false:=by rw[v];rfl
  have ke:(a.kind==4)=true:=by rw[v];rfl
  clear r t u v;have l:Hid (∀w,bU w g o es->Calls prog 135 #[π g o,.string ⟨a.name.toArray⟩,.agg (vS a.bI a.aC a.bB a.ae)] w λe j=>e=.returned (Y (fD es a).2)/\bU j g o (fD es a).1/\CF w j (KT g o)):=by
   intro w h;refine(B w h).mono ?_;rintro e j ⟨p,P,Q⟩;cases b:BE.pq es a.name with
   |none=>
    have f:(BE.pq es a.name).isSome=false:=(by rw[b];rfl);obtain⟨rfl,m⟩:=p f;rw[tY (.inr (.inr d.o)) f];exact⟨rfl,h.grown m,CF.bF m _⟩
   |some i=>
    obtain⟨q,_⟩:=Cm b;cases n:a.qm with
    |false=>
     obtain⟨rfl,m⟩:=P (by rw[b];rfl) n;rw[Ya d.o i q b n];exact⟨rfl,h.grown m,CF.bF m _⟩
    |true=>
     obtain⟨rfl,k,m⟩:=Q i q b n;rw[P8 d.o i q b n];exact⟨rfl,k,m⟩
  have f:w.1.size≠g:=λe=>by have:=L;omega
  obtain⟨p,P,Q,R,S,T,U⟩:=K.o;clear HAdd y A B;go_in;go_wp2_with fail;go_region_held3 (λj=>j.c w.1.size 0=some (Y a.kind)/\j.c w.1.size 1=some (.string ⟨a.name.toArray⟩)/\j.c w.1.size 2=some (H (a.key.toNat:Int))/\j.c w.1.size 3=some (Y a.bI)/\j.c w.1.size 4=some (Y a.aC)/\j.c w.1.size 5=some (Y a.bB)/\j.c w.1.size 6=some (Y a.ae)) (go_keep) (first|(go_at_call 136;refine(D _).mono ?_;rintro e w5 ⟨rfl,k⟩;have b:=jg k;have m:=HB.grown b;have V:=bN b p;have W:=bN b P;have X:=bN b Q;have d3:=bN b R;have d4:=bN b S;have d5:=bN b T;have d6:=bN b U;clear k)|(go_at_call 135;refine(l _ m).mono ?_;rintro e w6 ⟨rfl,n,i⟩;have e0:=i.cell V (λq=>f q.1);have e1:=i.cell W (λq=>f q.1);have e2:=i.cell X (λq=>f q.1);have e3:=i.cell d3 (λq=>f q.1);have e4:=i.cell d4 (λq=>f q.1);have e5:=i.cell d5 (λq=>f q.1);have e6:=i.cell d6 (λq=>f q.1)));go_wp2;go_ret;exact⟨rfl,n,CF.before (aa x b) i⟩
 .have J:(a.kind==1)=false:=by rw[cJ];exact r
  have C:(a.kind==2)=false:=by rw[cJ];exact t
  have M:(a.kind==3)=false:=by rw[cJ];exact u
  have ke:(a.kind==4)=false:=by rw[cJ];exact v
  have b:Hid (fD es a=(es,1)):=P9 r t u v;clear HAdd y A B D r t u v;go_in;go_wp2;go_ret;exact⟨by rw[b];rfl,by rw[b];exact HB,CF.bF x _⟩
theorem Gm(g o)(i)(a)(w)(h:bU w g (o+2) i)(n:i.Pairwise (λx y=>Op.bytesLess x.name y.name=true))(p:∀e∈i,1<=e.aH/\e.aH<=4611686018427387904)(f:-9223372036854775808<=a.ae)(j:a.ae<=9223372036854775807)(m:a.name.length<=9223372036854775807):Calls Tryz.prog 53 #[π g o,.agg a.cells] w λe d=>e=.returned (Y (fD i a).2)/\bU d g (o+2) (fD i a).1/\CF w d (KT g (o+2)):=by
 have k:=I (λw h=>Qa g (o+2) i a w h n p f j m)
 have l:=I (cx w (.cells a.cells 41) none)
 have HB:=I (h.grown l)
 have B:=h.live.lt
 have b:w.1.size≠g:=λe=>by omega
 obtain⟨r,t,u,v,x,y,A⟩:=xO.new w a 41
 clear h n p f j m
 go_enter Tryz.func53,Tryz.ntmps53
 go_wp2_with fail
 go_region_held3 (λd=>d.c w.1.size 0=some (Y a.kind)/\d.c w.1.size 1=some (.string ⟨a.name.toArray⟩)/\d.c w.1.size 2=some (H (a.key.toNat:Int))/\d.c w.1.size 3=some (Y a.bI)/\d.c w.1.size 4=some (Y a.aC)/\d.c w.1.size 5=some (Y a.bB)/\d.c w.1.size 6=some (Y a.ae)) (go_keep) (first|(go_at_call 92;refine(k _ (HB.drewN 1)).mono ?_;rintro e K ⟨rfl,h,f⟩;have j:=f.dM.cell r (λq=>b q.1);have m:=f.dM.cell t (λq=>b q.1);have n:=f.dM.cell u (λq=>b q.1);have p:=f.dM.cell v (λq=>b q.1);have C:=f.dM.cell x (λq=>b q.1);have D:=f.dM.cell y (λq=>b q.1);have J:=f.dM.cell A (λq=>b q.1)))
 go_wp2
 go_ret
 exact⟨rfl,h,CF.before l f.dM⟩
def PF.bE(p:PF):List Value:=[.string ⟨p.ay.toArray⟩,Y p.time,Y p.count]
def bZ(l:List PF):List Value:=(l.map PF.bE).flatten
theorem iX(l):(bZ l).length=l.length*3:=by
 induction l with
 |nil=>rfl
 |cons x l a=>simp only[bZ,eE,eI,cD,de]at *;rw[a];show 3+_=_;omega
structure dE(w:World)(g o:Nat)(dp:Option Pl)(d:DM):Prop where
 live:b' w g (o+188)
 aA:w.cell? (F g o)=some (Y d.aA)
 aL:∃v,w.cell? (F g (o+1))=some v/\f' w v dp d.aL
 aF:bU w g (o+2) d.aF
 aJ:w.rangeAt g (o+163) (bZ d.aJ)
 count:w.cell? (F g (o+187))=some (Y d.aJ.length)
 few:d.aJ.length<=8
theorem Um(g o)(n)(w)(h:w.c g (o+24)=some (Y n)):Calls prog 116 #[π g o] w λe a=>e=.returned (Y n)/\a=w:=by
 go_in
 exact lO
theorem Yb(g o)(a)(n c)(w:World)(h:w.c g o=some (.slice a n c)):Calls prog 117 #[π g o] w λe b=>e=.returned (Y n)/\b=w:=by
 go_in
 exact lO
variable {g:Nat}{w w':World}
theorem Un{a:Nat}{e:TypeId}{n c:Nat}{f:List Value}(h:w.ownsRow a e 1 (ς g 0 n c) n f)(k:w.grownBy w' none):w'.ownsRow a e 1 (ς g 0 n c) n f:=
 cB h (λb d=>k.block b (by injection d with d;subst d;exact(Ar h).1) Z)
theorem gM{a b j:Nat}{e:TypeId}{n c:Nat}{u:Value}{i:List Value}(h:w.ownsRow a e 1 (ς g 0 n c) n i)(q:b<a):(w.setCell (F b j) u).ownsRow a e 1 (ς g 0 n c) n i:=by
 have r:a<=g:=by
  rcases h.2 with⟨f,_⟩|⟨p,l,m,f,o,_⟩
  .cases f
  grind
 exact cB h (λk d=>by injection d with d;grind [RowKit.Below.heap_setCell])
theorem OS{a:Nat}{d e f h:Value}(i:w.c g a=some d)(k:w.c g (a+1)=some e)(l:w.c g (a+2)=some f)(m:w.c g (a+3)=some h):w.rangeAt g a [d,e,f,h]:=by
 intro j u b;match j,b with
 |0,b=>injection b with b;subst b;exact i
 |1,b=>injection b with b;subst b;exact k
 |2,b=>injection b with b;subst b;exact l
 |3,b=>injection b with b;subst b;exact m
 |j+4,b=>simp at b
theorem JI(w:World)(b)(a d e f){g h i j:Value}(k:w.c b 0=some g)(l:w.c b 1=some h)(m:w.c b 2=some i)(n:w.c b 3=some j):
  ((((w.s b 0 a).s b 1 d).s b 2 e).s b 3 f).rangeAt b 0 [a,d,e,f]:=by
 refine OS ?_ ?_ ?_ ?_<;>try simp only[cN]
 .grind [ax,dw]
 .grind [ax,dw]
 .grind [ax,dw]
 grind [ax,dw]
theorem fT{e:Func}{a:Tmp}{f:TypeId}(h:e.results=#[.cell a f])(d)(P)(w)(b)(hp:d.getD a undef = π b 0)(x)(hl:(loadVar f ⟨b,0,none⟩).run P w=.ok x w):
  (results e d).run P w=.ok x w:=by
 have hp':d[a]?.getD undef = π b 0:=rj
 exact rm
theorem Tryz.Au:(prog.info? 101).map (·.size)=some 4:=by kernel_rfl
theorem dE.cf{ex:Nat->Nat->Prop}{o:Nat}{a:Option Pl}{d:DM}(h:dE w g o a d)(k:CF w w' ex)(i:∀j,o<=j->j<o+188->¬ ex g j)(b:∀q,a=some q->∀j,j<d.aL.length->¬ ex q.g (q.off+j)):dE w' g o a d:=by
 obtain⟨v,f,e⟩:=h.aL;exact⟨h.live.cf k,(by grind [CF.cell,dE.aA]),⟨v,(by grind [CF.cell]),e.cf k b⟩,h.aF.cf k fA,(by grind [iX,CF.range,dE.aJ,dE.few]),(by grind [CF.cell,dE.count]),h.few⟩
theorem dE.grown{o:Nat}{a:Option Pl}{d:DM}(h:dE w g o a d)(k:w.grownBy w' none):dE w' g o a d:=h.cf (CF.bF k (λ_ _=>False)) (λ_ _ _ e=>e) (λ_ _ _ _ e=>e)
theorem zp(h:p:=by
 exact dC (gM (gM (gM (gM oN1 s0) s0) s0) s0) (fg _)):p:=h
theorem Gn(g o)(t)(d)(w)(h:dE w g o t d):Calls prog 72 #[π g o] w λe w'=>∃f i,e=.returned (.agg #[ς f 0 d.aF.length d.aF.length,ς i 0 d.aF.length d.aF.length,Y d.aJ.length,Y d.aL.length])/\w'.ownsRow w.1.size 9 1 (ς f 0 d.aF.length d.aF.length) d.aF.length (d.aF.map λx=>.string ⟨x.name.toArray⟩)/\w'.ownsRow w.1.size 3 1 (ς i 0 d.aF.length d.aF.length) d.aF.length (d.aF.map λx=>Y x.aH)/\w.grownBy w' none:=by
 have b:=bg (cx w (.cells #[σ,σ,Y 0,Y 0] 101) none)
 have j:=I (λa (k:World.grownBy (w.alloc (.cells #[σ,σ,Y 0,Y 0] 101)).drew a none)=>(h.grown b).grown k)
 have n:Hid (b' (w.alloc (.cells #[σ,σ,Y 0,Y 0] 101)).drew w.1.size 4):=(b'.new w _ _).drew
 have J:=I b
 obtain⟨v,m,l⟩:=h.aL
 obtain⟨q,r,rfl,_⟩:=l.shape
 have p:=I (λa (k:World.grownBy (w.alloc (.cells #[σ,σ,Y 0,Y 0] 101)).drew a none)=>bN k (bN b m))
 clear h b m l
 go_in
 go_wp2_with fail
 go_region_held3 (λ_=>True) (trivial) (first|(go_at_call 114;refine(Ul g (o+2) d.aF _ (j _ (cC _ _)).aF).mono ?_;rintro e V ⟨f,rfl,u,h⟩)|(go_at_call 115;refine(LX g (o+2) d.aF _ (j _ h).aF).mono ?_;rintro e W ⟨i,rfl,x,k⟩;have b:=aa h k)|(go_at_call 116;refine(Um g (o+163) d.aJ.length _ (j _ b).count).mono ?_;rintro e a ⟨rfl,rfl⟩;have L:=n.grown b;obtain⟨K,A⟩:=cA.1 (L.some 0 O);obtain⟨M,B⟩:=cA.1 (L.some 1 O);obtain⟨P,C⟩:=cA.1 (L.some 2 O);obtain⟨Q,D⟩:=cA.1 (L.some 3 O);have R:=L.frozen 0;have S:=L.frozen 1;have T:=L.frozen 2;have U:=L.frozen 3)|(go_at_call 117;refine(Yb g (o+1) q d.aL.length r _ (p _ b)).mono ?_;rintro e a ⟨rfl,rfl⟩))
 go_wp2
 have s0:w.1.size<w.1.size+1:=fY _
 have oN1:=dC (Un u k) (by show w.1.size+1<=(w.alloc _).1.size;grind [cF])
 have y:=dC x (by have l:=h.size;have m:w.1.size+1<=(w.alloc (.cells #[σ,σ,Y 0,Y 0] 101)).1.size:=(by rw[cF];exact cy _);exact cE m l)
 refine bodyPost_ret (fT results72 _ _ _ w.1.size rfl _ (eP (JI a w.1.size _ _ _ _ A B C D) 101 _ underlying101 rfl Tryz.Au)) rfl ⟨f,i,rfl,?_,?_,?_⟩
 .exact zp
 .exact dC (by grind [gM]) (fg _)
 grind [az,aa,Hid.o]
theorem rR(h:p:=by grind [cF]):p:=h
theorem Tryz.Ip:(prog.info? 122).map (·.size)=some 1:=by kernel_rfl
theorem Yc{w b:World}(h:w.grownBy b none){a:Addr}{v:Value}(d:w.cell? a=some v):b.cell? a=some v:=by
 grind [World.grownBy.block,World.block_lt_of_cell?,World.cell?_of_block]
theorem MT(a)(n c)(h:E)(w)(J:Hid (h.length=n))(f:n<=140737488355328)(l:∀i,i<n->w.cell? (a.add i)=some (.int .u8 ((h.map λz=>(z.toNat:Int)).getD i 0))):Calls prog 91 #[.slice (some a) n c] w λe b=>∃v,e=.returned (.agg #[v])/\b.ownsRow w.1.size 5 1 v n (h.map U8)/\w.grownBy b none:=by
 have k:=I (cx w (.cells #[σ] 122) none)
 have m:Hid (b' (w.alloc (.cells #[σ] 122)) w.1.size 1):=b'.new w _ _
 go_in
 go_wp2_with fail
 refine(Tryz.bytes_Clone_at a n c (h.map λz=>(z.toNat:Int)) _ kA f (λi b=>?_)).mono ?_
 .exact Yc k (l i b)
 rintro e A ⟨v,rfl,own,g,d⟩;have i:World.grownBy (w.alloc (.cells #[σ] 122)) A none:=⟨d.os,d.tape,d.output,d.size,λb j _=>d.block b j⟩
 have L:=m.grown i;obtain⟨C,r⟩:=cA.1 (L.some 0 O);have D:=L.frozen 0;have B:=I (aa k i);have OW:=I own;obtain⟨x,y,rfl⟩:=bA own;have p:=I g;clear own d L i l g;go_wp2;have t:w.1.size<w.1.size+1:=fY _;have q:w.1.size+1<=(w.alloc (.cells #[σ] 122)).1.size:=rR;have i:=dC OW q;rw[List.map_map]at i;obtain⟨d,g⟩:∃d,x=some ⟨d,0,none⟩:=by
  rcases i.2 with⟨b,_⟩|⟨d,j,l,b,_⟩
  .exact absurd b p.o
  grind
 subst g;refine bodyPost_ret (fT results91 _ _ _ w.1.size rfl _ (eP (cs:=[ς d 0 n y]) (λj u b=>?_) 122 _ underlying122 rfl Tryz.Ip)) rfl ⟨_,rfl,?_,?_⟩
 .match j,b with
  |0,b=>injection b with b;subst b;exact dw _ r
  |j+1,b=>simp at b
 .exact dC (gM i t) (fg _)
 grind [Hid.o,az]
theorem Tryz.zG:(prog.info? 136).map (·.size)=some 188:=by kernel_rfl
theorem Tryz.pR:zeroCells136.size=188:=by kernel_rfl
theorem Tryz.Bo:zeroCells136.all (·.oneCell')=true:=by kernel_rfl
theorem eH{P:Program}{W:World}{b n:Nat}(a)(h:b' W b n)(e:a.length<=n)(d:∀v∈a,v.oneCell'=true):(storeCells ⟨b,0,none⟩ a).run P W=.ok () (W.setCells b 0 a):=by
 grind [b'.frozen,run_storeCells_cells,b'.some]
theorem H5(h:p:=by
 go_in
 go_wp2
 exact bodyPost_ret (aG results51 _ _ _ w.1.size rfl _ RL) rfl ⟨_,Tryz.pR,(by first|exact HO.o|(intro v hv;exact HO v (Array.mem_toList_iff.2 hv))),rfl,G⟩):p:=h
theorem Mc(a)(v)(w)(h:a<0\/300<a):Calls prog 51 #[Y a,v] w λe b=>∃x,x.size=188/\(∀v∈x.toList,v.oneCell'=true)/\e=.returned (.tuple #[.agg x,Y 1])/\w.grownBy b none:=by
 have b:=I (b'.new w zeroCells136 136)
 have HO:Hid (∀v∈zeroCells136.toList,v.oneCell'=true):=λv hv=>by have:=Tryz.Bo;rw[Array.all_eq_true_iff_forall_mem]at this;exact this v (Array.mem_toList_iff.1 hv)
 have d:=eH (P:=prog) zeroCells136.toList b (by rw[cV];exact cy _) HO.o
 have G:=I (gT w.1.size (cy _) zeroCells136.toList 0 _ (cx w (.cells zeroCells136 136) none))
 have R:=I (World.rangeAt_setCells_same (w.alloc (.cells zeroCells136 136)) w.1.size 0 zeroCells136.toList (b.there 0 _ (by rw[cV];omega)))
 have RL:=I (eP R 136 _ underlying136 rfl (by rw[Tryz.zG,cV,Tryz.pR]))
 rcases h with h|h
 .exact H5
 .have e:¬ a<0:=aZ;exact H5
def iY(Z:List Value)(aA:Int)(dv:Value):List Value:=(Z.set 0 (Y aA)).set 1 dv
theorem lF(a)(b):(iY zeroCells136.toList a b).length=188:=by
 rw[iY,eL,eL,cV,Tryz.pR]
theorem vT(d)(b)(h:b.oneCell'=true):∀v∈iY zeroCells136.toList d b,v.oneCell'=true:=by
 intro v a;rcases List.mem_or_eq_of_mem_set a with a|rfl
 .rcases List.mem_or_eq_of_mem_set a with a|rfl
  .have:=Tryz.Bo;rw[Array.all_eq_true_iff_forall_mem]at this;grind
  .rfl
 .exact h
theorem Qb(f)(v)(n)(t)(w)(M:0<=f)(Q:f<=300)(C:∀g,w.grownBy g none->Calls prog 91 #[v] g λe b=>∃d c,e=.returned (.agg #[.slice d n c])/\b.ownsRow g.1.size 5 1 (.slice d n c) n t/\g.grownBy b none):Calls prog 51 #[Y f,v] w λe b=>∃d c,e=.returned (.tuple #[.agg (iY zeroCells136.toList f (.slice d n c)).toArray,Y 0])/\b.ownsRow (w.1.size+1) 5 1 (.slice d n c) n t/\w.grownBy b none:=by
 have S:¬ f<0:=G
 have R:¬ 300<f:=G
 have D:=I C
 clear C
 have C:=I (b'.new w zeroCells136 136)
 have u:=I (cx w (.cells zeroCells136 136) none)
 go_in
 go_wp2_with fail
 refine(D _ u).mono ?_
 rintro e g ⟨d,c,rfl,own,i⟩
 have k:=C.grown i
 rw[Tryz.pR]at k
 have r:=eH (P:=prog) (iY zeroCells136.toList f (.slice d n c)) k (by rw[lF];exact cy _) (vT _ _ rfl)
 have A:=World.rangeAt_setCells_same g w.1.size 0 (iY zeroCells136.toList f (.slice d n c)) (k.there 0 _ (by rw[lF];omega))
 have B:=I (eP A 136 _ underlying136 rfl (by rw[Tryz.zG,lF]))
 have x:=I (gT w.1.size (cy _) (iY zeroCells136.toList f (.slice d n c)) 0 g (aa u i))
 have l:=dC own (by rw[cF];exact cy _)
 have y:Hid ((g.setCells w.1.size 0 (iY zeroCells136.toList f (.slice d n c))).ownsRow (w.1.size+1) 5 1 (.slice d n c) n t):=by
  refine cB l (λb h=>?_);have L:w.1.size+1<=b:=by
   rcases l.2 with⟨j,_⟩|⟨J,m,o,j,p,_⟩
   .injection j with e1 _ _;subst e1;cases h
   .injection j with e1 _ _;subst e1;injection h with h;subst h;exact p
  exact((CF.setCells (a:=g) (ex:=λq _=>q=w.1.size) w.1.size _ 0 g (CF.refl _ _) (λ_ _ _=>rfl)).block b (by
   rcases l.2 with⟨j,_⟩|⟨J,m,o,j,_,K,_⟩
   .injection j with e1 _ _;subst e1;cases h
   .injection j with e1 _ _;subst e1;injection h with h;subst h;exact(Array.getElem?_eq_some_iff.1 K).1) (λ_ q=>by omega))
 unfold iY at r B x y
 clear A k own i l
 go_wp2
 exact bodyPost_ret (aG results51 _ _ _ w.1.size rfl _ B) rfl ⟨d,c,rfl,y,x⟩
theorem Zx(l:List Value):∀(k)(Z)(i),k+l.length<=Z.size->((l.zipIdx k).foldl (λ(a:Array Value) (x:Value×Nat)=>a.setIfInBounds x.snd x.fst) Z)[i]?=if k<=i/\i<k+l.length then l[i-k]? else Z[i]?:=by
 induction l with
 |nil=>intro k Z i _;rw[cZ fA];rfl
 |cons x l a=>
  intro k Z i h;simp only[de]at h;rw[List.zipIdx_cons,List.foldl_cons,a (k+1) _ i fA];grind
theorem Tryz.Ny:Tryz.zeroCells136[162]?=some (Y 0):=by kernel_rfl
theorem Tryz.Nz:Tryz.zeroCells136[187]?=some (Y 0):=by kernel_rfl
