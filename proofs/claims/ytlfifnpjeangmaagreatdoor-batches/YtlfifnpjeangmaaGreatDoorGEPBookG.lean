import Derived.Test.YtlfifnpjeangmaaGreatDoorGEPBookF
import Derived.Test.YtlfifnpjeangmaaGreatDoorGEPBookH
namespace Go.Proofs.YtlfifnpjeangmaaGreatDoor
set_option maxHeartbeats 4000000
open Proofs.Tryz Go.RowKit
set_option maxRecDepth 100000
variable {es:List BE}{p:Prop}
theorem LM{a:mW}(h:a.kind=1):fB es a=zC es a:=by rw[fB,if_pos h];rfl
theorem tT{a:mW}(h:a.kind=2\/a.kind=3\/a.kind=4)(hn:(BE.o9 es a.name).isSome=false):fB es a=(es,6):=by
 rw[fB,if_neg agE,if_pos h];grind
theorem LQ{a:mW}(h:a.kind=2)(i)(hn:BE.o9 es a.name=some i):fB es a=(es.take i++es.drop (i+1),0):=by
 rw[fB,if_neg agE,if_pos (.inl h)];simp only[hn];rw[if_pos h]
theorem D5{a:mW}(h:a.kind=3)(i)(b:i<es.length)(hn:BE.o9 es a.name=some i):fB es a=(es.set i (es[i].jk a.key),0):=by
 rw[fB,if_neg agE,if_pos (.inr (.inl h))];simp only[hn];rw[if_neg agE];simp only[cL b];rw[if_pos h]
theorem PT{a:mW}(h:a.kind=4)(i)(b:i<es.length)(hn:BE.o9 es a.name=some i)(c:a.ql=true):fB es a=(es.set i (es[i].rq a),0):=by
 rw[fB,if_neg agE,if_pos (.inr (.inr h))];simp only[hn];rw[if_neg agE];simp only[cL b];rw[if_neg agE,if_neg (by rw[c];simp)]
theorem XL{a:mW}(h:a.kind=4)(i)(b:i<es.length)(hn:BE.o9 es a.name=some i)(c:a.ql=false):fB es a=(es,1):=by
 rw[fB,if_neg agE,if_pos (.inr (.inr h))];simp only[hn];rw[if_neg agE];simp only[cL b];rw[if_neg agE,if_pos c]
theorem PU{a:mW}(b:a.kind≠1)(e:a.kind≠2)(c:a.kind≠3)(d:a.kind≠4):fB es a=(es,1):=by
 rw[fB,if_neg b,if_neg agE]
theorem PV(g o:Nat)(es)(a)(w)(h:bS w g o es)(I:es.Pairwise (λx y=>Op.bytesLess x.name y.name=true))(L:∀e∈es,1<=e.aH/\e.aH<=4611686018427387904)(E:-9223372036854775808<=a.ae)(H:a.ae<=9223372036854775807)(Q:a.name.length<=9223372036854775807):
  Calls prog 92 #[(g,o),.agg a.cells] w λe w'=>e=.returned (ι (fB es a).2)/\bS w' g o (fB es a).1/\CF w w' (KL g o):=by
 have Ig:=hid I
 have F6:=hid L
 have HAdd:=hid (λw h=>abK g o es a w h I E H Q)
 have A:=hid (λw h=>PS g o es a.name ⟨a.name.toArray⟩ w h I (hid rfl))
 have D:=hid (λw h=>TW g o es a.name ⟨a.name.toArray⟩ a.key w h I (hid rfl) L)
 have B:=hid (λw h=>JC g o es a.name ⟨a.name.toArray⟩ a w h I (hid rfl) E H)
 have F:=hid (λw=>zB a w)
 have z:=hid (cx w (.cells a.cells 41) none)
 have HB:=hid (h.grown z.o)
 have P:=hid (xL.new w a 41)
 have N:=h.live.lt
 clear h I L E H Q
 by_cases n:a.kind=1
 ·have c:=hid n;have K:(a.kind==1)=true:=by rw[n];rfl
  clear n;go_enter func92,ntmps92;go_wp2_with fail;refine(HAdd.o _ HB.o).mono ?_;rintro e U ⟨rfl,k,j⟩;have C:=CF.before z.o j;clear j HAdd A D B F;go_wp2;go_ret;exact⟨by rw[LM c.o];rfl,by rw[LM c.o];exact k,C⟩
 by_cases r:a.kind=2
 ·have c:=hid r;have K:(a.kind==1)=false:=by rw[r];rfl
  have O:(a.kind==2)=true:=by rw[r];rfl
  clear n r;go_enter func92,ntmps92;go_wp2_with fail;refine(A.o _ HB.o).mono ?_;rintro e U m;have t:=hid m;clear m;cases b:BE.o9 es a.name with
  |none=>
   have d:Hid ((BE.o9 es a.name).isSome=false):=(by show _=_;rw[b];rfl);obtain⟨rfl,l⟩:=t.o.1 d.o;clear HAdd A D B F t b;go_wp2;go_ret;exact⟨by rw[tT (.inl c.o) d.o];rfl,by rw[tT (.inl c.o) d.o];exact HB.o.grown l,CF.bF (aa z.o l) _⟩
  |some i=>
   have d:=hid b;obtain⟨rfl,k,j⟩:=t.o.2 i d.o;clear HAdd A D B F t b;go_wp2;go_ret;exact⟨by rw[LQ c.o i d.o];rfl,by rw[LQ c.o i d.o];exact k,CF.before z.o j⟩
 by_cases s:a.kind=3
 ·have c:=hid s;have K:(a.kind==1)=false:=by rw[s];rfl
  have O:(a.kind==2)=false:=by rw[s];rfl
  have R:(a.kind==3)=true:=by rw[s];rfl
  clear n r s;go_enter func92,ntmps92;go_wp2_with fail;refine(D.o _ HB.o).mono ?_;rintro e U m;have t:=hid m;clear m;cases b:BE.o9 es a.name with
  |none=>
   have d:Hid ((BE.o9 es a.name).isSome=false):=(by show _=_;rw[b];rfl);obtain⟨rfl,l⟩:=t.o.1 d.o;clear HAdd A D B F t b;go_wp2;go_ret;exact⟨by rw[tT (.inr (.inl c.o)) d.o];rfl,by rw[tT (.inr (.inl c.o)) d.o];exact HB.o.grown l,CF.bF (aa z.o l) _⟩
  |some i=>
   have d:=hid b;obtain⟨G,_⟩:=Ch b;obtain⟨rfl,k,j⟩:=t.o.2 i G d.o;clear HAdd A D B F t b;go_wp2;go_ret;exact⟨by rw[D5 c.o i G d.o];rfl,by rw[D5 c.o i G d.o];exact k,CF.before z.o j⟩
 by_cases u:a.kind=4
 ·have c:=hid u;have K:(a.kind==1)=false:=by rw[u];rfl
  have O:(a.kind==2)=false:=by rw[u];rfl
  have R:(a.kind==3)=false:=by rw[u];rfl
  have ke:(a.kind==4)=true:=by rw[u];rfl
  clear n r s u;have M:Hid (∀w,bS w g o es->Calls prog 135 #[(g,o),.string a.name,.agg (vO a.bI a.aC a.bB a.ae)] w λe w'=>e=.returned (ι (fB es a).2)/\bS w' g o (fB es a).1/\CF w w' (KL g o)):=by
   intro w h;refine(B.o w h).mono ?_;rintro e w' ⟨Y,X,p3⟩;cases b:BE.o9 es a.name with
   |none=>
    have S:(BE.o9 es a.name).isSome=false:=(by rw[b];rfl);obtain⟨rfl,l⟩:=Y S;rw[tT (.inr (.inr c.o)) S];exact⟨rfl,h.grown l,CF.bF l _⟩
   |some i=>
    obtain⟨G,_⟩:=Ch b;cases m:a.ql with
    |false=>
     obtain⟨rfl,l⟩:=X (by rw[b];rfl) m;rw[XL c.o i G b m];exact⟨rfl,h.grown l,CF.bF l _⟩
    |true=>
     obtain⟨rfl,hb,hc⟩:=p3 i G b m;rw[PT c.o i G b m];exact⟨rfl,hb,hc⟩
  have f:w.heap.size≠g:=λe=>by have:=N;omega
  obtain⟨c0,V,c2,c3,c4,c5,c6⟩:=P.o;clear HAdd A D B;go_enter func92,ntmps92;go_wp2_with fail;go_region_held3 (λw'=>w'.cell? ⟨w.heap.size,0,none⟩=some (ι a.kind)/\w'.cell? ⟨w.heap.size,1,none⟩=some (.string a.name)/\w'.cell? ⟨w.heap.size,2,none⟩=some (υ a.key.toNat)/\w'.cell? ⟨w.heap.size,3,none⟩=some (ι a.bI)/\w'.cell? ⟨w.heap.size,4,none⟩=some (ι a.aC)/\w'.cell? ⟨w.heap.size,5,none⟩=some (ι a.bB)/\w'.cell? ⟨w.heap.size,6,none⟩=some (ι a.ae)) (go_keep) (first|(go_at_call 136;refine(F.o _).mono ?_;rintro e w5 ⟨rfl,J⟩;have p:=je J;have B5:=HB.o.grown p;have d0:=bN p c0;have W:=bN p V;have d2:=bN p c2;have d3:=bN p c3;have d4:=bN p c4;have d5:=bN p c5;have Z:=bN p c6;clear J)|(go_at_call 135;refine(M.o _ B5).mono ?_;rintro e w6 ⟨rfl,b6,v⟩;have e0:=v.cell d0 (λq=>f q.1);have e1:=v.cell W (λq=>f q.1);have e2:=v.cell d2 (λq=>f q.1);have e3:=v.cell d3 (λq=>f q.1);have e4:=v.cell d4 (λq=>f q.1);have e5:=v.cell d5 (λq=>f q.1);have e6:=v.cell Z (λq=>f q.1)));go_wp2;go_ret;exact⟨rfl,b6,CF.before (aa z.o p) v⟩
 ·have K:(a.kind==1)=false:=by rw[cJ];exact n
  have O:(a.kind==2)=false:=by rw[cJ];exact r
  have R:(a.kind==3)=false:=by rw[cJ];exact s
  have ke:(a.kind==4)=false:=by rw[cJ];exact u
  have T:Hid (fB es a=(es,1)):=PU n r s u;clear HAdd A D B F n r s u;go_enter func92,ntmps92;go_wp2;go_ret;exact⟨by rw[T.o];rfl,by rw[T.o];exact HB.o,CF.bF z.o _⟩
theorem Gj(g o:Nat)(d)(a)(w)(h:bS w g (o+2) d)(n:d.Pairwise (λx y=>Op.bytesLess x.name y.name=true))(m:∀e∈d,1<=e.aH/\e.aH<=4611686018427387904)(f:-9223372036854775808<=a.ae)(i:a.ae<=9223372036854775807)(k:a.name.length<=9223372036854775807):
  Calls Tryz.prog 53 #[(g,o),.agg a.cells] w λe w'=>e=.returned (ι (fB d a).2)/\bS w' g (o+2) (fB d a).1/\CF w w' (KL g (o+2)):=by
 have j:=hid (λw h=>PV g (o+2) d a w h n m f i k)
 have l:=hid (cx w (.cells a.cells 41) none)
 have HB:=hid (h.grown l.o)
 have u:=h.live.lt
 have b:w.heap.size≠g:=λe=>by omega
 obtain⟨z,p,v,r,t,A,B⟩:=xL.new w a 41
 clear h n m f i k
 go_enter Tryz.func53,Tryz.ntmps53
 go_wp2_with fail
 go_region_held3 (λw'=>w'.cell? ⟨w.heap.size,0,none⟩=some (ι a.kind)/\w'.cell? ⟨w.heap.size,1,none⟩=some (.string a.name)/\w'.cell? ⟨w.heap.size,2,none⟩=some (υ a.key.toNat)/\w'.cell? ⟨w.heap.size,3,none⟩=some (ι a.bI)/\w'.cell? ⟨w.heap.size,4,none⟩=some (ι a.aC)/\w'.cell? ⟨w.heap.size,5,none⟩=some (ι a.bB)/\w'.cell? ⟨w.heap.size,6,none⟩=some (ι a.ae)) (go_keep) (first|(go_at_call 92;refine(j.o _ (HB.o.drewN 1)).mono ?_;rintro e J ⟨rfl,s,c⟩;have H:=c.dM.cell z (λq=>b q.1);have E:=c.dM.cell p (λq=>b q.1);have C:=c.dM.cell v (λq=>b q.1);have I:=c.dM.cell r (λq=>b q.1);have D:=c.dM.cell t (λq=>b q.1);have F:=c.dM.cell A (λq=>b q.1);have G:=c.dM.cell B (λq=>b q.1)))
 go_wp2
 go_ret
 exact⟨rfl,s,CF.before l.o c.dM⟩
def PF.bE(p:PF):List Value:=[.string p.ay,ι p.time,ι p.count]
def bY(l:List PF):List Value:=(l.map PF.bE).flatten
theorem iW(l):(bY l).length=l.length*3:=by
 induction l with
 |nil=>rfl
 |cons x l a=>simp only[bY,eE,eI,cD,de]at *;rw[a];show 3+_=_;omega
structure dE(w:World)(g o:Nat)(dp:Option Pl)(d:DM):Prop where
 live:Live w g (o+188)
 aA:w.cell? (g,o)=some (ι d.aA)
 aL:∃v,w.cell? (g,o+1)=some v/\Out w v dp d.aL
 aG:bS w g (o+2) d.aG
 aJ:w.rangeAt g (o+163) (bY d.aJ)
 count:w.cell? (g,o+187)=some (ι d.aJ.length)
 few:d.aJ.length<=8
theorem Ub(g o:Nat)(n)(w)(h:w.cell? (g,o+24)=some (ι n)):
  Calls prog 116 #[(g,o)] w λe w'=>e=.returned (ι n)/\w'=w:=by
 go_enter func116,ntmps116
 exact aaE
theorem XM(g o:Nat)(a)(n c)(w:World)(h:w.cell? (g,o)=some (.slice a n c)):
  Calls prog 117 #[(g,o)] w λe w'=>e=.returned (ι n)/\w'=w:=by
 go_enter func117,ntmps117
 exact aaE
variable {g:Nat}{w w':World}
theorem Uc{base:Nat}{e:TypeId}{n c:Nat}{d:List Value}(h:w.ownsRow base e 1 (.slice (some (g,0)) n c) n d)(k:w.grownBy w' none):w'.ownsRow base e 1 (.slice (some (g,0)) n c) n d:=
 bZ h (λb a=>k.block b (by injection a with a;subst a;exact(Am h).1) agI)
theorem gK{base b j:Nat}{e:TypeId}{n c:Nat}{u:Value}{d:List Value}(h:w.ownsRow base e 1 (.slice (some (g,0)) n c) n d)(o:b<base):(w.setCell (b,j) u).ownsRow base e 1 (.slice (some (g,0)) n c) n d:=by
 have p:base<=g:=by
  rcases h.2 with⟨f,_⟩|⟨m,cap,l,f,i,_⟩
  ·cases f
  grind
 exact bZ h (λk a=>by injection a with a;grind [RowKit.Below.heap_setCell])
theorem afm{a:Nat}{f c e d:Value}(k:w.cell? (g,a)=some f)(h:w.cell? (g,a+1)=some c)(i:w.cell? (g,a+2)=some e)(l:w.cell? (g,a+3)=some d):w.rangeAt g a [f,c,e,d]:=by
 intro j u b;match j,b with
 |0,b=>injection b with b;subst b;exact k
 |1,b=>injection b with b;subst b;exact h
 |2,b=>injection b with b;subst b;exact i
 |3,b=>injection b with b;subst b;exact l
 |j+4,b=>simp at b
theorem JE(w:World)(b:Nat)(v0 v1 v2 v3){e d c a:Value}(f:w.cell? (b,0)=some e)(j:w.cell? (b,1)=some d)(h:w.cell? (b,2)=some c)(i:w.cell? (b,3)=some a):
  ((((w.setCell (b,0) v0).setCell (b,1) v1).setCell (b,2) v2).setCell (b,3) v3).rangeAt b 0 [v0,v1,v2,v3]:=by
 refine afm ?_ ?_ ?_ ?_<;>try simp only[cN]
 ·grind [ax,di]
 ·grind [ax,di]
 ·grind [ax,di]
 grind [ax,di]
theorem fP{e:Func}{a:Tmp}{d:TypeId}(h:e.results=#[.cell a d])(c)(P)(w)(b:Nat)(hp:c.getD a undef=.pointer (some (b,0)))(x)(hl:(loadVar d ⟨b,0,none⟩).run P w=.ok x w):
  (results e c).run P w=.ok x w:=by
 have hp':c[a]?.getD undef=.pointer (some (b,0)):=ahr
 exact aek
theorem Tryz.Ao:(prog.info? 101).map (·.size)=some 4:=by kernel_rfl
theorem dE.cf{ex:Nat->Nat->Prop}{o:Nat}{dp:Option Pl}{d:DM}(h:dE w g o dp d)(k:CF w w' ex)(c:∀j,o<=j->j<o+188->¬ ex g j)(a:∀q,dp=some q->∀j,j<d.aL.length->¬ ex q.g (q.off+j)):dE w' g o dp d:=by
 obtain⟨v,e,b⟩:=h.aL;exact⟨h.live.cf k,(by grind [CF.cell,dE.aA]),⟨v,(by grind [CF.cell]),b.cf k a⟩,h.aG.cf k agM,(by grind [iW,CF.range,dE.aJ,dE.few]),(by grind [CF.cell,dE.count]),h.few⟩
theorem dE.grown{o:Nat}{dp:Option Pl}{d:DM}(h:dE w g o dp d)(k:w.grownBy w' none):dE w' g o dp d:=h.cf (CF.bF k (λ_ _=>False)) (λ_ _ _ e=>e) (λ_ _ _ _ e=>e)
theorem afk(h:p:=by
 exact dC (gK (gK (gK (gK oN1 s0) s0) s0) s0) (fg _)):p:=h
theorem Gl(g o:Nat)(dp)(d)(w)(h:dE w g o dp d):
  Calls prog 72 #[(g,o)] w λe w'=>∃b f,e=.returned (.agg #[.slice (some ⟨b,0,none⟩) d.aG.length d.aG.length,.slice (some ⟨f,0,none⟩) d.aG.length d.aG.length,ι d.aJ.length,ι d.aL.length])/\w'.ownsRow w.heap.size 9 1 (.slice (some ⟨b,0,none⟩) d.aG.length d.aG.length) d.aG.length (d.aG.map λx=>.string x.name)/\w'.ownsRow w.heap.size 3 1 (.slice (some ⟨f,0,none⟩) d.aG.length d.aG.length) d.aG.length (d.aG.map λx=>ι x.aH)/\w.grownBy w' none:=by
 have c:=bg (cx w (.cells #[.slice none 0 0,.slice none 0 0,ι 0,ι 0] 101) none)
 have i:=hid (λa (k:World.grownBy (w.alloc (.cells #[.slice none 0 0,.slice none 0 0,ι 0,ι 0] 101)).drew a none)=>(h.grown c).grown k)
 have y:Hid (Live (w.alloc (.cells #[.slice none 0 0,.slice none 0 0,ι 0,ι 0] 101)).drew w.heap.size 4):=(Live.new w _ _).drew
 have G:=hid c
 obtain⟨v,m,n⟩:=h.aL
 obtain⟨r,u,rfl,_⟩:=n.shape
 have t:=hid (λa (k:World.grownBy (w.alloc (.cells #[.slice none 0 0,.slice none 0 0,ι 0,ι 0] 101)).drew a none)=>bN k (bN c m))
 clear h c m n
 go_enter func72,ntmps72
 go_wp2_with fail
 go_region_held3 (λ_=>True) (trivial) (first|(go_at_call 114;refine(Ua g (o+2) d.aG _ (i.o _ (cC _ _)).aG).mono ?_;rintro e P ⟨b,rfl,z,l⟩)|(go_at_call 115;refine(LK g (o+2) d.aG _ (i.o _ l).aG).mono ?_;rintro e H ⟨f,rfl,A,p⟩;have j:=aa l p)|(go_at_call 116;refine(Ub g (o+163) d.aJ.length _ (i.o _ j).count).mono ?_;rintro e a ⟨rfl,rfl⟩;have L:=y.o.grown j;obtain⟨N,D⟩:=cA.1 (L.some 0 agF);obtain⟨I,B⟩:=cA.1 (L.some 1 agF);obtain⟨R,s⟩:=cA.1 (L.some 2 agF);obtain⟨Q,F⟩:=cA.1 (L.some 3 agF);have J:=L.frozen 0;have O:=L.frozen 1;have M:=L.frozen 2;have K:=L.frozen 3)|(go_at_call 117;refine(XM g (o+1) r d.aL.length u _ (t.o _ j)).mono ?_;rintro e a ⟨rfl,rfl⟩))
 go_wp2
 have s0:w.heap.size<w.heap.size+1:=fY _
 have oN1:=dC (Uc z p) (by show w.heap.size+1<=(w.alloc _).heap.size;grind [cF])
 have C:=dC A (by have E:=l.size;have q:w.heap.size+1<=(w.alloc (.cells #[.slice none 0 0,.slice none 0 0,ι 0,ι 0] 101)).heap.size:=(by rw[cF];exact cy _);exact cE q E)
 refine bodyPost_ret (fP results72 _ _ _ w.heap.size rfl _ (eG (JE a w.heap.size _ _ _ _ D B s F) 101 _ underlying101 rfl Tryz.Ao)) rfl ⟨b,f,rfl,?_,?_,?_⟩
 ·exact afk
 ·exact dC (by grind [gK]) (fg _)
 grind [az,aa,RowKit.Hid.o]
theorem aiZ(h:p:=by grind [cF]):p:=h
theorem Tryz.Il:(prog.info? 122).map (·.size)=some 1:=by kernel_rfl
theorem XN{w w':World}(h:w.grownBy w' none){a:Addr}{v:Value}(b:w.cell? a=some v):w'.cell? a=some v:=by
 grind [World.grownBy.block,World.block_lt_of_cell?,World.cell?_of_block]
theorem aiv(a)(n c)(l:List UInt8)(w)(hn:Hid (l.length=n))(h:n<=140737488355328)(t:∀i,i<n->w.cell? (a.add i)=some (.int .u8 ((l.map λz=>(z.toNat:Int)).getD i 0))):
  Calls prog 91 #[.slice (some a) n c] w λe w'=>∃v,e=.returned (.agg #[v])/\w'.ownsRow w.heap.size 5 1 v n (l.map U8)/\w.grownBy w' none:=by
 have s:=hid (cx w (.cells #[.slice none 0 0] 122) none)
 have A:Hid (Live (w.alloc (.cells #[.slice none 0 0] 122)) w.heap.size 1):=Live.new w _ _
 go_enter func91,ntmps91
 go_wp2_with fail
 refine(Tryz.bytes_Clone_at a n c (l.map λz=>(z.toNat:Int)) _ agR h (λi C=>?_)).mono ?_
 ·exact XN s.o (t i C)
 rintro e H ⟨v,rfl,own,g,f⟩;have r:World.grownBy (w.alloc (.cells #[.slice none 0 0] 122)) H none:=⟨f.os,f.tape,f.output,f.size,λb q _=>f.block b q⟩
 have L:=A.o.grown r;obtain⟨M,G⟩:=cA.1 (L.some 0 agF);have J:=L.frozen 0;have K:=hid (aa s.o r);have OW:=hid own;obtain⟨F,E,rfl⟩:=bA own;have I:=hid g;clear own f L r t g;go_wp2;have B:w.heap.size<w.heap.size+1:=fY _;have D:w.heap.size+1<=(w.alloc (.cells #[.slice none 0 0] 122)).heap.size:=aiZ;have p:=dC OW.o D;rw[List.map_map]at p;obtain⟨k,m⟩:∃k,F=some ⟨k,0,none⟩:=by
  rcases p.2 with⟨x,_⟩|⟨k,cap,y,x,_⟩
  ·exact absurd x I.o
  grind
 subst m;refine bodyPost_ret (fP results91 _ _ _ w.heap.size rfl _ (eG (cs:=[.slice (some (k,0)) n E]) (λj u d=>?_) 122 _ underlying122 rfl Tryz.Il)) rfl ⟨_,rfl,?_,?_⟩
 ·match j,d with
  |0,d=>injection d with d;subst d;exact di _ G
  |j+1,d=>simp at d
 ·exact dC (gK p B) (fg _)
 grind [RowKit.Hid.o,az]
theorem Tryz.zD:(prog.info? 136).map (·.size)=some 188:=by kernel_rfl
theorem Tryz.pO:zeroCells136.size=188:=by kernel_rfl
theorem Tryz.Bi:zeroCells136.all (·.oneCell')=true:=by kernel_rfl
theorem eF{P:Program}{W:World}{b n:Nat}(a)(h:Live W b n)(hn:a.length<=n)(c:∀v∈a,v.oneCell'=true):(storeCells ⟨b,0,none⟩ a).run P W=.ok () (W.setCells b 0 a):=by
 grind [Live.frozen,run_storeCells_cells,Live.some]
theorem acC(h:p:=by
 go_enter func51,ntmps51
 go_wp2
 exact bodyPost_ret (aF results51 _ _ _ w.heap.size rfl _ RL.o) rfl ⟨_,Tryz.pO,(by first|exact HO.o|(intro v hv;exact HO.o v (Array.mem_toList_iff.2 hv))),rfl,G.o⟩):p:=h
theorem LX(aA)(v)(w)(h:aA<0\/300<aA):
  Calls prog 51 #[ι aA,v] w λe w'=>∃x,x.size=188/\(∀v∈x.toList,v.oneCell'=true)/\e=.returned (.tuple #[.agg x,ι 1])/\w.grownBy w' none:=by
 have a:=hid (Live.new w zeroCells136 136)
 have HO:Hid (∀v∈zeroCells136.toList,v.oneCell'=true):=λv hv=>by have:=Tryz.Bi;rw[Array.all_eq_true_iff_forall_mem]at this;exact this v (Array.mem_toList_iff.1 hv)
 have b:=eF (P:=prog) zeroCells136.toList a.o (by rw[cV];exact cy _) HO.o
 have G:=hid (gQ w.heap.size (cy _) zeroCells136.toList 0 _ (cx w (.cells zeroCells136 136) none))
 have R:=hid (World.rangeAt_setCells_same (w.alloc (.cells zeroCells136 136)) w.heap.size 0 zeroCells136.toList (a.o.there 0 _ (by rw[cV];omega)))
 have RL:=hid (eG R.o 136 _ underlying136 rfl (by rw[Tryz.zD,cV,Tryz.pO]))
 rcases h with h|h
 ·exact acC
 ·have c:¬ aA<0:=agE;exact acC
def iX(Z:List Value)(aA:Int)(dv:Value):List Value:=(Z.set 0 (ι aA)).set 1 dv
theorem lD(aA)(dv):(iX zeroCells136.toList aA dv).length=188:=by
 rw[iX,eL,eL,cV,Tryz.pO]
theorem vP(aA)(dv)(h:dv.oneCell'=true):∀v∈iX zeroCells136.toList aA dv,v.oneCell'=true:=by
 intro v a;rcases List.mem_or_eq_of_mem_set a with a|rfl
 ·rcases List.mem_or_eq_of_mem_set a with a|rfl
  ·have:=Tryz.Bi;rw[Array.all_eq_true_iff_forall_mem]at this;grind
  ·rfl
 ·exact h
theorem PW(aA)(v)(n)(p)(w)(G:0<=aA)(H:aA<=300)(C:∀f,w.grownBy f none->Calls prog 91 #[v] f λe w'=>∃d c,e=.returned (.agg #[.slice d n c])/\w'.ownsRow f.heap.size 5 1 (.slice d n c) n p/\f.grownBy w' none):
  Calls prog 51 #[ι aA,v] w λe w'=>∃d c,e=.returned (.tuple #[.agg (iX zeroCells136.toList aA (.slice d n c)).toArray,ι 0])/\w'.ownsRow (w.heap.size+1) 5 1 (.slice d n c) n p/\w.grownBy w' none:=by
 have hn:¬ aA<0:=agE
 have F:¬ 300<aA:=agE
 have z:=hid C
 clear C
 have A:=hid (Live.new w zeroCells136 136)
 have x:=hid (cx w (.cells zeroCells136 136) none)
 go_enter func51,ntmps51
 go_wp2_with fail
 refine(z.o _ x.o).mono ?_
 rintro e f ⟨d,c,rfl,own,h⟩
 have j:=A.o.grown h
 rw[Tryz.pO]at j
 have r:=eF (P:=prog) (iX zeroCells136.toList aA (.slice d n c)) j (by rw[lD];exact cy _) (vP _ _ rfl)
 have s:=World.rangeAt_setCells_same f w.heap.size 0 (iX zeroCells136.toList aA (.slice d n c)) (j.there 0 _ (by rw[lD];omega))
 have y:=hid (eG s 136 _ underlying136 rfl (by rw[Tryz.zD,lD]))
 have t:=hid (gQ w.heap.size (cy _) (iX zeroCells136.toList aA (.slice d n c)) 0 f (aa x.o h))
 have k:=dC own (by rw[cF];exact cy _)
 have u:Hid ((f.setCells w.heap.size 0 (iX zeroCells136.toList aA (.slice d n c))).ownsRow (w.heap.size+1) 5 1 (.slice d n c) n p):=by
  refine bZ k (λb g=>?_);have D:w.heap.size+1<=b:=by
   rcases k.2 with⟨i,_⟩|⟨B,cap,l,i,m,_⟩
   ·injection i with e1 _ _;subst e1;cases g
   ·injection i with e1 _ _;subst e1;injection g with g;subst g;exact m
  exact((CF.setCells (a:=f) (ex:=λq _=>q=w.heap.size) w.heap.size _ 0 f (CF.refl _ _) (λ_ _ _=>rfl)).block b (by
   rcases k.2 with⟨i,_⟩|⟨B,cap,l,i,_,E,_⟩
   ·injection i with e1 _ _;subst e1;cases g
   ·injection i with e1 _ _;subst e1;injection g with g;subst g;exact(Array.getElem?_eq_some_iff.1 E).1) (λ_ q=>by omega))
 unfold iX at r y t u
 clear s j own h k
 go_wp2
 exact bodyPost_ret (aF results51 _ _ _ w.heap.size rfl _ y.o) rfl ⟨d,c,rfl,u.o,t.o⟩
theorem Zc(l:List Value):∀(k)(Z)(i),k+l.length<=Z.size->((l.zipIdx k).foldl (λ(a:Array Value) (x:Value×Nat)=>a.setIfInBounds x.snd x.fst) Z)[i]?=if k<=i/\i<k+l.length then l[i-k]? else Z[i]?:=by
 induction l with
 |nil=>intro k Z i _;rw[if_neg agM];rfl
 |cons x l b=>
  intro k Z i h;simp only[de]at h;rw[List.zipIdx_cons,List.foldl_cons,b (k+1) _ i agM];grind
theorem Tryz.Nr:Tryz.zeroCells136[162]?=some (ι 0):=by kernel_rfl
theorem Tryz.Ns:Tryz.zeroCells136[187]?=some (ι 0):=by kernel_rfl
end Go.Proofs.YtlfifnpjeangmaaGreatDoor
