import Derived.Test.YtlfifnpjeangmaaGreatDoorGERNxoB
import Derived.Test.YtlfifnpjeangmaaGreatDoorGERFstB
namespace Go.Proofs.YtlfifnpjeangmaaGreatDoor
set_option maxHeartbeats 8000000
open Proofs.Tryz Go.RowKit
set_option maxRecDepth 100000
set_option linter.unusedSimpArgs false
theorem Tryz.Vs:(prog.info? 170).map (·.size)=some 3:=by kernel_rfl
theorem Vt{w:World}{b:Nat}{x y z:Value}(h:w.rangeAt b 0 [x,y,z]):(loadVar 170 ⟨b,0,none⟩).run prog w=.ok (.agg #[x,y,z]) w:=eG h 170 _ underlying170 rfl Tryz.Vs
theorem Kr{e:Func}{a:Tmp}{d:TypeId}(h:e.results=#[.cell a d])(c)(P)(w)(b:Nat)(hp:c.getD a undef=.pointer (some (b,0)))(x)(hl:(loadVar d ⟨b,0,none⟩).run P w=.ok x w):
  (results e c).run P w=.ok x w:=by
 have hp':c[a]?.getD undef=.pointer (some (b,0)):=ahr
 exact aek
def Vu(w w':World)(e:Ending):Prop:=∃(o:Value) (z:List UInt8) (s:UInt64) (c:List UInt8),e=.returned (.agg #[o,υ s.toNat,.string c])/\Has w' o z/\z.length<=30000000/\c.length<=1048576/\w.grownBy w' none
structure HB(w V:World)(base yb:Nat)(M:DM)(g:RG)(a:qJ):Prop where
 d:RD V base yb M g
 c:V.rangeAt w.heap.size 0 a.cells
 r:Live V (w.heap.size+1) 3
 g:w.grownBy V none
theorem HB.grown{w V f:World}{base e:Nat}{M:DM}{g:RG}{a:qJ}(h:HB w V base e M g a)(k:V.grownBy f none):HB w f base e M g a:=
 ⟨h.d.keep (λb i=>k.block b (h.d.lt b i).2 agI),aB h.c k,h.r.grown k,aa h.g k⟩
theorem Vv(base v:Nat)(M)(g)(a:qJ)(w)(U:RD w base v M g)(T:fU 4611686018427387904 M.aG)(y:a.Ok):
  Calls prog 59 #[(v,0),.agg a.arr] w λe w'=>Vu w w' e:=by
 obtain⟨ib,E,NZ,N7,aH⟩:=info_parts Tryz.A9
 have HL:Hid (HB w ((w.alloc (.cells a.arr 45)).alloc (.cells #[.slice none 0 0,υ 0,.string ⟨#[]⟩] 170)) base v M g a):=by
  have k:=aM (cx w (.cells a.arr 45) none) (.cells #[.slice none 0 0,υ 0,.string ⟨#[]⟩] 170);refine⟨U.keep (λb hb=>k.block b (U.lt b hb).2 agI),aB (aS w a.arr _) (cx _ _ _),?_,k⟩;grind [Live.new,cF]
 rw[qJ.oL]at HL⊢
 clear U
 go_enter func59,ntmps59
 go_upto_region 1 with fail
 refine kE (λV=>HB w V base v M g a) HL.o ?_
 clear HL
 intro W hW
 have HW:=hid hW
 clear hW
 have CK:=hid (λW (hW:RD W base v M g)=>E8 base v M g [116,103,115] W hW T)
 go_wp2_with fail
 refine(CK.o _ HW.o.d).mono ?_
 rintro e l ⟨key,kn,rfl,aF,aA,C⟩
 have f:=hid (HW.o.grown C)
 clear HW C CK
 have P:l.cell? (w,11)=some (ι a.hand.ae):=f.o.c 11 _ rfl
 have Q:l.cell? (w,12)=some (υ a.hand.aN.toNat):=f.o.c 12 _ rfl
 have ab:l.cell? (w,13)=some (.string a.hand.ay):=f.o.c 13 _ rfl
 have ag:l.cell? (w,14)=some (ι a.hand.dV):=f.o.c 14 _ rfl
 have R:l.cell? (w,15)=some (ι a.hand.start):=f.o.c 15 _ rfl
 have ah:l.cell? (w,16)=some (ι a.hand.fin):=f.o.c 16 _ rfl
 have ad:l.cell? (w,17)=some (ι a.hand.aC):=f.o.c 17 _ rfl
 go_upto_region 3 with fail
 refine kE (λV=>HB w V base v M g a/\V.rangeAt l.heap.size 0 a.hand.cells) ⟨f.o.grown (cx l _ none),aS l a.hand.cells.toArray _⟩ ?_
 obtain⟨p,D⟩:=aq l.heap.size
 rw[D]
 clear D f P Q ab ag R ah ad
 rintro V ⟨hV,hT⟩
 have I:=hid hV
 have q:=hid hT
 clear hV hT
 as_aux_lemma=>
  refine aD.start (S:=λX=>V.grownBy X none) 24 agP ?_;have dY:Hid (V.grownBy V.drew none):=bg (cC _ _);have HA:=hid (Acc.nil V.drew 1100000);refine aD.tk 0 [0] ?_;refine aD.tk 1 [1] ?_ (hy:=by intro W hW;have s:W.cell? ⟨p,0,none⟩=some (ι a.hand.ae):=(aB q.o hW) 0 _ rfl;exact kI);refine aD.tk 3 [3] ?_;refine aD.tk 4 [4] ?_ (hy:=by intro W hW;have s:W.cell? ⟨p,1,none⟩=some (υ a.hand.aN.toNat):=(aB q.o hW) 1 _ rfl;exact kI);refine aD.tk 7 [7] ?_;refine aD.tk 8 [8] ?_ (hy:=by intro W hW;have s:W.cell? ⟨p,2,none⟩=some (.string a.hand.ay):=(aB q.o hW) 2 _ rfl;exact kI);refine aD.tk 10 [10] ?_;refine aD.tk 11 [11] ?_ (hy:=by intro W hW;have s:W.cell? ⟨p,3,none⟩=some (ι a.hand.dV):=(aB q.o hW) 3 _ rfl;exact kI);refine aD.tk 13 [13] ?_;refine aD.tk 14 [14] ?_ (hy:=by intro W hW;have s:W.cell? ⟨p,4,none⟩=some (ι a.hand.start):=(aB q.o hW) 4 _ rfl;exact kI);refine aD.tk 16 [16] ?_;refine aD.tk 17 [17] ?_ (hy:=by intro W hW;have s:W.cell? ⟨p,5,none⟩=some (ι a.hand.fin):=(aB q.o hW) 5 _ rfl;exact kI);refine aD.tk 19 [19] ?_;refine aD.tk 20 [20] ?_ (hy:=by intro W hW;have s:W.cell? ⟨p,6,none⟩=some (ι a.hand.aC):=(aB q.o hW) 6 _ rfl;exact kI);refine aD.on 2 ?_;refine bx0 (bQ a.hand.ae _ y.hand.ae) trivial ?_;clear HA dY;intro V5 a5 c5 HA dY;refine aD.on 5 ?_;intro K hK;refine Calls.mono (ZE _ _) ?_;rintro e V5 ⟨o5,rfl,q5,g5⟩;obtain⟨a5,c5,rfl⟩:=q5.shape;have HE:=hid q5;have uJ:=hid (HA.o.grown g5);have Tc:=hid (aa dY.o g5);clear HA dY q5 g5;have HA:=uJ;have dY:=Tc;clear uJ Tc;go_wp2_with fail;refine hkr ?_;clear hK K;refine aD.on 6 ?_;refine bx0 (lW _ _ _ HE.o ahO) trivial ?_;clear HA dY HE;intro V5 a6 c6 HA dY;refine aD.on 9 ?_;refine bx0 (kM a.hand.ay _ (by grind [qJ.Ok.yH])) y.yH ?_;clear HA dY;intro V5 a5 c5 HA dY;refine aD.on 12 ?_;refine bx0 (bQ a.hand.dV _ y.hand.dV) trivial ?_;clear HA dY;intro V5 a5 c5 HA dY;refine aD.on 15 ?_;refine bx0 (bQ a.hand.start _ y.hand.start) trivial ?_;clear HA dY;intro V5 a5 c5 HA dY;refine aD.on 18 ?_;refine bx0 (bQ a.hand.fin _ y.hand.fin) trivial ?_;clear HA dY;intro V5 a5 c5 HA dY;refine aD.on 21 ?_;refine bx0 (bQ a.hand.aC _ y.hand.aC) trivial ?_;clear HA dY;intro V5 a5 c5 HA dY;refine aD.on0 22 ?_;intro K hK;refine HA.o.bsl 175 7 _ rfl 37 ib _ underlying175 E N7 NZ rfl rfl agF agF ?_;refine hkx (aM dY.o _) ?_;clear hK K;refine aD.on 23 ?_;intro K hK;refine Calls.mono (HA.o.list _ 7 rfl agI agF agF) ?_;rintro e V6 ⟨o6,rfl,j,t,L⟩;obtain⟨A,q7,l7⟩:∃z:List UInt8,Has V6 o6 z/\z.length<=7*1100000+4:=⟨_,j,t⟩
  clear j t;have j:=q7;have t:=l7;clear q7 l7;obtain⟨pa,pc,u⟩:=j.shape;subst u;obtain⟨O,i⟩:=aq A.length;rw[i]at j⊢;have m:=hid (And.intro j (And.intro t (aa dY.o L)));clear j t L i;go_wp2_with fail;refine hkx m.o.2.2 ?_;clear hK K;refine aD.on 24 ?_;intro K hK;refine hkl ?_;clear hK K;refine aD.EX (λX=>V.grownBy X none/\Has X (.slice pa O pc) A) agP ⟨m.o.2.2,m.o.1⟩ ?_;have Vi:Hid (A.length<=7700004):=cE m.o.2.1 agF;clear m dY HA;rintro X ⟨hX,hP⟩;have HX:=hid hX;have HP:=hid hP;clear hX hP;obtain⟨k1,ao⟩:=rO a.xu;obtain⟨k2,ak⟩:=rO ((key.toNat:Int)+(k1.toNat:Int));have ar:X.cell? (w,19)=some (ι a.xu):=(aB I.o.c HX.o) 19 _ rfl;have F:=hid (λW (hW:Has W (.slice pa O pc) A)=>A8 k2 2 5 2 A (.slice pa O pc) W agF agF rfl agR hW);go_wp2_with fail;refine(F.o _ HP.o).mono ?_;rintro e X1 ⟨o1,rfl,H,C⟩;obtain⟨sa,sc,an⟩:=H.shape;subst an;obtain⟨SL,G⟩:=aw (Pure.fE k2 2 5 A);have ZF:SL.length<=7700020:=by grind [RowKit.Hid.o,Pure.dx]
  rw[<-G]at H⊢;obtain⟨sn,J⟩:=aq SL.length;rw[J]at H⊢;have tC:=hid (aa HX.o C);have Eo:=hid H;have ai:=hid ZF;clear C H HX HP F ar G ZF J ao ak;as_aux_lemma=>
   obtain⟨nn,aE,al⟩:∃n:Int,IntKind.i64.wrap (kn+a.oO)=n/\In64 n:=⟨_,rfl,by rw[IntKind.wrap_i64];unfold In64;omega⟩
   go_wp2_with fail;refine aD.start (S:=λY=>V.grownBy Y none) 15 agP ?_;have dY:Hid (V.grownBy X1.drew none):=bg tC.o;have HA:=hid (Acc.nil X1.drew 8000000);have HZ:=hid (Eo.o.grown (bg (cC X1 none)));clear Eo;refine aD.tk 1 [1] ?_;refine aD.tk 2 [2] ?_;refine aD.tk 3 [3] ?_ (hy:=by intro W hW;have s:W.cell? ⟨w.heap.size,18,none⟩=some (ι a.oO):=(aB I.o.c hW) 18 _ rfl;exact kI);refine aD.tk 4 [4] ?_;refine aD.tk 6 [6] ?_;refine aD.tk 10 [10] ?_;refine aD.tk 11 [11] ?_ (hy:=by intro W hW;have s:W.cell? ⟨p,1,none⟩=some (υ a.hand.aN.toNat):=(aB q.o hW) 1 _ rfl;exact kI);refine aD.tk 12 [12] ?_;refine aD.tk 13 [13] ?_ (hy:=by intro W hW;have s:W.cell? ⟨p,2,none⟩=some (.string a.hand.ay):=(aB q.o hW) 2 _ rfl;exact kI);refine aD.on 0 ?_;refine bx1 (kM [116,103,115] _ agF) trivial ?_;clear HA dY HZ;intro V5 a5 c5 HA dY HZ;refine aD.on 5 ?_;refine bx1 (bQ nn _ al) trivial ?_;clear HA dY HZ;intro V5 a5 c5 HA dY HZ;refine aD.on 7 ?_;refine bx1 (lW SL _ _ HZ.o agR) ai.o ?_;clear HA dY HZ;intro V5 a5 c5 HA dY HZ;refine aD.on0 8 ?_;intro K hK;refine HA.o.bsl 175 3 _ rfl 37 ib _ underlying175 E N7 NZ rfl rfl agF agF ?_;refine hkx (aM dY.o _) ?_;clear hK K;refine aD.on 9 ?_;intro K hK;have af:=hid I.o.r.lt;have aj:=hid dY.o.size;refine Calls.mono (HA.o.Zo _ 3 rfl agI agF agF) ?_;rintro e V6 ⟨o6,BX,rfl,j,_,t,L⟩;obtain⟨aI,au,u⟩:=bA j;subst u;obtain⟨ax,i⟩:=aq BX.length;rw[i]at j⊢;have Z:=hid i;have Ws:=hid (dC j aj.o);have m:=hid (And.intro t (aa dY.o L));have N:=hid (I.o.r.grown m.o.2);clear j t L i;go_wp2_with fail;refine hkx m.o.2 ?_;clear hK K;have B:=hid m.o.2;clear dY;have dY:=B;clear B;refine aD.tk 14 [14] ?_;obtain⟨⟨d0,j0⟩,⟨d1,j1⟩,⟨d2,j2⟩,l0,l1,l2⟩:=IP N.o;refine aD.on 15 ?_;intro K hK;refine hkl ?_;clear hK K;refine aD.done agP ?_;go_wp2;refine bodyPost_ret (Kr results59 _ _ _ (w.heap.size+1) rfl _ (Vt (fD N.o _ _ _))) rfl ?_;refine⟨_,BX,a.hand.aN,a.hand.ay,rfl,Has.own (e:=5) (base:=V.heap.size) ?_,agR,y.yH,?_⟩
   ·have h0:=af.o;rw[Z.o];refine bZ Ws.o (λb hb=>?_);have av:=(Ws.o.lt b hb).1;have x:b≠w.heap.size+1:=agE;rw[Below.heap_setCell _ _ _ b x,Below.heap_setCell _ _ _ b x,Below.heap_setCell _ _ _ b x]
   ·exact az (az (az (aa I.o.g m.o.2) (en _ 1)) (en _ 1)) (en _ 1)
theorem ahz{p:Prop}(h:p:=by have:=(HV.o.s.grown hW).cell;rw[HSv.o]at this;exact this):p:=h
variable {sb so:Nat}{sv:Value}{w:World}
theorem Tryz.Cv:(prog.info? 45).map (·.size)=some 25:=by kernel_rfl
theorem ZG{base:Nat}{e:TypeId}{g n c:Nat}{f:List Value}(h:w.ownsRow base e 1 (.slice (some (g,0)) n c) n f):Live w g n:=by
 rcases h.2 with⟨d,_⟩|⟨k,l,a,d,_,j,i,_,b,_⟩
 ·cases d
 ·injection d with e1 e2 e3;injection e1 with e1;injection e1 with e1;subst e1;exact⟨a,_,j,by rw[b];omega⟩
structure KN where
 box:Value
 z:List UInt8
 s:UInt64
 c:List UInt8
def KN.cells(k:KN):List Value:=[k.box,υ k.s.toNat,.string k.c]
def nS(l:List KN):List Value:=(l.map KN.cells).flatten
theorem wz(l):∀(k j)(hk:k<l.length),j<3->(nS l)[k*3+j]?=(l[k]).cells[j]?:=by
 induction l with
 |nil=>intro k j hk;simp at hk
 |cons a l c=>
  intro k j hk b;cases k with
  |zero=>
   show(a.cells++nS l)[0*3+j]?=_;rw[cW (by simp[KN.cells];omega)];simp
  |succ k=>
   show(a.cells++nS l)[(k+1)*3+j]?=_;rw[cY (by simp[KN.cells];omega)];have h:=c k j ahA b;rw[show(k+1)*3+j-a.cells.length=k*3+j from by simp[KN.cells];omega];exact h
structure SaidAt(w:World)(base sb so:Nat)(sv:Value)(kl:List KN):Prop where
 cell:w.cell? (sb,so)=some sv
 row:w.ownsRow base 170 3 sv kl.length (nS kl)
 own:∀k∈kl,w.ownsRow base 5 1 k.box k.z.length (k.z.map U8)/\k.z.length<=1000/\k.c.length<=1048576
theorem SaidAt.has{base:Nat}{kl:List KN}(h:SaidAt w base sb so sv kl):∀k∈kl,Has w k.box k.z/\k.z.length<=1000/\k.c.length<=1048576:=λk a=>⟨Has.own (h.own k a).1,(h.own k a).2⟩
theorem SaidAt.grown{w':World}{base:Nat}{kl:List KN}(h:SaidAt w base sb so sv kl)(k:w.grownBy w' none):SaidAt w' base sb so sv kl:=
 ⟨k.cell h.cell agI,h.row.kept k (eR _),λx a=>⟨(h.own x a).1.kept k (eR _),(h.own x a).2⟩⟩
def KW(W V:World)(bk:Nat):Prop:=∃(o:Value) (z:List UInt8) (s:UInt64) (c:List UInt8),V.rangeAt bk 0 [o,υ s.toNat,.string c]/\Has V o z/\z.length<=30000000/\c.length<=1048576/\Live V bk 3/\W.grownBy V none
structure RB(w V:World)(base yb:Nat)(M:DM)(g:RG)(a:qJ)(sb so:Nat)(sv:Value)(kl:List KN):Prop where
 d:RD V base yb M g
 c:V.rangeAt w.heap.size 0 a.cells
 s:SaidAt V base sb so sv kl
 g:w.grownBy V none
theorem RB.grown{V f:World}{base e:Nat}{M:DM}{g:RG}{a:qJ}{kl:List KN}(h:RB w V base e M g a sb so sv kl)(k:V.grownBy f none):RB w f base e M g a sb so sv kl:=
 ⟨h.d.keep (λb i=>k.block b (h.d.lt b i).2 agI),aB h.c k,h.s.grown k,aa h.g k⟩
theorem RB.new{base c:Nat}{M:DM}{g:RG}{kl:List KN}(a)(t)(d:RD w base c M g)(hS:SaidAt w base sb so sv kl):RB w (w.alloc (.cells a.arr t)) base c M g a sb so sv kl:=by
 have k:=cx w (.cells a.arr t) none;exact⟨d.keep (λb e=>k.block b (d.lt b e).2 agI),aS w a.arr t,hS.grown k,k⟩
theorem Kt(base F:Nat)(M)(g)(a:qJ)(aI:List UInt8)(sb so:Nat)(sv)(kl)(w)(hD:RD w base F M g)(aO:fU 4611686018427387904 M.aG)(C:a.Ok)(a8:aI.length<=1048576)(hS:SaidAt w base sb so sv kl):
  Calls prog 31 #[(sb,so),(F,0),.string aI,.agg a.arr] w λe w'=>∃r:List UInt8,e=.returned (.string r)/\r.length<=300000000/\w.grownBy w' none:=by
 obtain⟨ib,aW,NZ,N7,cc⟩:=info_parts Tryz.A9
 have HL:=hid (RB.new a 45 hD hS)
 have CF:=hid (λW (hW:RD W base F M g)=>Re base F M g a W hW aO C)
 have CH:=hid (λW (hW:RD W base F M g)=>Vv base F M g a W hW aO C)
 clear hD hS
 have cd:=C.kind
 go_enter func31,ntmps31
 go_upto_region 2 with fail
 refine kE (λV=>RB w V base F M g a sb so sv kl) HL.o ?_
 clear HL
 intro W hW
 have R:=hid hW
 have c0:W.cell? (w,0)=some (ι a.kind):=hW.c 0 _ rfl
 clear hW
 go_upto_block 0 with fail
 go_cut [9] (λb wx=>∃z:List UInt8,wx.ownsRow W.heap.size 5 1 b z.length (z.map U8)/\0<z.length/\z.length<=300000000/\RB w wx base F M g a sb so sv kl)
 case first=>
  by_cases J:a.kind=1
  ·have bG:(a.kind==1)=true:=(by rw[J];rfl);clear J;go_wp2_with (first|(refine wpList_load_mid rfl 45 _ rfl w.heap.size 0 rfl a.cells _ R.o.c underlying45 rfl Tryz.Cv ?_)|fail)
   refine(CF.o _ R.o.d).mono ?_;rintro e W1 ⟨o,z,rfl,i,p,l,Q⟩;have Z:=hid (And.intro i (And.intro p (And.intro l Q)));clear i p l Q;go_wp2;go_meet
   case rel=>exact⟨z,Z.o.1,Z.o.2.1,cE Z.o.2.2.1 agF,R.o.grown Z.o.2.2.2⟩
  ·have bG:(a.kind==1)=false:=(by simpa using J);by_cases O:a.kind=2
   ·have bM:(a.kind==2)=true:=(by rw[O];rfl);clear O J;as_aux_lemma=>
     go_wp2_with (first|(refine wpList_load_mid rfl 45 _ rfl w.heap.size 0 rfl a.cells _ R.o.c underlying45 rfl Tryz.Cv ?_)|fail)
     refine(CH.o _ R.o.d).mono ?_;rintro e W1 ⟨o,z,ks,kc,rfl,hH,l,v,Q⟩;obtain⟨oa,oc,bx⟩:=hH.shape;subst bx;obtain⟨N,D⟩:=aq z.length;rw[D]at hH⊢;go_upto_region 8 with fail
     refine kE (λV=>RB w V base F M g a sb so sv kl/\KW W V W1.heap.size) ⟨R.o.grown (aa Q (cx W1 _ none)),.slice oa N oc,z,ks,kc,aS W1 #[.slice oa N oc,υ ks.toNat,.string kc] _,hH.grown (cx W1 _ none),cE l agF,v,Live.new W1 #[.slice oa N oc,υ ks.toNat,.string kc] _,aa Q (cx W1 _ none)⟩ ?_;have JD:=hid Q.size;obtain⟨bk,bj⟩:=aq W1.heap.size;rw[bj]at JD⊢;clear bj D hH l v Q c0;rintro V ⟨hV,hK⟩;have HV:=hid hV;have HK:=hid hK;clear hV hK;obtain⟨m,hm⟩:=aq kl.length;obtain⟨sa,sc,af⟩:=bA HV.o.s.row;rw[hm]at af;have y0:V.cell? (sb,so)=some (.slice sa m sc):=(by have:=HV.o.s.cell;rw[af]at this;exact this);have aN:V.cell? (w,10)=some (ι a.ticket):=HV.o.c 10 _ rfl;have bE:=C.ticket;have HM:=hid hm;have HSv:=hid af;clear hm af;obtain⟨tb,aK⟩:=aq ((decide (0<a.ticket)&&decide ((0:Int)<(m:Int))));have Wt:=hid aK;clear aK;go_cut [38] (λx wx=>x=.bool tb/\V=wx)
     case first=>
      by_cases ht:0<a.ticket
      ·have HL:=hid ht;by_cases ab:(0:Int)<(m:Int)
       ·have L:=hid ab;go_wp2;go_meet
        case rel=>exact⟨by rw[<-Wt.o,dk HL.o,dk L.o];congr 1;have:=L.o;simp;omega,rfl⟩
       ·have L:=hid (eS.1 ab);go_wp2;go_meet
        case rel=>exact⟨by rw[<-Wt.o,dk HL.o,cX (eS.2 L.o)];congr 1;have:=L.o;simp;omega,rfl⟩
      ·have HL:=hid (eS.1 ht);go_wp2;go_meet
       case rel=>exact⟨by rw[<-Wt.o,cX (eS.2 HL.o)];rfl,rfl⟩
     case rest=>
      obtain⟨rfl,rfl⟩:=hcut;go_upto_if 38 with fail
      go_cut [] (λwx=>RB w wx base F M g a sb so sv kl/\KW W wx bk)
      case first=>
       cases tb with
       |false=>
        go_wp2;go_meet
        case rel=>exact⟨HV.o,HK.o⟩
       |true=>
        have Ag:0<a.ticket/\0<m:=by
         have h:=Wt.o;simp at h;exact h
        obtain⟨cb,ab⟩:=Ag;obtain⟨gk,ck,aQ,B,b2⟩:=jI HV.o.s.row (by rw[HM.o];exact ab);have bz:sa=some ⟨gk,0,none⟩:=by
         have e:=HSv.o.symm.trans aQ;injection e
        subst bz;have cj:m<=9223372036854775807:=by
         rcases HV.o.s.row.2 with⟨_,h0⟩|⟨_,cp,_,_,_,_,J,O,_⟩
         ·rw[HM.o]at h0;omega
         ·rw[HM.o]at J;unfold maxLen at O;omega
        obtain⟨tm,Ag,b9,ch⟩:∃t:Int,(a.ticket-1).tmod (m:Int)=t/\0<=t/\t<(m:Int):=by
         refine⟨_,rfl,?_,?_⟩
         ·exact Int.tmod_nonneg _ agE
         ·rw[fk agE];exact Int.emod_lt_of_pos _ agE
        obtain⟨f,ae,bm⟩:∃k:Nat,(m:Int)-1-tm=(k:Int)/\k<m:=⟨((m:Int)-1-tm).toNat,by omega,by omega⟩
        have bS:(0:Int)<(m:Int):=agE;have bR:¬ m=0:=agE;have b3:IntKind.i64.wrap (a.ticket-1)=a.ticket-1:=(by rw[IntKind.wrap_i64];have:=bE.2;omega);have bV:(m:Int)<=9223372036854775807:=agE;have bO:(f:Int)<(m:Int):=agE;have bs:(0:Int)<=(f:Int):=agE;have b0:IntKind.i64.wrap ((m:Int)-1)=(m:Int)-1:=ag6;have b4:IntKind.i64.wrap ((m:Int)-1-tm)=(f:Int):=ag6;have cg:IntKind.i64.wrap (f:Int)=(f:Int):=ag6;have E:f<kl.length:=(by rw[HM.o];exact bm);obtain⟨A,hkx⟩:=aq (kl[f]'E);have bJ:Hid (A∈kl):=(by show _∈_;rw[<-hkx];exact ef E);have ar:Hid (Has V A.box A.z/\A.z.length<=1000/\A.c.length<=1048576):=HV.o.s.has A (by rw[<-hkx];exact ef E);obtain⟨xa,xc,ag⟩:=ar.o.1.shape;obtain⟨xn,aC⟩:=aq A.z.length;rw[aC]at ag;have wy:Hid (∀X,V.grownBy X none->X.cell? (gk,f*3)=some (.slice xa xn xc)/\X.cell? (gk,f*3+1)=some (υ A.s.toNat)/\X.cell? (gk,f*3+2)=some (.string A.c)):=by
         intro X hX;have U:=aB B hX;have h0:=wz kl f 0 E agF;have J:=wz kl f 1 E agF;have O:=wz kl f 2 E agF;rw[hkx]at h0 J O;have r0:=U (f*3+0) _ h0;have r1:=U (f*3+1) _ J;have r2:=U (f*3+2) _ O;rw[cN]at r0 r1 r2;rw[<-ag];exact⟨r0,r1,r2⟩
        have bt:=hid ag;have cf:=hid aC;clear B hkx ag aC aQ Wt;go_wp2_with fail;refine aD.start (S:=λX=>V.grownBy X none) 22 agP ?_;have dY:Hid (V.grownBy V.drew none):=bg (cC _ _);clear y0 aN;refine aD.tk 0 [0] ?_;refine aD.tk 1 [1] ?_;refine aD.tk 2 [2] ?_;refine aD.tk 3 [3] ?_ (hy:=by intro W hW;have n:=ahz;exact kI);refine aD.tk 4 [4] ?_;refine aD.tk 5 [5] ?_;refine aD.tk 6 [6] ?_;refine aD.tk 7 [7] ?_ (hy:=by intro W hW;have n:=ahz;exact kI);refine aD.tk 8 [8] ?_;refine aD.tk 9 [9] ?_;refine aD.tk 10 [10] ?_;refine aD.tk 11 [11] ?_ (hy:=by intro W hW;have n:W.cell? ⟨w.heap.size,10,none⟩=some (ι a.ticket):=(aB HV.o.c hW) 10 _ rfl;exact kI);refine aD.tk 12 [12] ?_;refine aD.tk 13 [13] ?_;refine aD.tk 14 [14] ?_;refine aD.tk 15 [15] ?_;refine aD.tk 16 [16] ?_ (hy:=by intro W hW;have n:=ahz;exact kI);refine aD.tk 17 [17] ?_;refine aD.tk 18 [18] ?_;refine aD.tk 19 [19] ?_;refine aD.tk 20 [20] ?_;refine aD.tk 21 [21] ?_ (hy:=by intro W hW;obtain⟨n,e2,e3⟩:=wy.o W hW;exact kI);obtain⟨_,_,_,_,_,_,_,_,I,_⟩:=HK.o;obtain⟨⟨d0,j0⟩,⟨d1,j1⟩,⟨d2,j2⟩,l0,l1,l2⟩:=IP I;clear I;refine aD.on 22 ?_;intro K hK;refine hkl ?_;clear hK K;refine aD.done agP ?_;go_wp2_with fail;go_meet
        case rel=>
         obtain⟨_,_,_,_,_,_,_,_,I,ai⟩:=HK.o;have aH:=JD.o;have GS:=az (j:=2) (u:=.string A.c) (az (j:=1) (u:=υ A.s.toNat) (az (j:=0) (u:=.slice xa xn xc) (bg ai) aH) aH) aH;have a7:=R.o.grown GS;refine⟨a7,.slice xa xn xc,A.z,A.s,A.c,fD (I.grown (bg (cC V none))) _ _ _,?_,cE ar.o.2.1 agF,ar.o.2.2,dH (dH (dH (I.grown (bg (cC V none))) _) _) _,GS⟩;have h9:=(a7.s.has A bJ.o).1;rw[bt.o]at h9;exact h9
      case rest=>
       obtain⟨hR,aJ⟩:=hcut;refine Ko (λV=>RB w V base F M g a sb so sv kl/\KW W V bk) ⟨hR,aJ⟩ ?_;clear HV HK y0 aN HM HSv Wt hR aJ;rintro V ⟨hV,hK⟩;have HV:=hid hV;obtain⟨ko,kz,aY,ba,U,hH,l,v,_,ai⟩:=hK;have bB:=hid ai;have bh:=hid U;have bC:=hid hH;have bl:=hid l;have bq:=hid v;obtain⟨ka,bT,aR⟩:=hH.shape;obtain⟨kn,av⟩:=aq kz.length;rw[av]at aR;subst aR;have bK:V.cell? (w,20)=some (.string a.jY):=hV.c 20 _ rfl;have k2:V.cell? (bk,2)=some (.string ba):=U 2 _ rfl;have bX:=hid av;clear hV U hH l v ai av;go_upto_if 64 with fail
       obtain⟨eb,a6⟩:=aq a.jY.isEmpty;rw[a6];clear a6;go_cut [11] (λx wx=>∃c:List UInt8,x=.string c/\c.length<=1048576/\V=wx)
       case first=>
        cases eb with
        |true=>
         go_wp2;go_meet
         case rel=>exact⟨ba,rfl,bq.o,rfl⟩
        |false=>
         go_wp2;go_meet
         case rel=>exact⟨a.jY,rfl,C.jY,rfl⟩
       case rest=>
        obtain⟨c,rfl,v,rfl⟩:=hcut;have Gi:=hid v;clear v bK k2;go_wp2_with fail;refine aD.start (S:=λX=>V.grownBy X none) 10 agP ?_;have dY:Hid (V.grownBy V.drew none):=bg (cC _ _);have HA:=hid (Acc.nil V.drew 1100000);refine aD.tk 0 [0] ?_;refine aD.tk 2 [2] ?_;refine aD.tk 3 [3] ?_ (hy:=by intro W hW;have n:W.cell? ⟨w.heap.size,21,none⟩=some (ι a.oP):=(aB HV.o.c hW) 21 _ rfl;exact kI);refine aD.tk 5 [5] ?_;refine aD.tk 6 [6] ?_ (hy:=by intro W hW;have n:W.cell? ⟨w.heap.size,22,none⟩=some (ι a.kC):=(aB HV.o.c hW) 22 _ rfl;exact kI);refine aD.on 1 ?_;refine bx0 (kM c _ (cE Gi.o agF)) Gi.o ?_;clear HA dY;intro V5 a5 c5 HA dY;refine aD.on 4 ?_;refine bx0 (bQ a.oP _ C.oP) trivial ?_;clear HA dY;intro V5 a5 c5 HA dY;refine aD.on 7 ?_;refine bx0 (bQ a.kC _ C.kC) trivial ?_;clear HA dY;intro V5 a5 c5 HA dY;refine aD.on0 8 ?_;intro K hK;refine HA.o.bsl 175 3 _ rfl 37 ib _ underlying175 aW N7 NZ rfl rfl agF agF ?_;refine hkx (aM dY.o _) ?_;clear hK K;refine aD.on 9 ?_;intro K hK;refine Calls.mono (HA.o.list _ 3 rfl agI agF agF) ?_;rintro e V6 ⟨o6,rfl,T,l6,g6⟩;obtain⟨PL,q7,l7⟩:∃z:List UInt8,Has V6 o6 z/\z.length<=3*1100000+4:=⟨_,T,l6⟩
        clear T l6;have T:=q7;have l6:=l7;clear q7 l7;obtain⟨pa,pc,bp⟩:=T.shape;subst bp;obtain⟨pn,aL⟩:=aq PL.length;rw[aL]at T⊢;have G:=hid (And.intro T (And.intro l6 (aa dY.o g6)));clear T l6 g6 aL;go_wp2_with fail;refine hkx G.o.2.2 ?_;clear hK K;refine aD.on 10 ?_;intro K hK;refine hkl ?_;clear hK K;refine aD.EX (λX=>V.grownBy X none/\Has X (.slice pa pn pc) PL) agP ⟨G.o.2.2,G.o.1⟩ ?_;have Vi:Hid (PL.length<=3300004):=G.o.2.1;clear G dY HA;rintro X ⟨hX,hP⟩;have HX:=hid hX;have HP:=hid hP;clear hX hP;obtain⟨u1,br⟩:=rO a.uk;obtain⟨u2,bN⟩:=rO ((aY.toNat:Int)+(u1.toNat:Int));obtain⟨u3,bw⟩:=rO a.kC;have O6:X.cell? (w,22)=some (ι a.kC):=(aB HV.o.c HX.o) 22 _ rfl;have bD:X.cell? (w,23)=some (ι a.uk):=(aB HV.o.c HX.o) 23 _ rfl;have k1:X.cell? (bk,1)=some (υ aY.toNat):=(aB bh.o HX.o) 1 _ rfl;have aX:=hid (λW (hW:Has W (.slice pa pn pc) PL)=>A8 u2 4 u3 4 PL (.slice pa pn pc) W agF agF rfl (cE Vi.o agF) hW);go_wp2_with fail;refine(aX.o _ HP.o).mono ?_;rintro e X1 ⟨o1,rfl,q1,Q⟩;obtain⟨b7,bY,bL⟩:=q1.shape;subst bL;obtain⟨SL,aE⟩:=aw (Pure.fE u2 4 u3 PL);have ZF:SL.length<=3300020:=(by rw[aE,Pure.dx];have:=Vi.o;omega);rw[<-aE]at q1⊢;obtain⟨sn,bd⟩:=aq SL.length;rw[bd]at q1⊢;have tC:=hid (aa HX.o Q);have Eo:=hid q1;have aZ:=hid ZF;clear Q q1 HX HP aX O6 bD k1 aE ZF bd br bN bw;as_aux_lemma=>
         go_wp2_with fail;refine aD.start (S:=λY=>V.grownBy Y none) 22 agP ?_;have dY:Hid (V.grownBy X1.drew none):=bg tC.o;have HA:=hid (Acc.nil X1.drew 31000000);have HZ:=hid (Eo.o.grown (bg (cC X1 none)));have HB:=hid (bC.o.grown dY.o);clear Eo;refine aD.tk 1 [1] ?_;refine aD.tk 2 [2] ?_ (hy:=by intro W hW;have n:=(aB bh.o hW) 0 _ rfl;exact kI);refine aD.tk 3 [3] ?_;refine aD.tk 5 [5] ?_;refine aD.tk 6 [6] ?_ (hy:=by intro W hW;have n:W.cell? ⟨w.heap.size,2,none⟩=some (.string a.aV):=(aB HV.o.c hW) 2 _ rfl;exact kI);refine aD.tk 8 [8] ?_;refine aD.tk 9 [9] ?_ (hy:=by intro W hW;have n:W.cell? ⟨w.heap.size,3,none⟩=some (ι a.bU):=(aB HV.o.c hW) 3 _ rfl;exact kI);refine aD.tk 11 [11] ?_;refine aD.tk 12 [12] ?_ (hy:=by intro W hW;have n:W.cell? ⟨w.heap.size,5,none⟩=some (ι a.dI):=(aB HV.o.c hW) 5 _ rfl;exact kI);refine aD.tk 14 [14] ?_;refine aD.tk 15 [15] ?_ (hy:=by intro W hW;have n:W.cell? ⟨w.heap.size,6,none⟩=some (ι a.bW):=(aB HV.o.c hW) 6 _ rfl;exact kI);refine aD.tk 17 [17] ?_;refine aD.tk 18 [18] ?_ (hy:=by intro W hW;have n:W.cell? ⟨w.heap.size,7,none⟩=some (ι a.options):=(aB HV.o.c hW) 7 _ rfl;exact kI);refine aD.on 0 ?_;refine bx2 (bQ 12 _ ⟨by decide,by decide⟩) trivial ?_;clear HA dY HZ HB;intro V5 a5 c5 HA dY HZ HB;have uJ:=hid (HA.o.push (cC _ none) HB.o (cE bl.o agF));clear HA;have HA:=uJ;clear uJ;refine aD.on 4 ?_;refine bx2 (lW SL _ _ HZ.o (cE aZ.o agF)) aZ.o ?_;clear HA dY HZ HB;intro V5 a5 c5 HA dY HZ HB;refine aD.on 7 ?_;refine bx2 (kM a.aV _ (cE C.aV agF)) C.aV ?_;clear HA dY HZ HB;intro V5 a5 c5 HA dY HZ HB;refine aD.on 10 ?_;refine bx2 (bQ a.bU _ C.bU) trivial ?_;clear HA dY HZ HB;intro V5 a5 c5 HA dY HZ HB;refine aD.on 13 ?_;refine bx2 (bQ a.dI _ C.dI) trivial ?_;clear HA dY HZ HB;intro V5 a5 c5 HA dY HZ HB;refine aD.on 16 ?_;refine bx2 (bQ a.bW _ C.bW) trivial ?_;clear HA dY HZ HB;intro V5 a5 c5 HA dY HZ HB;refine aD.on 19 ?_;refine bx2 (bQ a.options _ C.options) trivial ?_;clear HA dY HZ HB;intro V5 a5 c5 HA dY HZ HB;refine aD.on0 20 ?_;intro K hK;refine HA.o.bsl 175 8 _ rfl 37 ib _ underlying175 aW N7 NZ rfl rfl agF agF ?_;refine hkx (aM dY.o _) ?_;clear hK K;refine aD.on 21 ?_;intro K hK;have bH:=hid (cE bB.o.size dY.o.size);refine Calls.mono (HA.o.Zo _ 8 rfl agI agF agF) ?_;rintro e V6 ⟨o6,z8,rfl,T,z6,l6,g6⟩;have G:=hid (And.intro T (And.intro z6 (And.intro l6 (And.intro (aa dY.o g6) bH.o))));clear T z6 l6 g6;go_wp2_with fail;refine hkx G.o.2.2.2.1 ?_;clear hK K;refine aD.on 22 ?_;intro K hK;refine hkl ?_;clear hK K;refine aD.done agP ?_;go_wp2_with fail;go_meet
         case rel=>exact⟨z8,dC G.o.1 G.o.2.2.2.2,G.o.2.1,cE G.o.2.2.1 agF,HV.o.grown G.o.2.2.2.1⟩
   ·have bM:(a.kind==2)=false:=(by simpa using O);go_wp2;go_ret;exact⟨aI,rfl,cE a8 agF,R.o.g⟩
 case rest=>
  obtain⟨z,i,p,l,aU⟩:=hcut;obtain⟨bb,bc,bP,B,aT⟩:=jI i p;subst bP;obtain⟨N,D⟩:=aq z.length;rw[D]at i p⊢;refine Ko (λV=>RB w V base F M g a sb so sv kl/\V.ownsRow W.heap.size 5 1 (.slice (some (bb,0)) N bc) N (z.map U8)) ⟨aU,i⟩ ?_;have bo:=hid R.o.g.size;clear i B aU R c0 CF CH;rintro V ⟨hV,i⟩;have HV:=hid hV;have Z:=hid i;have ah:=hid D;have au:=hid l;clear hV i D l;have bI:V.cell? (w,24)=some (ι a.qp):=HV.o.c 24 _ rfl;have aj:=C.qp;by_cases ad:a.qp=0
  ·have bn:(a.qp==0)=true:=(by rw[ad];rfl);clear ad;have aF:At V (some ⟨bb,0,none⟩) z:=by
    obtain⟨ao,cap,hv,_,_,_,h⟩:=iY Z.o;injection hv with n e2 e3;rw[n];exact h
   have an:=ic (P:=prog) V 37 9 5 underlying37 underlying5 underlying9 (some ⟨bb,0,none⟩) bc z aF;rw[ah.o]at an;go_wp2;go_ret;exact⟨z,rfl,au.o,HV.o.g⟩
  ·have bn:(a.qp==0)=false:=(by simpa using ad);clear ad;obtain⟨f,ae⟩:=aq (vH a.qp N);have aP:f<N:=(by rw[<-ae];exact DF _ p);have bu:N<=9223372036854775807:=(by have:=au.o;rw[ah.o]at this;omega);have al:=hid (λW=>DI a.qp N W aj.1 aj.2 p bu);rw[ae]at al;obtain⟨q,hq,ak⟩:∃q:Int,a.qp.tdiv 1000=q/\In64 q:=by
    refine⟨_,rfl,?_⟩;have J:=aj.1;have O:=aj.2;unfold In64;rcases Int.le_total 0 a.qp with h|h
    ·rw[Int.tdiv_eq_ediv_of_nonneg h];omega
    ·have e:a.qp.tdiv 1000=-((-a.qp) / 1000):=(by rw[<-Int.tdiv_eq_ediv_of_nonneg agE,Int.neg_tdiv,Int.neg_neg]);rw[e];omega
   have b6:IntKind.i64.wrap q=q:=(by rw[IntKind.wrap_i64];have J:=ak.1;have O:=ak.2;omega);obtain⟨H,ax⟩:=aq (vH q 255);have bZ:H<255:=(by rw[<-ax];exact DF _ agF);have bf:=hid (λW=>DI q 255 W ak.1 ak.2 agF agF);rw[ax]at bf;have aA:f<z.length:=(by rw[ah.o];exact aP);obtain⟨x,hx⟩:=aq (z[f]'aA);have bF:bits .xor .u8 (x.toNat:Int) (1+(H:Int))=((x ^^^ UInt8.ofNat (1+H)).toNat:Int):=by
    rw[<-K7,eo,ez agE];rfl
   have wy:Hid (V.rangeAt bb 0 (z.map U8)):=by
    obtain⟨g2,c2,hv,U,_⟩:=jI Z.o p;injection hv with n;injection n with n;injection n with n;subst n;exact U
   have a1:Hid (∀X,V.grownBy X none->X.cell? (bb,f)=some (.int .u8 x.toNat)):=by
    intro X hX;have:=(aB wy.o hX) f (U8 x) (by rw[eA,cL aA,hx];rfl);rw[cN]at this;exact this
   have ay:=hid (ZG Z.o);have b8:=hid hx;have ZH:=hid aT;have bO:(f:Int)<(N:Int):=agE;have bs:(0:Int)<=(f:Int):=agE;have ca:(H:Int)<255:=agE;have cl:(0:Int)<=(H:Int):=agE;have b5:IntKind.i64.wrap (1+(H:Int))=1+(H:Int):=ag6;have b1:IntKind.u8.wrap (1+(H:Int))=1+(H:Int):=(by show(1+(H:Int)) % 256=_;omega);obtain⟨y,hy⟩:=aq (x ^^^ UInt8.ofNat (1+H));rw[hy]at bF;clear ae ax hy hx aT Z;go_wp2_with fail;refine(al.o _).mono ?_;rintro e V1 ⟨rfl,rfl⟩;clear al bI;go_wp2_with fail;refine aD.start (S:=λX=>V.grownBy X none) 14 agP ?_;have dY:Hid (V.grownBy V.drew none):=bg (cC _ _);refine aD.tk 0 [0] ?_;refine aD.tk 1 [1] ?_;refine aD.tk 2 [2] ?_;refine aD.tk 3 [3] ?_;refine aD.tk 4 [4] ?_;refine aD.tk 5 [5] ?_ (hy:=by intro W hW;have n:=a1.o W hW;exact kI);refine aD.tk 6 [6] ?_;refine aD.tk 7 [7] ?_ (hy:=by intro W hW;have n:W.cell? ⟨w.heap.size,24,none⟩=some (ι a.qp):=(aB HV.o.c hW) 24 _ rfl;exact kI);refine aD.tk 8 [8] ?_;refine aD.on 9 ?_;intro K hK;refine Calls.mono (bf.o _) ?_;rintro e V2 ⟨rfl,rfl⟩;go_wp2_with fail;refine hkr ?_;clear hK K;refine aD.tk 10 [10] ?_;refine aD.tk 11 [11] ?_;refine aD.tk 12 [12] ?_;refine aD.tk 13 [13] ?_;have l0:=ay.o.frozen f;obtain⟨d0,j0⟩:=cA.1 (ay.o.some f aP);refine aD.on 14 ?_;intro K hK;refine hkl ?_;clear hK K;refine aD.EX (λY=>At Y (some ⟨bb,0,none⟩) (z.set f y)/\w.grownBy Y none) agP ⟨?_,?_⟩ ?_
   ·have h:=range_one wy.o (k:=f) (by rw[cR];exact aA) (.int .u8 y.toNat);have e:(z.map U8).set f (.int .u8 y.toNat)=(z.set f y).map U8:=(by rw[List.map_set];rfl);rw[e]at h;exact At.yR (aB h (bg (cC _ none)))
   ·exact bg (az HV.o.g (cE bo.o ZH.o))
   rintro Y ⟨aF,hg⟩;have HG:=hid hg;clear hg wy a1 ay;have an:=ic (P:=prog) Y 37 9 5 underlying37 underlying5 underlying9 (some ⟨bb,0,none⟩) bc (z.set f y) aF;rw[eL,ah.o]at an;go_wp2;go_ret;exact⟨z.set f y,rfl,by rw[eL];exact au.o,HG.o⟩
variable {W:World}
theorem BF{e:Func}{a u t:Tmp}{d:TypeId}(h:e.results=#[.tmp t,.cell a d,.tmp u])(c)(P)(w)(b:Nat)(hp:c.getD a undef=.pointer (some (b,0)))(x)(hl:(loadVar d ⟨b,0,none⟩).run P w=.ok x w):
  (results e c).run P w=.ok (.tuple #[c.getD t undef,x,c.getD u undef]) w:=by
 have hp':c[a]?.getD undef=.pointer (some (b,0)):=ahr
 exact aek
def adh(w w':World)(e:Ending):Prop:=∃(o:Value) (t:TK) (b:Bool) (z:List UInt8),e=.returned (.tuple #[o,.agg t.cells.toArray,.bool b])/\w'.ownsRow w.heap.size 5 1 o z.length (z.map U8)/\z.length<=1000/\(b=true->t.ay.length<=1000)/\w.grownBy w' none
structure GW(w W:World)(base yb:Nat)(M:DM)(g:RG)(gl:Nat)(l:List Pc):Prop where
 d:RD W base yb M g
 r:Live W w.heap.size 7
 p:jJ W gl l
 g:w.grownBy W none
theorem GW.grown{W':World}{base c:Nat}{M:DM}{g:RG}{a:Nat}{l:List Pc}(h:GW w W base c M g a l)(k:W.grownBy W' none):GW w W' base c M g a l:=
 ⟨h.d.keep (λb e=>k.block b (h.d.lt b e).2 agI),h.r.grown k,h.p.grown k,aa h.g k⟩
structure GC(w W:World)(base yb:Nat)(M:DM)(g:RG)(gl:Nat)(l:List Pc)(bc:Nat)(cs:List UInt8)(cn:Int)(z:Value)(zs:List UInt8):Prop where
 w:GW w W base yb M g gl l
 c:W.rangeAt bc 0 [.string cs,ι cn,z]
 z:vX W z zs
theorem GC.grown{W':World}{base b:Nat}{M:DM}{g:RG}{a:Nat}{l:List Pc}{e:Nat}{cs:List UInt8}{d:Int}{z:Value}{zs:List UInt8}(h:GC w W base b M g a l e cs d z zs)(k:W.grownBy W' none):GC w W' base b M g a l e cs d z zs:=
 ⟨h.w.grown k,aB h.c k,h.z.grown k⟩
theorem Vz{α:Type}{l:List α}(h:l.length=4):∃a b c d,l=[a,b,c,d]:=by
 match l,h with
 | [a,b,c,d],_=>exact⟨a,b,c,d,rfl⟩
theorem agA(a:w.grownBy W none):∃(o:Value) (t:TK) (b:Bool) (z:List UInt8),Ending.returned (.tuple #[.slice none 0 0,.agg #[ι 0,υ 0,.string ⟨#[]⟩,ι 0,ι 0,ι 0,ι 0],.bool false])=.returned (.tuple #[o,.agg t.cells.toArray,.bool b])/\W.ownsRow w.heap.size 5 1 o z.length (z.map U8)/\z.length<=1000/\(b=true->t.ay.length<=1000)/\w.grownBy W none:=
 ⟨.slice none 0 0,⟨0,0,[],0,0,0,0⟩,false,[],rfl,World.ownsRow_nil _ _ _ _,by simp,λh=>(by cases h),a⟩
theorem Cb{l:List UInt8}{t:TK}(h:dR l=some t):t.ay.length<=1000:=by
 unfold dR at h;cases c:lh l with
 |none=>rw[c]at h;cases h
 |some ps=>
  rw[c]at h;have h:jO ps=some t:=h;have L:∀{α β:Type}{f:qz->Option α}{k:α->List qz->Option β}{l:List qz}{b:β},bX f k l=some b->∃p r a,l=p::r/\f p=some a/\k a r=some b:=by
   intro α β f k l b h;cases l with
   |nil=>cases h
   |cons p r=>
    have h:(f p).bind (λa=>k a r)=some b:=h;cases m:f p with
    |none=>rw[m]at h;cases h
    |some a=>grind
  obtain⟨N,C,d,I,_,o⟩:=L h;obtain⟨G,P,v,B,_,x⟩:=L o;obtain⟨U,S,q,R,F,z⟩:=L x;obtain⟨V,Y,u,E,_,n⟩:=L z;obtain⟨T,Q,j,J,_,e⟩:=L n;obtain⟨X,M,A,K,_,g⟩:=L e;obtain⟨H,s,i,O,_,y⟩:=L g;have D:(if s=[] then some (⟨d,v,q,u,j,A,i⟩:TK) else none)=some t:=y;grind [dh,cO]
theorem Rl{p:qz}{x:List UInt8×Int×List UInt8}(h:gT p=some x):p.2≠[]:=by
 intro e;unfold gT zq at h;split at h
 ·rw[e]at h;have:Box.dF []=some []:=by unfold Box.dF;rfl
  rw[this]at h;cases h
 ·cases h
theorem ZT{p:Prop}(h:p:=by
  obtain⟨⟨dd0,kk0⟩,⟨dd1,kk1⟩,⟨dd2,kk2⟩,⟨dd3,kk3⟩,⟨dd4,kk4⟩,⟨dd5,kk5⟩,⟨dd6,kk6⟩,ff0,ff1,ff2,ff3,ff4,ff5,ff6⟩:=pR Mf.o
  go_wp2
  refine bodyPost_ret (BF results71 _ _ _ w.heap.size rfl _ (iE (fe Mf.o _ _ _ _ _ _ _))) rfl ?_
  exact agA (Vh HGr.o (cy _))):p:=h
theorem VA(base B:Nat)(M)(g)(C)(v)(w)(hD:RD w base B M g)(aJ:fU 4611686018427387904 M.aG)(hv:Has w v C)(bJ:C.length<=900):
  Calls prog 71 #[(B,0),v] w λe w'=>adh w w' e:=by
 have G0:=cx w (.cells #[ι 0,υ 0,.string ⟨#[]⟩,ι 0,ι 0,ι 0,ι 0] 43) none
 have bh:=Live.new w #[ι 0,υ 0,.string ⟨#[]⟩,ι 0,ι 0,ι 0,ι 0] 43
 have C1:=hid (λW (hW:w.grownBy W none)=>zS 48 C v W (hv.grown hW) agE)
 have O4:=hid (And.intro G0 bh)
 obtain⟨O,hO⟩:=aq (uK 48 C)
 have HO:=hid hO
 rw[hO]at C1
 obtain⟨va,vc,a7⟩:=hv.shape
 obtain⟨n,hn⟩:=aq C.length
 rw[hn]at a7 bJ
 subst a7
 have HN:=hid hn
 have HD:=hid hD
 clear hD hn hO hv G0 bh
 go_enter func71,ntmps71
 go_wp2_with fail
 refine(C1.o _ O4.o.1).mono ?_
 rintro e w1 ⟨x,i,rfl,hx,aU,u,Y⟩
 have C2:=hid (qO i x w1 hx.prt agE)
 obtain⟨xa,xc,bw⟩:=hx.shape
 subst bw
 obtain⟨CC,al⟩:=aq (Box.dF i)
 have O5:=hid al
 rw[al]at C2
 have aL:=hid u
 have kF:=hid (aa O4.o.1 Y)
 have Dc:=hid (O4.o.2.grown Y)
 obtain⟨il,VB⟩:=aq i.length
 rw[VB]at C2⊢
 clear C1 hx aU u Y al VB O4
 go_wp2_with fail
 refine C2.o.mono ?_
 rintro e w2 ⟨px,rfl,aA,aR,g2⟩
 have bz:∃(l:List Pc) (ao:Option Addr) (pc:Nat),px=.slice ao l.length pc/\(∀ps,CC=some ps->l.map Pc.pair=ps/\(l≠[]->∃j,ao=some ⟨j,0,none⟩/\jJ w2 j l)):=by
  cases hc:CC with
  |none=>exact⟨[],none,0,aR hc,λps h=>by cases h⟩
  |some ps=>
   obtain⟨l,⟨ao,pc,h1,h2⟩,h3,_⟩:=aA ps hc;grind
 obtain⟨l,ao,pc,bu,aV⟩:=bz
 subst bu
 have Vi:=hid aV
 have N:=hid (aa kF.o g2)
 have ar:=hid (Dc.o.grown g2)
 obtain⟨m,hm⟩:=aq l.length
 rw[hm]
 have HM:=hid hm
 clear aA aR aV g2 kF C2 hm Dc
 obtain⟨b1,au⟩:=aq O.isSome
 obtain⟨b2,Q⟩:=aq CC.isSome
 rw[au,Q]
 have a6:=hid au
 have aO:=hid Q
 obtain⟨bad,Z⟩:=aq ((!b1||(!b2||!decide ((m:Int)=4))))
 have ru:=hid Z
 clear au Q Z
 go_upto_region 3 with fail
 go_cut [40] (λz wx=>z=.bool bad/\w2=wx)
 case first=>
  cases b1 with
  |false=>
   go_wp2;exact ab8
  |true=>
   cases b2 with
   |false=>
    go_wp2;exact ab8
   |true=>
    by_cases h4:(m:Int)=4
    ·have bD:=hid h4;have bI:((m:Int)==4)=true:=(by rw[h4];rfl);go_wp2;exact ab8
    ·have bD:=hid h4;have bI:((m:Int)==4)=false:=(by simpa using h4);go_wp2;exact ab8
 case rest=>
  obtain⟨rfl,rfl⟩:=hcut;cases bad with
  |true=>
   have Mf:=hid (ar.o);have HGr:=hid (N.o);exact ZT
  |false=>
   have ag:∃y D a A j,l=[y,D,a,A]/\m=4/\ao=some ⟨j,0,none⟩/\jJ w2 j [y,D,a,A]/\a.ins.length<=900:=by
    have h:=ru.o;simp at h;obtain⟨h1,h2,h3⟩:=h;have hO:=cA.1 (by rw[a6.o];exact h1);have hC:=cA.1 (by rw[aO.o];exact h2);obtain⟨i',hO⟩:=hO;obtain⟨ps,hC⟩:=hC;have e1:=aL.o i' hO;subst e1;obtain⟨y,D,a,A,hl⟩:=Vz (l:=l) (by have:=HM.o;omega);obtain⟨q1,q2⟩:=Vi.o ps hC;obtain⟨j,bs,R⟩:=q2 (by rw[hl];simp);refine⟨y,D,a,A,j,hl,by omega,bs,by rw[<-hl];exact R,?_⟩;have aU:i'.length<=C.length:=by
     have J:=HO.o.trans hO;unfold uK at J;split at J
     ·rename_i t i2 hc;split at J
      ·injection J with J;subst J;have:=Box.mM hc;omega
      ·cases J
     ·cases J
    have h5:a.ins.length<=i'.length:=Box.lX (O5.o.trans hC) a.pair (by rw[<-q1,hl];simp);have:=HN.o;omega
   obtain⟨y,D,a,A,j,hl,bq,bL,R,ai⟩:=ag;subst bq bL;have H:Hid (GW w w2 base B M g j [y,D,a,A]):=⟨HD.o.keep (λb hb=>N.o.block b (HD.o.lt b hb).2 agI),ar.o,R,N.o⟩
   have c4:w2.cell? (j,4)=some (.int .u8 a.tag.toNat):=R.tag 2 agI;have c5:w2.cell? (j,5)=some (.slice a.ad a.ins.length a.cap):=R.ins 2 agI;have C3:=hid (zU a w2 (R.2 a agI).1 (R.2 a agI).2.1 (R.2 a agI).2.2 agE);obtain⟨oT,T⟩:=aq (gT a.pair);have ba:Hid (∀x,oT=some x->x.2.2.length<=900/\a.ins≠[]):=λx hx=>⟨cE (BD (p:=a.pair) (by rw[T];exact hx)) ai,Rl (p:=a.pair) (by rw[T];exact hx)⟩
   rw[T]at C3;have aY:=hid ai;clear hl R ai T ru Vi a6 aO HO O5 aL HM N ar;go_wp2_with fail;refine C3.o.mono ?_;rintro e w3 ⟨cs,s,cz,rfl,bE,u,aX,g3⟩;have br:=I1 (P:=prog) (Live.new w3 #[.string cs,ι s,.slice none 0 0] 233) 2 agI cz u;have aN:=hid (H.o.grown g3);have Nf:=hid aX;clear C3 H g3 aX bE c4 c5;go_upto_region 6 with fail
   refine kE (λV=>w3.grownBy V none/\V.rangeAt w3.heap.size 0 [.string cs,ι s,cz]) ⟨cx w3 _ none,ahn⟩ ?_;clear br;rintro V ⟨gV,U⟩;obtain⟨I,aW⟩:=aq w3.heap.size;rw[aW]at U⊢;have HV:=hid (aN.o.grown gV);have a8:=hid U;have Kz:Hid (∀q,oT=some q->cs=q.1/\s=q.2.1/\vX V cz q.2.2):=λq hq=>⟨(Nf.o q hq).1,(Nf.o q hq).2.1,(Nf.o q hq).2.2.1.grown gV⟩
   have d0:V.cell? (I,0)=some (.string cs):=U 0 _ rfl;clear aW gV U aN Nf;have CF:=hid (λW (hW:RD W base B M g)=>xm base B M g cs W hW aJ.len);have bd:=ui g.es cs;obtain⟨fa,Fb⟩:=aq (fZ g.es cs);rw[Fb]at CF bd;have aM:fa<0\/∃(i:Nat) (_:i<g.es.length),fa=(i:Int):=by
    grind
   have aK:=hid aM;clear bd Fb aM;go_wp2_with fail;refine(CF.o _ HV.o.d).mono ?_;rintro e W1 ⟨rfl,Y⟩;have H:=hid (HV.o.grown Y);have sO:=hid (aB a8.o Y);have Nf:Hid (∀q,oT=some q->cs=q.1/\s=q.2.1/\vX W1 cz q.2.2):=λq hq=>⟨(Kz.o q hq).1,(Kz.o q hq).2.1,(Kz.o q hq).2.2.grown Y⟩
   clear CF HV a8 Kz d0 Y;obtain⟨b3,ae⟩:=aq oT.isSome;have aI:=hid ae;rw[ae];clear ae;cases b3 with
   |false=>
    have Mf:=hid (H.o.r);have HGr:=hid (H.o.g);exact ZT
   |true=>
    rcases aK.o with bM|⟨i,hi,bA⟩
    ·have Mf:=hid (H.o.r);have HGr:=hid (H.o.g);exact ZT
    ·obtain⟨E,ax⟩:∃c,oT=some c:=cA.1 aI.o;obtain⟨h1,h2,h3⟩:=Nf.o E ax;obtain⟨VC,f⟩:=ba.o E ax;obtain⟨F,G,bH,ah,aw,Ut⟩:=h3;subst bH;obtain⟨L,ak⟩:=aq E.2.2.length;rw[ak]at sO ah;have HC:Hid (GC w W1 base B M g j [y,D,a,A] I cs s (.slice F L G) E.2.2):=⟨H.o,sO.o,⟨F,G,by rw[ak],by rw[ak];exact ah,aw,Ut⟩⟩
     have bN:=hid f;have bm:=hid VC;have bx:¬ (i:Int)<0:=agE;have bo:(0:Int)<=(i:Int):=agE;obtain⟨gb,cb,bp,ab⟩:=uj H.o.d agE;obtain⟨m,hm⟩:=aq g.es.length;have OD:(i:Int)<(m:Int):=agE;have wy:Hid (∀V,W1.grownBy V none->V.cell? (B,1)=some (.slice (some (gb,0)) m cb)/\V.rangeAt gb 0 (bK g.es)):=by
      intro V hV;refine⟨?_,aB ab hV⟩;have:=(H.o.grown hV).d.bP.blk.cell 1;grind
     obtain⟨x,aP⟩:=aq (g.es[i]'hi);have aT:x.be∈M.aG:=(by grind [RD.aG,RowKit.Hid.o]);have jK:1<=x.aH/\x.aH<=4611686018427387904:=aJ.num x.be aT;have bf:=hid aP;have bG:=hid hm;subst bA;clear aK bp ab hm aP aT ah aw Ut VC f h1 h2 H sO Nf ba aI;have CK:=hid (λW=>ET x s W jK.1 (by have:=jK.2;omega));obtain⟨ko,av⟩:=aq ((x.be.keyOf s).getD 0);obtain⟨kb,aZ⟩:∃k:Bool,(x.be.keyOf s).isSome=k:=⟨_,rfl⟩
     rw[av,aZ]at CK;clear av aZ jK;go_wp2_with fail;refine aD.start (S:=λV=>GC w V base B M g j [y,D,a,A] I cs s (.slice F L G) E.2.2/\W1.grownBy V none) 9 agP ?_;have dY:Hid (GC w W1.drew base B M g j [y,D,a,A] I cs s (.slice F L G) E.2.2/\W1.grownBy W1.drew none):=⟨HC.o.grown (bg (cC _ _)),bg (cC _ _)⟩
     refine aD.tk 0 [6,5,3,2,1,0] ?_;refine aD.tk 1 [6,5,3,2,1] ?_;refine aD.tk 2 [6,5,3,2] ?_;refine aD.tk 3 [6,5,3] ?_ (hy:=by intro W hW;have y1:=(wy.o W hW.2).1;exact kI);refine aD.tk 4 [6,5,4] ?_;refine aD.tk 5 [6,5] ?_;refine aD.tk 6 [6] ?_ (hy:=by intro W hW;have hr:=(wy.o W hW.2).2;obtain⟨x0,x1,x2,x3,x4,x5,x6,x7,x8,x9⟩:=uP hr i hi;rw[bf.o]at x0 x1 x2 x3 x4 x5 x6 x7 x8 x9;clear hr;exact kI);refine aD.tk 7 [8,7] ?_;refine aD.tk 8 [8] ?_ (hy:=by intro W hW;have c1:W.cell? (I,1)=some (ι s):=hW.1.c 1 _ rfl;exact kI);refine aD.on 9 ?_;intro K hK;refine Calls.mono (CK.o _) ?_;rintro e W2 ⟨rfl,g2⟩;have yL:=hid (dY.o.1.grown g2);clear g2;go_wp2_with fail;refine hkl ?_;clear hK K CK;refine aD.fr 10 ?_;refine aD.fr 11 ?_;refine aD.fr 12 ?_;refine aD.fr 13 ?_;refine aD.fr 14 ?_;refine aD.done agP ?_;clear dY HC wy bf bG bx bo OD;cases kb with
     |false=>
      have Mf:=hid (yL.o.w.r);have HGr:=hid (yL.o.w.g);exact ZT
     |true=>
      have c2:W2.cell? (I,2)=some (.slice F L G):=yL.o.c 2 _ rfl;have CO:=hid (λW (hW:vX W (.slice F L G) E.2.2)=>xh ko 2 2 E.2.2 (.slice F L G) W agF agF rfl bm.o hW);obtain⟨ol,bb⟩:=aq (eP ko 2 E.2.2);rw[bb]at CO;clear bb;go_wp2_with fail;refine(CO.o _ yL.o.z).mono ?_;rintro e W3 ⟨o,rfl,aQ,bl,g3⟩;have yf:=hid (yL.o.grown g3);have bj:=hid aQ;clear yL g3 c2 aQ bl CO;cases ol with
      |none=>
       simp only[Option.isSome_none];have Mf:=hid (yf.o.w.r);have HGr:=hid (yf.o.w.g);exact ZT
      |some ll=>
       obtain⟨an,bC⟩:=bj.o ll rfl;have CT:=hid (zV ll o W3 an agE);obtain⟨oa,oc,J⟩:=an.shape;subst J;clear an bC bj;simp only[dj];obtain⟨tb,af⟩:=aq ((dR ll).isSome);rw[af]at CT;have Wt:=hid af;clear af;obtain⟨ln,a1⟩:=aq ll.length;rw[a1]at CT⊢;clear a1;go_wp2_with fail;refine CT.o.mono ?_;rintro e W4 ⟨t,rfl,bB,_,g4⟩;have bF:Hid (tb=true->t.ay.length<=1000):=by
        intro hb;obtain⟨q,hq⟩:=cA.1 (Wt.o.trans hb);grind [Cb]
       clear bB Wt;rw[TK.oL t];clear CT;have X6:=hid (yf.o.grown g4);clear g4 yf;go_upto_region 16 with fail
       refine kE (λV=>GC w V base B M g j [y,D,a,A] I cs s (.slice F L G) E.2.2/\V.rangeAt W4.heap.size 0 t.cells) ⟨X6.o.grown (cx W4 _ none),aS W4 t.cells.toArray _⟩ ?_;obtain⟨bt,aj⟩:=aq W4.heap.size;rw[aj];have bk:=X6.o.w.r.lt;rw[aj]at bk;clear aj X6;rintro W5 ⟨aF,aE⟩;have aC:=hid aF;have Sr:=hid aE;clear aF aE;have CB:Hid (∀V,GC w V base B M g j [y,D,a,A] I cs s (.slice F L G) E.2.2->Calls prog 88 #[.int .u8 48,.slice a.ad a.ins.length a.cap] V λe w'=>∃o,e=.returned o/\w'.ownsRow V.heap.size 5 1 o (Box.box 48 a.ins).length ((Box.box 48 a.ins).map U8)/\V.grownBy w' none):=by
        intro V hV;refine tK 48 a.ins a.ins.length a.ad a.cap V (hid rfl) (by have:=aY.o;omega) (λe=>?_) (hV.w.p.2 a agI).1;obtain⟨b,off,h,_⟩:=(hV.w.p.2 a agI).1.addr agR;grind
       refine aD.start (S:=λV=>GC w V base B M g j [y,D,a,A] I cs s (.slice F L G) E.2.2/\V.rangeAt bt 0 t.cells) 8 agP ?_;have dY:Hid (GC w W5.drew base B M g j [y,D,a,A] I cs s (.slice F L G) E.2.2/\W5.drew.rangeAt bt 0 t.cells):=⟨aC.o.grown (bg (cC _ _)),aB Sr.o (bg (cC _ _))⟩
       refine aD.tk 0 [0] ?_;refine aD.tk 1 [1] ?_;refine aD.tk 2 [2] ?_;refine aD.tk 3 [3] ?_ (hy:=by intro W hW;have c5:W.cell? (j,5)=some (.slice a.ad a.ins.length a.cap):=hW.1.w.p.ins 2 agI;exact kI);refine aD.tk 5 [5] ?_ (hy:=by intro W hW;have h7:=hW.2;obtain⟨t0,t1,t2,t3,t4,t5,t6⟩:=lZ h7;clear h7;exact kI);refine aD.fr 6 ?_ (hS:=.inr dY.o);refine aD.on 4 ?_;intro K hK;refine Calls.mono (CB.o _ dY.o.1) ?_;rintro e W6 ⟨o,rfl,X,g6⟩;have Wn:=hid (dY.o.1.grown g6);have OO:=hid (aB dY.o.2 g6);have Ws:=hid X;have bn:Hid (w.heap.size+1<=W5.drew.heap.size):=aC.o.w.r.lt;clear X g6;go_wp2_with fail;refine hK.out _ _ (.inr ⟨Wn.o,OO.o⟩) ?_;clear hK K CB dY;try simp only[Act.put,List.getElem_toArray,List.getElem_cons_zero,List.getElem_cons_succ,eh,ej,eJ]
       have dY:=hid (And.intro Wn.o OO.o);refine aD.fr 7 ?_ (hS:=.inr dY.o);obtain⟨⟨dd0,kk0⟩,⟨dd1,kk1⟩,⟨dd2,kk2⟩,⟨dd3,kk3⟩,⟨dd4,kk4⟩,⟨dd5,kk5⟩,⟨dd6,kk6⟩,ff0,ff1,ff2,ff3,ff4,ff5,ff6⟩:=pR Wn.o.w.r;refine aD.on 8 ?_;intro K hK;refine hkl ?_;clear hK K;refine aD.fr 9 ?_;refine aD.done agP ?_;go_wp2;refine bodyPost_ret (BF results71 _ _ _ w.heap.size rfl _ (iE (fe Wn.o.w.r _ _ _ _ _ _ _))) rfl ?_;refine⟨o,t,tb,Box.box 48 a.ins,rfl,?_,?_,bF.o,az (az (az (az (az (az (az (Wn.o.w.g) (cy _)) (cy _)) (cy _)) (cy _)) (cy _)) (cy _)) (cy _)⟩
       ·have h0:=bn.o;refine bZ (dC Ws.o agE) (λb hb=>?_);have Q:=(Ws.o.lt b hb).1;have f:b≠w.heap.size:=agE;rw[Below.heap_setCell _ _ _ b f,Below.heap_setCell _ _ _ b f,Below.heap_setCell _ _ _ b f,Below.heap_setCell _ _ _ b f,Below.heap_setCell _ _ _ b f,Below.heap_setCell _ _ _ b f,Below.heap_setCell _ _ _ b f]
       ·have:=aY.o;have:=nH 48 a.ins;omega
theorem Tryz.VD:(prog.info? 170).map (λi=>(i.zero,i.size,i.bytes))=some (some (.agg #[.slice none 0 0,υ 0,.string ⟨#[]⟩]),3,48):=by kernel_rfl
def sJ(w w':World)(base sb so:Nat)(sv:Value)(kl:List KN):Prop:=
 ∃KQ kl',SaidAt w' base sb so KQ kl'/\kl'.length<=kl.length+1/\(∀b,KQ.ownBlock=some b->sv.ownBlock=some b\/w.heap.size<=b)/\(∀k∈kl',k∈kl\/∀b,k.box.ownBlock=some b->w.heap.size<=b/\KQ.ownBlock≠some b)/\(∀k∈kl,∀b,k.box.ownBlock=some b->KQ.ownBlock≠some b)/\iZ w w' (λb=>b=sb\/sv.ownBlock=some b)/\(∀cs,dB w sb cs->dB w' sb (cs.setIfInBounds so KQ))
theorem ZU{P:Program}{c:Region.Mode}{b:Array Oper}{Q:Exit->Act->World->Prop}{S:World->Prop}{z n:Nat}{l:Array Bool}{a:Act}{W:World}(X:World->Prop)(d:X W)(h:∀V,X V->aD P c b Q S z n l a V):aD P c b Q S z n l a W:=h W d
theorem ZV{W W':World}{b n:Nat}{r:Option Nat}(h:Live W b n)(k:W.grownBy W' r)(hn:r≠some b):Live W' b n:=by
 have d:=h.lt;obtain⟨a,e,c,f⟩:=h;exact⟨a,e,(k.block b d (λe=>hn e.symm)).trans c,f⟩
theorem ZW{w:World}{c b:Nat}{sv:Value}{cs:Array Value}(h:dB w c cs)(d:w.cell? (c,b)=some sv):cs.setIfInBounds b sv=cs:=by
 have a:=h.cell b;rw[d]at a;refine Array.ext_getElem? λi=>?_;rw[Array.getElem?_setIfInBounds];split
 ·rename_i e;subst e;split
  ·exact a
  ·rename_i hl;rw[fm agE]at a;cases a
 ·rfl
theorem KA(l)(k):nS (l++[k])=nS l++k.cells:=by simp[nS]
theorem Rm(base yb:Nat)(M)(g)(a:qJ)(N)(v)(G A:Nat)(sv)(kl)(w)(hD:RD w base yb M g)(aK:fU 4611686018427387904 M.aG)(hv:Has w v N)(aX:N.length<=900)(hS:SaidAt w base G A sv kl)(aU:kl.length<=1073741824)(E:base<=w.heap.size)(az:Live w G (A+1))(T:sv.ownBlock≠some G)(R:∀k∈kl,∀b,k.box.ownBlock=some b->b≠G/\sv.ownBlock≠some b):
  Calls prog 34 #[(G,A),v,.agg a.arr,(yb,0)] w λe w'=>e=.returned (.tuple #[])/\sJ w w' base G A sv kl:=by
 obtain⟨i0,ax,aH,aI,aF⟩:=info_parts Tryz.VD
 have G0:=cx w (.cells a.arr 45) none
 have O4:=hid (aS w a.arr 45)
 have CG:=hid (λW (hW:w.grownBy W none)=>VA base yb M g N v W (hD.keep (λb c=>hW.block b (hD.lt b c).2 agI)) aK (hv.grown hW) aX)
 obtain⟨va,vc,av⟩:=hv.shape
 obtain⟨vn,J⟩:=aq N.length
 rw[J]at av
 subst av
 have sP:=hid G0
 have HS:=hid hS
 have FE:=hid R
 have Jw:=hid T
 have aA:=World.block_lt_of_cell? w _ hS.cell
 clear hD hv J G0 hS R T
 go_enter func34,ntmps34
 go_upto_region 1 with fail
 refine kE (λV=>w.grownBy V none/\V.rangeAt w.heap.size 0 a.cells) ⟨sP.o,O4.o⟩ ?_
 clear sP O4
 rintro W ⟨hg,hr⟩
 have HG:=hid hg
 have HR:=hid hr
 clear hg hr
 go_wp2_with fail
 refine(CG.o _ HG.o).mono ?_
 rintro e W1 ⟨o,t,b,z,rfl,p,ao,aj,g1⟩
 have q:t.cells.toArray=#[ι t.ae,υ t.aN.toNat,.string t.ay,ι t.dV,ι t.start,ι t.fin,ι t.aC]:=rfl
 rw[q]
 clear q CG
 have HO:=hid (dC p HG.o.size)
 have aP:=hid (λb (c:o.ownBlock=some b)=>(p.lt b c).1)
 have aO:=hid ao
 have Gi:=hid aj
 have kF:=hid (aa HG.o g1)
 have ai:=hid (aB HR.o g1)
 have aJ:Hid (w.heap.size+1<=W.heap.size):=Oa (v:=ι a.kind) HR.o
 obtain⟨oa,oc,ad⟩:=bA p
 obtain⟨zn,ab⟩:=aq z.length
 rw[ab]at ad
 have aQ:=hid ad
 subst ad
 have au:=hid ab
 clear p ao aj g1 HG HR ab aQ
 go_upto_region 2 with fail
 refine kE (λV=>W1.grownBy V none/\V.rangeAt W1.heap.size 0 t.cells) ⟨cx W1 _ none,aS W1 t.cells.toArray _⟩ ?_
 obtain⟨bt,D⟩:=aq W1.heap.size
 rw[D]
 clear D
 rintro V ⟨hg,hr⟩
 have B:=hid (aa kF.o hg)
 have HT:=hid hr
 have aW:=hid (aB ai.o hg)
 have aw:=hid (HO.o.kept hg (eR _))
 clear hg hr kF ai HO
 have c0:V.cell? (w,0)=some (ι a.kind):=aW.o 0 _ rfl
 obtain⟨kb,O⟩:=aq ((b&&!decide (a.kind=0)))
 have UL:=hid O
 clear O
 go_cut [23] (λx wx=>x=.bool kb/\V=wx)
 case first=>
  cases b with
  |false=>
   go_wp2;go_meet
   case rel=>exact⟨by rw[<-UL.o];rfl,rfl⟩
  |true=>
   by_cases s:a.kind=0
   ·have O:(a.kind==0)=true:=(by rw[s];rfl);have C:=hid s;clear s;go_wp2;go_meet
    case rel=>exact⟨by rw[<-UL.o,dk C.o];first|rfl|(congr 1;simp[C.o]),rfl⟩
   ·have O:(a.kind==0)=false:=(by simpa using s);have C:=hid s;clear s;go_wp2;go_meet
    case rel=>exact⟨by rw[<-UL.o,cX C.o];first|rfl|(congr 1;simpa using C.o),rfl⟩
 case rest=>
  obtain⟨rfl,rfl⟩:=hcut;cases kb with
  |false=>
   go_wp2;go_end0;refine⟨rfl,sv,kl,HS.o.grown B.o,fg _,λb c=>.inl c,λk f=>.inl f,λk f b c=>(FE.o k f b c).2,⟨B.o.os,B.o.tape,B.o.output,B.o.size,λb c _=>B.o.block b c agI⟩,λcs L=>?_⟩;rw[ZW L HS.o.cell];exact L.grown B.o agI
  |true=>
   have D:b=true:=by
    have h:=UL.o;cases b with
    |true=>rfl
    |false=>cases h
   have aT:=hid (Gi.o D);clear D UL Gi c0;obtain⟨m,hm⟩:=aq kl.length;obtain⟨sa,sc,af⟩:=bA HS.o.row;rw[hm]at af;have ah:=hid (HS.o.grown B.o);have H:=hid af;have HM:=hid hm;clear af hm;go_wp2_with fail;refine aD.start (S:=λX=>V.grownBy X none) 12 agP ?_;have dY:Hid (V.grownBy V.drew none):=bg (cC _ _);refine aD.fr 0 ?_ (hS:=.inr dY.o);refine aD.tk 1 [4,3,2,1] ?_;refine aD.tk 2 [4,3,2] ?_;refine aD.tk 3 [4,3] ?_;refine aD.tk 4 [4] ?_ (hy:=by intro W hW;have e1:=(by have:=(ah.o.grown hW).cell;rw[H.o]at this;exact this);exact kI);refine aD.tk 5 [11,10,5] ?_;refine aD.tk 6 [11,10,7,6] ?_;refine aD.tk 7 [11,10,7] ?_ (hy:=by intro W hW;have e1:W.cell? ⟨bt,1,none⟩=some (υ t.aN.toNat):=(aB HT.o hW) 1 _ rfl;exact kI);refine aD.tk 8 [11,10,9,8] ?_;refine aD.tk 9 [11,10,9] ?_ (hy:=by intro W hW;have e1:W.cell? ⟨bt,2,none⟩=some (.string t.ay):=(aB HT.o hW) 2 _ rfl;exact kI);refine aD.tk 10 [11,10] ?_;refine aD.on 11 ?_;intro K hK;refine hkx (aM dY.o _) ?_;clear hK K;refine ZU (λY=>V.grownBy Y none/\Y.rangeAt V.heap.size 0 [.slice oa zn oc,υ t.aN.toNat,.string t.ay]) ⟨aM dY.o _,aS V.drew #[.slice oa zn oc,υ t.aN.toNat,.string t.ay] _⟩ ?_;rintro Y ⟨F,ak⟩;have i:=hid F;have an:Y.ownsRow base 170 3 (.slice sa m sc) m (nS kl):=by
    have:=(ah.o.grown F).row;rw[H.o,HM.o]at this;exact this
   have aV:m<=1073741824:=by rw[<-HM.o];exact aU
   obtain⟨v6,w6,Q,ag,nU,al⟩:=qU (P:=prog) Y base 86 86 170 i0 _ 3 48 underlying86 ax aH aI aF rfl agF (.slice sa m sc) m (nS kl) an ⟨V.heap.size,0,none⟩ 1 1 [.slice oa zn oc,υ t.aN.toNat,.string t.ay] rfl (λj u hu=>by
     have:=ak j u hu;rw[cN]at this;rw[Addr.add_lit,cN]
     exact this) ai4 agF ag1 agE (cE E (cE B.o.size F.size))
   obtain⟨l,n,aE⟩:=bA ag;subst aE;have Nc:Hid (Live w6 G (A+1)):=ZV (r:=(Value.slice sa m sc).ownBlock) ((az.grown B.o).grown F) nU (by rw[<-H.o];exact Jw.o);have aR:Hid (w6.ownsRow base 170 3 (.slice l (m+1) n) (m+1) (nS kl++(KN.mk (.slice oa zn oc) z t.aN t.ay).cells)/\Y.grownBy w6 sv.ownBlock/\((Value.slice l (m+1) n).ownBlock=sv.ownBlock\/(Value.slice l (m+1) n).ownBlock=some Y.heap.size)/\True):=by
    rw[H.o];exact⟨ag,nU,al,trivial⟩
   clear F ak an ag nU al aV dY;refine aD.on0 12 ?_;intro K hK;refine Lib.wp_append_run _ _ _ _ _ rfl _ _ rfl rfl _ _ Q ?_;refine hkl ?_;clear hK K Q;refine aD.fr 13 ?_;refine aD.fr 14 ?_;have l0:=Nc.o.frozen A;obtain⟨d0,j0⟩:=cA.1 (Nc.o.some A (fY A));refine aD.on 15 ?_;intro K hK;refine hkl ?_;clear hK K;refine aD.done agP ?_;go_wp2;go_end0;obtain⟨U,y,Z,aY⟩:=aR.o;have aL:=ah.o.grown i.o;have hV:=B.o;have aZ:=aA;have a1:=i.o.size;have a7:=hV.size;have keep:∀b,b<Y.heap.size->b≠G->sv.ownBlock≠some b->(w6.setCell (G,A) (.slice l (m+1) n)).heap[b]?=Y.heap[b]?:=λb c h1 h2=>(Below.heap_setCell w6 _ _ b h1).trans (y.block b c (λe=>h2 e.symm));have FK:∀b,(Value.slice oa zn oc).ownBlock=some b->W.heap.size<=b/\b<V.heap.size:=λb c=>⟨aP.o b c,(aw.o.lt b c).2⟩
   have ar:=λb c=>(HS.o.row.lt b c).2;have I:∀b,(Value.slice l (m+1) n).ownBlock=some b->sv.ownBlock=some b\/b=Y.heap.size:=by
    intro b c;rcases Z with h|h
    ·left;rw[<-h];exact c
    ·right;rw[h]at c;injection c with c;exact c.symm
   have J:∀b,(Value.slice l (m+1) n).ownBlock=some b->b≠G:=by
    intro b c e;rcases I b c with h|h
    ·exact Jw.o (by rw[<-e];exact h)
    ·omega
   have a6:=aJ.o;refine⟨rfl,.slice l (m+1) n,kl++[⟨.slice oa zn oc,z,t.aN,t.ay⟩],⟨?_,?_,?_⟩,by simp,?_,?_,?_,?_,?_⟩
   ·obtain⟨d,hd⟩:=cA.1 (Nc.o.some A (fY A));exact di _ hd
   ·rw[KA,cD,eC,HM.o];exact bZ U (λb c=>Below.heap_setCell w6 _ _ b (J b c))
   ·intro k f;rcases eW.1 f with f|f
    ·have ho:=aL.own k f;refine⟨bZ ho.1 (λb c=>keep b (ho.1.lt b c).2 (FE.o k f b c).1 (FE.o k f b c).2),ho.2⟩
    ·rw[ew]at f;subst f;refine⟨?_,aO.o,cE aT.o agF⟩;have ho:=dC (aw.o.kept i.o (eR _)) E;rw[<-au.o]at ho⊢;refine bZ ho (λb c=>?_);rw[au.o]at c;have h1:=FK b c;refine keep b agE agE (λe=>?_);have:=ar b e;omega
   ·intro b c;rcases I b c with h|h
    ·exact .inl h
    ·right;omega
   ·intro k f;rcases eW.1 f with f|f
    ·exact .inl f
    ·right;rw[ew]at f;subst f;intro b c;have h1:=FK b c;refine⟨by omega,λe=>?_⟩;rcases I b e with h|h
     ·have:=ar b h;omega
     ·omega
   ·intro k f b c e;rcases I b e with h|h
    ·exact(FE.o k f b c).2 h
    ·have:=((HS.o.own k f).1.lt b c).2;omega
   ·refine⟨?_,?_,?_,?_,λb c hx=>?_⟩
    ·exact(y.os.trans i.o.os).trans hV.os
    ·exact(y.tape.trans i.o.tape).trans hV.tape
    ·exact(y.output.trans i.o.output).trans hV.output
    ·rw[World.size_setCell];have:=y.size;omega
    ·rw[keep b agE (λe=>hx (.inl e)) (λe=>hx (.inr e)),i.o.block b agE agI,hV.block b c agI]
   ·intro cs L;have h1:=((L.grown hV agI).grown i.o agI).grown y (λe=>Jw.o e.symm);exact h1.set A _
theorem ai2{p:Prop}(h:p:=by unfold nD;rw[if_pos hl,h];rfl):p:=h
theorem ai3{p:Prop}(h:p:=by unfold rA;rw[if_pos hl,h];rfl):p:=h
theorem acz{α β:Type}{f:qz->Option α}{k:α->List qz->Option β}{l:List qz}{b:β}(h:bX f k l=some b):∃p r a,l=p::r/\k a r=some b:=by
 cases l with
 |nil=>cases h
 |cons p r=>
  have h:(f p).bind (λa=>k a r)=some b:=h
  cases hf:f p with
  |none=>rw[hf]at h;cases h
  |some a=>rw[hf]at h;exact⟨p,r,a,rfl,h⟩
theorem BG{ps:List qz}{q:FQ}(h:lq ps=some q):∃p r,ps=p::r/\bG p=some 10/\ps.length=9:=by
 match ps,h with
 | [],h=>cases h
 |d::ps,h=>
  have e:lq (d::ps)=(bG d).bind λk=>(if k=10 then bX dh λc=>bX dh λs=>bX bG λn=>bX bG λf=>bX bG λt=>bX bG λr=>bX bG λo=>bX mi λp=>xB ⟨c,s,n,f,t,r,o,p⟩ else λ_=>none) ps:=rfl;rw[e]at h;cases hn:bG d with
  |none=>rw[hn]at h;cases h
  |some k=>
   rw[hn]at h;have h:(if k=10 then bX dh λc=>bX dh λs=>bX bG λn=>bX bG λf=>bX bG λt=>bX bG λr=>bX bG λo=>bX mi λp=>xB ⟨c,s,n,f,t,r,o,p⟩ else λ_=>none) ps=some q:=h;by_cases g:k=10
   ·rw[if_pos g]at h;refine⟨d,ps,rfl,by rw[hn,g],?_⟩
    obtain⟨P,I,i,rfl,B⟩:=acz h;obtain⟨K,R,E,rfl,F⟩:=acz B;obtain⟨V,T,C,rfl,x⟩:=acz F;obtain⟨W,X,D,rfl,A⟩:=acz x;obtain⟨U,S,y,rfl,j⟩:=acz A;obtain⟨Y,O,H,rfl,v⟩:=acz j;obtain⟨N,Q,w,rfl,G⟩:=acz v;obtain⟨J,u,z,rfl,m⟩:=acz G;have h:(if u=[] then some (⟨i,E,C,D,y,H,w,z⟩:FQ) else none)=some q:=m;split at h
    ·rename_i hr;rw[hr];rfl
    ·cases h
   ·rw[if_neg g]at h;cases h
theorem BH{ps:List qz}{q:NQ}(h:lu ps=some q):∃p r,ps=p::r/\bG p=some 12/\ps.length=8:=by
 match ps,h with
 | [],h=>cases h
 |d::ps,h=>
  have e:lu (d::ps)=(bG d).bind λk=>(if k=12 then bX gT λc=>bX jm λp=>bX dh λs=>bX bG λn=>bX bG λt=>bX bG λr=>bX bG λo=>xB ⟨c.1,c.2.1,c.2.2,p,s,n,t,r,o⟩ else λ_=>none) ps:=rfl;rw[e]at h;cases hn:bG d with
  |none=>rw[hn]at h;cases h
  |some k=>
   rw[hn]at h;have h:(if k=12 then bX gT λc=>bX jm λp=>bX dh λs=>bX bG λn=>bX bG λt=>bX bG λr=>bX bG λo=>xB ⟨c.1,c.2.1,c.2.2,p,s,n,t,r,o⟩ else λ_=>none) ps=some q:=h;by_cases i:k=12
   ·rw[if_pos i]at h;refine⟨d,ps,rfl,by rw[hn,i],?_⟩
    obtain⟨K,G,g,rfl,y⟩:=acz h;obtain⟨H,O,C,rfl,D⟩:=acz y;obtain⟨R,P,z,rfl,v⟩:=acz D;obtain⟨S,T,B,rfl,x⟩:=acz v;obtain⟨Q,N,w,rfl,j⟩:=acz x;obtain⟨U,J,F,rfl,m⟩:=acz j;obtain⟨I,A,u,rfl,E⟩:=acz m;have h:(if A=[] then some (⟨g.1,g.2.1,g.2.2,C,z,B,w,F,u⟩:NQ) else none)=some q:=E;split at h
    ·rename_i hr;rw[hr];rfl
    ·cases h
   ·rw[if_neg i]at h;cases h
section
variable {M:DM}{now:Int}{aX:List UInt8}
theorem ads(h:aX.length<=300->lh aX=none\/lh aX=some []):dG M now aX=(aY now 60,M):=by
 have a:nD aX=none:=by
  unfold nD;split
  ·rename_i hl;rcases h hl with e|e<;>rw[e]<;>rfl
  ·rfl
 have b:rA aX=none:=by
  unfold rA;split
  ·rename_i hl;rcases h hl with e|e<;>rw[e]<;>rfl
  ·rfl
 unfold dG;rw[a,b]
theorem aeq{p:Prop}(h:p:=by
 obtain⟨p',r',e',hn'⟩:=hp
 rw[e]at e'
 injection e' with e1 e2
 subst e1
 rw[hn]at hn'
 injection hn' with hn'
 omega):p:=h
theorem VR{ps:List qz}(hl:aX.length<=300)(h:lh aX=some ps)(hp:∃p r,ps=p::r/\bG p=some 10):dG M now aX=dz M now (nQ M now ps):=by
 have a:nD aX=lq ps:=ai2;have d:rA aX=lu ps:=ai3;have b:lu ps=none:=by
  cases c:lu ps with
  |none=>rfl
  |some q=>
   obtain⟨p,r,e,hn,_⟩:=BH c;exact aeq
 unfold dG nQ;rw[a,d,b];cases lq ps with
 |none=>rfl
 |some q=>rfl
theorem aaf{ps:List qz}(hl:aX.length<=300)(h:lh aX=some ps)(hp:∃p r,ps=p::r/\bG p=some 12):dG M now aX=dz (nT M now ps).2 now (nT M now ps).1:=by
 have a:nD aX=lq ps:=ai2;have f:rA aX=lu ps:=ai3;have b:lq ps=none:=by
  cases d:lq ps with
  |none=>rfl
  |some q=>
   obtain⟨p,r,e,hn,_⟩:=BG d;exact aeq
 unfold dG nT;rw[a,f,b];cases lu ps with
 |none=>rfl
 |some q=>
  show tO M now q=_;rw[M4];dsimp only;cases(iH M now q).1 with
  |error c=>rfl
  |ok t=>rfl
theorem aag{ps:List qz}(hl:aX.length<=300)(h:lh aX=some ps)(c:∀p r,ps=p::r->¬ (bG p=some 10/\ps.length=9))(j:∀p r,ps=p::r->¬ (bG p=some 12/\ps.length=8)):dG M now aX=(aY now 60,M):=by
 have f:nD aX=lq ps:=ai2;have d:rA aX=lu ps:=ai3;have g:lq ps=none:=by
  cases b:lq ps with
  |none=>rfl
  |some q=>
   obtain⟨p,r,e,hn,a⟩:=BG b;exact absurd ⟨hn,a⟩ (c p r e)
 have i:lu ps=none:=by
  cases b:lu ps with
  |none=>rfl
  |some q=>
   obtain⟨p,r,e,hn,a⟩:=BH b;exact absurd ⟨hn,a⟩ (j p r e)
 unfold dG;rw[f,d,g,i]
theorem Fj{R:Except Int GR}(h:codeOf M R≠0):dz M now R=(aY now (codeOf M R),M):=by
 unfold codeOf at h⊢;unfold dz;cases R with
 |error c=>rfl
 |ok g=>
  dsimp only at h⊢;split at h
  ·rename_i hd;rw[if_pos hd,if_pos hd]
  ·exact absurd rfl h
theorem KG{a:GR}(h:codeOf M (.ok a)=0):dz M now (.ok a)=(a.box M.aL,{M with aL:=M.aL.drop 24}):=by
 unfold codeOf at h;unfold dz;dsimp only at h⊢;split at h
 ·exact absurd h agF
 ·rename_i hd;rw[if_neg hd]
end
def xz(base yb:Nat)(g:RG)(A:List UInt8×DM)(w w':World)(o:Value):Prop:=
 Made w.heap.size w' o A.1/\(∃g',RD w' base yb A.2 g'/\∀b,g'.foot yb b->g.foot yb b\/w.heap.size<=b)/\w.grownBy w' (some yb)
def CJ(base yb:Nat)(g:RG)(A:Int×List UInt8×DM)(w w':World)(o:Value)(c:Int):Prop:=
 c=A.1/\(c≠0->o=.slice none 0 0)/\(c=0->Made w.heap.size w' o A.2.1)/\(∃g',RD w' base yb A.2.2 g'/\∀b,g'.foot yb b->g.foot yb b\/w.heap.size<=b)/\w.grownBy w' (some yb)
theorem Fp{g:RG}{a n:Nat}{v u:Value}(d:v=g.pv\/NewAt n v)(f:u=g.dv\/NewAt n u):∀b,({g with pv:=v,dv:=u}:RG).foot a b->g.foot a b\/n<=b:=by
 intro b c;rcases c with e|e|e|e
 ·exact .inl (.inl e)
 ·exact .inl (.inr (.inl e))
 ·rcases d with h|h
  ·exact .inl (.inr (.inr (.inl (by rw[<-h];exact e))))
  ·exact .inr (h b e)
 ·rcases f with h|h
  ·exact .inl (.inr (.inr (.inr (by rw[<-h];exact e))))
  ·exact .inr (h b e)
def Oo(M:DM)(now:Int)(R:Except Int GR):Int×List UInt8×DM:=(codeOf M R,(dz M now R).1,(dz M now R).2)
theorem aff{p:Prop}(h:p:=by
 subst hR
 show Made w.heap.size w' o (dz M now (.ok gr)).1
 rw[KG (by rw[<-h1];exact hc)]
 exact hH):p:=h
theorem af4{p:Prop}(h:p:=by
 show RD w' base yb (dz M now (.ok gr)).2 _
 rw[KG (by rw[<-h1];exact hc)]
 exact hD):p:=h
theorem VS{base yb:Nat}{M:DM}{g:RG}{now:Int}{R:Except Int GR}{w w':World}{o:Value}{c:Int}(h:Cs base yb M g R w w' o c):CJ base yb g (Oo M now R) w w' o c:=by
 obtain⟨h1,a,d⟩:=h;refine⟨h1,λhc=>(a hc).1,λhc=>?_,?_,?_⟩
 ·obtain⟨gr,v,hR,hH,_⟩:=d hc;exact aff
 ·by_cases hc:c=0
  ·obtain⟨gr,v,hR,hH,hD,e,_⟩:=d hc;subst hR;refine⟨{g with dv:=v},?_,Fp (.inl rfl) (.inr e)⟩;exact af4
  ·refine⟨g,?_,λb f=>.inl f⟩;show RD w' base yb (dz M now R).2 _;rw[Fj (by rw[<-h1];exact hc)];exact(a hc).2.1
 ·by_cases hc:c=0
  ·obtain⟨gr,v,hR,hH,hD,e,i⟩:=d hc;exact i
  ·exact mh (a hc).2.2 yb
theorem aah{base yb:Nat}{g:RG}{now:Int}{A:Except Int GR×DM}{w w':World}{o:Value}{c:Int}(h:Cx base yb g A w w' o c):CJ base yb g (Oo A.2 now A.1) w w' o c:=by
 obtain⟨R,M⟩:=A;obtain⟨h1,⟨v,b,a,d⟩,f⟩:=h;have h1:c=codeOf M R:=h1;refine⟨h1,λhc=>(a hc).1,λhc=>?_,?_,f⟩
 ·obtain⟨gr,u,hR,hH,_⟩:=d hc;have hR:R=.ok gr:=hR;exact aff
 ·by_cases hc:c=0
  ·obtain⟨gr,u,hR,hH,hD,e⟩:=d hc;have hR:R=.ok gr:=hR;subst hR;refine⟨{g with pv:=v,dv:=u},?_,Fp b (.inr e)⟩;exact af4
  ·refine⟨{g with pv:=v},?_,Fp (u:=g.dv) b (.inl rfl)⟩;show RD w' base yb (dz M now R).2 _;rw[Fj (by rw[<-h1];exact hc)];exact(a hc).2
theorem Ry{α:Type}{l:List α}(h:l.length=9):∃a b c d e f g i j,l=[a,b,c,d,e,f,g,i,j]:=by
 match l,h with
 | [a,b,c,d,e,f,g,i,j],_=>exact⟨a,b,c,d,e,f,g,i,j,rfl⟩
theorem Rz{α:Type}{l:List α}(h:l.length=8):∃a b c d e f g i,l=[a,b,c,d,e,f,g,i]:=by
 match l,h with
 | [a,b,c,d,e,f,g,i],_=>exact⟨a,b,c,d,e,f,g,i,rfl⟩
end Go.Proofs.YtlfifnpjeangmaaGreatDoor
namespace Go.Proofs.YtlfifnpjeangmaaGreatDoor
set_option maxHeartbeats 8000000
open Go.RowKit
set_option maxRecDepth 100000
variable {p:Prop}
theorem aiR(h:p:=by have:=HLR.o;rw[hl]at this;injection this with this;exact this.symm):p:=h
variable {M:DM}{now:Int}{yb:Nat}{g:RG}{w w1 w2:World}
theorem Oq(x y)(now):In64 (nP x y now 1 2)/\In64 (nP x y now 2 1):=by
 unfold nP In64;constructor<;>(repeat' split)<;>omega
theorem abe(h:p:=by
 injection h with h;subst h;exact⟨by decide,by decide⟩):p:=h
theorem aai{ps:List qz}{c:Int}(h:nQ M now ps=.error c):In64 c:=by
 unfold nQ at h;cases a:lq ps with
 |none=>rw[a]at h;injection h with h;subst h;exact⟨by decide,by decide⟩
 |some q=>
  rw[a]at h;have h:firstM M now q=.error c:=h;unfold firstM at h;split at h
  ·exact abe
  ·exact abe
  ·rename_i x s _ _;split at h
   ·injection h with h;subst h;exact(Oq x s now).1
   ·split at h
    ·injection h with h;subst h;have b:=Yz M.aA now x q.pre;unfold cB;split
     ·exact b
     ·unfold In64;(repeat' split)<;>omega
    ·cases h
theorem ad3(h:p:=by
 split at e
 ·injection e with e;subst e;exact⟨by decide,by decide⟩
 ·cases e):p:=h
theorem VT{old:TK}{x s:BE}{a bW b c:Int}(e:fresh now old x s a bW b=.error c):In64 c:=by
 unfold fresh at e;split at e
 ·exact ad3
 ·split at e
  ·exact ad3
  ·exact ad3
theorem aaj{q:NQ}{old:TK}{c:Int}(h:ek M now q old=.error c):In64 c:=by
 unfold ek at h;split at h
 ·exact abe
 ·split at h
  ·exact abe
  ·split at h
   ·exact abe
   ·exact abe
   ·rename_i s x _ _;split at h
    ·injection h with h;subst h;exact(Oq s x now).2
    ·split at h
     ·exact abe
     ·split at h
      ·rename_i c' hc;injection h with h;subst h;exact VT hc
      ·cases h
theorem adt{ps:List qz}{c:Int}(h:(nT M now ps).1=.error c):In64 c:=by
 unfold nT at h;cases b:lu ps with
 |none=>rw[b]at h;injection h with h;subst h;exact⟨by decide,by decide⟩
 |some q=>
  rw[b]at h;dsimp only at h;cases a:(iH M now q).1 with
  |error d=>
   rw[a]at h;injection h with h;subst h;have:=AL a;unfold In64;omega
  |ok t=>
   rw[a]at h;exact aaj h
theorem Ti{R:Except Int GR}(h:∀c,R=.error c->In64 c):In64 (codeOf M R):=by
 cases R with
 |error c=>exact h c rfl
 |ok g=>
  show In64 (if M.aL.length<24 then 60 else 0);split<;>exact⟨by decide,by decide⟩
theorem aak{tag:UInt8}{l i:List UInt8}(h:uK tag l=some i):i.length<=l.length:=by
 unfold uK at h;split at h
 ·rename_i t i' hc;split at h
  ·injection h with h;subst h;have:=Box.mM hc;omega
  ·cases h
 ·cases h
theorem BI{base:Nat}{d:List UInt8}{o:Value}(e:RD w base yb M g)(h:dG M now d=(aY now 60,M))(c:w.grownBy w1 none)(i:Made w1.heap.size w2 o (aY now 60))(f:w1.grownBy w2 none):xz base yb g (dG M now d) w w2 o:=by
 rw[h];have k:=aa c f;exact⟨i.base c.size,⟨g,e.keep (λb a=>k.block b (e.lt b a).2 agI),λb a=>.inl a⟩,mh k yb⟩
theorem Aa{base:Nat}{A:Int×List UInt8×DM}{B:List UInt8×DM}{c:Int}{w3:World}{o i:Value}(a:w.grownBy w1 none)(h:CJ base yb g A w1 w2 o c)(q:B=(aY now A.1,A.2.2))(p:Made w2.heap.size w3 i (aY now c))(f:w2.grownBy w3 none):xz base yb g B w w3 i:=by
 obtain⟨l,r,s,⟨n,k,m⟩,j⟩:=h;subst q;rw[<-l];refine⟨p.base (cE a.size j.size),⟨n,k.keep (λb d=>f.block b (k.lt b d).2 agI),λb d=>?_⟩,iC (mh a yb) (iC j (mh f yb))⟩;rcases m b d with e|e
 ·exact .inl e
 ·exact .inr (cE a.size e)
theorem Ab{base:Nat}{A:Int×List UInt8×DM}{B:List UInt8×DM}{c:Int}{o:Value}(a:w.grownBy w1 none)(h:CJ base yb g A w1 w2 o c)(j:c=0)(k:B=(A.2.1,A.2.2)):xz base yb g B w w2 o:=by
 obtain⟨p,q,l,⟨f,n,d⟩,m⟩:=h;subst k;refine⟨(l j).base a.size,⟨f,n,λb i=>?_⟩,iC (mh a yb) m⟩;rcases d b i with e|e
 ·exact .inl e
 ·exact .inr (cE a.size e)
theorem Ot{R:Except Int GR}{c:Int}(b:c=(Oo M now R).1)(a:c≠0):dz M now R=(aY now (Oo M now R).1,(Oo M now R).2.2):=by
 have d:codeOf M R≠0:=by rw[b]at a;exact a
 show dz M now R=(aY now (codeOf M R),(dz M now R).2);rw[Fj d]
theorem aaV(h:p:=by
 have hci:In64 c:=by rw[HMd.o.1];exact OV.o
 clear C hS
 by_cases hc:c=0
 ·have HF:=hid (Ab kR.o HMd.o hc Fs.o)
  clear CR hci
  go_wp2
  go_ret
  exact⟨_,rfl,HF.o⟩
 ·have C3:=hid (λW=>yG now c W dA hci)
  have HC:=hid hc
  go_wp2_with fail
  refine(C3.o _).mono ?_
  rintro e w5 ⟨o2,rfl,hH,g5⟩
  have HF:=hid (Aa kR.o HMd.o (Fs.o.trans (Ot HMd.o.1 HC.o)) hH g5)
  clear hH g5 CR
  go_wp2
  go_ret
  exact⟨_,rfl,HF.o⟩):p:=h
theorem aeS(h:p:=by
 have h4:(bG p.pair).isSome=true:=by rw[HNB.o];exact h1
 obtain⟨y,hy⟩:=cA.1 h4
 rw[hy,<-HKV.o.2 y hy,h2]):p:=h
theorem Ou(base yb:Nat)(M)(g)(now)(B)(v)(w)(hD:RD w base yb M g)(aI:fU 4611686018427387904 M.aG)(ar:base<=w.heap.size)(hv:Has w v B)(a8:B.length<=140737488355328)(dA:In64 now)(aF:In64 M.aA)(aS:∀e∈M.aG,In64 e.bI/\In64 e.aC)(aO:M.aL.length<=140737488355328)(a6:M.aJ.length<=1000)(Ag:∀y∈M.aJ,In64 y.time):
  Calls Tryz.prog 33 #[(yb,0),ι now,v] w λe w'=>∃o,e=.returned o/\xz base yb g (dG M now B) w w' o:=by
 have C1:=hid (zS 48 B v w hv a8)
 obtain⟨va,vc,aR⟩:=hv.shape
 obtain⟨n,hn⟩:=aq B.length
 rw[hn]at aR
 subst aR
 have SV:=hid hn
 have HD:=hid hD
 obtain⟨O,A⟩:=aq (uK 48 B)
 have HO:=hid A
 rw[A]at C1
 clear hD hn A hv
 have CR:=hid (λW=>yG now 60 W dA ⟨by decide,by decide⟩)
 go_enter Tryz.func33,Tryz.ntmps33
 go_wp2_with fail
 refine C1.o.mono ?_
 rintro e w1 ⟨x,i,rfl,hx,aM,af,g1⟩
 have C2:=hid (qO i x w1 hx.prt agE)
 obtain⟨xa,xc,aU⟩:=hx.shape
 subst aU
 obtain⟨CC,an⟩:=aq (Box.dF i)
 have O5:=hid an
 rw[an]at C2
 have ak:=hid af
 have kF:=hid g1
 obtain⟨il,VB⟩:=aq i.length
 rw[VB]at C2⊢
 have a1:=hid VB
 clear C1 hx aM af g1 an VB
 go_wp2_with fail
 refine C2.o.mono ?_
 rintro e w2 ⟨px,rfl,aE,aK,g2⟩
 have aW:∃(l:List Pc) (ao:Option Addr) (pc:Nat),px=.slice ao l.length pc/\(∀ps,CC=some ps->l.map Pc.pair=ps/\(l≠[]->∃G,ao=some ⟨G,0,none⟩/\jJ w2 G l)):=by
  cases hc:CC with
  |none=>exact⟨[],none,0,aK hc,λps h=>by cases h⟩
  |some ps=>
   obtain⟨l,⟨ao,pc,h1,h2⟩,L,_⟩:=aE ps hc;exact⟨l,ao,pc,h1,λbb h=>by injection h with h;subst h;exact⟨L,h2⟩⟩
 obtain⟨l,ao,pc,aT,aN⟩:=aW
 subst aT
 have Vi:=hid aN
 have ah:=hid (aa kF.o g2)
 obtain⟨m,hm⟩:=aq l.length
 rw[hm]
 have U:=hid hm
 clear aE aK aN g2 kF C2 hm
 obtain⟨b1,ay⟩:=aq O.isSome
 obtain⟨b2,aj⟩:=aq CC.isSome
 rw[ay,aj]
 have ax:=hid ay
 have al:=hid aj
 obtain⟨bad,ab⟩:=aq ((!b1||(!b2||(decide ((300:Int)<(n:Int))||decide ((m:Int)=0)))))
 have Y:=hid ab
 clear ay aj ab
 go_upto_region 3 with fail
 go_cut [40] (λz wx=>z=.bool bad/\w2=wx)
 case first=>
  cases b1 with
  |false=>
   go_wp2;go_meet
   case rel=>exact⟨by rw[<-Y.o];rfl,rfl⟩
  |true=>
   cases b2 with
   |false=>
    go_wp2;go_meet
    case rel=>exact⟨by rw[<-Y.o];rfl,rfl⟩
   |true=>
    by_cases L:(300:Int)<(n:Int)
    ·have t:=hid L;go_wp2;go_meet
     case rel=>exact⟨by rw[<-Y.o,dk t.o];rfl,rfl⟩
    ·have t:=hid (eS.1 L);by_cases h4:(m:Int)=0
     ·have av:=hid h4;have a7:((m:Int)==0)=true:=(by rw[h4];rfl);go_wp2;go_meet
      case rel=>exact⟨by rw[<-Y.o,dk av.o,cX (eS.2 t.o)];rfl,rfl⟩
     ·have av:=hid h4;have a7:((m:Int)==0)=false:=(by simpa using h4);go_wp2;go_meet
      case rel=>exact⟨by rw[<-Y.o,cX av.o,cX (eS.2 t.o)];rfl,rfl⟩
 case rest=>
  obtain⟨rfl,rfl⟩:=hcut;cases bad with
  |true=>
   have F:dG M now B=(aY now 60,M):=by
    refine ads (λhl=>?_);have h:=Y.o;rw[uL,HO.o];cases A:O with
    |none=>exact .inl rfl
    |some i'=>
     have N:=ak.o i' A;subst N;show Box.dF i'=none\/Box.dF i'=some [];rw[O5.o];cases X:CC with
     |none=>exact .inl rfl
     |some ps=>
      right;have c1:b1=true:=(by rw[<-ax.o,A];rfl);have c2:b2=true:=(by rw[<-al.o,X];rfl);have aZ:¬ (300:Int)<(n:Int):=(by have:=SV.o;omega);rw[c1,c2,cX aZ]at h;simp at h;have aV:l=[]:=List.length_eq_zero_iff.1 (by have:=U.o;omega);rw[<-(Vi.o ps X).1,aV];rfl
   have Fs:=hid F;clear F;go_wp2_with fail;refine(CR.o _).mono ?_;rintro e w3 ⟨o,rfl,hH,g3⟩;have HH:=hid (And.intro hH g3);clear hH g3;go_wp2;go_ret;exact⟨_,rfl,BI HD.o Fs.o ah.o HH.o.1 HH.o.2⟩
  |false=>
   have ai:∃ps,lh B=some ps/\l.map Pc.pair=ps/\n<=300/\l≠[]/\(∀p∈l,p.ins.length<=900)/\∃G,ao=some ⟨G,0,none⟩/\jJ w2 G l:=by
    have h:=Y.o;simp at h;obtain⟨h1,h2,L,h4⟩:=h;have A:=cA.1 (by rw[ax.o];exact h1);have X:=cA.1 (by rw[al.o];exact h2);obtain⟨i',A⟩:=A;obtain⟨ps,X⟩:=X;have N:=ak.o i' A;subst N;have E:l≠[]:=λe=>by have:=U.o;rw[e]at this;simp at this;omega
    obtain⟨q1,q2⟩:=Vi.o ps X;have aM:=aak (HO.o.trans A);refine⟨ps,?_,q1,by omega,E,λp hp=>?_,q2 E⟩
    ·rw[uL,HO.o,A];show Box.dF i'=some ps;rw[O5.o,X]
    ·have:=Box.lX (O5.o.trans X) p.pair (by rw[<-q1];exact eK hp);have H:p.ins.length<=i'.length:=this;have:=SV.o;omega
   obtain⟨ps,aB,ae,VY,E,Z,G,ba,nW⟩:=ai;subst ba;have BZ:=hid nW;have D:=hid aB;have a:=hid ae;have Ck:=hid Z;have Qi:Hid (B.length<=300):=(by show _<=_;rw[SV.o];exact VY);obtain⟨p,r,f⟩:∃p r,l=p::r:=by cases l with|nil=>exact absurd rfl E|cons p r=>exact⟨p,r,rfl⟩
   have CV:=hid (uh p w2 (nW.2 p (by rw[f];exact List.mem_cons_self ..)).1);have c0:w2.cell? (G,0)=some (.int .u8 p.tag.toNat):=(by have:=nW.tag 0 (by rw[f];simp);simpa[f]using this);have c1:w2.cell? (G,1)=some (.slice p.ad p.ins.length p.cap):=(by have:=nW.ins 0 (by rw[f];simp);simpa[f]using this);have az:(0:Int)<(m:Int):=(by have:=U.o;rw[f]at this;simp at this;omega);have HLR:=hid f;obtain⟨nb,q⟩:=aq ((bG p.pair).isSome);rw[q]at CV;have HNB:=hid q;clear aB ae VY E Z nW f q Y Vi ax al HO O5 ak a1;go_wp2_with fail;refine CV.o.mono ?_;rintro e w3 ⟨kv,rfl,u,g3⟩;have kR:=hid (aa ah.o g3);have vg:=hid (BZ.o.grown g3);have HKV:=hid u;have aP:Hid (RD w3 base yb M g):=HD.o.keep (λb hb=>kR.o.block b (HD.o.lt b hb).2 agI);have aH:Hid (base<=w3.heap.size):=cE ar kR.o.size;clear CV c0 c1 BZ u g3 ah;obtain⟨q1,aD⟩:=aq ((nb&&(decide (kv=10)&&decide ((m:Int)=9))));have R:=hid aD;clear aD;go_upto_region 8 with fail
   go_cut [50] (λz wx=>z=.bool q1/\w3=wx)
   case first=>
    cases nb with
    |false=>
     go_wp2;go_meet
     case rel=>exact⟨by rw[<-R.o];rfl,rfl⟩
    |true=>
     by_cases H:kv=10
     ·have t:=hid H;have ag:(kv==10)=true:=(by rw[H];rfl);by_cases Q:(m:Int)=9
      ·have Nc:=hid Q;have aw:((m:Int)==9)=true:=(by rw[Q];rfl);go_wp2;go_meet
       case rel=>exact⟨by rw[<-R.o,dk t.o,dk Nc.o];rfl,rfl⟩
      ·have Nc:=hid Q;have aw:((m:Int)==9)=false:=(by simpa using Q);go_wp2;go_meet
       case rel=>exact⟨by rw[<-R.o,dk t.o,cX Nc.o];rfl,rfl⟩
     ·have t:=hid H;have ag:(kv==10)=false:=(by simpa using H);go_wp2;go_meet
      case rel=>exact⟨by rw[<-R.o,cX t.o];rfl,rfl⟩
   case rest=>
    obtain⟨rfl,rfl⟩:=hcut;cases q1 with
    |true=>
     have h:=R.o;simp at h;obtain⟨h1,h2,L⟩:=h;have VC:l.length=9:=(by have:=U.o;omega);have j:bG p.pair=some 10:=by
      exact aeS
     obtain⟨p0,T,I,K,J,P,V,S,p8,hl⟩:=Ry VC;have au:p=p0:=aiR;subst au;have s:m=9:=agE;subst s;have C:=hid (KF base yb M g now G pc p T I K J P V S p8 w3 aP.o aI aH.o (by rw[<-hl];exact vg.o) (by rw[<-hl];exact Ck.o) j dA aF aS aO);have F:dG M now B=dz M now (nQ M now ([p,T,I,K,J,P,V,S,p8].map Pc.pair)):=by
      rw[<-hl,a.o];exact VR Qi.o D.o (by rw[<-a.o,hl];exact⟨_,_,rfl,j⟩)
     have Fs:=hid F;obtain⟨RR,k⟩:=aq (nQ M now ([p,T,I,K,J,P,V,S,p8].map Pc.pair));have OV:Hid (In64 (codeOf M RR)):=Ti (λc hc=>aai (k.trans hc));rw[k]at C Fs;clear h1 h2 L VC j hl F R D a Ck HLR HKV vg HNB U k az;go_wp2_with fail;refine C.o.mono ?_;rintro e w4 ⟨o,c,rfl,hS⟩;have HMd:=hid (VS (now:=now) hS);exact aaV
    |false=>
     obtain⟨q2,aQ⟩:=aq ((nb&&(decide (kv=12)&&decide ((m:Int)=8))));have d:=hid aQ;clear aQ;go_upto_region 10 with fail
     go_cut [68] (λz wx=>z=.bool q2/\w3=wx)
     case first=>
      cases nb with
      |false=>
       go_wp2;go_meet
       case rel=>exact⟨by rw[<-d.o];rfl,rfl⟩
      |true=>
       by_cases H:kv=12
       ·have t:=hid H;have ag:(kv==12)=true:=(by rw[H];rfl);by_cases Q:(m:Int)=8
        ·have Nc:=hid Q;have aw:((m:Int)==8)=true:=(by rw[Q];rfl);go_wp2;go_meet
         case rel=>exact⟨by rw[<-d.o,dk t.o,dk Nc.o];rfl,rfl⟩
        ·have Nc:=hid Q;have aw:((m:Int)==8)=false:=(by simpa using Q);go_wp2;go_meet
         case rel=>exact⟨by rw[<-d.o,dk t.o,cX Nc.o];rfl,rfl⟩
       ·have t:=hid H;have ag:(kv==12)=false:=(by simpa using H);go_wp2;go_meet
        case rel=>exact⟨by rw[<-d.o,cX t.o];rfl,rfl⟩
     case rest=>
      obtain⟨rfl,rfl⟩:=hcut;cases q2 with
      |true=>
       have h:=d.o;simp at h;obtain⟨h1,h2,L⟩:=h;have VC:l.length=8:=(by have:=U.o;omega);have j:bG p.pair=some 12:=by
        exact aeS
       obtain⟨p0,T,I,K,J,P,V,S,hl⟩:=Rz VC;have au:p=p0:=aiR;subst au;have s:m=8:=agE;subst s;have C:=hid (Oh base yb M g now G pc p T I K J P V S w3 aP.o aI aH.o (by rw[<-hl];exact vg.o) (by rw[<-hl];exact Ck.o) j dA aF aS aO a6 Ag);have F:dG M now B=dz (nT M now ([p,T,I,K,J,P,V,S].map Pc.pair)).2 now (nT M now ([p,T,I,K,J,P,V,S].map Pc.pair)).1:=by
        rw[<-hl,a.o];exact aaf Qi.o D.o (by rw[<-a.o,hl];exact⟨_,_,rfl,j⟩)
       have Fs:=hid F;obtain⟨RR,k⟩:=aq (nT M now ([p,T,I,K,J,P,V,S].map Pc.pair));have OV:Hid (In64 (codeOf RR.2 RR.1)):=Ti (λc hc=>adt (M:=M) (now:=now) (ps:=[p,T,I,K,J,P,V,S].map Pc.pair) (by rw[k];exact hc));rw[k]at C Fs;clear h1 h2 L VC j hl F R d D a Ck HLR HKV vg HNB U k az;go_wp2_with fail;refine C.o.mono ?_;rintro e w4 ⟨o,c,rfl,hS⟩;have HMd:=hid (aah (now:=now) hS);exact aaV
      |false=>
       have F:dG M now B=(aY now 60,M):=by
        have h1:=R.o;have h2:=d.o;refine aag Qi.o D.o (λp' r' e=>?_) (λp' r' e=>?_)
        ·rintro⟨N,e2⟩;rw[<-a.o,HLR.o]at e;injection e with e3 e4;subst e3;have q:nb=true:=(by rw[<-HNB.o,N];rfl);have u:=HKV.o.2 10 N;have s:(m:Int)=9:=(by have:=U.o;rw[<-a.o,cR]at e2;omega);rw[q,u,s]at h1;revert h1;decide
        ·rintro⟨N,e2⟩;rw[<-a.o,HLR.o]at e;injection e with e3 e4;subst e3;have q:nb=true:=(by rw[<-HNB.o,N];rfl);have u:=HKV.o.2 12 N;have s:(m:Int)=8:=(by have:=U.o;rw[<-a.o,cR]at e2;omega);rw[q,u,s]at h2;revert h2;decide
       have Fs:=hid F;clear F R d;go_wp2_with fail;refine(CR.o _).mono ?_;rintro e w4 ⟨o,rfl,hH,g4⟩;have HH:=hid (And.intro hH g4);clear hH g4;go_wp2;go_ret;exact⟨_,rfl,BI HD.o Fs.o kR.o HH.o.1 HH.o.2⟩
end Go.Proofs.YtlfifnpjeangmaaGreatDoor
