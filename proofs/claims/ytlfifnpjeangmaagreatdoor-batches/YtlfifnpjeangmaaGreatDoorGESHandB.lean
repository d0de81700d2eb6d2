import Derived.Test.YtlfifnpjeangmaaGreatDoorGERNxoB
import Derived.Test.YtlfifnpjeangmaaGreatDoorGERFstB
namespace Go.Proofs.YtlfifnpjeangmaaGreatDoor
set_option maxHeartbeats 8000000
open Proofs.Tryz Go.RowKit
set_option maxRecDepth 100000
set_option linter.unusedSimpArgs false
theorem Tryz.VD:(prog.info? 170).map (·.size)=some 3:=by kernel_rfl
theorem VE{w:World}{b:Nat}{x y z:Value}(h:w.rangeAt b 0 [x,y,z]):(loadVar 170 ⟨b,0,none⟩).run prog w=.ok (.agg #[x,y,z]) w:=eP h 170 _ underlying170 rfl Tryz.VD
theorem Kw{e:Func}{a:Tmp}{f:TypeId}(h:e.results=#[.cell a f])(d)(P)(w)(b)(hp:d.getD a undef = π b 0)(x)(hl:(loadVar f ⟨b,0,none⟩).run P w=.ok x w):
  (results e d).run P w=.ok x w:=by
 have hp':d[a]?.getD undef = π b 0:=rj
 exact rm
def VF(w w':World)(e:Ending):Prop:=∃(o:Value) (z:E) (s:UInt64) (c:E),e=.returned (.agg #[o,H (s.toNat:Int),.string ⟨c.toArray⟩])/\gN w' o z/\z.length<=30000000/\c.length<=1048576/\w.grownBy w' none
structure HB(w V:World)(base yb:Nat)(M:DM)(g:RG)(a:qM):Prop where
 d:RD V base yb M g
 c:V.rangeAt w.1.size 0 a.cells
 r:b' V (w.1.size+1) 3
 g:w.grownBy V none
theorem HB.grown{w V e:World}{d f:Nat}{M:DM}{g:RG}{a:qM}(h:HB w V d f M g a)(k:V.grownBy e none):HB w e d f M g a:=
 ⟨h.d.keep (λb i=>k.block b (h.d.lt b i).2 Z),aB h.c k,h.r.grown k,aa h.g k⟩
theorem VG(base u)(M)(g)(a:qM)(w)(f:RD w base u M g)(ad:fZ 4611686018427387904 M.aF)(q:a.Ok):Calls prog 59 #[π u 0,.agg a.arr] w λe b=>VF w b e:=by
 obtain⟨ib,C,Oc,Od,ag⟩:=info_parts Tryz.Bd
 have d:Hid (HB w ((w.alloc (.cells a.arr 45)).alloc (.cells #[σ,H 0,ε] 170)) base u M g a):=by
  have k:=aM (cx w (.cells a.arr 45) none) (.cells #[σ,H 0,ε] 170);refine⟨f.keep (λb U=>k.block b (f.lt b U).2 Z),aB (aS w a.arr _) (cx _ _ _),?_,k⟩;grind [b'.new,cF]
 rw[qM.oO]at d⊢
 clear f
 go_in
 go_upto_region 1 with fail
 refine kF (λV=>HB w V base u M g a) d.o ?_
 clear d
 intro W hW
 have f:=I hW
 clear hW
 have j:=I (λW (hW:RD W base u M g)=>Fa base u M g [116,103,115] W hW ad)
 go_wp2_with fail
 refine(j.o _ f.o.d).mono ?_
 rintro e i ⟨af,kn,rfl,ai,aj,A⟩
 have d:=I (f.o.grown A)
 clear f A j
 have j:i.c w.1.size 11=some (ι a.hand.ae):=d.o.c 11 _ rfl
 have k:i.c w.1.size 12=some (H (a.hand.aN.toNat:Int)):=d.o.c 12 _ rfl
 have m:i.c w.1.size 13=some (.string ⟨a.hand.ay.toArray⟩):=d.o.c 13 _ rfl
 have n:i.c w.1.size 14=some (ι a.hand.dV):=d.o.c 14 _ rfl
 have p:i.c w.1.size 15=some (ι a.hand.start):=d.o.c 15 _ rfl
 have r:i.c w.1.size 16=some (ι a.hand.fin):=d.o.c 16 _ rfl
 have t:i.c w.1.size 17=some (ι a.hand.aC):=d.o.c 17 _ rfl
 go_upto_region 3 with fail
 refine kF (λV=>HB w V base u M g a/\V.rangeAt i.1.size 0 a.hand.cells) ⟨d.o.grown (cx i _ none),aS i a.hand.cells.toArray _⟩ ?_
 obtain⟨l,f⟩:=N i.1.size
 rw[f]
 clear f d j k m n p r t
 rintro V ⟨f,d⟩
 have y:=I f
 have k:=I d
 clear f d
 as_aux_lemma=>
  refine aD.start (S:=λX=>V.grownBy X none) 24 gJ ?_;have dZ:Hid (V.grownBy V.drew none):=bg (cC _ _);have HA:=I (lA.nil V.drew 1100000);refine aD.tk 0 [0] ?_;refine aD.tk 1 [1] ?_ (hy:=by intro W hW;have m:W.c l 0=some (ι a.hand.ae):=(aB k.o hW) 0 _ rfl;exact kJ);refine aD.tk 3 [3] ?_;refine aD.tk 4 [4] ?_ (hy:=by intro W hW;have m:W.c l 1=some (H (a.hand.aN.toNat:Int)):=(aB k.o hW) 1 _ rfl;exact kJ);refine aD.tk 7 [7] ?_;refine aD.tk 8 [8] ?_ (hy:=by intro W hW;have m:W.c l 2=some (.string ⟨a.hand.ay.toArray⟩):=(aB k.o hW) 2 _ rfl;exact kJ);refine aD.tk 10 [10] ?_;refine aD.tk 11 [11] ?_ (hy:=by intro W hW;have m:W.c l 3=some (ι a.hand.dV):=(aB k.o hW) 3 _ rfl;exact kJ);refine aD.tk 13 [13] ?_;refine aD.tk 14 [14] ?_ (hy:=by intro W hW;have m:W.c l 4=some (ι a.hand.start):=(aB k.o hW) 4 _ rfl;exact kJ);refine aD.tk 16 [16] ?_;refine aD.tk 17 [17] ?_ (hy:=by intro W hW;have m:W.c l 5=some (ι a.hand.fin):=(aB k.o hW) 5 _ rfl;exact kJ);refine aD.tk 19 [19] ?_;refine aD.tk 20 [20] ?_ (hy:=by intro W hW;have m:W.c l 6=some (ι a.hand.aC):=(aB k.o hW) 6 _ rfl;exact kJ);refine aD.on 2 ?_;refine oB (bR a.hand.ae _ q.hand.ae) trivial ?_;clear HA dZ;intro V5 a5 c5 HA dZ;refine aD.on 5 ?_;intro K hK;refine Calls.mono (ZZ _ _) ?_;rintro e V5 ⟨o5,rfl,q5,g5⟩;obtain⟨a5,c5,rfl⟩:=q5.shape;have d:=I q5;have uN:=I (HA.o.grown g5);have Tn:=I (aa dZ.o g5);clear HA dZ q5 g5;have HA:=uN;have dZ:=Tn;clear uN Tn;go_wp2_with fail;refine pZ ?_;clear hK K;refine aD.on 6 ?_;refine oB (lW _ _ _ d.o xT) trivial ?_;clear HA dZ d;intro V5 a6 c6 HA dZ;refine aD.on 9 ?_;refine oB (kP a.hand.ay _ (by grind [qM.Ok.yK])) q.yK ?_;clear HA dZ;intro V5 a5 c5 HA dZ;refine aD.on 12 ?_;refine oB (bR a.hand.dV _ q.hand.dV) trivial ?_;clear HA dZ;intro V5 a5 c5 HA dZ;refine aD.on 15 ?_;refine oB (bR a.hand.start _ q.hand.start) trivial ?_;clear HA dZ;intro V5 a5 c5 HA dZ;refine aD.on 18 ?_;refine oB (bR a.hand.fin _ q.hand.fin) trivial ?_;clear HA dZ;intro V5 a5 c5 HA dZ;refine aD.on 21 ?_;refine oB (bR a.hand.aC _ q.hand.aC) trivial ?_;clear HA dZ;intro V5 a5 c5 HA dZ;refine aD.on0 22 ?_;intro K hK;refine HA.o.bsl 175 7 _ rfl 37 ib _ underlying175 C Od Oc rfl rfl O O ?_;refine l7 (aM dZ.o _) ?_;clear hK K;refine aD.on 23 ?_;intro K hK;refine Calls.mono (HA.o.list _ 7 rfl Z O O) ?_;rintro e V6 ⟨o6,rfl,f,p,B⟩;obtain⟨v,j,d⟩:∃z:E,gN V6 o6 z/\z.length<=7*1100000+4:=⟨_,f,p⟩
  clear f p;have f:=j;have p:=d;clear j d;obtain⟨pa,pc,t⟩:=f.shape;subst t;obtain⟨pn,d⟩:=N v.length;rw[d]at f⊢;have j:=I (dN f (dN p (aa dZ.o B)));clear f p B d;go_wp2_with fail;refine l7 j.o.2.2 ?_;clear hK K;refine aD.on 24 ?_;intro K hK;refine gO ?_;clear hK K;refine aD.EZ (λX=>V.grownBy X none/\gN X (.slice pa pn pc) v) gJ ⟨j.o.2.2,j.o.1⟩ ?_;have Vt:Hid (v.length<=7700004):=cE j.o.2.1 O;clear j dZ HA;rintro X ⟨hX,n⟩;have J:=I hX;have HP:=I n;clear hX n;obtain⟨k1,T⟩:=rQ a.xy;obtain⟨k2,ab⟩:=rQ ((af.toNat:Int)+(k1.toNat:Int));have R:X.c w.1.size 19=some (ι a.xy):=(aB y.o.c J.o) 19 _ rfl;have n:=I (λW (hW:gN W (.slice pa pn pc) v)=>Bc k2 2 5 2 v (.slice pa pn pc) W O O rfl kA hW);go_wp2_with fail;refine(n.o _ HP.o).mono ?_;rintro e P ⟨o1,rfl,D,A⟩;obtain⟨sa,sc,ae⟩:=D.shape;subst ae;obtain⟨L,r⟩:=aw (Pure.dY k2 2 5 v);have Z0:L.length<=7700020:=by grind [Hid.o,Pure.dh]
  rw[<-r]at D⊢;obtain⟨sn,x⟩:=N L.length;rw[x]at D⊢;have tH:=I (aa J.o A);have Er:=I D;have Q:=I Z0;clear A D J HP n R r Z0 x T ab;as_aux_lemma=>
   obtain⟨nn,ak,R⟩:∃n:Int,IntKind.i64.wrap (kn+a.oQ)=n/\b9 n:=⟨_,rfl,by rw[IntKind.wrap_i64];unfold b9;omega⟩
   go_wp2_with fail;refine aD.start (S:=λY=>V.grownBy Y none) 15 gJ ?_;have dZ:Hid (V.grownBy P.drew none):=bg tH.o;have HA:=I (lA.nil P.drew 8000000);have HZ:=I (Er.o.grown (bg (cC P none)));clear Er;refine aD.tk 1 [1] ?_;refine aD.tk 2 [2] ?_;refine aD.tk 3 [3] ?_ (hy:=by intro W hW;have m:W.c w.1.size 18=some (ι a.oQ):=(aB y.o.c hW) 18 _ rfl;exact kJ);refine aD.tk 4 [4] ?_;refine aD.tk 6 [6] ?_;refine aD.tk 10 [10] ?_;refine aD.tk 11 [11] ?_ (hy:=by intro W hW;have m:W.c l 1=some (H (a.hand.aN.toNat:Int)):=(aB k.o hW) 1 _ rfl;exact kJ);refine aD.tk 12 [12] ?_;refine aD.tk 13 [13] ?_ (hy:=by intro W hW;have m:W.c l 2=some (.string ⟨a.hand.ay.toArray⟩):=(aB k.o hW) 2 _ rfl;exact kJ);refine aD.on 0 ?_;refine nF (kP [116,103,115] _ O) trivial ?_;clear HA dZ HZ;intro V5 a5 c5 HA dZ HZ;refine aD.on 5 ?_;refine nF (bR nn _ R) trivial ?_;clear HA dZ HZ;intro V5 a5 c5 HA dZ HZ;refine aD.on 7 ?_;refine nF (lW L _ _ HZ.o kA) Q.o ?_;clear HA dZ HZ;intro V5 a5 c5 HA dZ HZ;refine aD.on0 8 ?_;intro K hK;refine HA.o.bsl 175 3 _ rfl 37 ib _ underlying175 C Od Oc rfl rfl O O ?_;refine l7 (aM dZ.o _) ?_;clear hK K;refine aD.on 9 ?_;intro K hK;have D:=I y.o.r.lt;have J:=I dZ.o.size;refine Calls.mono (HA.o.ZK _ 3 rfl Z O O) ?_;rintro e V6 ⟨o6,BX,rfl,f,_,p,B⟩;obtain⟨al,an,t⟩:=bA f;subst t;obtain⟨ao,d⟩:=N BX.length;rw[d]at f⊢;have T:=I d;have WK:=I (dC f J.o);have j:=I (dN p (aa dZ.o B));have x:=I (y.o.r.grown j.o.2);clear f p B d;go_wp2_with fail;refine l7 j.o.2 ?_;clear hK K;have r:=I j.o.2;clear dZ;have dZ:=r;clear r;refine aD.tk 14 [14] ?_;obtain⟨⟨d0,j0⟩,⟨d1,j1⟩,⟨d2,j2⟩,l0,l1,l2⟩:=IV x.o;refine aD.on 15 ?_;intro K hK;refine gO ?_;clear hK K;refine aD.done gJ ?_;go_wp2;refine bodyPost_ret (Kw results59 _ _ _ (w.1.size+1) rfl _ (VE (fF x.o _ _ _))) rfl ?_;refine⟨_,BX,a.hand.aN,a.hand.ay,rfl,gN.own (e:=5) (base:=V.1.size) ?_,kA,q.yK,?_⟩
   .have h0:=D.o;rw[T.o];refine cB WK.o (λb U=>?_);have ah:=(WK.o.lt b U).1;have r:b≠w.1.size+1:=G;rw[Below.heap_setCell _ _ _ b r,Below.heap_setCell _ _ _ b r,Below.heap_setCell _ _ _ b r]
   .exact az (az (az (aa y.o.g j.o.2) (en _ 1)) (en _ 1)) (en _ 1)
theorem yi{p:Prop}(h:p:=by have:=(HV.s.grown hW).cell;rw[HSv]at this;exact this):p:=h
variable {sb so:Nat}{sv:Value}{w:World}
theorem Tryz.Cz:(prog.info? 45).map (·.size)=some 25:=by kernel_rfl
theorem Z4{a:Nat}{e:TypeId}{g n c:Nat}{k:List Value}(h:w.ownsRow a e 1 (ς g 0 n c) n k):b' w g n:=by
 rcases h.2 with⟨f,_⟩|⟨m,l,b,f,_,i,j,_,d,_⟩
 .cases f
 .injection f with e1 e2 e3;injection e1 with e1;injection e1 with e1;subst e1;exact⟨b,_,i,by rw[d];omega⟩
structure KN where
 box:Value
 z:E
 s:UInt64
 c:E
def KN.cells(k:KN):List Value:=[k.box,H (k.s.toNat:Int),.string ⟨k.c.toArray⟩]
def nT(l:List KN):List Value:=(l.map KN.cells).flatten
theorem wF(l):∀(k j)(hk:k<l.length),j<3->(nT l)[k*3+j]?=(l[k]).cells[j]?:=by
 induction l with
 |nil=>intro k j hk;simp at hk
 |cons a l d=>
  intro k j hk b;cases k with
  |zero=>
   show(a.cells++nT l)[0*3+j]?=_;rw[cW (by simp[KN.cells];omega)];simp
  |succ k=>
   show(a.cells++nT l)[(k+1)*3+j]?=_;rw[cY (by simp[KN.cells];omega)];have h:=d k j rl b;rw[show(k+1)*3+j-a.cells.length=k*3+j from by simp[KN.cells];omega];exact h
structure SaidAt(w:World)(base sb so:Nat)(sv:Value)(kl:List KN):Prop where
 cell:w.cell? (F sb so)=some sv
 row:w.ownsRow base 170 3 sv kl.length (nT kl)
 own:∀k∈kl,w.ownsRow base 5 1 k.box k.z.length (k.z.map U8)/\k.z.length<=1000/\k.c.length<=1048576
theorem SaidAt.has{a:Nat}{d:List KN}(h:SaidAt w a sb so sv d):∀k∈d,gN w k.box k.z/\k.z.length<=1000/\k.c.length<=1048576:=λk b=>⟨gN.own (h.own k b).1,(h.own k b).2⟩
theorem SaidAt.grown{e:World}{a:Nat}{d:List KN}(h:SaidAt w a sb so sv d)(k:w.grownBy e none):SaidAt e a sb so sv d:=
 ⟨k.cell h.cell Z,h.row.kept k (eR _),λx b=>⟨(h.own x b).1.kept k (eR _),(h.own x b).2⟩⟩
def KW(W V:World)(bk:Nat):Prop:=∃(o:Value) (z:E) (s:UInt64) (c:E),V.rangeAt bk 0 [o,H (s.toNat:Int),.string ⟨c.toArray⟩]/\gN V o z/\z.length<=30000000/\c.length<=1048576/\b' V bk 3/\W.grownBy V none
structure RB(w V:World)(base yb:Nat)(M:DM)(g:RG)(a:qM)(sb so:Nat)(sv:Value)(kl:List KN):Prop where
 d:RD V base yb M g
 c:V.rangeAt w.1.size 0 a.cells
 s:SaidAt V base sb so sv kl
 g:w.grownBy V none
theorem RB.grown{V e:World}{d i:Nat}{M:DM}{g:RG}{a:qM}{f:List KN}(h:RB w V d i M g a sb so sv f)(k:V.grownBy e none):RB w e d i M g a sb so sv f:=
 ⟨h.d.keep (λb j=>k.block b (h.d.lt b j).2 Z),aB h.c k,h.s.grown k,aa h.g k⟩
theorem RB.new{d h:Nat}{M:DM}{g:RG}{f:List KN}(a)(t)(e:RD w d h M g)(i:SaidAt w d sb so sv f):RB w (w.alloc (.cells a.arr t)) d h M g a sb so sv f:=by
 have k:=cx w (.cells a.arr t) none;exact⟨e.keep (λb j=>k.block b (e.lt b j).2 Z),aS w a.arr t,i.grown k,k⟩
theorem Ky(d C)(M)(g)(a:qM)(ak:E)(sb so)(sv)(A)(w)(b:RD w d C M g)(bp:fZ 4611686018427387904 M.aF)(v:a.Ok)(bq:ak.length<=1048576)(f:SaidAt w d sb so sv A):Calls prog 31 #[π sb so,π C 0,.string ⟨ak.toArray⟩,.agg a.arr] w λe i=>∃r:E,e=.returned (.string ⟨r.toArray⟩)/\r.length<=300000000/\w.grownBy i none:=by
 obtain⟨ib,bn,Oc,Od,et⟩:=info_parts Tryz.Bd
 have HL:=I (RB.new a 45 b f)
 have CF:=I (λW (hW:RD W d C M g)=>Rp d C M g a W hW bp v)
 have CH:=I (λW (hW:RD W d C M g)=>VG d C M g a W hW bp v)
 clear b f
 have fl:=v.kind
 go_in
 go_upto_region 2 with fail
 refine kF (λV=>RB w V d C M g a sb so sv A) HL.o ?_
 clear HL
 intro W hW
 have Q:=I hW
 have c0:W.c w.1.size 0=some (ι a.kind):=hW.c 0 _ rfl
 clear hW
 go_upto_block 0 with fail
 go_cut [9] (λb wx=>∃z:E,wx.ownsRow W.1.size 5 1 b z.length (z.map U8)/\0<z.length/\z.length<=300000000/\RB w wx d C M g a sb so sv A)
 case first=>
  by_cases D:a.kind=1
  .have da:(a.kind==1)=true:=(by rw[D];rfl);clear D;go_wp2_with (first|(refine wpList_load_mid rfl 45 _ rfl w.1.size 0 rfl a.cells _ Q.o.c underlying45 rfl Tryz.Cz ?_)|fail)
   refine(CF.o _ Q.o.d).mono ?_;rintro e W1 ⟨o,z,rfl,b,p,i,R⟩;have U:=I (dN b (dN p (dN i R)));clear b p i R;go_wp2;go_meet
   case rel=>exact⟨z,U.o.1,U.o.2.1,cE U.o.2.2.1 O,Q.o.grown U.o.2.2.2⟩
  .have da:(a.kind==1)=false:=(by simpa using D);by_cases T:a.kind=2
   .have dc:(a.kind==2)=true:=(by rw[T];rfl);clear T D;as_aux_lemma=>
     go_wp2_with (first|(refine wpList_load_mid rfl 45 _ rfl w.1.size 0 rfl a.cells _ Q.o.c underlying45 rfl Tryz.Cz ?_)|fail)
     refine(CH.o _ Q.o.d).mono ?_;rintro e W1 ⟨o,z,ks,kc,rfl,hH,i,n,R⟩;obtain⟨oa,oc,df⟩:=hH.shape;subst df;obtain⟨L,B⟩:=N z.length;rw[B]at hH⊢;go_upto_region 8 with fail
     refine kF (λV=>RB w V d C M g a sb so sv A/\KW W V W1.1.size) ⟨Q.o.grown (aa R (cx W1 _ none)),.slice oa L oc,z,ks,kc,aS W1 #[.slice oa L oc,H (ks.toNat:Int),.string ⟨kc.toArray⟩] _,hH.grown (cx W1 _ none),cE i O,n,b'.new W1 #[.slice oa L oc,H (ks.toNat:Int),.string ⟨kc.toArray⟩] _,aa R (cx W1 _ none)⟩ ?_;have JH:=I R.size;obtain⟨bk,f⟩:=N W1.1.size;rw[f]at JH⊢;clear f B hH i n R c0;rintro V ⟨hV,hK⟩;have HV:=I hV;have HK:=I hK;clear hV hK;obtain⟨m,l⟩:=N A.length;obtain⟨sa,sc,f⟩:=bA HV.o.s.row;rw[l]at f;have y0:V.cell? (F sb so)=some (.slice sa m sc):=(by have:=HV.o.s.cell;rw[f]at this;exact this);have bf:V.c w.1.size 10=some (ι a.ticket):=HV.o.c 10 _ rfl;have ds:=v.ticket;have HM:=I l;have HSv:=I f;clear l f;obtain⟨tb,f⟩:=N ((decide (0<a.ticket)&&decide ((0:Int)<(m:Int))));have WL:=I f;clear f;go_cut [38] (λx wx=>x=.bool tb/\V=wx)
     case first=>
      by_cases l:0<a.ticket
      .have HL:=I l;by_cases ae:(0:Int)<(m:Int)
       .have f:=I ae;go_wp2;go_meet
        case rel=>exact⟨by rw[<-WL.o,dk HL.o,dk f.o];congr 1;have:=f.o;simp;omega,rfl⟩
       .have f:=I (eS.1 ae);go_wp2;go_meet
        case rel=>exact⟨by rw[<-WL.o,dk HL.o,cX (eS.2 f.o)];congr 1;have:=f.o;simp;omega,rfl⟩
      .have HL:=I (eS.1 l);go_wp2;go_meet
       case rel=>exact⟨by rw[<-WL.o,cX (eS.2 HL.o)];rfl,rfl⟩
     case rest=>
      obtain⟨rfl,rfl⟩:=hcut;go_upto_if 38 with fail
      go_cut [] (λwx=>RB w wx d C M g a sb so sv A/\KW W wx bk)
      case first=>
       cases tb with
       |false=>
        go_wp2;go_meet
        case rel=>exact⟨HV.o,HK.o⟩
       |true=>
        have Ai:0<a.ticket/\0<m:=by
         have h:=WL.o;simp at h;exact h
        obtain⟨gd,ae⟩:=Ai;obtain⟨gk,ck,ay,r,fi⟩:=jJ HV.o.s.row (by rw[HM.o];exact ae);have dp:sa=some ⟨gk,0,none⟩:=by
         have e:=HSv.o.symm.trans ay;injection e
        subst dp;have fz:m<=9223372036854775807:=by
         rcases HV.o.s.row.2 with⟨_,h0⟩|⟨_,f,_,_,_,_,D,T,_⟩
         .rw[HM.o]at h0;omega
         .rw[HM.o]at D;unfold maxLen at T;omega
        obtain⟨tm,Ai,ev,fa⟩:∃t:Int,(a.ticket-1).tmod (m:Int)=t/\0<=t/\t<(m:Int):=by
         refine⟨_,rfl,?_,?_⟩
         .exact Int.tmod_nonneg _ G
         .rw[fk G];exact Int.emod_lt_of_pos _ G
        obtain⟨f,ad,cj⟩:∃k:Nat,(m:Int)-1-tm=(k:Int)/\k<m:=⟨((m:Int)-1-tm).toNat,by omega,by omega⟩
        have fv:(0:Int)<(m:Int):=G;have ga:¬ m=0:=G;have gw:IntKind.i64.wrap (a.ticket-1)=a.ticket-1:=(by rw[IntKind.wrap_i64];have:=ds.2;omega);have fx:(m:Int)<=9223372036854775807:=G;have cl:(f:Int)<(m:Int):=G;have cm:(0:Int)<=(f:Int):=G;have gg:IntKind.i64.wrap ((m:Int)-1)=(m:Int)-1:=oE;have gl:IntKind.i64.wrap ((m:Int)-1-tm)=(f:Int):=oE;have gm:IntKind.i64.wrap (f:Int)=(f:Int):=oE;have y:f<A.length:=(by rw[HM.o];exact cj);obtain⟨q,l7⟩:=N (A[f]'y);have cb:Hid (q∈A):=(by show _∈_;rw[<-l7];exact eg y);have af:Hid (gN V q.box q.z/\q.z.length<=1000/\q.c.length<=1048576):=HV.o.s.has q (by rw[<-l7];exact eg y);obtain⟨xa,xc,l⟩:=af.o.1.shape;obtain⟨xn,J⟩:=N q.z.length;rw[J]at l;have wD:Hid (∀X,V.grownBy X none->X.cell? (F gk (f*3))=some (.slice xa xn xc)/\X.cell? (F gk (f*3+1))=some (H (q.s.toNat:Int))/\X.cell? (F gk (f*3+2))=some (.string ⟨q.c.toArray⟩)):=by
         intro X hX;have hr:=aB r hX;have h0:=wF A f 0 y O;have D:=wF A f 1 y O;have T:=wF A f 2 y O;rw[l7]at h0 D T;have r0:=hr (f*3+0) _ h0;have r1:=hr (f*3+1) _ D;have r2:=hr (f*3+2) _ T;rw[cN]at r0 r1 r2;rw[<-l];exact⟨r0,r1,r2⟩
        have ch:=I l;have er:=I J;clear r l7 l J ay WL;go_wp2_with fail;refine aD.start (S:=λX=>V.grownBy X none) 22 gJ ?_;have dZ:Hid (V.grownBy V.drew none):=bg (cC _ _);clear y0 bf;refine aD.tk 0 [0] ?_;refine aD.tk 1 [1] ?_;refine aD.tk 2 [2] ?_;refine aD.tk 3 [3] ?_ (hy:=by intro W hW;have l:=yi;exact kJ);refine aD.tk 4 [4] ?_;refine aD.tk 5 [5] ?_;refine aD.tk 6 [6] ?_;refine aD.tk 7 [7] ?_ (hy:=by intro W hW;have l:=yi;exact kJ);refine aD.tk 8 [8] ?_;refine aD.tk 9 [9] ?_;refine aD.tk 10 [10] ?_;refine aD.tk 11 [11] ?_ (hy:=by intro W hW;have l:W.c w.1.size 10=some (ι a.ticket):=(aB HV.o.c hW) 10 _ rfl;exact kJ);refine aD.tk 12 [12] ?_;refine aD.tk 13 [13] ?_;refine aD.tk 14 [14] ?_;refine aD.tk 15 [15] ?_;refine aD.tk 16 [16] ?_ (hy:=by intro W hW;have l:=yi;exact kJ);refine aD.tk 17 [17] ?_;refine aD.tk 18 [18] ?_;refine aD.tk 19 [19] ?_;refine aD.tk 20 [20] ?_;refine aD.tk 21 [21] ?_ (hy:=by intro W hW;obtain⟨l,e2,e3⟩:=wD.o W hW;exact kJ);obtain⟨_,_,_,_,_,_,_,_,J,_⟩:=HK.o;obtain⟨⟨d0,j0⟩,⟨d1,j1⟩,⟨d2,j2⟩,l0,l1,l2⟩:=IV J;clear J;refine aD.on 22 ?_;intro K hK;refine gO ?_;clear hK K;refine aD.done gJ ?_;go_wp2_with fail;go_meet
        case rel=>
         obtain⟨_,_,_,_,_,_,_,_,J,ab⟩:=HK.o;have ah:=JH.o;have GS:=az (j:=2) (u:=.string ⟨q.c.toArray⟩) (az (j:=1) (u:=H (q.s.toNat:Int)) (az (j:=0) (u:=.slice xa xn xc) (bg ab) ah) ah) ah;have bl:=Q.o.grown GS;refine⟨bl,.slice xa xn xc,q.z,q.s,q.c,fF (J.grown (bg (cC V none))) _ _ _,?_,cE af.o.2.1 O,af.o.2.2,dH (dH (dH (J.grown (bg (cC V none))) _) _) _,GS⟩;have h9:=(bl.s.has q cb.o).1;rw[ch.o]at h9;exact h9
      case rest=>
       obtain⟨t,q⟩:=hcut;refine Ku (λV=>RB w V d C M g a sb so sv A/\KW W V bk) ⟨t,q⟩ ?_;clear HV HK y0 bf HM HSv WL t q;rintro V ⟨hV,hK⟩;have HV:=I hV;obtain⟨ko,kz,bu,bt,hr,hH,i,n,_,ab⟩:=hK;have bx:=I ab;have au:=I hr;have bz:=I hH;have cc:=I i;have ca:=I n;obtain⟨ka,gx,bo⟩:=hH.shape;obtain⟨kn,q⟩:=N kz.length;rw[q]at bo;subst bo;have cu:V.c w.1.size 20=some (.string ⟨a.jZ.toArray⟩):=hV.c 20 _ rfl;have k2:V.c bk 2=some (.string ⟨bt.toArray⟩):=hr 2 _ rfl;have ei:=I q;clear hV hr hH i n ab q;go_upto_if 64 with fail
       obtain⟨eb,q⟩:=N a.jZ.isEmpty;rw[q];clear q;go_cut [11] (λx wx=>∃c:E,x=.string ⟨c.toArray⟩/\c.length<=1048576/\V=wx)
       case first=>
        cases eb with
        |true=>
         go_wp2;go_meet
         case rel=>exact⟨bt,rfl,ca.o,rfl⟩
        |false=>
         go_wp2;go_meet
         case rel=>exact⟨a.jZ,rfl,v.jZ,rfl⟩
       case rest=>
        obtain⟨c,rfl,n,rfl⟩:=hcut;have Gl:=I n;clear n cu k2;go_wp2_with fail;refine aD.start (S:=λX=>V.grownBy X none) 10 gJ ?_;have dZ:Hid (V.grownBy V.drew none):=bg (cC _ _);have HA:=I (lA.nil V.drew 1100000);refine aD.tk 0 [0] ?_;refine aD.tk 2 [2] ?_;refine aD.tk 3 [3] ?_ (hy:=by intro W hW;have l:W.c w.1.size 21=some (ι a.oV):=(aB HV.o.c hW) 21 _ rfl;exact kJ);refine aD.tk 5 [5] ?_;refine aD.tk 6 [6] ?_ (hy:=by intro W hW;have l:W.c w.1.size 22=some (ι a.kD):=(aB HV.o.c hW) 22 _ rfl;exact kJ);refine aD.on 1 ?_;refine oB (kP c _ (cE Gl.o O)) Gl.o ?_;clear HA dZ;intro V5 a5 c5 HA dZ;refine aD.on 4 ?_;refine oB (bR a.oV _ v.oV) trivial ?_;clear HA dZ;intro V5 a5 c5 HA dZ;refine aD.on 7 ?_;refine oB (bR a.kD _ v.kD) trivial ?_;clear HA dZ;intro V5 a5 c5 HA dZ;refine aD.on0 8 ?_;intro K hK;refine HA.o.bsl 175 3 _ rfl 37 ib _ underlying175 bn Od Oc rfl rfl O O ?_;refine l7 (aM dZ.o _) ?_;clear hK K;refine aD.on 9 ?_;intro K hK;refine Calls.mono (HA.o.list _ 3 rfl Z O O) ?_;rintro e V6 ⟨o6,rfl,t,y,g6⟩;obtain⟨PL,J,q⟩:∃z:E,gN V6 o6 z/\z.length<=3*1100000+4:=⟨_,t,y⟩
        clear t y;have t:=J;have y:=q;clear J q;obtain⟨pa,pc,dn⟩:=t.shape;subst dn;obtain⟨pn,J⟩:=N PL.length;rw[J]at t⊢;have q:=I (dN t (dN y (aa dZ.o g6)));clear t y g6 J;go_wp2_with fail;refine l7 q.o.2.2 ?_;clear hK K;refine aD.on 10 ?_;intro K hK;refine gO ?_;clear hK K;refine aD.EZ (λX=>V.grownBy X none/\gN X (.slice pa pn pc) PL) gJ ⟨q.o.2.2,q.o.1⟩ ?_;have Vt:Hid (PL.length<=3300004):=q.o.2.1;clear q dZ HA;rintro X ⟨hX,J⟩;have HX:=I hX;have HP:=I J;clear hX J;obtain⟨u1,dt⟩:=rQ a.uq;obtain⟨u2,dv⟩:=rQ ((bu.toNat:Int)+(u1.toNat:Int));obtain⟨u3,ea⟩:=rQ a.kD;have KS:X.c w.1.size 22=some (ι a.kD):=(aB HV.o.c HX.o) 22 _ rfl;have cv:X.c w.1.size 23=some (ι a.uq):=(aB HV.o.c HX.o) 23 _ rfl;have k1:X.c bk 1=some (H (bu.toNat:Int)):=(aB au.o HX.o) 1 _ rfl;have an:=I (λW (hW:gN W (.slice pa pn pc) PL)=>Bc u2 4 u3 4 PL (.slice pa pn pc) W O O rfl (cE Vt.o O) hW);go_wp2_with fail;refine(an.o _ HP.o).mono ?_;rintro e X1 ⟨o1,rfl,q1,R⟩;obtain⟨gz,hb,dq⟩:=q1.shape;subst dq;obtain⟨SL,J⟩:=aw (Pure.dY u2 4 u3 PL);have Z0:SL.length<=3300020:=(by rw[J,Pure.dh];have:=Vt.o;omega);rw[<-J]at q1⊢;obtain⟨sn,bs⟩:=N SL.length;rw[bs]at q1⊢;have tH:=I (aa HX.o R);have Er:=I q1;have av:=I Z0;clear R q1 HX HP an KS cv k1 J Z0 bs dt dv ea;as_aux_lemma=>
         go_wp2_with fail;refine aD.start (S:=λY=>V.grownBy Y none) 22 gJ ?_;have dZ:Hid (V.grownBy X1.drew none):=bg tH.o;have HA:=I (lA.nil X1.drew 31000000);have HZ:=I (Er.o.grown (bg (cC X1 none)));have HB:=I (bz.o.grown dZ.o);clear Er;refine aD.tk 1 [1] ?_;refine aD.tk 2 [2] ?_ (hy:=by intro W hW;have l:=(aB au.o hW) 0 _ rfl;exact kJ);refine aD.tk 3 [3] ?_;refine aD.tk 5 [5] ?_;refine aD.tk 6 [6] ?_ (hy:=by intro W hW;have l:W.c w.1.size 2=some (.string ⟨a.aV.toArray⟩):=(aB HV.o.c hW) 2 _ rfl;exact kJ);refine aD.tk 8 [8] ?_;refine aD.tk 9 [9] ?_ (hy:=by intro W hW;have l:W.c w.1.size 3=some (ι a.bV):=(aB HV.o.c hW) 3 _ rfl;exact kJ);refine aD.tk 11 [11] ?_;refine aD.tk 12 [12] ?_ (hy:=by intro W hW;have l:W.c w.1.size 5=some (ι a.dI):=(aB HV.o.c hW) 5 _ rfl;exact kJ);refine aD.tk 14 [14] ?_;refine aD.tk 15 [15] ?_ (hy:=by intro W hW;have l:W.c w.1.size 6=some (ι a.bX):=(aB HV.o.c hW) 6 _ rfl;exact kJ);refine aD.tk 17 [17] ?_;refine aD.tk 18 [18] ?_ (hy:=by intro W hW;have l:W.c w.1.size 7=some (ι a.options):=(aB HV.o.c hW) 7 _ rfl;exact kJ);refine aD.on 0 ?_;refine rf (bR 12 _ ⟨by decide,by decide⟩) trivial ?_;clear HA dZ HZ HB;intro V5 a5 c5 HA dZ HZ HB;have uN:=I (HA.o.push (cC _ none) HB.o (cE cc.o O));clear HA;have HA:=uN;clear uN;refine aD.on 4 ?_;refine rf (lW SL _ _ HZ.o (cE av.o O)) av.o ?_;clear HA dZ HZ HB;intro V5 a5 c5 HA dZ HZ HB;refine aD.on 7 ?_;refine rf (kP a.aV _ (cE v.aV O)) v.aV ?_;clear HA dZ HZ HB;intro V5 a5 c5 HA dZ HZ HB;refine aD.on 10 ?_;refine rf (bR a.bV _ v.bV) trivial ?_;clear HA dZ HZ HB;intro V5 a5 c5 HA dZ HZ HB;refine aD.on 13 ?_;refine rf (bR a.dI _ v.dI) trivial ?_;clear HA dZ HZ HB;intro V5 a5 c5 HA dZ HZ HB;refine aD.on 16 ?_;refine rf (bR a.bX _ v.bX) trivial ?_;clear HA dZ HZ HB;intro V5 a5 c5 HA dZ HZ HB;refine aD.on 19 ?_;refine rf (bR a.options _ v.options) trivial ?_;clear HA dZ HZ HB;intro V5 a5 c5 HA dZ HZ HB;refine aD.on0 20 ?_;intro K hK;refine HA.o.bsl 175 8 _ rfl 37 ib _ underlying175 bn Od Oc rfl rfl O O ?_;refine l7 (aM dZ.o _) ?_;clear hK K;refine aD.on 21 ?_;intro K hK;have J:=I (cE bx.o.size dZ.o.size);refine Calls.mono (HA.o.ZK _ 8 rfl Z O O) ?_;rintro e V6 ⟨o6,z8,rfl,t,z6,y,g6⟩;have q:=I (dN t (dN z6 (dN y (dN (aa dZ.o g6) J.o))));clear t z6 y g6;go_wp2_with fail;refine l7 q.o.2.2.2.1 ?_;clear hK K;refine aD.on 22 ?_;intro K hK;refine gO ?_;clear hK K;refine aD.done gJ ?_;go_wp2_with fail;go_meet
         case rel=>exact⟨z8,dC q.o.1 q.o.2.2.2.2,q.o.2.1,cE q.o.2.2.1 O,HV.o.grown q.o.2.2.2.1⟩
   .have dc:(a.kind==2)=false:=(by simpa using T);go_wp2;go_ret;exact⟨ak,rfl,cE bq O,Q.o.g⟩
 case rest=>
  obtain⟨z,b,p,i,m⟩:=hcut;obtain⟨R,bc,dd,r,bm⟩:=jJ b p;subst dd;obtain⟨L,B⟩:=N z.length;rw[B]at b p⊢;refine Ku (λV=>RB w V d C M g a sb so sv A/\V.ownsRow W.1.size 5 1 (ς R 0 L bc) L (z.map U8)) ⟨m,b⟩ ?_;have cd:=I Q.o.g.size;clear b r m Q c0 CF CH;rintro V ⟨hV,b⟩;have HV:=I hV;have U:=I b;have m:=I B;have J:=I i;clear hV b B i;have cz:V.c w.1.size 24=some (ι a.qw):=HV.o.c 24 _ rfl;have n:=v.qw;by_cases b:a.qw=0
  .have cn:(a.qw==0)=true:=(by rw[b];rfl);clear b;have ag:At V (some ⟨R,0,none⟩) z:=by
    obtain⟨q,i,t,_,_,_,h⟩:=iZ U.o;injection t with l e2 e3;rw[l];exact h
   have aj:=iq (P:=prog) V 37 9 5 underlying37 underlying5 underlying9 (some ⟨R,0,none⟩) bc z ag;rw[m.o]at aj;go_wp2;go_ret;exact⟨z,rfl,J.o,HV.o.g⟩
  .have cn:(a.qw==0)=false:=(by simpa using b);clear b;obtain⟨f,ad⟩:=N (vL a.qw L);have ba:f<L:=(by rw[<-ad];exact DJ _ p);have ec:L<=9223372036854775807:=(by have:=J.o;rw[m.o]at this;omega);have r:=I (λW=>DK a.qw L W n.1 n.2 p ec);rw[ad]at r;obtain⟨q,hq,i⟩:∃q:Int,a.qw.tdiv 1000=q/\b9 q:=by
    refine⟨_,rfl,?_⟩;have D:=n.1;have T:=n.2;unfold b9;rcases Int.le_total 0 a.qw with h|h
    .rw[Int.tdiv_eq_ediv_of_nonneg h];omega
    .have e:a.qw.tdiv 1000=-((-a.qw) / 1000):=(by rw[<-Int.tdiv_eq_ediv_of_nonneg G,Int.neg_tdiv,Int.neg_neg]);rw[e];omega
   have gv:IntKind.i64.wrap q=q:=(by rw[IntKind.wrap_i64];have D:=i.1;have T:=i.2;omega);obtain⟨b,ai⟩:=N (vL q 255);have fb:b<255:=(by rw[<-ai];exact DJ _ O);have al:=I (λW=>DK q 255 W i.1 i.2 O O);rw[ai]at al;have B:f<z.length:=(by rw[m.o];exact ba);obtain⟨x,hx⟩:=N (z[f]'B);have cr:bits .xor .u8 (x.toNat:Int) (1+(b:Int))=((x ^^^ UInt8.ofNat (1+b)).toNat:Int):=by
    rw[<-Le,eo,ez G];rfl
   have wD:Hid (V.rangeAt R 0 (z.map U8)):=by
    obtain⟨g2,y,t,hr,_⟩:=jJ U.o p;injection t with l;injection l with l;injection l with l;subst l;exact hr
   have ar:Hid (∀X,V.grownBy X none->X.cell? (F R f)=some (.int .u8 (x.toNat:Int))):=by
    intro X hX;have:=(aB wD.o hX) f (U8 x) (by rw[eA,cL B,hx];rfl);rw[cN]at this;exact this
   have t:=I (Z4 U.o);have ed:=I hx;have Z5:=I bm;have cl:(f:Int)<(L:Int):=G;have cm:(0:Int)<=(f:Int):=G;have fc:(b:Int)<255:=G;have ff:(0:Int)<=(b:Int):=G;have gp:IntKind.i64.wrap (1+(b:Int))=1+(b:Int):=oE;have gr:IntKind.u8.wrap (1+(b:Int))=1+(b:Int):=(by show(1+(b:Int)) % 256=_;omega);obtain⟨y,hy⟩:=N (x ^^^ UInt8.ofNat (1+b));rw[hy]at cr;clear ad ai hy hx bm U;go_wp2_with fail;refine(r.o _).mono ?_;rintro e V1 ⟨rfl,rfl⟩;clear r cz;go_wp2_with fail;refine aD.start (S:=λX=>V.grownBy X none) 14 gJ ?_;have dZ:Hid (V.grownBy V.drew none):=bg (cC _ _);refine aD.tk 0 [0] ?_;refine aD.tk 1 [1] ?_;refine aD.tk 2 [2] ?_;refine aD.tk 3 [3] ?_;refine aD.tk 4 [4] ?_;refine aD.tk 5 [5] ?_ (hy:=by intro W hW;have l:=ar.o W hW;exact kJ);refine aD.tk 6 [6] ?_;refine aD.tk 7 [7] ?_ (hy:=by intro W hW;have l:W.c w.1.size 24=some (ι a.qw):=(aB HV.o.c hW) 24 _ rfl;exact kJ);refine aD.tk 8 [8] ?_;refine aD.on 9 ?_;intro K hK;refine Calls.mono (al.o _) ?_;rintro e V2 ⟨rfl,rfl⟩;go_wp2_with fail;refine pZ ?_;clear hK K;refine aD.tk 10 [10] ?_;refine aD.tk 11 [11] ?_;refine aD.tk 12 [12] ?_;refine aD.tk 13 [13] ?_;have l0:=t.o.frozen f;obtain⟨d0,j0⟩:=cA.1 (t.o.some f ba);refine aD.on 14 ?_;intro K hK;refine gO ?_;clear hK K;refine aD.EZ (λY=>At Y (some ⟨R,0,none⟩) (z.set f y)/\w.grownBy Y none) gJ ⟨?_,?_⟩ ?_
   .have h:=qK wD.o (k:=f) (by rw[cR];exact B) (.int .u8 (y.toNat:Int));have e:(z.map U8).set f (.int .u8 (y.toNat:Int))=(z.set f y).map U8:=(by rw[List.map_set];rfl);rw[e]at h;exact At.vB (aB h (bg (cC _ none)))
   .exact bg (az HV.o.g (cE cd.o Z5.o))
   rintro Y ⟨ag,X⟩;have HG:=I X;clear X wD ar t;have aj:=iq (P:=prog) Y 37 9 5 underlying37 underlying5 underlying9 (some ⟨R,0,none⟩) bc (z.set f y) ag;rw[eL,m.o]at aj;go_wp2;go_ret;exact⟨z.set f y,rfl,by rw[eL];exact J.o,HG.o⟩
variable {W:World}
theorem BJ{e:Func}{a u t:Tmp}{f:TypeId}(h:e.results=#[.tmp t,.cell a f,.tmp u])(d)(P)(w)(b)(hp:d.getD a undef = π b 0)(x)(hl:(loadVar f ⟨b,0,none⟩).run P w=.ok x w):
  (results e d).run P w=.ok (.tuple #[d.getD t undef,x,d.getD u undef]) w:=by
 have hp':d[a]?.getD undef = π b 0:=rj
 exact rm
def PQ(w w':World)(e:Ending):Prop:=∃(o:Value) (t:TK) (b:Bool) (z:E),e=.returned (.tuple #[o,.agg t.cells.toArray,.bool b])/\w'.ownsRow w.1.size 5 1 o z.length (z.map U8)/\z.length<=1000/\(b=true->t.ay.length<=1000)/\w.grownBy w' none
structure GW(w W:World)(base yb:Nat)(M:DM)(g:RG)(gl:Nat)(l:List Pc):Prop where
 d:RD W base yb M g
 r:b' W w.1.size 7
 p:jK W gl l
 g:w.grownBy W none
theorem GW.grown{d:World}{a f:Nat}{M:DM}{g:RG}{e:Nat}{l:List Pc}(h:GW w W a f M g e l)(k:W.grownBy d none):GW w d a f M g e l:=
 ⟨h.d.keep (λb i=>k.block b (h.d.lt b i).2 Z),h.r.grown k,h.p.grown k,aa h.g k⟩
structure GC(w W:World)(base yb:Nat)(M:DM)(g:RG)(gl:Nat)(l:List Pc)(bc:Nat)(cs:E)(cn:Int)(z:Value)(zs:E):Prop where
 w:GW w W base yb M g gl l
 c:W.rangeAt bc 0 [.string ⟨cs.toArray⟩,Y cn,z]
 z:wm W z zs
theorem GC.grown{b:World}{a j:Nat}{M:DM}{g:RG}{i:Nat}{l:List Pc}{d:Nat}{f:E}{e:Int}{z:Value}{m:E}(h:GC w W a j M g i l d f e z m)(k:W.grownBy b none):GC w b a j M g i l d f e z m:=
 ⟨h.w.grown k,aB h.c k,h.z.grown k⟩
theorem VK{α:Type}{l:List α}(h:l.length=4):∃a b c d,l=[a,b,c,d]:=by
 match l,h with
 | [a,b,c,d],_=>exact⟨a,b,c,d,rfl⟩
theorem Oj(a:w.grownBy W none):∃(o:Value) (t:TK) (b:Bool) (z:E),Ending.returned (.tuple #[σ,.agg #[Y 0,H 0,ε,Y 0,Y 0,Y 0,Y 0],.bool false])=.returned (.tuple #[o,.agg t.cells.toArray,.bool b])/\W.ownsRow w.1.size 5 1 o z.length (z.map U8)/\z.length<=1000/\(b=true->t.ay.length<=1000)/\w.grownBy W none:=
 ⟨σ,⟨0,0,[],0,0,0,0⟩,false,[],rfl,World.ownsRow_nil _ _ _ _,by simp,λh=>(by cases h),a⟩
theorem Cg{l:E}{t:TK}(h:dR l=some t):t.ay.length<=1000:=by
 unfold dR at h;cases d:lq l with
 |none=>rw[d]at h;cases h
 |some u=>
  rw[d]at h;have h:jP u=some t:=h;have L:∀{α β:Type}{f:qG->Option α}{k:α->List qG->Option β}{l:List qG}{b:β},bY f k l=some b->∃p r a,l=p::r/\f p=some a/\k a r=some b:=by
   intro α β f k l b h;cases l with
   |nil=>cases h
   |cons p r=>
    have h:(f p).bind (λa=>k a r)=some b:=h;cases g:f p with
    |none=>rw[g]at h;cases h
    |some a=>grind
  obtain⟨M,V,e,w,_,m⟩:=L h;obtain⟨P,W,a,x,_,k⟩:=L m;obtain⟨Q,X,b,y,J,n⟩:=L k;obtain⟨R,r4,f,A,_,o⟩:=L n;obtain⟨S,r5,g,B,_,p⟩:=L o;obtain⟨T,r6,i,C,_,q⟩:=L p;obtain⟨U,v,j,D,_,r⟩:=L q;have K:(if v=[] then some (⟨e,a,b,f,g,i,j⟩:TK) else none)=some t:=r;grind [dm,di]
theorem Rw{p:qG}{x:E×Int×E}(h:gY p=some x):p.2≠[]:=by
 intro e;unfold gY zu at h;split at h
 .rw[e]at h;have:Box.dF []=some []:=by unfold Box.dF;rfl
  rw[this]at h;cases h
 .cases h
theorem tP{p:Prop}(h:p:=by
  obtain⟨⟨dd0,kk0⟩,⟨dd1,kk1⟩,⟨dd2,kk2⟩,⟨dd3,kk3⟩,⟨dd4,kk4⟩,⟨dd5,kk5⟩,⟨dd6,kk6⟩,ff0,ff1,ff2,ff3,ff4,ff5,ff6⟩:=pV Ml.o
  go_wp2
  refine bodyPost_ret (BJ results71 _ _ _ w.1.size rfl _ (iF (fq Ml _ _ _ _ _ _ _))) rfl ?_
  exact Oj (Vs HGr (cy _))):p:=h
theorem VL(d L)(M)(g)(J)(v)(w)(hD:RD w d L M g)(dn:fZ 4611686018427387904 M.aF)(hv:gN w v J)(gr:J.length<=900):Calls prog 71 #[π L 0,v] w λe w'=>PQ w w' e:=by
 have G0:=cx w (.cells #[Y 0,H 0,ε,Y 0,Y 0,Y 0,Y 0] 43) none
 have ch:=b'.new w #[Y 0,H 0,ε,Y 0,Y 0,Y 0,Y 0] 43
 have C1:=I (λW (hW:w.grownBy W none)=>zU 48 J v W (hv.grown hW) G)
 have Pb:=I (dN G0 ch)
 obtain⟨O,hO⟩:=N (uO 48 J)
 have HO:=I hO
 rw[hO]at C1
 obtain⟨va,vc,ea⟩:=hv.shape
 obtain⟨n,hn⟩:=N J.length
 rw[hn]at ea gr
 subst ea
 have HN:=I hn
 have HD:=I hD
 clear hD hn hO hv G0 ch
 go_in
 go_wp2_with fail
 refine(C1 _ Pb.1).mono ?_
 rintro e w1 ⟨x,i,rfl,hx,cu,y,g1⟩
 have C2:=I (qR i x w1 hx.prt G)
 obtain⟨xa,xc,gx⟩:=hx.shape
 subst gx
 obtain⟨CC,al⟩:=N (Box.dF i)
 have Pd:=I al
 rw[al]at C2
 have bs:=I y
 have kG:=I (aa Pb.1 g1)
 have Dh:=I (Pb.2.grown g1)
 obtain⟨il,VM⟩:=N i.length
 rw[VM]at C2⊢
 clear C1 hx cu y g1 al VM Pb
 go_wp2_with fail
 refine C2.mono ?_
 rintro e w2 ⟨px,rfl,dt,df,g2⟩
 have gp:∃(l:List Pc) (ao:Option Addr) (pc:Nat),px=.slice ao l.length pc/\(∀ps,CC=some ps->l.map Pc.pair=ps/\(l≠[]->∃j,ao=some ⟨j,0,none⟩/\jK w2 j l)):=by
  cases hc:CC with
  |none=>exact⟨[],none,0,df hc,λps h=>by cases h⟩
  |some ps=>
   obtain⟨l,⟨ao,pc,h1,h2⟩,h3,_⟩:=dt ps hc;grind
 obtain⟨l,ao,pc,fb,ds⟩:=gp
 subst fb
 have Vt:=I ds
 have ab:=I (aa kG g2)
 have aj:=I (Dh.grown g2)
 obtain⟨m,hm⟩:=N l.length
 rw[hm]
 have HM:=I hm
 clear dt df ds g2 kG C2 hm Dh
 obtain⟨b1,an⟩:=N O.isSome
 obtain⟨b2,ad⟩:=N CC.isSome
 rw[an,ad]
 have bl:=I an
 have bm:=I ad
 obtain⟨cc,ag⟩:=N ((!b1||(!b2||!decide ((m:Int)=4))))
 have rz:=I ag
 clear an ad ag
 go_upto_region 3 with fail
 go_cut [40] (λz wx=>z=.bool cc/\w2=wx)
 case first=>
  cases b1 with
  |false=>
   go_wp2;exact m'
  |true=>
   cases b2 with
   |false=>
    go_wp2;exact m'
   |true=>
    by_cases h4:(m:Int)=4
    .have ed:=I h4;have ff:((m:Int)==4)=true:=(by rw[h4];rfl);go_wp2;exact m'
    .have ed:=I h4;have ff:((m:Int)==4)=false:=(by simpa using h4);go_wp2;exact m'
 case rest=>
  obtain⟨rfl,rfl⟩:=hcut;cases cc with
  |true=>
   have Ml:=I (aj);have HGr:=I (ab);exact tP
  |false=>
   have av:∃B C a D j,l=[B,C,a,D]/\m=4/\ao=some ⟨j,0,none⟩/\jK w2 j [B,C,a,D]/\a.ins.length<=900:=by
    have h:=rz.o;simp at h;obtain⟨h1,h2,h3⟩:=h;have hO:=cA.1 (by rw[bl];exact h1);have hC:=cA.1 (by rw[bm];exact h2);obtain⟨i',hO⟩:=hO;obtain⟨ps,hC⟩:=hC;have e1:=bs i' hO;subst e1;obtain⟨B,C,a,D,hl⟩:=VK (l:=l) (by have:=HM.o;omega);obtain⟨q1,q2⟩:=Vt ps hC;obtain⟨j,fv,nX⟩:=q2 (by rw[hl];simp);refine⟨B,C,a,D,j,hl,by omega,fv,by rw[<-hl];exact nX,?_⟩;have cu:i'.length<=J.length:=by
     have X:=HO.o.trans hO;unfold uO at X;split at X
     .rename_i t i2 hc;split at X
      .injection X with X;subst X;have:=Box.mP hc;omega
      .cases X
     .cases X
    have h5:a.ins.length<=i'.length:=Box.lX (Pd.o.trans hC) a.pair (by rw[<-q1,hl];simp);have:=HN.o;omega
   obtain⟨B,C,a,D,j,hl,gg,fi,nX,ak⟩:=av;subst gg fi;have Q:Hid (GW w w2 d L M g j [B,C,a,D]):=⟨HD.keep (λb hb=>ab.block b (HD.o.lt b hb).2 Z),aj,nX,ab⟩
   have c4:w2.c j 4=some (.int .u8 (a.tag.toNat:Int)):=nX.tag 2 Z;have c5:w2.c j 5=some (.slice a.ad a.ins.length a.cap):=nX.ins 2 Z;have C3:=I (zW a w2 (nX.2 a Z).1 (nX.2 a Z).2.1 (nX.2 a Z).2.2 G);obtain⟨oT,af⟩:=N (gY a.pair);have bx:Hid (∀x,oT=some x->x.2.2.length<=900/\a.ins≠[]):=λx hx=>⟨cE (BI (p:=a.pair) (by rw[af];exact hx)) ak,Rw (p:=a.pair) (by rw[af];exact hx)⟩
   rw[af]at C3;have bk:=I ak;clear hl nX ak af rz Vt bl bm HO Pd bs HM ab aj;go_wp2_with fail;refine C3.mono ?_;rintro e w3 ⟨u,r,cz,rfl,ha,y,cl,g3⟩;have gv:=I6 (P:=prog) (b'.new w3 #[.string ⟨u.toArray⟩,Y r,σ] 233) 2 Z cz y;have bz:=I (Q.grown g3);have Nl:=I cl;clear C3 Q g3 cl ha c4 c5;go_upto_region 6 with fail
   refine kF (λV=>w3.grownBy V none/\V.rangeAt w3.1.size 0 [.string ⟨u.toArray⟩,Y r,cz]) ⟨cx w3 _ none,n'⟩ ?_;clear gv;rintro V ⟨gV,ae⟩;obtain⟨U,cj⟩:=N w3.1.size;rw[cj]at ae⊢;have HV:=I (bz.grown gV);have bp:=I ae;have KE:Hid (∀q,oT=some q->u=q.1/\r=q.2.1/\wm V cz q.2.2):=λq hq=>⟨(Nl q hq).1,(Nl q hq).2.1,(Nl q hq).2.2.1.grown gV⟩
   have d0:V.c U 0=some (.string ⟨u.toArray⟩):=ae 0 _ rfl;clear cj gV ae bz Nl;have CF:=I (λW (hW:RD W d L M g)=>xw d L M g u W hW dn.len);have cp:=uk g.es u;obtain⟨fa,Ff⟩:=N (gu g.es u);rw[Ff]at CF cp;have cr:fa<0\/∃(i:Nat) (_:i<g.es.length),fa=(i:Int):=by
    grind
   have bq:=I cr;clear cp Ff cr;go_wp2_with fail;refine(CF _ HV.d).mono ?_;rintro e W1 ⟨rfl,g1⟩;have Q:=I (HV.grown g1);have sQ:=I (aB bp g1);have Nl:Hid (∀q,oT=some q->u=q.1/\r=q.2.1/\wm W1 cz q.2.2):=λq hq=>⟨(KE q hq).1,(KE q hq).2.1,(KE q hq).2.2.grown g1⟩
   clear CF HV bp KE d0 g1;obtain⟨b3,ar⟩:=N oT.isSome;have bn:=I ar;rw[ar];clear ar;cases b3 with
   |false=>
    have Ml:=I (Q.r);have HGr:=I (Q.g);exact tP
   |true=>
    rcases bq.o with hd|⟨i,hi,ga⟩
    .have Ml:=I (Q.r);have HGr:=I (Q.g);exact tP
    .obtain⟨A,ck⟩:∃c,oT=some c:=cA.1 bn.o;obtain⟨h1,h2,h3⟩:=Nl A ck;obtain⟨VN,f⟩:=bx A ck;obtain⟨R,T,gz,bb,ec,UE⟩:=h3;subst gz;obtain⟨zn,bf⟩:=N A.2.2.length;rw[bf]at sQ bb;have HC:Hid (GC w W1 d L M g j [B,C,a,D] U u r (.slice R zn T) A.2.2):=⟨Q,sQ,⟨R,T,by rw[bf],by rw[bf];exact bb,ec,UE⟩⟩
     have hf:=I f;have ei:=I VN;have fx:¬ (i:Int)<0:=G;have fz:(0:Int)<=(i:Int):=G;obtain⟨gb,cb,fl,ai⟩:=um Q.d G;obtain⟨m,hm⟩:=N g.es.length;have OL:(i:Int)<(m:Int):=G;have wD:Hid (∀V,W1.grownBy V none->V.cell? (F L 1)=some (ς gb 0 m cb)/\V.rangeAt gb 0 (bK g.es)):=by
      intro V hV;refine⟨?_,aB ai hV⟩;have:=(Q.grown hV).d.bP.blk.cell 1;grind
     obtain⟨x,eb⟩:=N (g.es[i]'hi);have dd:x.be∈M.aF:=(by grind [RD.aF,Hid.o]);have jL:1<=x.aH/\x.aH<=4611686018427387904:=dn.num x.be dd;have ca:=I eb;have er:=I hm;subst ga;clear bq fl ai hm eb dd bb ec UE VN f h1 h2 Q sQ Nl bx bn;have CK:=I (λW=>EW x r W jL.1 (by have:=jL.2;omega));obtain⟨ko,da⟩:=N ((x.be.keyOf r).getD 0);obtain⟨kb,cv⟩:∃k:Bool,(x.be.keyOf r).isSome=k:=⟨_,rfl⟩
     rw[da,cv]at CK;clear da cv jL;go_wp2_with fail;refine aD.start (S:=λV=>GC w V d L M g j [B,C,a,D] U u r (.slice R zn T) A.2.2/\W1.grownBy V none) 9 gJ ?_;have dZ:Hid (GC w W1.drew d L M g j [B,C,a,D] U u r (.slice R zn T) A.2.2/\W1.grownBy W1.drew none):=⟨HC.grown (bg (cC _ _)),bg (cC _ _)⟩
     refine aD.tk 0 [6,5,3,2,1,0] ?_;refine aD.tk 1 [6,5,3,2,1] ?_;refine aD.tk 2 [6,5,3,2] ?_;refine aD.tk 3 [6,5,3] ?_ (hy:=by intro W hW;have y1:=(wD W hW.2).1;exact kJ);refine aD.tk 4 [6,5,4] ?_;refine aD.tk 5 [6,5] ?_;refine aD.tk 6 [6] ?_ (hy:=by intro W hW;have hr:=(wD W hW.2).2;obtain⟨x0,x1,x2,x3,x4,x5,x6,x7,x8,x9⟩:=uT hr i hi;rw[ca]at x0 x1 x2 x3 x4 x5 x6 x7 x8 x9;clear hr;exact kJ);refine aD.tk 7 [8,7] ?_;refine aD.tk 8 [8] ?_ (hy:=by intro W hW;have c1:W.c U 1=some (Y r):=hW.1.c 1 _ rfl;exact kJ);refine aD.on 9 ?_;intro K hK;refine Calls.mono (CK _) ?_;rintro e W2 ⟨rfl,g2⟩;have yO:=I (dZ.1.grown g2);clear g2;go_wp2_with fail;refine gO ?_;clear hK K CK;refine aD.fr 10 ?_;refine aD.fr 11 ?_;refine aD.fr 12 ?_;refine aD.fr 13 ?_;refine aD.fr 14 ?_;refine aD.done gJ ?_;clear dZ HC wD ca er fx fz OL;cases kb with
     |false=>
      have Ml:=I (yO.w.r);have HGr:=I (yO.w.g);exact tP
     |true=>
      have c2:W2.c U 2=some (.slice R zn T):=yO.c 2 _ rfl;have CO:=I (λW (hW:wm W (.slice R zn T) A.2.2)=>xu ko 2 2 A.2.2 (.slice R zn T) W a7 a7 rfl ei hW);obtain⟨ol,dp⟩:=N (eX ko 2 A.2.2);rw[dp]at CO;clear dp;go_wp2_with fail;refine(CO _ yO.z).mono ?_;rintro e W3 ⟨o,rfl,dq,gm,g3⟩;have yj:=I (yO.grown g3);have bu:=I dq;clear yO g3 c2 dq gm CO;cases ol with
      |none=>
       simp only[Option.isSome_none];have Ml:=I (yj.w.r);have HGr:=I (yj.w.g);exact tP
      |some ll=>
       obtain⟨ay,gd⟩:=bu ll rfl;have CT:=I (zX ll o W3 ay G);obtain⟨oa,oc,X⟩:=ay.shape;subst X;clear ay gd bu;simp only[dj];obtain⟨tb,ba⟩:=N ((dR ll).isSome);rw[ba]at CT;have WL:=I ba;clear ba;obtain⟨ln,dc⟩:=N ll.length;rw[dc]at CT⊢;clear dc;go_wp2_with fail;refine CT.mono ?_;rintro e W4 ⟨t,rfl,gw,_,g4⟩;have ev:Hid (tb=true->t.ay.length<=1000):=by
        intro hb;obtain⟨q,hq⟩:=cA.1 (WL.o.trans hb);grind [Cg]
       clear gw WL;rw[TK.oO t];clear CT;have Yq:=I (yj.grown g4);clear g4 yj;go_upto_region 16 with fail
       refine kF (λV=>GC w V d L M g j [B,C,a,D] U u r (.slice R zn T) A.2.2/\V.rangeAt W4.1.size 0 t.cells) ⟨Yq.grown (cx W4 _ none),aS W4 t.cells.toArray _⟩ ?_;obtain⟨bt,au⟩:=N W4.1.size;rw[au];have fc:=Yq.w.r.lt;rw[au]at fc;clear au Yq;rintro W5 ⟨cd,dv⟩;have bo:=I cd;have SE:=I dv;clear cd dv;have CB:Hid (∀V,GC w V d L M g j [B,C,a,D] U u r (.slice R zn T) A.2.2->Calls prog 88 #[.int .u8 48,.slice a.ad a.ins.length a.cap] V λe w'=>∃o,e=.returned o/\w'.ownsRow V.1.size 5 1 o (Box.box 48 a.ins).length ((Box.box 48 a.ins).map U8)/\V.grownBy w' none):=by
        intro V hV;refine tN 48 a.ins a.ins.length a.ad a.cap V (I rfl) (by have:=bk.o;omega) (λe=>?_) (hV.w.p.2 a Z).1;obtain⟨b,hg,h,_⟩:=(hV.w.p.2 a Z).1.addr kA;grind
       refine aD.start (S:=λV=>GC w V d L M g j [B,C,a,D] U u r (.slice R zn T) A.2.2/\V.rangeAt bt 0 t.cells) 8 gJ ?_;have dZ:Hid (GC w W5.drew d L M g j [B,C,a,D] U u r (.slice R zn T) A.2.2/\W5.drew.rangeAt bt 0 t.cells):=⟨bo.grown (bg (cC _ _)),aB SE (bg (cC _ _))⟩
       refine aD.tk 0 [0] ?_;refine aD.tk 1 [1] ?_;refine aD.tk 2 [2] ?_;refine aD.tk 3 [3] ?_ (hy:=by intro W hW;have c5:W.c j 5=some (.slice a.ad a.ins.length a.cap):=hW.1.w.p.ins 2 Z;exact kJ);refine aD.tk 5 [5] ?_ (hy:=by intro W hW;have h7:=hW.2;obtain⟨t0,t1,t2,t3,t4,t5,t6⟩:=lZ h7;clear h7;exact kJ);refine aD.fr 6 ?_ (hS:=.inr dZ);refine aD.on 4 ?_;intro K hK;refine Calls.mono (CB _ dZ.1) ?_;rintro e W6 ⟨o,rfl,ah,g6⟩;have WG:=I (dZ.1.grown g6);have OZ:=I (aB dZ.2 g6);have WK:=I ah;have et:Hid (w.1.size+1<=W5.drew.1.size):=bo.w.r.lt;clear ah g6;go_wp2_with fail;refine hK.out _ _ (.inr ⟨WG,OZ⟩) ?_;clear hK K CB dZ;try simp only[Act.put,List.getElem_toArray,List.getElem_cons_zero,List.getElem_cons_succ,eh,ej,eJ]
       have dZ:=I (dN WG.o OZ);refine aD.fr 7 ?_ (hS:=.inr dZ);obtain⟨⟨dd0,kk0⟩,⟨dd1,kk1⟩,⟨dd2,kk2⟩,⟨dd3,kk3⟩,⟨dd4,kk4⟩,⟨dd5,kk5⟩,⟨dd6,kk6⟩,ff0,ff1,ff2,ff3,ff4,ff5,ff6⟩:=pV WG.w.r;refine aD.on 8 ?_;intro K hK;refine gO ?_;clear hK K;refine aD.fr 9 ?_;refine aD.done gJ ?_;go_wp2;refine bodyPost_ret (BJ results71 _ _ _ w.1.size rfl _ (iF (fq WG.w.r _ _ _ _ _ _ _))) rfl ?_;refine⟨o,t,tb,Box.box 48 a.ins,rfl,?_,?_,ev,az (az (az (az (az (az (az (WG.w.g) (cy _)) (cy _)) (cy _)) (cy _)) (cy _)) (cy _)) (cy _)⟩
       .have h0:=et.o;refine cB (dC WK G) (λb hb=>?_);have ad:=(WK.o.lt b hb).1;have f:b≠w.1.size:=G;rw[Below.heap_setCell _ _ _ b f,Below.heap_setCell _ _ _ b f,Below.heap_setCell _ _ _ b f,Below.heap_setCell _ _ _ b f,Below.heap_setCell _ _ _ b f,Below.heap_setCell _ _ _ b f,Below.heap_setCell _ _ _ b f]
       .have:=bk.o;have:=nI 48 a.ins;omega
theorem Tryz.VO:(prog.info? 170).map (λi=>(i.zero,i.size,i.bytes))=some (some (.agg #[σ,H 0,ε]),3,48):=by kernel_rfl
def sM(w w':World)(base sb so:Nat)(sv:Value)(kl:List KN):Prop:=
 ∃KX kl',SaidAt w' base sb so KX kl'/\kl'.length<=kl.length+1/\(∀b,KX.ownBlock=some b->sv.ownBlock=some b\/w.1.size<=b)/\(∀k∈kl',k∈kl\/∀b,k.box.ownBlock=some b->w.1.size<=b/\KX.ownBlock≠some b)/\(∀k∈kl,∀b,k.box.ownBlock=some b->KX.ownBlock≠some b)/\iU w w' (λb=>b=sb\/sv.ownBlock=some b)/\(∀cs,dz w sb cs->dz w' sb (cs.setIfInBounds so KX))
theorem UG{P:Program}{d:Region.Mode}{b:Array Oper}{Q:Exit->Act->World->Prop}{S:World->Prop}{z n:Nat}{l:Array Bool}{a:Act}{W:World}(X:World->Prop)(e:X W)(h:∀V,X V->aD P d b Q S z n l a V):aD P d b Q S z n l a W:=h W e
theorem Up{W d:World}{b n:Nat}{r:Option Nat}(h:b' W b n)(k:W.grownBy d r)(j:r≠some b):b' d b n:=by
 have i:=h.lt;obtain⟨a,e,f,g⟩:=h;exact⟨a,e,(k.block b i (λe=>j e.symm)).trans f,g⟩
theorem Ud{w:World}{f d:Nat}{g:Value}{b:Array Value}(h:dz w f b)(j:w.cell? (F f d)=some g):b.setIfInBounds d g=b:=by
 have a:=h.cell d;rw[j]at a;refine Array.ext_getElem? λi=>?_;rw[Array.getElem?_setIfInBounds];split
 .rename_i e;subst e;split
  .exact a
  .rename_i hl;rw[fm G]at a;cases a
 .rfl
theorem KF(l)(k):nT (l++[k])=nT l++k.cells:=by simp[nT]
theorem Rx(i yb)(M)(g)(a:qM)(ad)(v)(L y)(sv)(J)(w)(l:RD w i yb M g)(bk:fZ 4611686018427387904 M.aF)(m:gN w v ad)(bl:ad.length<=900)(hS:SaidAt w i L y sv J)(ba:J.length<=1073741824)(B:i<=w.1.size)(bm:b' w L (y+1))(d:sv.ownBlock≠some L)(j:∀k∈J,∀b,k.box.ownBlock=some b->b≠L/\sv.ownBlock≠some b):Calls prog 34 #[π L y,v,.agg a.arr,π yb 0] w λe f=>e=.returned (.tuple #[])/\sM w f i L y sv J:=by
 obtain⟨i0,bc,bp,bq,bs⟩:=info_parts Tryz.VO
 have n:=cx w (.cells a.arr 45) none
 have o:=I (aS w a.arr 45)
 have A:=I (λW (hW:w.grownBy W none)=>VL i yb M g ad v W (l.keep (λb f=>hW.block b (l.lt b f).2 Z)) bk (m.grown hW) bl)
 obtain⟨va,vc,al⟩:=m.shape
 obtain⟨vn,ab⟩:=N ad.length
 rw[ab]at al
 subst al
 have p:=I n
 have HS:=I hS
 have FI:=I j
 have JC:=I d
 have bn:=World.block_lt_of_cell? w _ hS.cell
 clear l m ab n hS j d
 go_in
 go_upto_region 1 with fail
 refine kF (λV=>w.grownBy V none/\V.rangeAt w.1.size 0 a.cells) ⟨p,o⟩ ?_
 clear p o
 rintro W ⟨l,p⟩
 have x:=I l
 have C:=I p
 clear l p
 go_wp2_with fail
 refine(A _ x).mono ?_
 rintro e W1 ⟨o,t,b,z,rfl,j,q,n,D⟩
 have d:t.cells.toArray=#[ι t.ae,H (t.aN.toNat:Int),.string ⟨t.ay.toArray⟩,ι t.dV,ι t.start,ι t.fin,ι t.aC]:=rfl
 rw[d]
 clear d A
 have Q:=I (dC j x.size)
 have ar:=I (λb (f:o.ownBlock=some b)=>(j.lt b f).1)
 have ay:=I q
 have Gl:=I n
 have R:=I (aa x D)
 have m:=I (aB C D)
 have av:Hid (w.1.size+1<=W.1.size):=Oh (v:=ι a.kind) C.o
 obtain⟨oa,oc,af⟩:=bA j
 obtain⟨zn,d⟩:=N z.length
 rw[d]at af
 have A:=I af
 subst af
 have ai:=I d
 clear j q n D x C d A
 go_upto_region 2 with fail
 refine kF (λV=>W1.grownBy V none/\V.rangeAt W1.1.size 0 t.cells) ⟨cx W1 _ none,aS W1 t.cells.toArray _⟩ ?_
 obtain⟨bt,C⟩:=N W1.1.size
 rw[C]
 clear C
 rintro V ⟨l,p⟩
 have A:=I (aa R l)
 have HT:=I p
 have au:=I (aB m l)
 have ah:=I (Q.kept l (eR _))
 clear l p R m Q
 have c0:V.c w.1.size 0=some (ι a.kind):=au 0 _ rfl
 obtain⟨kb,T⟩:=N ((b&&!decide (a.kind=0)))
 have UZ:=I T
 clear T
 go_cut [23] (λx d=>x=.bool kb/\V=d)
 case first=>
  cases b with
  |false=>
   go_wp2;go_meet
   case rel=>exact⟨by rw[<-UZ];rfl,rfl⟩
  |true=>
   by_cases d:a.kind=0
   .have T:(a.kind==0)=true:=(by rw[d];rfl);have j:=I d;clear d;go_wp2;go_meet
    case rel=>exact⟨by rw[<-UZ,dk j.o];first|rfl|(congr 1;simp[j.o]),rfl⟩
   .have T:(a.kind==0)=false:=(by simpa using d);have j:=I d;clear d;go_wp2;go_meet
    case rel=>exact⟨by rw[<-UZ,cX j.o];first|rfl|(congr 1;simpa using j.o),rfl⟩
 case rest=>
  obtain⟨rfl,rfl⟩:=hcut;cases kb with
  |false=>
   go_wp2;go_end0;refine⟨rfl,sv,J,HS.grown A,fg _,λb f=>.inl f,λk l=>.inl l,λk l b f=>(FI k l b f).2,⟨A.os,A.tape,A.output,A.size,λb f _=>A.block b f Z⟩,λcs R=>?_⟩;rw[Ud R HS.o.cell];exact R.grown A Z
  |true=>
   have C:b=true:=by
    have h:=UZ.o;cases b with
    |true=>rfl
    |false=>cases h
   have ao:=I (Gl C);clear C UZ Gl c0;obtain⟨m,j⟩:=N J.length;obtain⟨sa,sc,d⟩:=bA HS.row;rw[j]at d;have ae:=I (HS.grown A);have Q:=I d;have HM:=I j;clear d j;go_wp2_with fail;refine aD.start (S:=λX=>V.grownBy X none) 12 gJ ?_;have dZ:Hid (V.grownBy V.drew none):=bg (cC _ _);refine aD.fr 0 ?_ (hS:=.inr dZ);refine aD.tk 1 [4,3,2,1] ?_;refine aD.tk 2 [4,3,2] ?_;refine aD.tk 3 [4,3] ?_;refine aD.tk 4 [4] ?_ (hy:=by intro W hW;have e1:=(by have:=(ae.grown hW).cell;rw[Q]at this;exact this);exact kJ);refine aD.tk 5 [11,10,5] ?_;refine aD.tk 6 [11,10,7,6] ?_;refine aD.tk 7 [11,10,7] ?_ (hy:=by intro W hW;have e1:W.c bt 1=some (H (t.aN.toNat:Int)):=(aB HT hW) 1 _ rfl;exact kJ);refine aD.tk 8 [11,10,9,8] ?_;refine aD.tk 9 [11,10,9] ?_ (hy:=by intro W hW;have e1:W.c bt 2=some (.string ⟨t.ay.toArray⟩):=(aB HT hW) 2 _ rfl;exact kJ);refine aD.tk 10 [11,10] ?_;refine aD.on 11 ?_;intro K hK;refine l7 (aM dZ _) ?_;clear hK K;refine UG (λY=>V.grownBy Y none/\Y.rangeAt V.1.size 0 [.slice oa zn oc,H (t.aN.toNat:Int),.string ⟨t.ay.toArray⟩]) ⟨aM dZ _,aS V.drew #[.slice oa zn oc,H (t.aN.toNat:Int),.string ⟨t.ay.toArray⟩] _⟩ ?_;rintro Y ⟨d,X⟩;have n:=I d;have U:Y.ownsRow i 170 3 (.slice sa m sc) m (nT J):=by
    have:=(ae.grown d).row;rw[Q,HM]at this;exact this
   have bf:m<=1073741824:=by rw[<-HM];exact ba
   obtain⟨v6,w6,x,D,nV,ak⟩:=qX (P:=prog) Y i 86 86 170 i0 _ 3 48 underlying86 bc bp bq bs rfl O (.slice sa m sc) m (nT J) U ⟨V.1.size,0,none⟩ 1 1 [.slice oa zn oc,H (t.aN.toNat:Int),.string ⟨t.ay.toArray⟩] rfl (λj u hu=>by
     have:=X j u hu;rw[cN]at this;rw[Addr.add_lit,cN]
     exact this) CI O kO G (cE B (cE A.size d.size))
   obtain⟨p,q,bo⟩:=bA D;subst bo;have Nk:Hid (b' w6 L (y+1)):=Up (r:=(Value.slice sa m sc).ownBlock) ((bm.grown A).grown d) nV (by rw[<-Q];exact JC);have an:Hid (w6.ownsRow i 170 3 (.slice p (m+1) q) (m+1) (nT J++(KN.mk (.slice oa zn oc) z t.aN t.ay).cells)/\Y.grownBy w6 sv.ownBlock/\((Value.slice p (m+1) q).ownBlock=sv.ownBlock\/(Value.slice p (m+1) q).ownBlock=some Y.1.size)/\True):=by
    rw[Q];exact⟨D,nV,ak,trivial⟩
   clear d X U D nV ak bf dZ;refine aD.on0 12 ?_;intro K hK;refine Lib.wp_append_run _ _ _ _ _ rfl _ _ rfl rfl _ _ x ?_;refine gO ?_;clear hK K x;refine aD.fr 13 ?_;refine aD.fr 14 ?_;have l0:=Nk.frozen y;obtain⟨d0,j0⟩:=cA.1 (Nk.some y (fY y));refine aD.on 15 ?_;intro K hK;refine gO ?_;clear hK K;refine aD.done gJ ?_;go_wp2;go_end0;obtain⟨ag,x,X,bx⟩:=an.o;have bb:=ae.grown n.o;have hV:=A.o;have bu:=bn;have bz:=n.size;have ca:=hV.size;have D:∀b,b<Y.1.size->b≠L->sv.ownBlock≠some b->(w6.setCell (F L y) (.slice p (m+1) q)).1[b]?=Y.1[b]?:=λb f h1 d=>(Below.heap_setCell w6 _ _ b h1).trans (x.block b f (λe=>d e.symm));have FN:∀b,(Value.slice oa zn oc).ownBlock=some b->W.1.size<=b/\b<V.1.size:=λb f=>⟨ar b f,(ah.o.lt b f).2⟩
   have aj:=λb f=>(HS.row.lt b f).2;have U:∀b,(Value.slice p (m+1) q).ownBlock=some b->sv.ownBlock=some b\/b=Y.1.size:=by
    intro b f;rcases X with h|h
    .left;rw[<-h];exact f
    .right;rw[h]at f;injection f with f;exact f.symm
   have ab:∀b,(Value.slice p (m+1) q).ownBlock=some b->b≠L:=by
    intro b f e;rcases U b f with h|h
    .exact JC (by rw[<-e];exact h)
    .omega
   have cb:=av.o;refine⟨rfl,.slice p (m+1) q,J++[⟨.slice oa zn oc,z,t.aN,t.ay⟩],⟨?_,?_,?_⟩,by simp,?_,?_,?_,?_,?_⟩
   .obtain⟨d,hd⟩:=cA.1 (Nk.some y (fY y));exact dw _ hd
   .rw[KF,cD,eC,HM];exact cB ag (λb f=>Below.heap_setCell w6 _ _ b (ab b f))
   .intro k l;rcases eW.1 l with l|l
    .have d:=bb.own k l;refine⟨cB d.1 (λb f=>D b (d.1.lt b f).2 (FI k l b f).1 (FI k l b f).2),d.2⟩
    .rw[ew]at l;subst l;refine⟨?_,ay,cE ao O⟩;have d:=dC (ah.kept n (eR _)) B;rw[<-ai]at d⊢;refine cB d (λb f=>?_);rw[ai]at f;have h1:=FN b f;refine D b G G (λe=>?_);have:=aj b e;omega
   .intro b f;rcases U b f with h|h
    .exact .inl h
    .right;omega
   .intro k l;rcases eW.1 l with l|l
    .exact .inl l
    .right;rw[ew]at l;subst l;intro b f;have h1:=FN b f;refine⟨by omega,λe=>?_⟩;rcases U b e with h|h
     .have:=aj b h;omega
     .omega
   .intro k l b f e;rcases U b e with h|h
    .exact(FI k l b f).2 h
    .have:=((HS.own k l).1.lt b f).2;omega
   .refine⟨?_,?_,?_,?_,λb f d=>?_⟩
    .exact(x.os.trans n.os).trans hV.os
    .exact(x.tape.trans n.tape).trans hV.tape
    .exact(x.output.trans n.output).trans hV.output
    .rw[World.size_setCell];have:=x.size;omega
    .rw[D b G (λe=>d (.inl e)) (λe=>d (.inr e)),n.block b G Z,hV.block b f Z]
   .intro cs R;have h1:=((R.grown hV Z).grown n Z).grown x (λe=>JC e.symm);exact h1.set y _
theorem xi{p:Prop}(h:p:=by unfold nE;rw[dT hl,h];rfl):p:=h
theorem xr{p:Prop}(h:p:=by unfold rD;rw[dT hl,h];rfl):p:=h
theorem IF{p:Prop}(h:p:=by
 cases l with
 |nil=>cases h
 |cons p r=>
  have h:(f p).bind (λa=>k a r)=some b:=h
  cases hf:f p with
  |none=>rw[hf]at h;cases h
  |some a=>rw[hf]at h;exact⟨p,r,a,rfl,h⟩):p:=h
theorem BK{d:List qG}{q:FQ}(h:lu d=some q):∃p r,d=p::r/\bG p=some 10/\d.length=9:=by
 match d,h with
 | [],h=>cases h
 |p0::d,h=>
  have e:lu (p0::d)=(bG p0).bind λk=>(if k=10 then bY dm λc=>bY dm λs=>bY bG λn=>bY bG λf=>bY bG λt=>bY bG λr=>bY bG λo=>bY mi λp=>xE ⟨c,s,n,f,t,r,o,p⟩ else λ_=>none) d:=rfl;rw[e]at h;cases i:bG p0 with
  |none=>rw[i]at h;cases h
  |some k=>
   rw[i]at h;have h:(if k=10 then bY dm λc=>bY dm λs=>bY bG λn=>bY bG λf=>bY bG λt=>bY bG λr=>bY bG λo=>bY mi λp=>xE ⟨c,s,n,f,t,r,o,p⟩ else λ_=>none) d=some q:=h;by_cases g:k=10
   .rw[dT g]at h;refine⟨p0,d,rfl,by rw[i,g],?_⟩;have L:∀{α β:Type}{f:qG->Option α}{k:α->List qG->Option β}{l:List qG}{b:β},bY f k l=some b->∃p r a,l=p::r/\k a r=some b:=by
     intro α β f k l b h;exact IF
    obtain⟨S,r1,j,rfl,B⟩:=L h;obtain⟨T,r2,m,rfl,C⟩:=L B;obtain⟨U,r3,u,rfl,D⟩:=L C;obtain⟨V,r4,v,rfl,J⟩:=L D;obtain⟨W,r5,w,rfl,K⟩:=L J;obtain⟨X,r6,x,rfl,M⟩:=L K;obtain⟨q7,r7,y,rfl,P⟩:=L M;obtain⟨q8,R,A,rfl,Q⟩:=L P;have h:(if R=[] then some (⟨j,m,u,v,w,x,y,A⟩:FQ) else none)=some q:=Q;split at h
    .rename_i hr;rw[hr];rfl
    .cases h
   .rw[cZ g]at h;cases h
theorem BL{d:List qG}{q:NQ}(h:lC d=some q):∃p r,d=p::r/\bG p=some 12/\d.length=8:=by
 match d,h with
 | [],h=>cases h
 |p0::d,h=>
  have e:lC (p0::d)=(bG p0).bind λk=>(if k=12 then bY gY λc=>bY jq λp=>bY dm λs=>bY bG λn=>bY bG λt=>bY bG λr=>bY bG λo=>xE ⟨c.1,c.2.1,c.2.2,p,s,n,t,r,o⟩ else λ_=>none) d:=rfl;rw[e]at h;cases j:bG p0 with
  |none=>rw[j]at h;cases h
  |some k=>
   rw[j]at h;have h:(if k=12 then bY gY λc=>bY jq λp=>bY dm λs=>bY bG λn=>bY bG λt=>bY bG λr=>bY bG λo=>xE ⟨c.1,c.2.1,c.2.2,p,s,n,t,r,o⟩ else λ_=>none) d=some q:=h;by_cases i:k=12
   .rw[dT i]at h;refine⟨p0,d,rfl,by rw[j,i],?_⟩;have L:∀{α β:Type}{f:qG->Option α}{k:α->List qG->Option β}{l:List qG}{b:β},bY f k l=some b->∃p r a,l=p::r/\k a r=some b:=by
     intro α β f k l b h;exact IF
    obtain⟨Q,X,g,rfl,A⟩:=L h;obtain⟨R,r2,m,rfl,B⟩:=L A;obtain⟨S,r3,u,rfl,C⟩:=L B;obtain⟨T,r4,v,rfl,D⟩:=L C;obtain⟨U,r5,w,rfl,J⟩:=L D;obtain⟨V,r6,x,rfl,K⟩:=L J;obtain⟨W,P,y,rfl,M⟩:=L K;have h:(if P=[] then some (⟨g.1,g.2.1,g.2.2,m,u,v,w,x,y⟩:NQ) else none)=some q:=M;split at h
    .rename_i hr;rw[hr];rfl
    .cases h
   .rw[cZ i]at h;cases h
section
variable {M:DM}{now:Int}{aX:E}
theorem R5(h:aX.length<=300->lq aX=none\/lq aX=some []):dG M now aX=(aY now 60,M):=by
 have a:nE aX=none:=by
  unfold nE;split
  .rename_i hl;rcases h hl with e|e<;>rw[e]<;>rfl
  .rfl
 have b:rD aX=none:=by
  unfold rD;split
  .rename_i hl;rcases h hl with e|e<;>rw[e]<;>rfl
  .rfl
 unfold dG;rw[a,b]
theorem GY{p:Prop}(h:p:=by
 obtain⟨p',r',e',hn'⟩:=hp
 rw[e]at e'
 injection e' with e1 e2
 subst e1
 rw[hn]at hn'
 injection hn' with hn'
 omega):p:=h
theorem VZ{a:List qG}(hl:aX.length<=300)(h:lq aX=some a)(hp:∃p r,a=p::r/\bG p=some 10):dG M now aX=dA M now (nR M now a):=by
 have b:nE aX=lu a:=xi;have d:rD aX=lC a:=xr;have f:lC a=none:=by
  cases g:lC a with
  |none=>rfl
  |some q=>
   obtain⟨p,r,e,hn,_⟩:=BL g;exact GY
 unfold dG nR;rw[b,d,f];cases lu a with
 |none=>rfl
 |some q=>rfl
theorem T8{a:List qG}(hl:aX.length<=300)(h:lq aX=some a)(hp:∃p r,a=p::r/\bG p=some 12):dG M now aX=dA (nU M now a).2 now (nU M now a).1:=by
 have b:nE aX=lu a:=xi;have d:rD aX=lC a:=xr;have f:lu a=none:=by
  cases g:lu a with
  |none=>rfl
  |some q=>
   obtain⟨p,r,e,hn,_⟩:=BK g;exact GY
 unfold dG nU;rw[b,d,f];cases lC a with
 |none=>rfl
 |some q=>
  show tT M now q=_;rw[Nb];dsimp only;cases(iH M now q).1 with
  |error c=>rfl
  |ok t=>rfl
theorem XA{a:List qG}(hl:aX.length<=300)(h:lq aX=some a)(l:∀p r,a=p::r->¬ (bG p=some 10/\a.length=9))(m:∀p r,a=p::r->¬ (bG p=some 12/\a.length=8)):dG M now aX=(aY now 60,M):=by
 have g:nE aX=lu a:=xi;have i:rD aX=lC a:=xr;have j:lu a=none:=by
  cases f:lu a with
  |none=>rfl
  |some q=>
   obtain⟨p,r,e,d,b⟩:=BK f;exact absurd ⟨d,b⟩ (l p r e)
 have k:lC a=none:=by
  cases f:lC a with
  |none=>rfl
  |some q=>
   obtain⟨p,r,e,d,b⟩:=BL f;exact absurd ⟨d,b⟩ (m p r e)
 unfold dG;rw[g,i,j,k]
theorem Fq{R:Except Int GR}(h:mS M R≠0):dA M now R=(aY now (mS M R),M):=by
 unfold mS at h⊢;unfold dA;cases R with
 |error c=>rfl
 |ok g=>
  dsimp only at h⊢;split at h
  .rename_i hd;rw[dT hd,dT hd]
  .exact absurd rfl h
theorem KO{a:GR}(h:mS M (.ok a)=0):dA M now (.ok a)=(a.box M.aL,{M with aL:=M.aL.drop 24}):=by
 unfold mS at h;unfold dA;dsimp only at h⊢;split at h
 .exact absurd h O
 .rename_i hd;rw[cZ hd]
end
def xC(base yb:Nat)(g:RG)(A:E×DM)(w w':World)(o:Value):Prop:=
 l8 w.1.size w' o A.1/\(∃g',RD w' base yb A.2 g'/\∀b,g'.foot yb b->g.foot yb b\/w.1.size<=b)/\w.grownBy w' (some yb)
def CX(base yb:Nat)(g:RG)(A:Int×E×DM)(w w':World)(o:Value)(c:Int):Prop:=
 c=A.1/\(c≠0->o = σ)/\(c=0->l8 w.1.size w' o A.2.1)/\(∃g',RD w' base yb A.2.2 g'/\∀b,g'.foot yb b->g.foot yb b\/w.1.size<=b)/\w.grownBy w' (some yb)
theorem Fs{g:RG}{a n:Nat}{v u:Value}(i:v=g.pv\/k' n v)(f:u=g.dv\/k' n u):∀b,({g with pv:=v,dv:=u}:RG).foot a b->g.foot a b\/n<=b:=by
 intro b d;rcases d with e|e|e|e
 .exact .inl (.inl e)
 .exact .inl (.inr (.inl e))
 .rcases i with h|h
  .exact .inl (.inr (.inr (.inl (by rw[<-h];exact e))))
  .exact .inr (h b e)
 .rcases f with h|h
  .exact .inl (.inr (.inr (.inr (by rw[<-h];exact e))))
  .exact .inr (h b e)
def Ox(M:DM)(now:Int)(R:Except Int GR):Int×E×DM:=(mS M R,(dA M now R).1,(dA M now R).2)
theorem Ft{p:Prop}(h:p:=by
 subst hR
 show l8 w.1.size w' o (dA M now (.ok gr)).1
 rw[KO (by rw[<-h1];exact hc)]
 exact hH):p:=h
theorem D1{p:Prop}(h:p:=by
 show RD w' base yb (dA M now (.ok gr)).2 _
 rw[KO (by rw[<-h1];exact hc)]
 exact hD):p:=h
theorem V3{base yb:Nat}{M:DM}{g:RG}{now:Int}{R:Except Int GR}{w w':World}{o:Value}{c:Int}(h:Cw base yb M g R w w' o c):CX base yb g (Ox M now R) w w' o c:=by
 obtain⟨h1,a,d⟩:=h;refine⟨h1,λhc=>(a hc).1,λhc=>?_,?_,?_⟩
 .obtain⟨gr,v,hR,hH,_⟩:=d hc;exact Ft
 .by_cases hc:c=0
  .obtain⟨gr,v,hR,hH,hD,e,_⟩:=d hc;subst hR;refine⟨{g with dv:=v},?_,Fs (.inl rfl) (.inr e)⟩;exact D1
  .refine⟨g,?_,λb f=>.inl f⟩;show RD w' base yb (dA M now R).2 _;rw[Fq (by rw[<-h1];exact hc)];exact(a hc).2.1
 .by_cases hc:c=0
  .obtain⟨gr,v,hR,hH,hD,e,b⟩:=d hc;exact b
  .exact mh (a hc).2.2 yb
theorem Xs{base yb:Nat}{g:RG}{now:Int}{A:Except Int GR×DM}{w w':World}{o:Value}{c:Int}(h:CJ base yb g A w w' o c):CX base yb g (Ox A.2 now A.1) w w' o c:=by
 obtain⟨R,M⟩:=A;obtain⟨h1,⟨v,d,a,b⟩,f⟩:=h;have h1:c=mS M R:=h1;refine⟨h1,λhc=>(a hc).1,λhc=>?_,?_,f⟩
 .obtain⟨gr,u,hR,hH,_⟩:=b hc;have hR:R=.ok gr:=hR;exact Ft
 .by_cases hc:c=0
  .obtain⟨gr,u,hR,hH,hD,e⟩:=b hc;have hR:R=.ok gr:=hR;subst hR;refine⟨{g with pv:=v,dv:=u},?_,Fs d (.inr e)⟩;exact D1
  .refine⟨{g with pv:=v},?_,Fs (u:=g.dv) d (.inl rfl)⟩;show RD w' base yb (dA M now R).2 _;rw[Fq (by rw[<-h1];exact hc)];exact(a hc).2
theorem RX{α:Type}{l:List α}(h:l.length=9):∃a b c d e f g i j,l=[a,b,c,d,e,f,g,i,j]:=by
 match l,h with
 | [a,b,c,d,e,f,g,i,j],_=>exact⟨a,b,c,d,e,f,g,i,j,rfl⟩
theorem RY{α:Type}{l:List α}(h:l.length=8):∃a b c d e f g i,l=[a,b,c,d,e,f,g,i]:=by
 match l,h with
 | [a,b,c,d,e,f,g,i],_=>exact⟨a,b,c,d,e,f,g,i,rfl⟩
end Go.Proofs.YtlfifnpjeangmaaGreatDoor
namespace Go.Proofs.YtlfifnpjeangmaaGreatDoor
set_option maxHeartbeats 8000000
open Go.RowKit
set_option maxRecDepth 100000
variable {p:Prop}
theorem Ca(h:p:=by have:=HLR.o;rw[hl]at this;injection this with this;exact this.symm):p:=h
variable {M:DM}{now:Int}{yb:Nat}{g:RG}{w w1 w2:World}
theorem Oy(x y)(now):b9 (nQ x y now 1 2)/\b9 (nQ x y now 2 1):=by
 unfold nQ b9;constructor<;>(repeat' split)<;>omega
theorem rI(h:p:=by
 injection h with h;subst h;exact⟨by decide,by decide⟩):p:=h
theorem WC{b:List qG}{c:Int}(h:nR M now b=.error c):b9 c:=by
 unfold nR at h;cases a:lu b with
 |none=>rw[a]at h;injection h with h;subst h;exact⟨by decide,by decide⟩
 |some q=>
  rw[a]at h;have h:mB M now q=.error c:=h;unfold mB at h;split at h
  .exact rI
  .exact rI
  .rename_i x s _ _;split at h
   .injection h with h;subst h;exact(Oy x s now).1
   .split at h
    .injection h with h;subst h;have d:=YT M.aA now x q.pre;unfold cO;split
     .exact d
     .unfold b9;(repeat' split)<;>omega
    .cases h
theorem Ax(h:p:=by
 split at e
 .injection e with e;subst e;exact⟨by decide,by decide⟩
 .cases e):p:=h
theorem V4{a:TK}{x s:BE}{f d b c:Int}(e:fresh now a x s f d b=.error c):b9 c:=by
 unfold fresh at e;split at e
 .exact Ax
 .split at e
  .exact Ax
  .exact Ax
theorem WB{q:NQ}{a:TK}{c:Int}(h:eu M now q a=.error c):b9 c:=by
 unfold eu at h;split at h
 .exact rI
 .split at h
  .exact rI
  .split at h
   .exact rI
   .exact rI
   .rename_i s x _ _;split at h
    .injection h with h;subst h;exact(Oy s x now).2
    .split at h
     .exact rI
     .split at h
      .rename_i c' hc;injection h with h;subst h;exact V4 hc
      .cases h
theorem R1{ps:List qG}{c:Int}(h:(nU M now ps).1=.error c):b9 c:=by
 unfold nU at h;cases b:lC ps with
 |none=>rw[b]at h;injection h with h;subst h;exact⟨by decide,by decide⟩
 |some q=>
  rw[b]at h;dsimp only at h;cases a:(iH M now q).1 with
  |error d=>
   rw[a]at h;injection h with h;subst h;have:=AU a;unfold b9;omega
  |ok t=>
   rw[a]at h;exact WB h
theorem Tx{R:Except Int GR}(h:∀c,R=.error c->b9 c):b9 (mS M R):=by
 cases R with
 |error c=>exact h c rfl
 |ok g=>
  show b9 (if M.aL.length<24 then 60 else 0);split<;>exact⟨by decide,by decide⟩
theorem Ww{a:UInt8}{l i:E}(h:uO a l=some i):i.length<=l.length:=by
 unfold uO at h;split at h
 .rename_i t i' hc;split at h
  .injection h with h;subst h;have:=Box.mP hc;omega
  .cases h
 .cases h
theorem BM{a:Nat}{e:E}{o:Value}(f:RD w a yb M g)(h:dG M now e=(aY now 60,M))(i:w.grownBy w1 none)(j:l8 w1.1.size w2 o (aY now 60))(l:w1.grownBy w2 none):xC a yb g (dG M now e) w w2 o:=by
 rw[h];have k:=aa i l;exact⟨j.base i.size,⟨g,f.keep (λb d=>k.block b (f.lt b d).2 Z),λb d=>.inl d⟩,mh k yb⟩
theorem Ac{a:Nat}{A:Int×E×DM}{B:E×DM}{c:Int}{w3:World}{o l:Value}(f:w.grownBy w1 none)(h:CX a yb g A w1 w2 o c)(p:B=(aY now A.1,A.2.2))(q:l8 w2.1.size w3 l (aY now c))(k:w2.grownBy w3 none):xC a yb g B w w3 l:=by
 obtain⟨n,t,u,⟨m,i,r⟩,j⟩:=h;subst p;rw[<-n];refine⟨q.base (cE f.size j.size),⟨m,i.keep (λb d=>k.block b (i.lt b d).2 Z),λb d=>?_⟩,iD (mh f yb) (iD j (mh k yb))⟩;rcases r b d with e|e
 .exact .inl e
 .exact .inr (cE f.size e)
theorem Ad{a:Nat}{A:Int×E×DM}{B:E×DM}{c:Int}{o:Value}(d:w.grownBy w1 none)(h:CX a yb g A w1 w2 o c)(m:c=0)(j:B=(A.2.1,A.2.2)):xC a yb g B w w2 o:=by
 obtain⟨q,r,i,⟨f,k,n⟩,p⟩:=h;subst j;refine⟨(i m).base d.size,⟨f,k,λb l=>?_⟩,iD (mh d yb) p⟩;rcases n b l with e|e
 .exact .inl e
 .exact .inr (cE d.size e)
theorem Oz{R:Except Int GR}{c:Int}(b:c=(Ox M now R).1)(a:c≠0):dA M now R=(aY now (Ox M now R).1,(Ox M now R).2.2):=by
 have d:mS M R≠0:=by rw[b]at a;exact a
 show dA M now R=(aY now (mS M R),(dA M now R).2);rw[Fq d]
theorem J0(h:p:=by
 have hci:b9 c:=by rw[HMd.1];exact O6.o
 clear C hS
 by_cases hc:c=0
 .have HF:=I (Ad kS HMd hc Fv)
  clear CR hci
  go_wp2
  go_ret
  exact⟨_,rfl,HF⟩
 .have C3:=I (λW=>yJ now c W dB hci)
  have HC:=I hc
  go_wp2_with fail
  refine(C3 _).mono ?_
  rintro e w5 ⟨o2,rfl,hH,g5⟩
  have HF:=I (Ac kS HMd (Fv.o.trans (Oz HMd.1 HC)) hH g5)
  clear hH g5 CR
  go_wp2
  go_ret
  exact⟨_,rfl,HF⟩):p:=h
theorem E7(h:p:=by
 have h4:(bG p.pair).isSome=true:=by rw[HNB];exact h1
 obtain⟨y,hy⟩:=cA.1 h4
 rw[hy,<-HKV.2 y hy,h2]):p:=h
theorem OA(a yb)(M)(g)(now)(A)(v)(w)(h:RD w a yb M g)(bb:fZ 4611686018427387904 M.aF)(ai:a<=w.1.size)(d:gN w v A)(bq:A.length<=140737488355328)(dB:b9 now)(bf:b9 M.aA)(ay:∀e∈M.aF,b9 e.bI/\b9 e.aC)(au:M.aL.length<=140737488355328)(bo:M.aJ.length<=1000)(Ai:∀y∈M.aJ,b9 y.time):Calls Tryz.prog 33 #[π yb 0,Y now,v] w λe b=>∃o,e=.returned o/\xC a yb g (dG M now A) w b o:=by
 have f:=I (zU 48 A v w d bq)
 obtain⟨va,vc,bk⟩:=d.shape
 obtain⟨n,b⟩:=N A.length
 rw[b]at bk
 subst bk
 have Ti:=I b
 have HD:=I h
 obtain⟨O,B⟩:=N (uO 48 A)
 have HO:=I B
 rw[B]at f
 clear h b B d
 have CR:=I (λW=>yJ now 60 W dB ⟨by decide,by decide⟩)
 go_enter Tryz.func33,Tryz.ntmps33
 go_wp2_with fail
 refine f.mono ?_
 rintro e w1 ⟨x,i,rfl,k,av,b,l⟩
 have j:=I (qR i x w1 k.prt G)
 obtain⟨xa,xc,bs⟩:=k.shape
 subst bs
 obtain⟨CC,d⟩:=N (Box.dF i)
 have Pd:=I d
 rw[d]at j
 have af:=I b
 have r:=I l
 obtain⟨il,h⟩:=N i.length
 rw[h]at j⊢
 have bl:=I h
 clear f k av b l d h
 go_wp2_with fail
 refine j.mono ?_
 rintro e w2 ⟨px,rfl,f,b,q⟩
 have bp:∃(l:List Pc) (ao:Option Addr) (pc:Nat),px=.slice ao l.length pc/\(∀ps,CC=some ps->l.map Pc.pair=ps/\(l≠[]->∃K,ao=some ⟨K,0,none⟩/\jK w2 K l)):=by
  cases hc:CC with
  |none=>exact⟨[],none,0,b hc,λps h=>by cases h⟩
  |some ps=>
   obtain⟨l,⟨ao,pc,h1,h2⟩,S,_⟩:=f ps hc;exact⟨l,ao,pc,h1,λd h=>by injection h with h;subst h;exact⟨S,h2⟩⟩
 obtain⟨l,ao,pc,bm,d⟩:=bp
 subst bm
 have Vt:=I d
 have ae:=I (aa r q)
 obtain⟨m,k⟩:=N l.length
 rw[k]
 have Q:=I k
 clear f b d q r j k
 obtain⟨b1,d⟩:=N O.isSome
 obtain⟨b2,f⟩:=N CC.isSome
 rw[d,f]
 have ab:=I d
 have ad:=I f
 obtain⟨ar,b⟩:=N ((!b1||(!b2||(decide ((300:Int)<(n:Int))||decide ((m:Int)=0)))))
 have rz:=I b
 clear d f b
 go_upto_region 3 with fail
 go_cut [40] (λz wx=>z=.bool ar/\w2=wx)
 case first=>
  cases b1 with
  |false=>
   go_wp2;go_meet
   case rel=>exact⟨by rw[<-rz];rfl,rfl⟩
  |true=>
   cases b2 with
   |false=>
    go_wp2;go_meet
    case rel=>exact⟨by rw[<-rz];rfl,rfl⟩
   |true=>
    by_cases S:(300:Int)<(n:Int)
    .have t:=I S;go_wp2;go_meet
     case rel=>exact⟨by rw[<-rz,dk t.o];rfl,rfl⟩
    .have t:=I (eS.1 S);by_cases h4:(m:Int)=0
     .have b:=I h4;have d:((m:Int)==0)=true:=(by rw[h4];rfl);go_wp2;go_meet
      case rel=>exact⟨by rw[<-rz,dk b.o,cX (eS.2 t.o)];rfl,rfl⟩
     .have b:=I h4;have d:((m:Int)==0)=false:=(by simpa using h4);go_wp2;go_meet
      case rel=>exact⟨by rw[<-rz,cX b.o,cX (eS.2 t.o)];rfl,rfl⟩
 case rest=>
  obtain⟨rfl,rfl⟩:=hcut;cases ar with
  |true=>
   have D:dG M now A=(aY now 60,M):=by
    refine R5 (λhl=>?_);have h:=rz.o;rw[uP,HO];cases B:O with
    |none=>exact .inl rfl
    |some d=>
     have R:=af d B;subst R;show Box.dF d=none\/Box.dF d=some [];rw[Pd];cases b:CC with
     |none=>exact .inl rfl
     |some ps=>
      right;have V:b1=true:=(by rw[<-ab,B];rfl);have k:b2=true:=(by rw[<-ad,b];rfl);have j:¬ (300:Int)<(n:Int):=(by have:=Ti.o;omega);rw[V,k,cX j]at h;simp at h;have f:l=[]:=List.length_eq_zero_iff.1 (by have:=Q.o;omega);rw[<-(Vt.o ps b).1,f];rfl
   have Fv:=I D;clear D;go_wp2_with fail;refine(CR _).mono ?_;rintro e w3 ⟨o,rfl,hH,P⟩;have HH:=I (dN hH P);clear hH P;go_wp2;go_ret;exact⟨_,rfl,BM HD Fv ae HH.1 HH.2⟩
  |false=>
   have aj:∃ps,lq A=some ps/\l.map Pc.pair=ps/\n<=300/\l≠[]/\(∀p∈l,p.ins.length<=900)/\∃K,ao=some ⟨K,0,none⟩/\jK w2 K l:=by
    have h:=rz.o;simp at h;obtain⟨h1,h2,S,h4⟩:=h;have B:=cA.1 (by rw[ab];exact h1);have b:=cA.1 (by rw[ad];exact h2);obtain⟨d,B⟩:=B;obtain⟨ps,b⟩:=b;have R:=af d B;subst R;have f:l≠[]:=λe=>by have:=Q.o;rw[e]at this;simp at this;omega
    obtain⟨q1,q2⟩:=Vt ps b;have av:=Ww (HO.o.trans B);refine⟨ps,?_,q1,by omega,f,λp j=>?_,q2 f⟩
    .rw[uP,HO,B];show Box.dF d=some ps;rw[Pd,b]
    .have:=Box.lX (Pd.o.trans b) p.pair (by rw[<-q1];exact eK j);have L:p.ins.length<=d.length:=this;have:=Ti.o;omega
   obtain⟨ps,u,k,Wq,f,j,K,bn,T⟩:=aj;subst bn;have X:=I T;have J:=I u;have d:=I k;have Cq:=I j;have Qs:Hid (A.length<=300):=(by show _<=_;rw[Ti];exact Wq);obtain⟨p,r,b⟩:∃p r,l=p::r:=by cases l with|nil=>exact absurd rfl f|cons p r=>exact⟨p,r,rfl⟩
   have U:=I (uj p w2 (T.2 p (by rw[b];exact List.mem_cons_self ..)).1);have c0:w2.cell? (F K 0)=some (.int .u8 (p.tag.toNat:Int)):=(by have:=T.tag 0 (by rw[b];simp);simpa[b]using this);have V:w2.cell? (F K 1)=some (.slice p.ad p.ins.length p.cap):=(by have:=T.ins 0 (by rw[b];simp);simpa[b]using this);have ba:(0:Int)<(m:Int):=(by have:=Q.o;rw[b]at this;simp at this;omega);have HLR:=I b;obtain⟨nb,q⟩:=N ((bG p.pair).isSome);rw[q]at U;have HNB:=I q;clear u k Wq f j T b q rz Vt ab ad HO Pd af bl;go_wp2_with fail;refine U.mono ?_;rintro e w3 ⟨kv,rfl,u,P⟩;have kS:=I (aa ae P);have vz:=I (X.grown P);have HKV:=I u;have an:Hid (RD w3 a yb M g):=HD.keep (λb f=>kS.block b (HD.o.lt b f).2 Z);have al:Hid (a<=w3.1.size):=cE ai kS.size;clear U c0 V X u P ae;obtain⟨q1,b⟩:=N ((nb&&(decide (kv=10)&&decide ((m:Int)=9))));have P:=I b;clear b;go_upto_region 8 with fail
   go_cut [50] (λz wx=>z=.bool q1/\w3=wx)
   case first=>
    cases nb with
    |false=>
     go_wp2;go_meet
     case rel=>exact⟨by rw[<-P];rfl,rfl⟩
    |true=>
     by_cases L:kv=10
     .have t:=I L;have ag:(kv==10)=true:=(by rw[L];rfl);by_cases T:(m:Int)=9
      .have Nk:=I T;have ah:((m:Int)==9)=true:=(by rw[T];rfl);go_wp2;go_meet
       case rel=>exact⟨by rw[<-P,dk t.o,dk Nk.o];rfl,rfl⟩
      .have Nk:=I T;have ah:((m:Int)==9)=false:=(by simpa using T);go_wp2;go_meet
       case rel=>exact⟨by rw[<-P,dk t.o,cX Nk.o];rfl,rfl⟩
     .have t:=I L;have ag:(kv==10)=false:=(by simpa using L);go_wp2;go_meet
      case rel=>exact⟨by rw[<-P,cX t.o];rfl,rfl⟩
   case rest=>
    obtain⟨rfl,rfl⟩:=hcut;cases q1 with
    |true=>
     have h:=P.o;simp at h;obtain⟨h1,h2,S⟩:=h;have VN:l.length=9:=(by have:=Q.o;omega);have f:bG p.pair=some 10:=by
      exact E7
     obtain⟨p0,U,V,X,p4,p5,p6,p7,b,hl⟩:=RX VN;have ak:p=p0:=Ca;subst ak;have k:m=9:=G;subst k;have C:=I (KL a yb M g now K pc p U V X p4 p5 p6 p7 b w3 an bb al (by rw[<-hl];exact vz) (by rw[<-hl];exact Cq) f dB bf ay au);have D:dG M now A=dA M now (nR M now ([p,U,V,X,p4,p5,p6,p7,b].map Pc.pair)):=by
      rw[<-hl,d];exact VZ Qs J (by rw[<-d,hl];exact⟨_,_,rfl,f⟩)
     have Fv:=I D;obtain⟨RR,j⟩:=N (nR M now ([p,U,V,X,p4,p5,p6,p7,b].map Pc.pair));have O6:Hid (b9 (mS M RR)):=Tx (λc hc=>WC (j.trans hc));rw[j]at C Fv;clear h1 h2 S VN f hl D P J d Cq HLR HKV vz HNB Q j ba;go_wp2_with fail;refine C.mono ?_;rintro e w4 ⟨o,c,rfl,hS⟩;have HMd:=I (V3 (now:=now) hS);exact J0
    |false=>
     obtain⟨q2,bc⟩:=N ((nb&&(decide (kv=12)&&decide ((m:Int)=8))));have b:=I bc;clear bc;go_upto_region 10 with fail
     go_cut [68] (λz wx=>z=.bool q2/\w3=wx)
     case first=>
      cases nb with
      |false=>
       go_wp2;go_meet
       case rel=>exact⟨by rw[<-b];rfl,rfl⟩
      |true=>
       by_cases L:kv=12
       .have t:=I L;have ag:(kv==12)=true:=(by rw[L];rfl);by_cases T:(m:Int)=8
        .have Nk:=I T;have ah:((m:Int)==8)=true:=(by rw[T];rfl);go_wp2;go_meet
         case rel=>exact⟨by rw[<-b,dk t.o,dk Nk.o];rfl,rfl⟩
        .have Nk:=I T;have ah:((m:Int)==8)=false:=(by simpa using T);go_wp2;go_meet
         case rel=>exact⟨by rw[<-b,dk t.o,cX Nk.o];rfl,rfl⟩
       .have t:=I L;have ag:(kv==12)=false:=(by simpa using L);go_wp2;go_meet
        case rel=>exact⟨by rw[<-b,cX t.o];rfl,rfl⟩
     case rest=>
      obtain⟨rfl,rfl⟩:=hcut;cases q2 with
      |true=>
       have h:=b.o;simp at h;obtain⟨h1,h2,S⟩:=h;have VN:l.length=8:=(by have:=Q.o;omega);have f:bG p.pair=some 12:=by
        exact E7
       obtain⟨p0,U,V,X,p4,p5,p6,p7,hl⟩:=RY VN;have ak:p=p0:=Ca;subst ak;have k:m=8:=G;subst k;have C:=I (Oq a yb M g now K pc p U V X p4 p5 p6 p7 w3 an bb al (by rw[<-hl];exact vz) (by rw[<-hl];exact Cq) f dB bf ay au bo Ai);have D:dG M now A=dA (nU M now ([p,U,V,X,p4,p5,p6,p7].map Pc.pair)).2 now (nU M now ([p,U,V,X,p4,p5,p6,p7].map Pc.pair)).1:=by
        rw[<-hl,d];exact T8 Qs J (by rw[<-d,hl];exact⟨_,_,rfl,f⟩)
       have Fv:=I D;obtain⟨RR,j⟩:=N (nU M now ([p,U,V,X,p4,p5,p6,p7].map Pc.pair));have O6:Hid (b9 (mS RR.2 RR.1)):=Tx (λc hc=>R1 (M:=M) (now:=now) (ps:=[p,U,V,X,p4,p5,p6,p7].map Pc.pair) (by rw[j];exact hc));rw[j]at C Fv;clear h1 h2 S VN f hl D P b J d Cq HLR HKV vz HNB Q j ba;go_wp2_with fail;refine C.mono ?_;rintro e w4 ⟨o,c,rfl,hS⟩;have HMd:=I (Xs (now:=now) hS);exact J0
      |false=>
       have D:dG M now A=(aY now 60,M):=by
        have h1:=P.o;have h2:=b.o;refine XA Qs J (λf h e=>?_) (λf h e=>?_)
        .rintro⟨R,f⟩;rw[<-d,HLR]at e;injection e with e3 e4;subst e3;have q:nb=true:=(by rw[<-HNB,R];rfl);have u:=HKV.2 10 R;have k:(m:Int)=9:=(by have:=Q.o;rw[<-d,cR]at f;omega);rw[q,u,k]at h1;revert h1;decide
        .rintro⟨R,f⟩;rw[<-d,HLR]at e;injection e with e3 e4;subst e3;have q:nb=true:=(by rw[<-HNB,R];rfl);have u:=HKV.2 12 R;have k:(m:Int)=8:=(by have:=Q.o;rw[<-d,cR]at f;omega);rw[q,u,k]at h2;revert h2;decide
       have Fv:=I D;clear D P b;go_wp2_with fail;refine(CR _).mono ?_;rintro e w4 ⟨o,rfl,hH,f⟩;have HH:=I (dN hH f);clear hH f;go_wp2;go_ret;exact⟨_,rfl,BM HD Fv kS HH.1 HH.2⟩
