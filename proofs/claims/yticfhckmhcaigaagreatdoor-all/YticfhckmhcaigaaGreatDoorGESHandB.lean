import Derived.Test.YticfhckmhcaigaaGreatDoorGERNxoB
import Derived.Test.YticfhckmhcaigaaGreatDoorGERFstB
namespace Go.Proofs.YticfhckmhcaigaaGreatDoor
set_option maxHeartbeats 8000000
open Proofs.Tryz Go.RowKit
set_option maxRecDepth 100000
set_option linter.unusedSimpArgs false
theorem Tryz.Yb:(prog.info? 170).map (·.size)=some 3:=by kernel_rfl
theorem Yc{w:World}{b:Nat}{x y z:Value}(h:w.rangeAt b 0 [x,y,z]):(loadVar 170 ⟨b,0,none⟩).run prog w=.ok (.agg #[x,y,z]) w:=eO h 170 _ underlying170 rfl Tryz.Yb
theorem MP{e:Func}{a:Tmp}{f:TypeId}(h:e.results=#[.cell a f])(d)(P)(w)(b)(hp:d.getD a undef = N b 0)(x)(hl:(loadVar f ⟨b,0,none⟩).run P w=.ok x w):
  (results e d).run P w=.ok x w:=by
 have hp':d[a]?.getD undef = N b 0:=rI
 exact rL
def Yd(w w':World)(e:Ending):Prop:=∃(o:Value) (z:E) (s:UInt64) (c:E),e=.returned (.agg #[o,O (s.toNat:Int),.string ⟨c.toArray⟩])/\gQ w' o z/\z.length<=30000000/\c.length<=1048576/\w.grownBy w' none
structure HB(w V:World)(base yb:Nat)(M:DM)(g:RG)(a:qH):Prop where
 d:RD V base yb M g
 c:V.rangeAt w.1.size 0 a.cells
 r:b9 V (w.1.size+1) 3
 g:w.grownBy V none
theorem HB.grown{w V e:World}{d f:Nat}{M:DM}{g:RG}{a:qH}(h:HB w V d f M g a)(k:V.grownBy e none):HB w e d f M g a:=
 ⟨h.d.keep (λb i=>k.block b (h.d.lt b i).2 Z),aA h.c k,h.r.grown k,aa h.g k⟩
theorem Ye(base u)(M)(g)(a:qH)(w)(f:RD w base u M g)(ae:gy 4611686018427387904 M.aC)(q:a.Ok):Calls prog 59 #[N u 0,.agg a.arr] w λe b=>Yd w b e:=by
 obtain⟨ib,C,Qr,Qs,ah⟩:=info_parts Tryz.Cn
 have d:Hid (HB w ((w.alloc (.cells a.arr 45)).alloc (.cells #[σ,O 0,ε] 170)) base u M g a):=by
  have k:=aM (cy w (.cells a.arr 45) none) (.cells #[σ,O 0,ε] 170);refine⟨f.keep (λb U=>k.block b (f.lt b U).2 Z),aA (aS w a.arr _) (cy _ _ _),?_,k⟩;grind [b9.new,cG]
 rw[qH.pK]at d⊢
 clear f
 go_in
 go_upto_region 1 with fail
 refine kR (λV=>HB w V base u M g a) d.o ?_
 clear d
 intro W hW
 have f:=I hW
 clear hW
 have j:=I (λW (hW:RD W base u M g)=>Ho base u M g [116,103,115] W hW ae)
 go_wp2_with fail
 refine(j.o _ f.o.d).mono ?_
 rintro e i ⟨ag,kn,rfl,aj,ak,A⟩
 have d:=I (f.o.grown A)
 clear f A j
 have j:i.c w.1.size 11=some (ι a.hand.ae):=d.o.c 11 _ rfl
 have k:i.c w.1.size 12=some (O (a.hand.aO.toNat:Int)):=d.o.c 12 _ rfl
 have m:i.c w.1.size 13=some (.string ⟨a.hand.az.toArray⟩):=d.o.c 13 _ rfl
 have n:i.c w.1.size 14=some (ι a.hand.dY):=d.o.c 14 _ rfl
 have p:i.c w.1.size 15=some (ι a.hand.start):=d.o.c 15 _ rfl
 have r:i.c w.1.size 16=some (ι a.hand.fin):=d.o.c 16 _ rfl
 have t:i.c w.1.size 17=some (ι a.hand.aD):=d.o.c 17 _ rfl
 go_upto_region 3 with fail
 refine kR (λV=>HB w V base u M g a/\V.rangeAt i.1.size 0 a.hand.cells) ⟨d.o.grown (cy i _ none),aS i a.hand.cells.toArray _⟩ ?_
 obtain⟨l,f⟩:=aq i.1.size
 rw[f]
 clear f d j k m n p r t
 rintro V ⟨f,d⟩
 have y:=I f
 have k:=I d
 clear f d
 as_aux_lemma=>
  refine aF.start (S:=λX=>V.grownBy X none) 24 f' ?_;have eu:Hid (V.grownBy V.drew none):=bg (cC _ _);have HA:=I (lF.nil V.drew 1100000);refine aF.tk 0 [0] ?_;refine aF.tk 1 [1] ?_ (hy:=by intro W hW;have m:W.c l 0=some (ι a.hand.ae):=(aA k.o hW) 0 _ rfl;exact kV);refine aF.tk 3 [3] ?_;refine aF.tk 4 [4] ?_ (hy:=by intro W hW;have m:W.c l 1=some (O (a.hand.aO.toNat:Int)):=(aA k.o hW) 1 _ rfl;exact kV);refine aF.tk 7 [7] ?_;refine aF.tk 8 [8] ?_ (hy:=by intro W hW;have m:W.c l 2=some (.string ⟨a.hand.az.toArray⟩):=(aA k.o hW) 2 _ rfl;exact kV);refine aF.tk 10 [10] ?_;refine aF.tk 11 [11] ?_ (hy:=by intro W hW;have m:W.c l 3=some (ι a.hand.dY):=(aA k.o hW) 3 _ rfl;exact kV);refine aF.tk 13 [13] ?_;refine aF.tk 14 [14] ?_ (hy:=by intro W hW;have m:W.c l 4=some (ι a.hand.start):=(aA k.o hW) 4 _ rfl;exact kV);refine aF.tk 16 [16] ?_;refine aF.tk 17 [17] ?_ (hy:=by intro W hW;have m:W.c l 5=some (ι a.hand.fin):=(aA k.o hW) 5 _ rfl;exact kV);refine aF.tk 19 [19] ?_;refine aF.tk 20 [20] ?_ (hy:=by intro W hW;have m:W.c l 6=some (ι a.hand.aD):=(aA k.o hW) 6 _ rfl;exact kV);refine aF.on 2 ?_;refine pA (bS a.hand.ae _ q.hand.ae) trivial ?_;clear HA eu;intro V5 a5 c5 HA eu;refine aF.on 5 ?_;intro K hK;refine Calls.mono (acn _ _) ?_;rintro e V5 ⟨o5,rfl,q5,g5⟩;obtain⟨a5,c5,rfl⟩:=q5.shape;have d:=I q5;have vM:=I (HA.o.grown g5);have VA:=I (aa eu.o g5);clear HA eu q5 g5;have HA:=vM;have eu:=VA;clear vM VA;go_wp2_with fail;refine qF ?_;clear hK K;refine aF.on 6 ?_;refine pA (mo _ _ _ d.o zb) trivial ?_;clear HA eu d;intro V5 a6 c6 HA eu;refine aF.on 9 ?_;refine pA (kY a.hand.az _ (by grind [qH.Ok.zP])) q.zP ?_;clear HA eu;intro V5 a5 c5 HA eu;refine aF.on 12 ?_;refine pA (bS a.hand.dY _ q.hand.dY) trivial ?_;clear HA eu;intro V5 a5 c5 HA eu;refine aF.on 15 ?_;refine pA (bS a.hand.start _ q.hand.start) trivial ?_;clear HA eu;intro V5 a5 c5 HA eu;refine aF.on 18 ?_;refine pA (bS a.hand.fin _ q.hand.fin) trivial ?_;clear HA eu;intro V5 a5 c5 HA eu;refine aF.on 21 ?_;refine pA (bS a.hand.aD _ q.hand.aD) trivial ?_;clear HA eu;intro V5 a5 c5 HA eu;refine aF.on0 22 ?_;intro K hK;refine HA.o.bsl 175 7 _ rfl 37 ib _ underlying175 C Qs Qr rfl rfl H H ?_;refine mA (aM eu.o _) ?_;clear hK K;refine aF.on 23 ?_;intro K hK;refine Calls.mono (HA.o.list _ 7 rfl Z H H) ?_;rintro e V6 ⟨o6,rfl,f,p,B⟩;obtain⟨v,j,d⟩:∃z:E,gQ V6 o6 z/\z.length<=7*1100000+4:=⟨_,f,p⟩
  clear f p;have f:=j;have p:=d;clear j d;obtain⟨pa,pc,t⟩:=f.shape;subst t;obtain⟨pn,d⟩:=aq v.length;rw[d]at f⊢;have j:=I (cZ f (cZ p (aa eu.o B)));clear f p B d;go_wp2_with fail;refine mA j.o.2.2 ?_;clear hK K;refine aF.on 24 ?_;intro K hK;refine gN ?_;clear hK K;refine aF.Hd (λX=>V.grownBy X none/\gQ X (.slice pa pn pc) v) f' ⟨j.o.2.2,j.o.1⟩ ?_;have XY:Hid (v.length<=7700004):=cE j.o.2.1 H;clear j eu HA;rintro X ⟨hX,n⟩;have L:=I hX;have HP:=I n;clear hX n;obtain⟨k1,ab⟩:=sS a.yB;obtain⟨k2,ad⟩:=sS ((ag.toNat:Int)+(k1.toNat:Int));have T:X.c w.1.size 19=some (ι a.yB):=(aA y.o.c L.o) 19 _ rfl;have n:=I (λW (hW:gQ W (.slice pa pn pc) v)=>Cm k2 2 5 2 v (.slice pa pn pc) W H H rfl kO hW);go_wp2_with fail;refine(n.o _ HP.o).mono ?_;rintro e Q ⟨o1,rfl,J,A⟩;obtain⟨sa,sc,af⟩:=J.shape;subst af;obtain⟨P,x⟩:=aw (Pure.eB k2 2 5 v);have r:P.length<=7700020:=by grind [Hid.o,Pure.bR]
  rw[<-x]at J⊢;obtain⟨sn,D⟩:=aq P.length;rw[D]at J⊢;have sZ:=I (aa L.o A);have Gb:=I J;have R:=I r;clear A J L HP n T x r D ab ad;as_aux_lemma=>
   obtain⟨nn,al,L⟩:∃n:Int,IntKind.i64.wrap (kn+a.pO)=n/\bT n:=⟨_,rfl,by rw[IntKind.wrap_i64];unfold bT;omega⟩
   go_wp2_with fail;refine aF.start (S:=λY=>V.grownBy Y none) 15 f' ?_;have eu:Hid (V.grownBy Q.drew none):=bg sZ.o;have HA:=I (lF.nil Q.drew 8000000);have HZ:=I (Gb.o.grown (bg (cC Q none)));clear Gb;refine aF.tk 1 [1] ?_;refine aF.tk 2 [2] ?_;refine aF.tk 3 [3] ?_ (hy:=by intro W hW;have m:W.c w.1.size 18=some (ι a.pO):=(aA y.o.c hW) 18 _ rfl;exact kV);refine aF.tk 4 [4] ?_;refine aF.tk 6 [6] ?_;refine aF.tk 10 [10] ?_;refine aF.tk 11 [11] ?_ (hy:=by intro W hW;have m:W.c l 1=some (O (a.hand.aO.toNat:Int)):=(aA k.o hW) 1 _ rfl;exact kV);refine aF.tk 12 [12] ?_;refine aF.tk 13 [13] ?_ (hy:=by intro W hW;have m:W.c l 2=some (.string ⟨a.hand.az.toArray⟩):=(aA k.o hW) 2 _ rfl;exact kV);refine aF.on 0 ?_;refine oN (kY [116,103,115] _ H) trivial ?_;clear HA eu HZ;intro V5 a5 c5 HA eu HZ;refine aF.on 5 ?_;refine oN (bS nn _ L) trivial ?_;clear HA eu HZ;intro V5 a5 c5 HA eu HZ;refine aF.on 7 ?_;refine oN (mo P _ _ HZ.o kO) R.o ?_;clear HA eu HZ;intro V5 a5 c5 HA eu HZ;refine aF.on0 8 ?_;intro K hK;refine HA.o.bsl 175 3 _ rfl 37 ib _ underlying175 C Qs Qr rfl rfl H H ?_;refine mA (aM eu.o _) ?_;clear hK K;refine aF.on 9 ?_;intro K hK;have D:=I y.o.r.lt;have J:=I eu.o.size;refine Calls.mono (HA.o.ab7 _ 3 rfl Z H H) ?_;rintro e V6 ⟨o6,BX,rfl,f,_,p,B⟩;obtain⟨an,ao,t⟩:=bA f;subst t;obtain⟨ar,d⟩:=aq BX.length;rw[d]at f⊢;have T:=I d;have Y6:=I (dw f J.o);have j:=I (cZ p (aa eu.o B));have x:=I (y.o.r.grown j.o.2);clear f p B d;go_wp2_with fail;refine mA j.o.2 ?_;clear hK K;have r:=I j.o.2;clear eu;have eu:=r;clear r;refine aF.tk 14 [14] ?_;obtain⟨⟨d0,j0⟩,⟨d1,j1⟩,⟨d2,j2⟩,l0,l1,l2⟩:=Kr x.o;refine aF.on 15 ?_;intro K hK;refine gN ?_;clear hK K;refine aF.done f' ?_;go_wp2;refine bodyPost_ret (MP results59 _ _ _ (w.1.size+1) rfl _ (Yc (fH x.o _ _ _))) rfl ?_;refine⟨_,BX,a.hand.aO,a.hand.az,rfl,gQ.own (e:=5) (base:=V.1.size) ?_,kO,q.zP,?_⟩
   .have h0:=D.o;rw[T.o];refine dh Y6.o (λb U=>?_);have ai:=(Y6.o.lt b U).1;have r:b≠w.1.size+1:=G;rw[Below.heap_setCell _ _ _ b r,Below.heap_setCell _ _ _ b r,Below.heap_setCell _ _ _ b r]
   .exact aB (aB (aB (aa y.o.g j.o.2) (ep _ 1)) (ep _ 1)) (ep _ 1)
theorem zd{p:Prop}(h:p:=by have:=(HV.s.grown hW).cell;rw[HSv]at this;exact this):p:=h
variable {sb so:Nat}{sv:Value}{w:World}
theorem Tryz.yE:(prog.info? 45).map (·.size)=some 25:=by kernel_rfl
theorem acp{a:Nat}{e:TypeId}{g n c:Nat}{k:List Value}(h:w.ownsRow a e 1 (ς g 0 n c) n k):b9 w g n:=by
 rcases h.2 with⟨f,_⟩|⟨m,l,b,f,_,i,j,_,d,_⟩
 .cases f
 .injection f with e1 e2 e3;injection e1 with e1;injection e1 with e1;subst e1;exact⟨b,_,i,by rw[d];omega⟩
structure KN where
 box:Value
 z:E
 s:UInt64
 c:E
def KN.cells(k:KN):List Value:=[k.box,O (k.s.toNat:Int),.string ⟨k.c.toArray⟩]
def oD(l:List KN):List Value:=(l.map KN.cells).flatten
theorem xI(l):∀(k j)(hk:k<l.length),j<3->(oD l)[k*3+j]?=(l[k]).cells[j]?:=by
 induction l with
 |nil=>intro k j hk;simp at hk
 |cons a l d=>
  intro k j hk b;cases k with
  |zero=>
   show(a.cells++oD l)[0*3+j]?=_;rw[cX (by simp[KN.cells];omega)];simp
  |succ k=>
   show(a.cells++oD l)[(k+1)*3+j]?=_;rw[dr (by simp[KN.cells];omega)];have h:=d k j sG b;rw[show(k+1)*3+j-a.cells.length=k*3+j from by simp[KN.cells];omega];exact h
structure SaidAt(w:World)(base sb so:Nat)(sv:Value)(kl:List KN):Prop where
 cell:w.cell? (F sb so)=some sv
 row:w.ownsRow base 170 3 sv kl.length (oD kl)
 own:∀k∈kl,w.ownsRow base 5 1 k.box k.z.length (k.z.map U8)/\k.z.length<=1000/\k.c.length<=1048576
theorem SaidAt.has{a:Nat}{d:List KN}(h:SaidAt w a sb so sv d):∀k∈d,gQ w k.box k.z/\k.z.length<=1000/\k.c.length<=1048576:=λk b=>⟨gQ.own (h.own k b).1,(h.own k b).2⟩
theorem SaidAt.grown{e:World}{a:Nat}{d:List KN}(h:SaidAt w a sb so sv d)(k:w.grownBy e none):SaidAt e a sb so sv d:=
 ⟨k.cell h.cell Z,h.row.kept k (fm _),λx b=>⟨(h.own x b).1.kept k (fm _),(h.own x b).2⟩⟩
def KW(W V:World)(bk:Nat):Prop:=∃(o:Value) (z:E) (s:UInt64) (c:E),V.rangeAt bk 0 [o,O (s.toNat:Int),.string ⟨c.toArray⟩]/\gQ V o z/\z.length<=30000000/\c.length<=1048576/\b9 V bk 3/\W.grownBy V none
structure RB(w V:World)(base yb:Nat)(M:DM)(g:RG)(a:qH)(sb so:Nat)(sv:Value)(kl:List KN):Prop where
 d:RD V base yb M g
 c:V.rangeAt w.1.size 0 a.cells
 s:SaidAt V base sb so sv kl
 g:w.grownBy V none
theorem RB.grown{V e:World}{d i:Nat}{M:DM}{g:RG}{a:qH}{f:List KN}(h:RB w V d i M g a sb so sv f)(k:V.grownBy e none):RB w e d i M g a sb so sv f:=
 ⟨h.d.keep (λb j=>k.block b (h.d.lt b j).2 Z),aA h.c k,h.s.grown k,aa h.g k⟩
theorem RB.new{d h:Nat}{M:DM}{g:RG}{f:List KN}(a)(t)(e:RD w d h M g)(i:SaidAt w d sb so sv f):RB w (w.alloc (.cells a.arr t)) d h M g a sb so sv f:=by
 have k:=cy w (.cells a.arr t) none;exact⟨e.keep (λb j=>k.block b (e.lt b j).2 Z),aS w a.arr t,i.grown k,k⟩
theorem Bi(d C)(M)(g)(a:qH)(ak:E)(sb so)(sv)(A)(w)(b:RD w d C M g)(bp:gy 4611686018427387904 M.aC)(v:a.Ok)(bq:ak.length<=1048576)(f:SaidAt w d sb so sv A):Calls prog 31 #[N sb so,N C 0,.string ⟨ak.toArray⟩,.agg a.arr] w λe i=>∃r:E,e=.returned (.string ⟨r.toArray⟩)/\r.length<=300000000/\w.grownBy i none:=by
 obtain⟨ib,bn,Qr,Qs,fa⟩:=info_parts Tryz.Cn
 have HL:=I (RB.new a 45 b f)
 have CF:=I (λW (hW:RD W d C M g)=>Ur d C M g a W hW bp v)
 have CH:=I (λW (hW:RD W d C M g)=>Ye d C M g a W hW bp v)
 clear b f
 have fx:=v.kind
 go_in
 go_upto_region 2 with fail
 refine kR (λV=>RB w V d C M g a sb so sv A) HL.o ?_
 clear HL
 intro W hW
 have Q:=I hW
 have c0:W.c w.1.size 0=some (ι a.kind):=hW.c 0 _ rfl
 clear hW
 go_upto_block 0 with fail
 go_cut [9] (λb wx=>∃z:E,wx.ownsRow W.1.size 5 1 b z.length (z.map U8)/\0<z.length/\z.length<=300000000/\RB w wx d C M g a sb so sv A)
 case first=>
  by_cases D:a.kind=1
  .have dc:(a.kind==1)=true:=(by rw[D];rfl);clear D;go_wp2_with (first|(refine wpList_load_mid rfl 45 _ rfl w.1.size 0 rfl a.cells _ Q.o.c underlying45 rfl Tryz.yE ?_)|fail)
   refine(CF.o _ Q.o.d).mono ?_;rintro e W1 ⟨o,z,rfl,b,p,i,R⟩;have U:=I (cZ b (cZ p (cZ i R)));clear b p i R;go_wp2;go_meet
   case rel=>exact⟨z,U.o.1,U.o.2.1,cE U.o.2.2.1 H,Q.o.grown U.o.2.2.2⟩
  .have dc:(a.kind==1)=false:=(by simpa using D);by_cases T:a.kind=2
   .have dd:(a.kind==2)=true:=(by rw[T];rfl);clear T D;as_aux_lemma=>
     go_wp2_with (first|(refine wpList_load_mid rfl 45 _ rfl w.1.size 0 rfl a.cells _ Q.o.c underlying45 rfl Tryz.yE ?_)|fail)
     refine(CH.o _ Q.o.d).mono ?_;rintro e W1 ⟨o,z,ks,kc,rfl,hH,i,n,R⟩;obtain⟨oa,oc,dn⟩:=hH.shape;subst dn;obtain⟨L,B⟩:=aq z.length;rw[B]at hH⊢;go_upto_region 8 with fail
     refine kR (λV=>RB w V d C M g a sb so sv A/\KW W V W1.1.size) ⟨Q.o.grown (aa R (cy W1 _ none)),.slice oa L oc,z,ks,kc,aS W1 #[.slice oa L oc,O (ks.toNat:Int),.string ⟨kc.toArray⟩] _,hH.grown (cy W1 _ none),cE i H,n,b9.new W1 #[.slice oa L oc,O (ks.toNat:Int),.string ⟨kc.toArray⟩] _,aa R (cy W1 _ none)⟩ ?_;have LK:=I R.size;obtain⟨bk,f⟩:=aq W1.1.size;rw[f]at LK⊢;clear f B hH i n R c0;rintro V ⟨hV,hK⟩;have HV:=I hV;have HK:=I hK;clear hV hK;obtain⟨m,l⟩:=aq A.length;obtain⟨sa,sc,f⟩:=bA HV.o.s.row;rw[l]at f;have y0:V.cell? (F sb so)=some (.slice sa m sc):=(by have:=HV.o.s.cell;rw[f]at this;exact this);have bf:V.c w.1.size 10=some (ι a.ticket):=HV.o.c 10 _ rfl;have dt:=v.ticket;have HM:=I l;have HSv:=I f;clear l f;obtain⟨tb,f⟩:=aq ((decide (0<a.ticket)&&decide ((0:Int)<(m:Int))));have Y7:=I f;clear f;go_cut [38] (λx wx=>x=.bool tb/\V=wx)
     case first=>
      by_cases l:0<a.ticket
      .have HL:=I l;by_cases ae:(0:Int)<(m:Int)
       .have f:=I ae;go_wp2;go_meet
        case rel=>exact⟨by rw[<-Y7.o,ee HL.o,ee f.o];congr 1;have:=f.o;simp;omega,rfl⟩
       .have f:=I (fh.1 ae);go_wp2;go_meet
        case rel=>exact⟨by rw[<-Y7.o,ee HL.o,cY (fh.2 f.o)];congr 1;have:=f.o;simp;omega,rfl⟩
      .have HL:=I (fh.1 l);go_wp2;go_meet
       case rel=>exact⟨by rw[<-Y7.o,cY (fh.2 HL.o)];rfl,rfl⟩
     case rest=>
      obtain⟨rfl,rfl⟩:=hcut;go_upto_if 38 with fail
      go_cut [] (λwx=>RB w wx d C M g a sb so sv A/\KW W wx bk)
      case first=>
       cases tb with
       |false=>
        go_wp2;go_meet
        case rel=>exact⟨HV.o,HK.o⟩
       |true=>
        have yo:0<a.ticket/\0<m:=by
         have h:=Y7.o;simp at h;exact h
        obtain⟨gl,ae⟩:=yo;obtain⟨gk,ck,az,r,fv⟩:=jR HV.o.s.row (by rw[HM.o];exact ae);have dq:sa=some ⟨gk,0,none⟩:=by
         have e:=HSv.o.symm.trans az;injection e
        subst dq;have gd:m<=9223372036854775807:=by
         rcases HV.o.s.row.2 with⟨_,h0⟩|⟨_,f,_,_,_,_,D,T,_⟩
         .rw[HM.o]at h0;omega
         .rw[HM.o]at D;unfold maxLen at T;omega
        obtain⟨tm,yo,fb,fc⟩:∃t:Int,(a.ticket-1).tmod (m:Int)=t/\0<=t/\t<(m:Int):=by
         refine⟨_,rfl,?_,?_⟩
         .exact Int.tmod_nonneg _ G
         .rw[ft G];exact Int.emod_lt_of_pos _ G
        obtain⟨f,ad,cn⟩:∃k:Nat,(m:Int)-1-tm=(k:Int)/\k<m:=⟨((m:Int)-1-tm).toNat,by omega,by omega⟩
        have fz:(0:Int)<(m:Int):=G;have gg:¬ m=0:=G;have gw:IntKind.i64.wrap (a.ticket-1)=a.ticket-1:=(by rw[IntKind.wrap_i64];have:=dt.2;omega);have ga:(m:Int)<=9223372036854775807:=G;have cr:(f:Int)<(m:Int):=G;have cu:(0:Int)<=(f:Int):=G;have gm:IntKind.i64.wrap ((m:Int)-1)=(m:Int)-1:=pB;have gp:IntKind.i64.wrap ((m:Int)-1-tm)=(f:Int):=pB;have gq:IntKind.i64.wrap (f:Int)=(f:Int):=pB;have y:f<A.length:=(by rw[HM.o];exact cn);obtain⟨q,mA⟩:=aq (A[f]'y);have cc:Hid (q∈A):=(by show _∈_;rw[<-mA];exact eh y);have af:Hid (gQ V q.box q.z/\q.z.length<=1000/\q.c.length<=1048576):=HV.o.s.has q (by rw[<-mA];exact eh y);obtain⟨xa,xc,l⟩:=af.o.1.shape;obtain⟨xn,J⟩:=aq q.z.length;rw[J]at l;have xH:Hid (∀X,V.grownBy X none->X.cell? (F gk (f*3))=some (.slice xa xn xc)/\X.cell? (F gk (f*3+1))=some (O (q.s.toNat:Int))/\X.cell? (F gk (f*3+2))=some (.string ⟨q.c.toArray⟩)):=by
         intro X hX;have hr:=aA r hX;have h0:=xI A f 0 y H;have D:=xI A f 1 y H;have T:=xI A f 2 y H;rw[mA]at h0 D T;have r0:=hr (f*3+0) _ h0;have r1:=hr (f*3+1) _ D;have r2:=hr (f*3+2) _ T;rw[cR]at r0 r1 r2;rw[<-l];exact⟨r0,r1,r2⟩
        have cj:=I l;have ev:=I J;clear r mA l J az Y7;go_wp2_with fail;refine aF.start (S:=λX=>V.grownBy X none) 22 f' ?_;have eu:Hid (V.grownBy V.drew none):=bg (cC _ _);clear y0 bf;refine aF.tk 0 [0] ?_;refine aF.tk 1 [1] ?_;refine aF.tk 2 [2] ?_;refine aF.tk 3 [3] ?_ (hy:=by intro W hW;have l:=zd;exact kV);refine aF.tk 4 [4] ?_;refine aF.tk 5 [5] ?_;refine aF.tk 6 [6] ?_;refine aF.tk 7 [7] ?_ (hy:=by intro W hW;have l:=zd;exact kV);refine aF.tk 8 [8] ?_;refine aF.tk 9 [9] ?_;refine aF.tk 10 [10] ?_;refine aF.tk 11 [11] ?_ (hy:=by intro W hW;have l:W.c w.1.size 10=some (ι a.ticket):=(aA HV.o.c hW) 10 _ rfl;exact kV);refine aF.tk 12 [12] ?_;refine aF.tk 13 [13] ?_;refine aF.tk 14 [14] ?_;refine aF.tk 15 [15] ?_;refine aF.tk 16 [16] ?_ (hy:=by intro W hW;have l:=zd;exact kV);refine aF.tk 17 [17] ?_;refine aF.tk 18 [18] ?_;refine aF.tk 19 [19] ?_;refine aF.tk 20 [20] ?_;refine aF.tk 21 [21] ?_ (hy:=by intro W hW;obtain⟨l,e2,e3⟩:=xH.o W hW;exact kV);obtain⟨_,_,_,_,_,_,_,_,J,_⟩:=HK.o;obtain⟨⟨d0,j0⟩,⟨d1,j1⟩,⟨d2,j2⟩,l0,l1,l2⟩:=Kr J;clear J;refine aF.on 22 ?_;intro K hK;refine gN ?_;clear hK K;refine aF.done f' ?_;go_wp2_with fail;go_meet
        case rel=>
         obtain⟨_,_,_,_,_,_,_,_,J,ab⟩:=HK.o;have ah:=LK.o;have GS:=aB (j:=2) (u:=.string ⟨q.c.toArray⟩) (aB (j:=1) (u:=O (q.s.toNat:Int)) (aB (j:=0) (u:=.slice xa xn xc) (bg ab) ah) ah) ah;have bl:=Q.o.grown GS;refine⟨bl,.slice xa xn xc,q.z,q.s,q.c,fH (J.grown (bg (cC V none))) _ _ _,?_,cE af.o.2.1 H,af.o.2.2,dL (dL (dL (J.grown (bg (cC V none))) _) _) _,GS⟩;have h9:=(bl.s.has q cc.o).1;rw[cj.o]at h9;exact h9
      case rest=>
       obtain⟨t,q⟩:=hcut;refine MN (λV=>RB w V d C M g a sb so sv A/\KW W V bk) ⟨t,q⟩ ?_;clear HV HK y0 bf HM HSv Y7 t q;rintro V ⟨hV,hK⟩;have HV:=I hV;obtain⟨ko,kz,bu,bt,hr,hH,i,n,_,ab⟩:=hK;have bz:=I ab;have au:=I hr;have ca:=I hH;have cd:=I i;have cb:=I n;obtain⟨ka,gx,bo⟩:=hH.shape;obtain⟨kn,q⟩:=aq kz.length;rw[q]at bo;subst bo;have cv:V.c w.1.size 20=some (.string ⟨a.kJ.toArray⟩):=hV.c 20 _ rfl;have k2:V.c bk 2=some (.string ⟨bt.toArray⟩):=hr 2 _ rfl;have et:=I q;clear hV hr hH i n ab q;go_upto_if 64 with fail
       obtain⟨eb,q⟩:=aq a.kJ.isEmpty;rw[q];clear q;go_cut [11] (λx wx=>∃c:E,x=.string ⟨c.toArray⟩/\c.length<=1048576/\V=wx)
       case first=>
        cases eb with
        |true=>
         go_wp2;go_meet
         case rel=>exact⟨bt,rfl,cb.o,rfl⟩
        |false=>
         go_wp2;go_meet
         case rel=>exact⟨a.kJ,rfl,v.kJ,rfl⟩
       case rest=>
        obtain⟨c,rfl,n,rfl⟩:=hcut;have I4:=I n;clear n cv k2;go_wp2_with fail;refine aF.start (S:=λX=>V.grownBy X none) 10 f' ?_;have eu:Hid (V.grownBy V.drew none):=bg (cC _ _);have HA:=I (lF.nil V.drew 1100000);refine aF.tk 0 [0] ?_;refine aF.tk 2 [2] ?_;refine aF.tk 3 [3] ?_ (hy:=by intro W hW;have l:W.c w.1.size 21=some (ι a.pQ):=(aA HV.o.c hW) 21 _ rfl;exact kV);refine aF.tk 5 [5] ?_;refine aF.tk 6 [6] ?_ (hy:=by intro W hW;have l:W.c w.1.size 22=some (ι a.kP):=(aA HV.o.c hW) 22 _ rfl;exact kV);refine aF.on 1 ?_;refine pA (kY c _ (cE I4.o H)) I4.o ?_;clear HA eu;intro V5 a5 c5 HA eu;refine aF.on 4 ?_;refine pA (bS a.pQ _ v.pQ) trivial ?_;clear HA eu;intro V5 a5 c5 HA eu;refine aF.on 7 ?_;refine pA (bS a.kP _ v.kP) trivial ?_;clear HA eu;intro V5 a5 c5 HA eu;refine aF.on0 8 ?_;intro K hK;refine HA.o.bsl 175 3 _ rfl 37 ib _ underlying175 bn Qs Qr rfl rfl H H ?_;refine mA (aM eu.o _) ?_;clear hK K;refine aF.on 9 ?_;intro K hK;refine Calls.mono (HA.o.list _ 3 rfl Z H H) ?_;rintro e V6 ⟨o6,rfl,t,y,g6⟩;obtain⟨PL,J,q⟩:∃z:E,gQ V6 o6 z/\z.length<=3*1100000+4:=⟨_,t,y⟩
        clear t y;have t:=J;have y:=q;clear J q;obtain⟨pa,pc,dp⟩:=t.shape;subst dp;obtain⟨pn,J⟩:=aq PL.length;rw[J]at t⊢;have q:=I (cZ t (cZ y (aa eu.o g6)));clear t y g6 J;go_wp2_with fail;refine mA q.o.2.2 ?_;clear hK K;refine aF.on 10 ?_;intro K hK;refine gN ?_;clear hK K;refine aF.Hd (λX=>V.grownBy X none/\gQ X (.slice pa pn pc) PL) f' ⟨q.o.2.2,q.o.1⟩ ?_;have XY:Hid (PL.length<=3300004):=q.o.2.1;clear q eu HA;rintro X ⟨hX,J⟩;have HX:=I hX;have HP:=I J;clear hX J;obtain⟨u1,dv⟩:=sS a.uU;obtain⟨u2,ea⟩:=sS ((bu.toNat:Int)+(u1.toNat:Int));obtain⟨u3,ec⟩:=sS a.kP;have MQ:X.c w.1.size 22=some (ι a.kP):=(aA HV.o.c HX.o) 22 _ rfl;have cz:X.c w.1.size 23=some (ι a.uU):=(aA HV.o.c HX.o) 23 _ rfl;have k1:X.c bk 1=some (O (bu.toNat:Int)):=(aA au.o HX.o) 1 _ rfl;have an:=I (λW (hW:gQ W (.slice pa pn pc) PL)=>Cm u2 4 u3 4 PL (.slice pa pn pc) W H H rfl (cE XY.o H) hW);go_wp2_with fail;refine(an.o _ HP.o).mono ?_;rintro e X1 ⟨o1,rfl,q1,R⟩;obtain⟨gz,hb,ds⟩:=q1.shape;subst ds;obtain⟨SL,J⟩:=aw (Pure.eB u2 4 u3 PL);have av:SL.length<=3300020:=(by rw[J,Pure.bR];have:=XY.o;omega);rw[<-J]at q1⊢;obtain⟨sn,bs⟩:=aq SL.length;rw[bs]at q1⊢;have sZ:=I (aa HX.o R);have Gb:=I q1;have ax:=I av;clear R q1 HX HP an MQ cz k1 J av bs dv ea ec;as_aux_lemma=>
         go_wp2_with fail;refine aF.start (S:=λY=>V.grownBy Y none) 22 f' ?_;have eu:Hid (V.grownBy X1.drew none):=bg sZ.o;have HA:=I (lF.nil X1.drew 31000000);have HZ:=I (Gb.o.grown (bg (cC X1 none)));have HB:=I (ca.o.grown eu.o);clear Gb;refine aF.tk 1 [1] ?_;refine aF.tk 2 [2] ?_ (hy:=by intro W hW;have l:=(aA au.o hW) 0 _ rfl;exact kV);refine aF.tk 3 [3] ?_;refine aF.tk 5 [5] ?_;refine aF.tk 6 [6] ?_ (hy:=by intro W hW;have l:W.c w.1.size 2=some (.string ⟨a.aV.toArray⟩):=(aA HV.o.c hW) 2 _ rfl;exact kV);refine aF.tk 8 [8] ?_;refine aF.tk 9 [9] ?_ (hy:=by intro W hW;have l:W.c w.1.size 3=some (ι a.bW):=(aA HV.o.c hW) 3 _ rfl;exact kV);refine aF.tk 11 [11] ?_;refine aF.tk 12 [12] ?_ (hy:=by intro W hW;have l:W.c w.1.size 5=some (ι a.dM):=(aA HV.o.c hW) 5 _ rfl;exact kV);refine aF.tk 14 [14] ?_;refine aF.tk 15 [15] ?_ (hy:=by intro W hW;have l:W.c w.1.size 6=some (ι a.bY):=(aA HV.o.c hW) 6 _ rfl;exact kV);refine aF.tk 17 [17] ?_;refine aF.tk 18 [18] ?_ (hy:=by intro W hW;have l:W.c w.1.size 7=some (ι a.options):=(aA HV.o.c hW) 7 _ rfl;exact kV);refine aF.on 0 ?_;refine rl (bS 12 _ ⟨by decide,by decide⟩) trivial ?_;clear HA eu HZ HB;intro V5 a5 c5 HA eu HZ HB;have vM:=I (HA.o.push (cC _ none) HB.o (cE cd.o H));clear HA;have HA:=vM;clear vM;refine aF.on 4 ?_;refine rl (mo SL _ _ HZ.o (cE ax.o H)) ax.o ?_;clear HA eu HZ HB;intro V5 a5 c5 HA eu HZ HB;refine aF.on 7 ?_;refine rl (kY a.aV _ (cE v.aV H)) v.aV ?_;clear HA eu HZ HB;intro V5 a5 c5 HA eu HZ HB;refine aF.on 10 ?_;refine rl (bS a.bW _ v.bW) trivial ?_;clear HA eu HZ HB;intro V5 a5 c5 HA eu HZ HB;refine aF.on 13 ?_;refine rl (bS a.dM _ v.dM) trivial ?_;clear HA eu HZ HB;intro V5 a5 c5 HA eu HZ HB;refine aF.on 16 ?_;refine rl (bS a.bY _ v.bY) trivial ?_;clear HA eu HZ HB;intro V5 a5 c5 HA eu HZ HB;refine aF.on 19 ?_;refine rl (bS a.options _ v.options) trivial ?_;clear HA eu HZ HB;intro V5 a5 c5 HA eu HZ HB;refine aF.on0 20 ?_;intro K hK;refine HA.o.bsl 175 8 _ rfl 37 ib _ underlying175 bn Qs Qr rfl rfl H H ?_;refine mA (aM eu.o _) ?_;clear hK K;refine aF.on 21 ?_;intro K hK;have J:=I (cE bz.o.size eu.o.size);refine Calls.mono (HA.o.ab7 _ 8 rfl Z H H) ?_;rintro e V6 ⟨o6,z8,rfl,t,z6,y,g6⟩;have q:=I (cZ t (cZ z6 (cZ y (cZ (aa eu.o g6) J.o))));clear t z6 y g6;go_wp2_with fail;refine mA q.o.2.2.2.1 ?_;clear hK K;refine aF.on 22 ?_;intro K hK;refine gN ?_;clear hK K;refine aF.done f' ?_;go_wp2_with fail;go_meet
         case rel=>exact⟨z8,dw q.o.1 q.o.2.2.2.2,q.o.2.1,cE q.o.2.2.1 H,HV.o.grown q.o.2.2.2.1⟩
   .have dd:(a.kind==2)=false:=(by simpa using T);go_wp2;go_ret;exact⟨ak,rfl,cE bq H,Q.o.g⟩
 case rest=>
  obtain⟨z,b,p,i,m⟩:=hcut;obtain⟨R,bc,df,r,bm⟩:=jR b p;subst df;obtain⟨L,B⟩:=aq z.length;rw[B]at b p⊢;refine MN (λV=>RB w V d C M g a sb so sv A/\V.ownsRow W.1.size 5 1 (ς R 0 L bc) L (z.map U8)) ⟨m,b⟩ ?_;have ch:=I Q.o.g.size;clear b r m Q c0 CF CH;rintro V ⟨hV,b⟩;have HV:=I hV;have U:=I b;have m:=I B;have J:=I i;clear hV b B i;have da:V.c w.1.size 24=some (ι a.qW):=HV.o.c 24 _ rfl;have n:=v.qW;by_cases b:a.qW=0
  .have cl:(a.qW==0)=true:=(by rw[b];rfl);clear b;have ag:At V (some ⟨R,0,none⟩) z:=by
    obtain⟨q,i,t,_,_,_,h⟩:=ig U.o;injection t with l e2 e3;rw[l];exact h
   have aj:=ek (P:=prog) V 37 9 5 underlying37 underlying5 underlying9 (some ⟨R,0,none⟩) bc z ag;rw[m.o]at aj;go_wp2;go_ret;exact⟨z,rfl,J.o,HV.o.g⟩
  .have cl:(a.qW==0)=false:=(by simpa using b);clear b;obtain⟨f,ad⟩:=aq (wh a.qW L);have ba:f<L:=(by rw[<-ad];exact EY _ p);have en:L<=9223372036854775807:=(by have:=J.o;rw[m.o]at this;omega);have r:=I (λW=>EZ a.qW L W n.1 n.2 p en);rw[ad]at r;obtain⟨q,hq,i⟩:∃q:Int,a.qW.tdiv 1000=q/\bT q:=by
    refine⟨_,rfl,?_⟩;have D:=n.1;have T:=n.2;unfold bT;rcases Int.le_total 0 a.qW with h|h
    .rw[Int.tdiv_eq_ediv_of_nonneg h];omega
    .have e:a.qW.tdiv 1000=-((-a.qW) / 1000):=(by rw[<-Int.tdiv_eq_ediv_of_nonneg G,Int.neg_tdiv,Int.neg_neg]);rw[e];omega
   have gv:IntKind.i64.wrap q=q:=(by rw[IntKind.wrap_i64];have D:=i.1;have T:=i.2;omega);obtain⟨b,ai⟩:=aq (wh q 255);have ff:b<255:=(by rw[<-ai];exact EY _ H);have al:=I (λW=>EZ q 255 W i.1 i.2 H H);rw[ai]at al;have B:f<z.length:=(by rw[m.o];exact ba);obtain⟨x,hx⟩:=aq (z[f]'B);have cm:bits .xor .u8 (x.toNat:Int) (1+(b:Int))=((x ^^^ UInt8.ofNat (1+b)).toNat:Int):=by
    rw[<-NB,ez,eI G];rfl
   have xH:Hid (V.rangeAt R 0 (z.map U8)):=by
    obtain⟨g2,y,t,hr,_⟩:=jR U.o p;injection t with l;injection l with l;injection l with l;subst l;exact hr
   have ar:Hid (∀X,V.grownBy X none->X.cell? (F R f)=some (.int .u8 (x.toNat:Int))):=by
    intro X hX;have:=(aA xH.o hX) f (U8 x) (by rw[eJ,cN B,hx];rfl);rw[cR]at this;exact this
   have t:=I (acp U.o);have er:=I hx;have bx:=I bm;have cr:(f:Int)<(L:Int):=G;have cu:(0:Int)<=(f:Int):=G;have fi:(b:Int)<255:=G;have fl:(0:Int)<=(b:Int):=G;have gr:IntKind.i64.wrap (1+(b:Int))=1+(b:Int):=pB;have gu:IntKind.u8.wrap (1+(b:Int))=1+(b:Int):=(by show(1+(b:Int)) % 256=_;omega);obtain⟨y,hy⟩:=aq (x ^^^ UInt8.ofNat (1+b));rw[hy]at cm;clear ad ai hy hx bm U;go_wp2_with fail;refine(r.o _).mono ?_;rintro e V1 ⟨rfl,rfl⟩;clear r da;go_wp2_with fail;refine aF.start (S:=λX=>V.grownBy X none) 14 f' ?_;have eu:Hid (V.grownBy V.drew none):=bg (cC _ _);refine aF.tk 0 [0] ?_;refine aF.tk 1 [1] ?_;refine aF.tk 2 [2] ?_;refine aF.tk 3 [3] ?_;refine aF.tk 4 [4] ?_;refine aF.tk 5 [5] ?_ (hy:=by intro W hW;have l:=ar.o W hW;exact kV);refine aF.tk 6 [6] ?_;refine aF.tk 7 [7] ?_ (hy:=by intro W hW;have l:W.c w.1.size 24=some (ι a.qW):=(aA HV.o.c hW) 24 _ rfl;exact kV);refine aF.tk 8 [8] ?_;refine aF.on 9 ?_;intro K hK;refine Calls.mono (al.o _) ?_;rintro e V2 ⟨rfl,rfl⟩;go_wp2_with fail;refine qF ?_;clear hK K;refine aF.tk 10 [10] ?_;refine aF.tk 11 [11] ?_;refine aF.tk 12 [12] ?_;refine aF.tk 13 [13] ?_;have l0:=t.o.frozen f;obtain⟨d0,j0⟩:=cD.1 (t.o.some f ba);refine aF.on 14 ?_;intro K hK;refine gN ?_;clear hK K;refine aF.Hd (λY=>At Y (some ⟨R,0,none⟩) (z.set f y)/\w.grownBy Y none) f' ⟨?_,?_⟩ ?_
   .have h:=rj xH.o (k:=f) (by rw[cU];exact B) (.int .u8 (y.toNat:Int));have e:(z.map U8).set f (.int .u8 (y.toNat:Int))=(z.set f y).map U8:=(by rw[List.map_set];rfl);rw[e]at h;exact At.uD (aA h (bg (cC _ none)))
   .exact bg (aB HV.o.g (cE ch.o bx.o))
   rintro Y ⟨ag,X⟩;have HG:=I X;clear X xH ar t;have aj:=ek (P:=prog) Y 37 9 5 underlying37 underlying5 underlying9 (some ⟨R,0,none⟩) bc (z.set f y) ag;rw[eA,m.o]at aj;go_wp2;go_ret;exact⟨z.set f y,rfl,by rw[eA];exact J.o,HG.o⟩
variable {W:World}
theorem Dl{e:Func}{a u t:Tmp}{f:TypeId}(h:e.results=#[.tmp t,.cell a f,.tmp u])(d)(P)(w)(b)(hp:d.getD a undef = N b 0)(x)(hl:(loadVar f ⟨b,0,none⟩).run P w=.ok x w):
  (results e d).run P w=.ok (.tuple #[d.getD t undef,x,d.getD u undef]) w:=by
 have hp':d[a]?.getD undef = N b 0:=rI
 exact rL
def TO(w w':World)(e:Ending):Prop:=∃(o:Value) (t:TK) (b:Bool) (z:E),e=.returned (.tuple #[o,.agg t.cells.toArray,.bool b])/\w'.ownsRow w.1.size 5 1 o z.length (z.map U8)/\z.length<=1000/\(b=true->t.az.length<=1000)/\w.grownBy w' none
structure GW(w W:World)(base yb:Nat)(M:DM)(g:RG)(gl:Nat)(l:List Pc):Prop where
 d:RD W base yb M g
 r:b9 W w.1.size 7
 p:jT W gl l
 g:w.grownBy W none
theorem GW.grown{d:World}{a f:Nat}{M:DM}{g:RG}{e:Nat}{l:List Pc}(h:GW w W a f M g e l)(k:W.grownBy d none):GW w d a f M g e l:=
 ⟨h.d.keep (λb i=>k.block b (h.d.lt b i).2 Z),h.r.grown k,h.p.grown k,aa h.g k⟩
structure GC(w W:World)(base yb:Nat)(M:DM)(g:RG)(gl:Nat)(l:List Pc)(bc:Nat)(cs:E)(cn:Int)(z:Value)(zs:E):Prop where
 w:GW w W base yb M g gl l
 c:W.rangeAt bc 0 [.string ⟨cs.toArray⟩,Y cn,z]
 z:xA W z zs
theorem GC.grown{b:World}{a j:Nat}{M:DM}{g:RG}{i:Nat}{l:List Pc}{d:Nat}{f:E}{e:Int}{z:Value}{m:E}(h:GC w W a j M g i l d f e z m)(k:W.grownBy b none):GC w b a j M g i l d f e z m:=
 ⟨h.w.grown k,aA h.c k,h.z.grown k⟩
theorem Yi{α:Type}{l:List α}(h:l.length=4):∃a b c d,l=[a,b,c,d]:=by
 match l,h with
 | [a,b,c,d],_=>exact⟨a,b,c,d,rfl⟩
theorem Q'(a:w.grownBy W none):∃(o:Value) (t:TK) (b:Bool) (z:E),Ending.returned (.tuple #[σ,.agg #[Y 0,O 0,ε,Y 0,Y 0,Y 0,Y 0],.bool false])=.returned (.tuple #[o,.agg t.cells.toArray,.bool b])/\W.ownsRow w.1.size 5 1 o z.length (z.map U8)/\z.length<=1000/\(b=true->t.az.length<=1000)/\w.grownBy W none:=
 ⟨σ,⟨0,0,[],0,0,0,0⟩,false,[],rfl,World.ownsRow_nil _ _ _ _,by simp,λh=>(by cases h),a⟩
theorem DR{l:E}{t:TK}(h:dU l=some t):t.az.length<=1000:=by
 unfold dU at h;cases d:lL l with
 |none=>rw[d]at h;cases h
 |some u=>
  rw[d]at h;have h:jX u=some t:=h;have L:∀{α β:Type}{f:ry->Option α}{k:α->List ry->Option β}{l:List ry}{b:β},bZ f k l=some b->∃p r a,l=p::r/\f p=some a/\k a r=some b:=by
   intro α β f k l b h;cases l with
   |nil=>cases h
   |cons p r=>
    have h:(f p).bind (λa=>k a r)=some b:=h;cases g:f p with
    |none=>rw[g]at h;cases h
    |some a=>grind
  obtain⟨M,V,e,w,_,m⟩:=L h;obtain⟨P,W,a,x,_,k⟩:=L m;obtain⟨Q,X,b,y,J,n⟩:=L k;obtain⟨R,r4,f,A,_,o⟩:=L n;obtain⟨S,r5,g,B,_,p⟩:=L o;obtain⟨T,r6,i,C,_,q⟩:=L p;obtain⟨U,v,j,D,_,r⟩:=L q;have K:(if v=[] then some (⟨e,a,b,f,g,i,j⟩:TK) else none)=some t:=r;grind [dz,dx]
theorem Uy{p:ry}{x:E×Int×E}(h:ik p=some x):p.2≠[]:=by
 intro e;unfold ik Ap at h;split at h
 .rw[e]at h;have:Box.dG []=some []:=by unfold Box.dG;rfl
  rw[this]at h;cases h
 .cases h
theorem ud{p:Prop}(h:p:=by
  obtain⟨⟨dd0,kk0⟩,⟨dd1,kk1⟩,⟨dd2,kk2⟩,⟨dd3,kk3⟩,⟨dd4,kk4⟩,⟨dd5,kk5⟩,⟨dd6,kk6⟩,ff0,ff1,ff2,ff3,ff4,ff5,ff6⟩:=qD OA.o
  go_wp2
  refine bodyPost_ret (Dl results71 _ _ _ w.1.size rfl _ (iK (fw OA _ _ _ _ _ _ _))) rfl ?_
  exact Q' (XX HGr (cA _))):p:=h
theorem Yj(d L)(M)(g)(J)(v)(w)(hD:RD w d L M g)(df:gy 4611686018427387904 M.aC)(hv:gQ w v J)(gq:J.length<=900):Calls prog 71 #[N L 0,v] w λe w'=>TO w w' e:=by
 have G0:=cy w (.cells #[Y 0,υ 0,ε,Y 0,Y 0,Y 0,Y 0] 43) none
 have cd:=b9.new w #[Y 0,υ 0,ε,Y 0,Y 0,Y 0,Y 0] 43
 have C1:=I (λW (hW:w.grownBy W none)=>Bb 48 J v W (hv.grown hW) G)
 have Re:=I (cZ G0 cd)
 obtain⟨O,hO⟩:=aq (vN 48 J)
 have HO:=I hO
 rw[hO]at C1
 obtain⟨va,vc,dv⟩:=hv.shape
 obtain⟨n,hn⟩:=aq J.length
 rw[hn]at dv gq
 subst dv
 have HN:=I hn
 have HD:=I hD
 clear hD hn hO hv G0 cd
 go_in
 go_wp2_with fail
 refine(C1 _ Re.1).mono ?_
 rintro e w1 ⟨x,i,rfl,hx,cr,y,g1⟩
 have C2:=I (rM i x w1 hx.prt G)
 obtain⟨xa,xc,gv⟩:=hx.shape
 subst gv
 obtain⟨CC,an⟩:=aq (Box.dG i)
 have Rf:=I an
 rw[an]at C2
 have bq:=I y
 have ku:=I (aa Re.1 g1)
 have Ey:=I (Re.2.grown g1)
 obtain⟨il,Yk⟩:=aq i.length
 rw[Yk]at C2⊢
 clear C1 hx cr y g1 an Yk Re
 go_wp2_with fail
 refine C2.mono ?_
 rintro e w2 ⟨px,rfl,ds,dd,g2⟩
 have gp:∃(l:List Pc) (ao:Option Addr) (pc:Nat),px=.slice ao l.length pc/\(∀ps,CC=some ps->l.map Pc.pair=ps/\(l≠[]->∃j,ao=some ⟨j,0,none⟩/\jT w2 j l)):=by
  cases hc:CC with
  |none=>exact⟨[],none,0,dd hc,λps h=>by cases h⟩
  |some ps=>
   obtain⟨l,⟨ao,pc,h1,h2⟩,h3,_⟩:=ds ps hc;grind
 obtain⟨l,ao,pc,fb,dq⟩:=gp
 subst fb
 have XY:=I dq
 have ab:=I (aa ku g2)
 have ak:=I (Ey.grown g2)
 obtain⟨m,hm⟩:=aq l.length
 rw[hm]
 have HM:=I hm
 clear ds dd dq g2 ku C2 hm Ey
 obtain⟨b1,ar⟩:=aq O.isSome
 obtain⟨b2,ad⟩:=aq CC.isSome
 rw[ar,ad]
 have bl:=I ar
 have bm:=I ad
 obtain⟨ca,ag⟩:=aq ((!b1||(!b2||!decide ((m:Int)=4))))
 have sj:=I ag
 clear ar ad ag
 go_upto_region 3 with fail
 go_cut [40] (λz wx=>z=.bool ca/\w2=wx)
 case first=>
  cases b1 with
  |false=>
   go_wp2;exact oA
  |true=>
   cases b2 with
   |false=>
    go_wp2;exact oA
   |true=>
    by_cases h4:(m:Int)=4
    .have ec:=I h4;have ff:((m:Int)==4)=true:=(by rw[h4];rfl);go_wp2;exact oA
    .have ec:=I h4;have ff:((m:Int)==4)=false:=(by simpa using h4);go_wp2;exact oA
 case rest=>
  obtain⟨rfl,rfl⟩:=hcut;cases ca with
  |true=>
   have OA:=I (ak);have HGr:=I (ab);exact ud
  |false=>
   have ax:∃B C a D j,l=[B,C,a,D]/\m=4/\ao=some ⟨j,0,none⟩/\jT w2 j [B,C,a,D]/\a.ins.length<=900:=by
    have h:=sj.o;simp at h;obtain⟨h1,h2,h3⟩:=h;have hO:=cD.1 (by rw[bl];exact h1);have hC:=cD.1 (by rw[bm];exact h2);obtain⟨i',hO⟩:=hO;obtain⟨ps,hC⟩:=hC;have e1:=bq i' hO;subst e1;obtain⟨B,C,a,D,hl⟩:=Yi (l:=l) (by have:=HM.o;omega);obtain⟨q1,q2⟩:=XY ps hC;obtain⟨j,fv,oI⟩:=q2 (by rw[hl];simp);refine⟨B,C,a,D,j,hl,by omega,fv,by rw[<-hl];exact oI,?_⟩;have cr:i'.length<=J.length:=by
     have X:=HO.o.trans hO;unfold vN at X;split at X
     .rename_i t i2 hc;split at X
      .injection X with X;subst X;have:=Box.gK hc;omega
      .cases X
     .cases X
    have h5:a.ins.length<=i'.length:=Box.mq (Rf.o.trans hC) a.pair (by rw[<-q1,hl];simp);have:=HN.o;omega
   obtain⟨B,C,a,D,j,hl,gg,fi,oI,al⟩:=ax;subst gg fi;have Q:Hid (GW w w2 d L M g j [B,C,a,D]):=⟨HD.keep (λb hb=>ab.block b (HD.o.lt b hb).2 Z),ak,oI,ab⟩
   have c4:w2.c j 4=some (.int .u8 (a.tag.toNat:Int)):=oI.tag 2 Z;have c5:w2.c j 5=some (.slice a.ad a.ins.length a.cap):=oI.ins 2 Z;have C3:=I (Bd a w2 (oI.2 a Z).1 (oI.2 a Z).2.1 (oI.2 a Z).2.2 G);obtain⟨oT,af⟩:=aq (ik a.pair);have bu:Hid (∀x,oT=some x->x.2.2.length<=900/\a.ins≠[]):=λx hx=>⟨cE (Dk (p:=a.pair) (by rw[af];exact hx)) al,Uy (p:=a.pair) (by rw[af];exact hx)⟩
   rw[af]at C3;have bk:=I al;clear hl oI al af sj XY bl bm HO Rf bq HM ab ak;go_wp2_with fail;refine C3.mono ?_;rintro e w3 ⟨u,r,cz,rfl,gx,y,ck,g3⟩;have gr:=KA (P:=prog) (b9.new w3 #[.string ⟨u.toArray⟩,Y r,σ] 233) 2 Z cz y;have bx:=I (Q.grown g3);have PG:=I ck;clear C3 Q g3 ck gx c4 c5;go_upto_region 6 with fail
   refine kR (λV=>w3.grownBy V none/\V.rangeAt w3.1.size 0 [.string ⟨u.toArray⟩,Y r,cz]) ⟨cy w3 _ none,oX⟩ ?_;clear gr;rintro V ⟨gV,ae⟩;obtain⟨U,ch⟩:=aq w3.1.size;rw[ch]at ae⊢;have HV:=I (bx.grown gV);have bo:=I ae;have MZ:Hid (∀q,oT=some q->u=q.1/\r=q.2.1/\xA V cz q.2.2):=λq hq=>⟨(PG q hq).1,(PG q hq).2.1,(PG q hq).2.2.1.grown gV⟩
   have d0:V.c U 0=some (.string ⟨u.toArray⟩):=ae 0 _ rfl;clear ch gV ae bx PG;have CF:=I (λW (hW:RD W d L M g)=>yx d L M g u W hW df.len);have cl:=uS g.es u;obtain⟨fa,Ht⟩:=aq (gG g.es u);rw[Ht]at CF cl;have cp:fa<0\/∃(i:Nat) (_:i<g.es.length),fa=(i:Int):=by
    grind
   have bp:=I cp;clear cl Ht cp;go_wp2_with fail;refine(CF _ HV.d).mono ?_;rintro e W1 ⟨rfl,g1⟩;have Q:=I (HV.grown g1);have sU:=I (aA bo g1);have PG:Hid (∀q,oT=some q->u=q.1/\r=q.2.1/\xA W1 cz q.2.2):=λq hq=>⟨(MZ q hq).1,(MZ q hq).2.1,(MZ q hq).2.2.grown g1⟩
   clear CF HV bo MZ d0 g1;obtain⟨b3,au⟩:=aq oT.isSome;have bn:=I au;rw[au];clear au;cases b3 with
   |false=>
    have OA:=I (Q.r);have HGr:=I (Q.g);exact ud
   |true=>
    rcases bp.o with gz|⟨i,hi,ga⟩
    .have OA:=I (Q.r);have HGr:=I (Q.g);exact ud
    .obtain⟨A,cj⟩:∃c,oT=some c:=cD.1 bn.o;obtain⟨h1,h2,h3⟩:=PG A cj;obtain⟨Yl,f⟩:=bu A cj;obtain⟨R,T,gw,bb,eb,Xc⟩:=h3;subst gw;obtain⟨zn,bf⟩:=aq A.2.2.length;rw[bf]at sU bb;have HC:Hid (GC w W1 d L M g j [B,C,a,D] U u r (.slice R zn T) A.2.2):=⟨Q,sU,⟨R,T,by rw[bf],by rw[bf];exact bb,eb,Xc⟩⟩
     have ha:=I f;have en:=I Yl;have fx:¬ (i:Int)<0:=G;have fz:(0:Int)<=(i:Int):=G;obtain⟨gb,cb,fl,ai⟩:=uT Q.d G;obtain⟨m,hm⟩:=aq g.es.length;have QX:(i:Int)<(m:Int):=G;have xH:Hid (∀V,W1.grownBy V none->V.cell? (F L 1)=some (ς gb 0 m cb)/\V.rangeAt gb 0 (bL g.es)):=by
      intro V hV;refine⟨?_,aA ai hV⟩;have:=(Q.grown hV).d.bU.blk.cell 1;grind
     obtain⟨x,ea⟩:=aq (g.es[i]'hi);have dc:x.be∈M.aC:=(by grind [RD.aC,Hid.o]);have fV:1<=x.aH/\x.aH<=4611686018427387904:=df.num x.be dc;have bz:=I ea;have er:=I hm;subst ga;clear bp fl ai hm ea dc bb eb Xc Yl f h1 h2 Q sU PG bu bn;have CK:=I (λW=>G8 x r W fV.1 (by have:=fV.2;omega));obtain⟨ko,cv⟩:=aq ((x.be.keyOf r).getD 0);obtain⟨kb,cu⟩:∃k:Bool,(x.be.keyOf r).isSome=k:=⟨_,rfl⟩
     rw[cv,cu]at CK;clear cv cu fV;go_wp2_with fail;refine aF.start (S:=λV=>GC w V d L M g j [B,C,a,D] U u r (.slice R zn T) A.2.2/\W1.grownBy V none) 9 f' ?_;have eu:Hid (GC w W1.drew d L M g j [B,C,a,D] U u r (.slice R zn T) A.2.2/\W1.grownBy W1.drew none):=⟨HC.grown (bg (cC _ _)),bg (cC _ _)⟩
     refine aF.tk 0 [6,5,3,2,1,0] ?_;refine aF.tk 1 [6,5,3,2,1] ?_;refine aF.tk 2 [6,5,3,2] ?_;refine aF.tk 3 [6,5,3] ?_ (hy:=by intro W hW;have y1:=(xH W hW.2).1;exact kV);refine aF.tk 4 [6,5,4] ?_;refine aF.tk 5 [6,5] ?_;refine aF.tk 6 [6] ?_ (hy:=by intro W hW;have hr:=(xH W hW.2).2;obtain⟨x0,x1,x2,x3,x4,x5,x6,x7,x8,x9⟩:=vS hr i hi;rw[bz]at x0 x1 x2 x3 x4 x5 x6 x7 x8 x9;clear hr;exact kV);refine aF.tk 7 [8,7] ?_;refine aF.tk 8 [8] ?_ (hy:=by intro W hW;have c1:W.c U 1=some (Y r):=hW.1.c 1 _ rfl;exact kV);refine aF.on 9 ?_;intro K hK;refine Calls.mono (CK _) ?_;rintro e W2 ⟨rfl,g2⟩;have yI:=I (eu.1.grown g2);clear g2;go_wp2_with fail;refine gN ?_;clear hK K CK;refine aF.fr 10 ?_;refine aF.fr 11 ?_;refine aF.fr 12 ?_;refine aF.fr 13 ?_;refine aF.fr 14 ?_;refine aF.done f' ?_;clear eu HC xH bz er fx fz QX;cases kb with
     |false=>
      have OA:=I (yI.w.r);have HGr:=I (yI.w.g);exact ud
     |true=>
      have c2:W2.c U 2=some (.slice R zn T):=yI.c 2 _ rfl;have CO:=I (λW (hW:xA W (.slice R zn T) A.2.2)=>yw ko 2 2 A.2.2 (.slice R zn T) W H H rfl en hW);obtain⟨ol,dn⟩:=aq (fe ko 2 A.2.2);rw[dn]at CO;clear dn;go_wp2_with fail;refine(CO _ yI.z).mono ?_;rintro e W3 ⟨o,rfl,dp,gm,g3⟩;have vZ:=I (yI.grown g3);have bs:=I dp;clear yI g3 c2 dp gm CO;cases ol with
      |none=>
       simp only[Option.isSome_none];have OA:=I (vZ.w.r);have HGr:=I (vZ.w.g);exact ud
      |some ll=>
       obtain⟨az,gd⟩:=bs ll rfl;have CT:=I (Be ll o W3 az G);obtain⟨oa,oc,X⟩:=az.shape;subst X;clear az gd bs;simp only[du];obtain⟨tb,ba⟩:=aq ((dU ll).isSome);rw[ba]at CT;have Y7:=I ba;clear ba;obtain⟨ln,da⟩:=aq ll.length;rw[da]at CT⊢;clear da;go_wp2_with fail;refine CT.mono ?_;rintro e W4 ⟨t,rfl,gu,_,g4⟩;have ev:Hid (tb=true->t.az.length<=1000):=by
        intro hb;obtain⟨q,hq⟩:=cD.1 (Y7.o.trans hb);grind [DR]
       clear gu Y7;rw[TK.pK t];clear CT;have aj:=I (vZ.grown g4);clear g4 vZ;go_upto_region 16 with fail
       refine kR (λV=>GC w V d L M g j [B,C,a,D] U u r (.slice R zn T) A.2.2/\V.rangeAt W4.1.size 0 t.cells) ⟨aj.grown (cy W4 _ none),aS W4 t.cells.toArray _⟩ ?_;obtain⟨bt,av⟩:=aq W4.1.size;rw[av];have fc:=aj.w.r.lt;rw[av]at fc;clear av aj;rintro W5 ⟨cc,dt⟩;have XV:=I cc;have Vg:=I dt;clear cc dt;have CB:Hid (∀V,GC w V d L M g j [B,C,a,D] U u r (.slice R zn T) A.2.2->Calls prog 88 #[.int .u8 48,.slice a.ad a.ins.length a.cap] V λe w'=>∃o,e=.returned o/\w'.ownsRow V.1.size 5 1 o (Box.box 48 a.ins).length ((Box.box 48 a.ins).map U8)/\V.grownBy w' none):=by
        intro V hV;refine uG 48 a.ins a.ins.length a.ad a.cap V (I rfl) (by have:=bk.o;omega) (λe=>?_) (hV.w.p.2 a Z).1;obtain⟨b,hd,h,_⟩:=(hV.w.p.2 a Z).1.addr kO;grind
       refine aF.start (S:=λV=>GC w V d L M g j [B,C,a,D] U u r (.slice R zn T) A.2.2/\V.rangeAt bt 0 t.cells) 8 f' ?_;have eu:Hid (GC w W5.drew d L M g j [B,C,a,D] U u r (.slice R zn T) A.2.2/\W5.drew.rangeAt bt 0 t.cells):=⟨XV.grown (bg (cC _ _)),aA Vg (bg (cC _ _))⟩
       refine aF.tk 0 [0] ?_;refine aF.tk 1 [1] ?_;refine aF.tk 2 [2] ?_;refine aF.tk 3 [3] ?_ (hy:=by intro W hW;have c5:W.c j 5=some (.slice a.ad a.ins.length a.cap):=hW.1.w.p.ins 2 Z;exact kV);refine aF.tk 5 [5] ?_ (hy:=by intro W hW;have h7:=hW.2;obtain⟨t0,t1,t2,t3,t4,t5,t6⟩:=mE h7;clear h7;exact kV);refine aF.fr 6 ?_ (hS:=.inr eu);refine aF.on 4 ?_;intro K hK;refine Calls.mono (CB _ eu.1) ?_;rintro e W6 ⟨o,rfl,ah,g6⟩;have T9:=I (eu.1.grown g6);have Q6:=I (aA eu.2 g6);have Y6:=I ah;have et:Hid (w.1.size+1<=W5.drew.1.size):=XV.w.r.lt;clear ah g6;go_wp2_with fail;refine hK.out _ _ (.inr ⟨T9,Q6⟩) ?_;clear hK K CB eu;try simp only[Act.put,List.getElem_toArray,List.getElem_cons_zero,List.getElem_cons_succ,ei,eo,eM]
       have eu:=I (cZ T9.o Q6);refine aF.fr 7 ?_ (hS:=.inr eu);obtain⟨⟨dd0,kk0⟩,⟨dd1,kk1⟩,⟨dd2,kk2⟩,⟨dd3,kk3⟩,⟨dd4,kk4⟩,⟨dd5,kk5⟩,⟨dd6,kk6⟩,ff0,ff1,ff2,ff3,ff4,ff5,ff6⟩:=qD T9.w.r;refine aF.on 8 ?_;intro K hK;refine gN ?_;clear hK K;refine aF.fr 9 ?_;refine aF.done f' ?_;go_wp2;refine bodyPost_ret (Dl results71 _ _ _ w.1.size rfl _ (iK (fw T9.w.r _ _ _ _ _ _ _))) rfl ?_;refine⟨o,t,tb,Box.box 48 a.ins,rfl,?_,?_,ev,aB (aB (aB (aB (aB (aB (aB (T9.w.g) (cA _)) (cA _)) (cA _)) (cA _)) (cA _)) (cA _)) (cA _)⟩
       .have h0:=et.o;refine dh (dw Y6 G) (λb hb=>?_);have ad:=(Y6.o.lt b hb).1;have f:b≠w.1.size:=G;rw[Below.heap_setCell _ _ _ b f,Below.heap_setCell _ _ _ b f,Below.heap_setCell _ _ _ b f,Below.heap_setCell _ _ _ b f,Below.heap_setCell _ _ _ b f,Below.heap_setCell _ _ _ b f,Below.heap_setCell _ _ _ b f]
       .have:=bk.o;have:=nU 48 a.ins;omega
theorem Tryz.Ym:(prog.info? 170).map (λi=>(i.zero,i.size,i.bytes))=some (some (.agg #[σ,O 0,ε]),3,48):=by kernel_rfl
def qf(w w':World)(base sb so:Nat)(sv:Value)(kl:List KN):Prop:=
 ∃Qw kl',SaidAt w' base sb so Qw kl'/\kl'.length<=kl.length+1/\(∀b,Qw.ownBlock=some b->sv.ownBlock=some b\/w.1.size<=b)/\(∀k∈kl',k∈kl\/∀b,k.box.ownBlock=some b->w.1.size<=b/\Qw.ownBlock≠some b)/\(∀k∈kl,∀b,k.box.ownBlock=some b->Qw.ownBlock≠some b)/\iO w w' (λb=>b=sb\/sv.ownBlock=some b)/\(∀cs,dm w sb cs->dm w' sb (cs.setIfInBounds so Qw))
theorem acE{P:Program}{d:Region.Mode}{b:Array Oper}{Q:Exit->Act->World->Prop}{S:World->Prop}{z n:Nat}{l:Array Bool}{a:Act}{W:World}(X:World->Prop)(e:X W)(h:∀V,X V->aF P d b Q S z n l a V):aF P d b Q S z n l a W:=h W e
theorem acF{W d:World}{b n:Nat}{r:Option Nat}(h:b9 W b n)(k:W.grownBy d r)(j:r≠some b):b9 d b n:=by
 have i:=h.lt;obtain⟨a,e,f,g⟩:=h;exact⟨a,e,(k.block b i (λe=>j e.symm)).trans f,g⟩
theorem acG{w:World}{f d:Nat}{g:Value}{b:Array Value}(h:dm w f b)(j:w.cell? (F f d)=some g):b.setIfInBounds d g=b:=by
 have a:=h.cell d;rw[j]at a;refine Array.ext_getElem? λi=>?_;rw[Array.getElem?_setIfInBounds];split
 .rename_i e;subst e;split
  .exact a
  .rename_i hl;rw[fy G]at a;cases a
 .rfl
theorem M0(l)(k):oD (l++[k])=oD l++k.cells:=by simp[oD]
theorem Hy(i yb)(M)(g)(a:qH)(ad)(v)(L y)(sv)(J)(w)(l:RD w i yb M g)(bf:gy 4611686018427387904 M.aC)(m:gQ w v ad)(bk:ad.length<=900)(hS:SaidAt w i L y sv J)(az:J.length<=1073741824)(B:i<=w.1.size)(bl:b9 w L (y+1))(d:sv.ownBlock≠some L)(j:∀k∈J,∀b,k.box.ownBlock=some b->b≠L/\sv.ownBlock≠some b):Calls prog 34 #[N L y,v,.agg a.arr,N yb 0] w λe f=>e=.returned (.tuple #[])/\qf w f i L y sv J:=by
 obtain⟨i0,bb,bo,bp,bq⟩:=info_parts Tryz.Ym
 have n:=cy w (.cells a.arr 45) none
 have o:=I (aS w a.arr 45)
 have A:=I (λW (hW:w.grownBy W none)=>Yj i yb M g ad v W (l.keep (λb f=>hW.block b (l.lt b f).2 Z)) bf (m.grown hW) bk)
 obtain⟨va,vc,al⟩:=m.shape
 obtain⟨vn,ab⟩:=aq ad.length
 rw[ab]at al
 subst al
 have p:=I n
 have HS:=I hS
 have Iy:=I j
 have Lx:=I d
 have bm:=World.block_lt_of_cell? w _ hS.cell
 clear l m ab n hS j d
 go_in
 go_upto_region 1 with fail
 refine kR (λV=>w.grownBy V none/\V.rangeAt w.1.size 0 a.cells) ⟨p,o⟩ ?_
 clear p o
 rintro W ⟨l,p⟩
 have x:=I l
 have C:=I p
 clear l p
 go_wp2_with fail
 refine(A _ x).mono ?_
 rintro e W1 ⟨o,t,b,z,rfl,j,q,n,D⟩
 have d:t.cells.toArray=#[ι t.ae,O (t.aO.toNat:Int),.string ⟨t.az.toArray⟩,ι t.dY,ι t.start,ι t.fin,ι t.aD]:=rfl
 rw[d]
 clear d A
 have Q:=I (dw j x.size)
 have ar:=I (λb (f:o.ownBlock=some b)=>(j.lt b f).1)
 have ax:=I q
 have I4:=I n
 have R:=I (aa x D)
 have m:=I (aA C D)
 have av:Hid (w.1.size+1<=W.1.size):=Qv (v:=ι a.kind) C.o
 obtain⟨oa,oc,af⟩:=bA j
 obtain⟨zn,d⟩:=aq z.length
 rw[d]at af
 have A:=I af
 subst af
 have ai:=I d
 clear j q n D x C d A
 go_upto_region 2 with fail
 refine kR (λV=>W1.grownBy V none/\V.rangeAt W1.1.size 0 t.cells) ⟨cy W1 _ none,aS W1 t.cells.toArray _⟩ ?_
 obtain⟨bt,C⟩:=aq W1.1.size
 rw[C]
 clear C
 rintro V ⟨l,p⟩
 have A:=I (aa R l)
 have HT:=I p
 have au:=I (aA m l)
 have ah:=I (Q.kept l (fm _))
 clear l p R m Q
 have c0:V.c w.1.size 0=some (ι a.kind):=au 0 _ rfl
 obtain⟨kb,T⟩:=aq ((b&&!decide (a.kind=0)))
 have Xu:=I T
 clear T
 go_cut [23] (λx d=>x=.bool kb/\V=d)
 case first=>
  cases b with
  |false=>
   go_wp2;go_meet
   case rel=>exact⟨by rw[<-Xu];rfl,rfl⟩
  |true=>
   by_cases d:a.kind=0
   .have T:(a.kind==0)=true:=(by rw[d];rfl);have j:=I d;clear d;go_wp2;go_meet
    case rel=>exact⟨by rw[<-Xu,ee j.o];first|rfl|(congr 1;simp[j.o]),rfl⟩
   .have T:(a.kind==0)=false:=(by simpa using d);have j:=I d;clear d;go_wp2;go_meet
    case rel=>exact⟨by rw[<-Xu,cY j.o];first|rfl|(congr 1;simpa using j.o),rfl⟩
 case rest=>
  obtain⟨rfl,rfl⟩:=hcut;cases kb with
  |false=>
   go_wp2;go_end0;refine⟨rfl,sv,J,HS.grown A,fj _,λb f=>.inl f,λk l=>.inl l,λk l b f=>(Iy k l b f).2,⟨A.os,A.tape,A.output,A.size,λb f _=>A.block b f Z⟩,λcs R=>?_⟩;rw[acG R HS.o.cell];exact R.grown A Z
  |true=>
   have C:b=true:=by
    have h:=Xu.o;cases b with
    |true=>rfl
    |false=>cases h
   have ao:=I (I4 C);clear C Xu I4 c0;obtain⟨m,j⟩:=aq J.length;obtain⟨sa,sc,d⟩:=bA HS.row;rw[j]at d;have ae:=I (HS.grown A);have Q:=I d;have HM:=I j;clear d j;go_wp2_with fail;refine aF.start (S:=λX=>V.grownBy X none) 12 f' ?_;have eu:Hid (V.grownBy V.drew none):=bg (cC _ _);refine aF.fr 0 ?_ (hS:=.inr eu);refine aF.tk 1 [4,3,2,1] ?_;refine aF.tk 2 [4,3,2] ?_;refine aF.tk 3 [4,3] ?_;refine aF.tk 4 [4] ?_ (hy:=by intro W hW;have e1:=(by have:=(ae.grown hW).cell;rw[Q]at this;exact this);exact kV);refine aF.tk 5 [11,10,5] ?_;refine aF.tk 6 [11,10,7,6] ?_;refine aF.tk 7 [11,10,7] ?_ (hy:=by intro W hW;have e1:W.c bt 1=some (O (t.aO.toNat:Int)):=(aA HT hW) 1 _ rfl;exact kV);refine aF.tk 8 [11,10,9,8] ?_;refine aF.tk 9 [11,10,9] ?_ (hy:=by intro W hW;have e1:W.c bt 2=some (.string ⟨t.az.toArray⟩):=(aA HT hW) 2 _ rfl;exact kV);refine aF.tk 10 [11,10] ?_;refine aF.on 11 ?_;intro K hK;refine mA (aM eu _) ?_;clear hK K;refine acE (λY=>V.grownBy Y none/\Y.rangeAt V.1.size 0 [.slice oa zn oc,O (t.aO.toNat:Int),.string ⟨t.az.toArray⟩]) ⟨aM eu _,aS V.drew #[.slice oa zn oc,O (t.aO.toNat:Int),.string ⟨t.az.toArray⟩] _⟩ ?_;rintro Y ⟨d,X⟩;have n:=I d;have U:Y.ownsRow i 170 3 (.slice sa m sc) m (oD J):=by
    have:=(ae.grown d).row;rw[Q,HM]at this;exact this
   have bc:m<=1073741824:=by rw[<-HM];exact az
   obtain⟨v6,w6,x,D,qI,ak⟩:=rQ (P:=prog) Y i 86 86 170 i0 _ 3 48 underlying86 bb bo bp bq rfl H (.slice sa m sc) m (oD J) U ⟨V.1.size,0,none⟩ 1 1 [.slice oa zn oc,O (t.aO.toNat:Int),.string ⟨t.az.toArray⟩] rfl (λj u hu=>by
     have:=X j u hu;rw[cR]at this;rw[Addr.add_lit,cR]
     exact this) DS H lA G (cE B (cE A.size d.size))
   obtain⟨p,q,bn⟩:=bA D;subst bn;have PE:Hid (b9 w6 L (y+1)):=acF (r:=(Value.slice sa m sc).ownBlock) ((bl.grown A).grown d) qI (by rw[<-Q];exact Lx);have an:Hid (w6.ownsRow i 170 3 (.slice p (m+1) q) (m+1) (oD J++(KN.mk (.slice oa zn oc) z t.aO t.az).cells)/\Y.grownBy w6 sv.ownBlock/\((Value.slice p (m+1) q).ownBlock=sv.ownBlock\/(Value.slice p (m+1) q).ownBlock=some Y.1.size)/\True):=by
    rw[Q];exact⟨D,qI,ak,trivial⟩
   clear d X U D qI ak bc eu;refine aF.on0 12 ?_;intro K hK;refine Lib.wp_append_run _ _ _ _ _ rfl _ _ rfl rfl _ _ x ?_;refine gN ?_;clear hK K x;refine aF.fr 13 ?_;refine aF.fr 14 ?_;have l0:=PE.frozen y;obtain⟨d0,j0⟩:=cD.1 (PE.some y (fX y));refine aF.on 15 ?_;intro K hK;refine gN ?_;clear hK K;refine aF.done f' ?_;go_wp2;go_end0;obtain⟨ag,x,X,bu⟩:=an.o;have ba:=ae.grown n.o;have hV:=A.o;have bs:=bm;have bx:=n.size;have bz:=hV.size;have D:∀b,b<Y.1.size->b≠L->sv.ownBlock≠some b->(w6.setCell (F L y) (.slice p (m+1) q)).1[b]?=Y.1[b]?:=λb f h1 d=>(Below.heap_setCell w6 _ _ b h1).trans (x.block b f (λe=>d e.symm));have IB:∀b,(Value.slice oa zn oc).ownBlock=some b->W.1.size<=b/\b<V.1.size:=λb f=>⟨ar b f,(ah.o.lt b f).2⟩
   have aj:=λb f=>(HS.row.lt b f).2;have U:∀b,(Value.slice p (m+1) q).ownBlock=some b->sv.ownBlock=some b\/b=Y.1.size:=by
    intro b f;rcases X with h|h
    .left;rw[<-h];exact f
    .right;rw[h]at f;injection f with f;exact f.symm
   have ab:∀b,(Value.slice p (m+1) q).ownBlock=some b->b≠L:=by
    intro b f e;rcases U b f with h|h
    .exact Lx (by rw[<-e];exact h)
    .omega
   have ca:=av.o;refine⟨rfl,.slice p (m+1) q,J++[⟨.slice oa zn oc,z,t.aO,t.az⟩],⟨?_,?_,?_⟩,by simp,?_,?_,?_,?_,?_⟩
   .obtain⟨d,hd⟩:=cD.1 (PE.some y (fX y));exact dA _ hd
   .rw[M0,cF,eL,HM];exact dh ag (λb f=>Below.heap_setCell w6 _ _ b (ab b f))
   .intro k l;rcases fp.1 l with l|l
    .have d:=ba.own k l;refine⟨dh d.1 (λb f=>D b (d.1.lt b f).2 (Iy k l b f).1 (Iy k l b f).2),d.2⟩
    .rw[eC]at l;subst l;refine⟨?_,ax,cE ao H⟩;have d:=dw (ah.kept n (fm _)) B;rw[<-ai]at d⊢;refine dh d (λb f=>?_);rw[ai]at f;have h1:=IB b f;refine D b G G (λe=>?_);have:=aj b e;omega
   .intro b f;rcases U b f with h|h
    .exact .inl h
    .right;omega
   .intro k l;rcases fp.1 l with l|l
    .exact .inl l
    .right;rw[eC]at l;subst l;intro b f;have h1:=IB b f;refine⟨by omega,λe=>?_⟩;rcases U b e with h|h
     .have:=aj b h;omega
     .omega
   .intro k l b f e;rcases U b e with h|h
    .exact(Iy k l b f).2 h
    .have:=((HS.own k l).1.lt b f).2;omega
   .refine⟨?_,?_,?_,?_,λb f d=>?_⟩
    .exact(x.os.trans n.os).trans hV.os
    .exact(x.tape.trans n.tape).trans hV.tape
    .exact(x.output.trans n.output).trans hV.output
    .rw[World.size_setCell];have:=x.size;omega
    .rw[D b G (λe=>d (.inl e)) (λe=>d (.inr e)),n.block b G Z,hV.block b f Z]
   .intro cs R;have h1:=((R.grown hV Z).grown n Z).grown x (λe=>Lx e.symm);exact h1.set y _
theorem yt{p:Prop}(h:p:=by unfold nR;rw[dQ hl,h];rfl):p:=h
theorem yr{p:Prop}(h:p:=by unfold sF;rw[dQ hl,h];rfl):p:=h
theorem Kp{p:Prop}(h:p:=by
 cases l with
 |nil=>cases h
 |cons p r=>
  have h:(f p).bind (λa=>k a r)=some b:=h
  cases hf:f p with
  |none=>rw[hf]at h;cases h
  |some a=>rw[hf]at h;exact⟨p,r,a,rfl,h⟩):p:=h
theorem Dn{d:List ry}{q:FQ}(h:lM d=some q):∃p r,d=p::r/\bG p=some 10/\d.length=9:=by
 match d,h with
 | [],h=>cases h
 |p0::d,h=>
  have e:lM (p0::d)=(bG p0).bind λk=>(if k=10 then bZ dz λc=>bZ dz λs=>bZ bG λn=>bZ bG λf=>bZ bG λt=>bZ bG λr=>bZ bG λo=>bZ mO λp=>yK ⟨c,s,n,f,t,r,o,p⟩ else λ_=>none) d:=rfl;rw[e]at h;cases i:bG p0 with
  |none=>rw[i]at h;cases h
  |some k=>
   rw[i]at h;have h:(if k=10 then bZ dz λc=>bZ dz λs=>bZ bG λn=>bZ bG λf=>bZ bG λt=>bZ bG λr=>bZ bG λo=>bZ mO λp=>yK ⟨c,s,n,f,t,r,o,p⟩ else λ_=>none) d=some q:=h;by_cases g:k=10
   .rw[dQ g]at h;refine⟨p0,d,rfl,by rw[i,g],?_⟩;have L:∀{α β:Type}{f:ry->Option α}{k:α->List ry->Option β}{l:List ry}{b:β},bZ f k l=some b->∃p r a,l=p::r/\k a r=some b:=by
     intro α β f k l b h;exact Kp
    obtain⟨S,r1,j,rfl,B⟩:=L h;obtain⟨T,r2,m,rfl,C⟩:=L B;obtain⟨U,r3,u,rfl,D⟩:=L C;obtain⟨V,r4,v,rfl,J⟩:=L D;obtain⟨W,r5,w,rfl,K⟩:=L J;obtain⟨X,r6,x,rfl,M⟩:=L K;obtain⟨q7,r7,y,rfl,P⟩:=L M;obtain⟨q8,R,A,rfl,Q⟩:=L P;have h:(if R=[] then some (⟨j,m,u,v,w,x,y,A⟩:FQ) else none)=some q:=Q;split at h
    .rename_i hr;rw[hr];rfl
    .cases h
   .rw[b' g]at h;cases h
theorem Dp{d:List ry}{q:NQ}(h:lN d=some q):∃p r,d=p::r/\bG p=some 12/\d.length=8:=by
 match d,h with
 | [],h=>cases h
 |p0::d,h=>
  have e:lN (p0::d)=(bG p0).bind λk=>(if k=12 then bZ ik λc=>bZ jD λp=>bZ dz λs=>bZ bG λn=>bZ bG λt=>bZ bG λr=>bZ bG λo=>yK ⟨c.1,c.2.1,c.2.2,p,s,n,t,r,o⟩ else λ_=>none) d:=rfl;rw[e]at h;cases j:bG p0 with
  |none=>rw[j]at h;cases h
  |some k=>
   rw[j]at h;have h:(if k=12 then bZ ik λc=>bZ jD λp=>bZ dz λs=>bZ bG λn=>bZ bG λt=>bZ bG λr=>bZ bG λo=>yK ⟨c.1,c.2.1,c.2.2,p,s,n,t,r,o⟩ else λ_=>none) d=some q:=h;by_cases i:k=12
   .rw[dQ i]at h;refine⟨p0,d,rfl,by rw[j,i],?_⟩;have L:∀{α β:Type}{f:ry->Option α}{k:α->List ry->Option β}{l:List ry}{b:β},bZ f k l=some b->∃p r a,l=p::r/\k a r=some b:=by
     intro α β f k l b h;exact Kp
    obtain⟨Q,X,g,rfl,A⟩:=L h;obtain⟨R,r2,m,rfl,B⟩:=L A;obtain⟨S,r3,u,rfl,C⟩:=L B;obtain⟨T,r4,v,rfl,D⟩:=L C;obtain⟨U,r5,w,rfl,J⟩:=L D;obtain⟨V,r6,x,rfl,K⟩:=L J;obtain⟨W,P,y,rfl,M⟩:=L K;have h:(if P=[] then some (⟨g.1,g.2.1,g.2.2,m,u,v,w,x,y⟩:NQ) else none)=some q:=M;split at h
    .rename_i hr;rw[hr];rfl
    .cases h
   .rw[b' i]at h;cases h
section
variable {M:DM}{now:Int}{aX:E}
theorem V0(h:aX.length<=300->lL aX=none\/lL aX=some []):dF M now aX=(aY now 60,M):=by
 have a:nR aX=none:=by
  unfold nR;split
  .rename_i hl;rcases h hl with e|e<;>rw[e]<;>rfl
  .rfl
 have b:sF aX=none:=by
  unfold sF;split
  .rename_i hl;rcases h hl with e|e<;>rw[e]<;>rfl
  .rfl
 unfold dF;rw[a,b]
theorem H'{p:Prop}(h:p:=by
 obtain⟨p',r',e',hn'⟩:=hp
 rw[e]at e'
 injection e' with e1 e2
 subst e1
 rw[hn]at hn'
 injection hn' with hn'
 omega):p:=h
theorem Yx{a:List ry}(hl:aX.length<=300)(h:lL aX=some a)(hp:∃p r,a=p::r/\bG p=some 10):dF M now aX=dD M now (ow M now a):=by
 have b:nR aX=lM a:=yt;have d:sF aX=lN a:=yr;have f:lN a=none:=by
  cases g:lN a with
  |none=>rfl
  |some q=>
   obtain⟨p,r,e,hn,_⟩:=Dp g;exact H'
 unfold dF ow;rw[b,d,f];cases lM a with
 |none=>rfl
 |some q=>rfl
theorem acU{a:List ry}(hl:aX.length<=300)(h:lL aX=some a)(hp:∃p r,a=p::r/\bG p=some 12):dF M now aX=dD (oF M now a).2 now (oF M now a).1:=by
 have b:nR aX=lM a:=yt;have d:sF aX=lN a:=yr;have f:lM a=none:=by
  cases g:lM a with
  |none=>rfl
  |some q=>
   obtain⟨p,r,e,hn,_⟩:=Dn g;exact H'
 unfold dF oF;rw[b,d,f];cases lN a with
 |none=>rfl
 |some q=>
  show uJ M now q=_;rw[Pt];dsimp only;cases(iM M now q).1 with
  |error c=>rfl
  |ok t=>rfl
theorem acV{a:List ry}(hl:aX.length<=300)(h:lL aX=some a)(l:∀p r,a=p::r->¬ (bG p=some 10/\a.length=9))(m:∀p r,a=p::r->¬ (bG p=some 12/\a.length=8)):dF M now aX=(aY now 60,M):=by
 have g:nR aX=lM a:=yt;have i:sF aX=lN a:=yr;have j:lM a=none:=by
  cases f:lM a with
  |none=>rfl
  |some q=>
   obtain⟨p,r,e,d,b⟩:=Dn f;exact absurd ⟨d,b⟩ (l p r e)
 have k:lN a=none:=by
  cases f:lN a with
  |none=>rfl
  |some q=>
   obtain⟨p,r,e,d,b⟩:=Dp f;exact absurd ⟨d,b⟩ (m p r e)
 unfold dF;rw[g,i,j,k]
theorem Ia{R:Except Int GR}(h:nD M R≠0):dD M now R=(aY now (nD M R),M):=by
 unfold nD at h⊢;unfold dD;cases R with
 |error c=>rfl
 |ok g=>
  dsimp only at h⊢;split at h
  .rename_i hd;rw[dQ hd,dQ hd]
  .exact absurd rfl h
theorem M8{a:GR}(h:nD M (.ok a)=0):dD M now (.ok a)=(a.box M.aL,{M with aL:=M.aL.drop 24}):=by
 unfold nD at h;unfold dD;dsimp only at h⊢;split at h
 .exact absurd h H
 .rename_i hd;rw[b' hd]
end
def vV(base yb:Nat)(g:RG)(A:E×DM)(w w':World)(o:Value):Prop:=
 mB w.1.size w' o A.1/\(∃g',RD w' base yb A.2 g'/\∀b,g'.foot yb b->g.foot yb b\/w.1.size<=b)/\w.grownBy w' (some yb)
def En(base yb:Nat)(g:RG)(A:Int×E×DM)(w w':World)(o:Value)(c:Int):Prop:=
 c=A.1/\(c≠0->o = σ)/\(c=0->mB w.1.size w' o A.2.1)/\(∃g',RD w' base yb A.2.2 g'/\∀b,g'.foot yb b->g.foot yb b\/w.1.size<=b)/\w.grownBy w' (some yb)
theorem Ib{g:RG}{a n:Nat}{v u:Value}(i:v=g.pv\/lE n v)(f:u=g.dv\/lE n u):∀b,({g with pv:=v,dv:=u}:RG).foot a b->g.foot a b\/n<=b:=by
 intro b d;rcases d with e|e|e|e
 .exact .inl (.inl e)
 .exact .inl (.inr (.inl e))
 .rcases i with h|h
  .exact .inl (.inr (.inr (.inl (by rw[<-h];exact e))))
  .exact .inr (h b e)
 .rcases f with h|h
  .exact .inl (.inr (.inr (.inr (by rw[<-h];exact e))))
  .exact .inr (h b e)
def QH(M:DM)(now:Int)(R:Except Int GR):Int×E×DM:=(nD M R,(dD M now R).1,(dD M now R).2)
theorem Fi{p:Prop}(h:p:=by
 subst hR
 show mB w.1.size w' o (dD M now (.ok gr)).1
 rw[M8 (by rw[<-h1];exact hc)]
 exact hH):p:=h
theorem GU{p:Prop}(h:p:=by
 show RD w' base yb (dD M now (.ok gr)).2 _
 rw[M8 (by rw[<-h1];exact hc)]
 exact hD):p:=h
theorem Yy{base yb:Nat}{M:DM}{g:RG}{now:Int}{R:Except Int GR}{w w':World}{o:Value}{c:Int}(h:Ee base yb M g R w w' o c):En base yb g (QH M now R) w w' o c:=by
 obtain⟨h1,a,d⟩:=h;refine⟨h1,λhc=>(a hc).1,λhc=>?_,?_,?_⟩
 .obtain⟨gr,v,hR,hH,_⟩:=d hc;exact Fi
 .by_cases hc:c=0
  .obtain⟨gr,v,hR,hH,hD,e,_⟩:=d hc;subst hR;refine⟨{g with dv:=v},?_,Ib (.inl rfl) (.inr e)⟩;exact GU
  .refine⟨g,?_,λb f=>.inl f⟩;show RD w' base yb (dD M now R).2 _;rw[Ia (by rw[<-h1];exact hc)];exact(a hc).2.1
 .by_cases hc:c=0
  .obtain⟨gr,v,hR,hH,hD,e,b⟩:=d hc;exact b
  .exact mK (a hc).2.2 yb
theorem acW{base yb:Nat}{g:RG}{now:Int}{A:Except Int GR×DM}{w w':World}{o:Value}{c:Int}(h:Ei base yb g A w w' o c):En base yb g (QH A.2 now A.1) w w' o c:=by
 obtain⟨R,M⟩:=A;obtain⟨h1,⟨v,d,a,b⟩,f⟩:=h;have h1:c=nD M R:=h1;refine⟨h1,λhc=>(a hc).1,λhc=>?_,?_,f⟩
 .obtain⟨gr,u,hR,hH,_⟩:=b hc;have hR:R=.ok gr:=hR;exact Fi
 .by_cases hc:c=0
  .obtain⟨gr,u,hR,hH,hD,e⟩:=b hc;have hR:R=.ok gr:=hR;subst hR;refine⟨{g with pv:=v,dv:=u},?_,Ib d (.inr e)⟩;exact GU
  .refine⟨{g with pv:=v},?_,Ib (u:=g.dv) d (.inl rfl)⟩;show RD w' base yb (dD M now R).2 _;rw[Ia (by rw[<-h1];exact hc)];exact(a hc).2
theorem UE{α:Type}{l:List α}(h:l.length=9):∃a b c d e f g i j,l=[a,b,c,d,e,f,g,i,j]:=by
 match l,h with
 | [a,b,c,d,e,f,g,i,j],_=>exact⟨a,b,c,d,e,f,g,i,j,rfl⟩
theorem UF{α:Type}{l:List α}(h:l.length=8):∃a b c d e f g i,l=[a,b,c,d,e,f,g,i]:=by
 match l,h with
 | [a,b,c,d,e,f,g,i],_=>exact⟨a,b,c,d,e,f,g,i,rfl⟩
end Go.Proofs.YticfhckmhcaigaaGreatDoor
namespace Go.Proofs.YticfhckmhcaigaaGreatDoor
set_option maxHeartbeats 8000000
open Go.RowKit
set_option maxRecDepth 100000
variable {p:Prop}
theorem DO(h:p:=by have:=HLR.o;rw[hl]at this;injection this with this;exact this.symm):p:=h
variable {M:DM}{now:Int}{yb:Nat}{g:RG}{w w1 w2:World}
theorem QL(x y)(now):bT (ou x y now 1 2)/\bT (ou x y now 2 1):=by
 unfold ou bT;constructor<;>(repeat' split)<;>omega
theorem rN(h:p:=by
 injection h with h;subst h;exact⟨by decide,by decide⟩):p:=h
theorem acX{b:List ry}{c:Int}(h:ow M now b=.error c):bT c:=by
 unfold ow at h;cases a:lM b with
 |none=>rw[a]at h;injection h with h;subst h;exact⟨by decide,by decide⟩
 |some q=>
  rw[a]at h;have h:mS M now q=.error c:=h;unfold mS at h;split at h
  .exact rN
  .exact rN
  .rename_i x s _ _;split at h
   .injection h with h;subst h;exact(QL x s now).1
   .split at h
    .injection h with h;subst h;have d:=Mu M.ax now x q.pre;unfold di;split
     .exact d
     .unfold bT;(repeat' split)<;>omega
    .cases h
theorem Bx(h:p:=by
 split at e
 .injection e with e;subst e;exact⟨by decide,by decide⟩
 .cases e):p:=h
theorem Yz{a:TK}{x s:BE}{f d b c:Int}(e:fresh now a x s f d b=.error c):bT c:=by
 unfold fresh at e;split at e
 .exact Bx
 .split at e
  .exact Bx
  .exact Bx
theorem acY{q:NQ}{a:TK}{c:Int}(h:eF M now q a=.error c):bT c:=by
 unfold eF at h;split at h
 .exact rN
 .split at h
  .exact rN
  .split at h
   .exact rN
   .exact rN
   .rename_i s x _ _;split at h
    .injection h with h;subst h;exact(QL s x now).2
    .split at h
     .exact rN
     .split at h
      .rename_i c' hc;injection h with h;subst h;exact Yz hc
      .cases h
theorem VF{ps:List ry}{c:Int}(h:(oF M now ps).1=.error c):bT c:=by
 unfold oF at h;cases b:lN ps with
 |none=>rw[b]at h;injection h with h;subst h;exact⟨by decide,by decide⟩
 |some q=>
  rw[b]at h;dsimp only at h;cases a:(iM M now q).1 with
  |error d=>
   rw[a]at h;injection h with h;subst h;have:=Cb a;unfold bT;omega
  |ok t=>
   rw[a]at h;exact acY h
theorem VH{R:Except Int GR}(h:∀c,R=.error c->bT c):bT (nD M R):=by
 cases R with
 |error c=>exact h c rfl
 |ok g=>
  show bT (if M.aL.length<24 then 60 else 0);split<;>exact⟨by decide,by decide⟩
theorem acZ{a:UInt8}{l i:E}(h:vN a l=some i):i.length<=l.length:=by
 unfold vN at h;split at h
 .rename_i t i' hc;split at h
  .injection h with h;subst h;have:=Box.gK hc;omega
  .cases h
 .cases h
theorem Dq{a:Nat}{e:E}{o:Value}(f:RD w a yb M g)(h:dF M now e=(aY now 60,M))(i:w.grownBy w1 none)(j:mB w1.1.size w2 o (aY now 60))(l:w1.grownBy w2 none):vV a yb g (dF M now e) w w2 o:=by
 rw[h];have k:=aa i l;exact⟨j.base i.size,⟨g,f.keep (λb d=>k.block b (f.lt b d).2 Z),λb d=>.inl d⟩,mK k yb⟩
theorem Bl{a:Nat}{A:Int×E×DM}{B:E×DM}{c:Int}{w3:World}{o l:Value}(f:w.grownBy w1 none)(h:En a yb g A w1 w2 o c)(p:B=(aY now A.1,A.2.2))(q:mB w2.1.size w3 l (aY now c))(k:w2.grownBy w3 none):vV a yb g B w w3 l:=by
 obtain⟨n,t,u,⟨m,i,r⟩,j⟩:=h;subst p;rw[<-n];refine⟨q.base (cE f.size j.size),⟨m,i.keep (λb d=>k.block b (i.lt b d).2 Z),λb d=>?_⟩,iH (mK f yb) (iH j (mK k yb))⟩;rcases r b d with e|e
 .exact .inl e
 .exact .inr (cE f.size e)
theorem Bn{a:Nat}{A:Int×E×DM}{B:E×DM}{c:Int}{o:Value}(d:w.grownBy w1 none)(h:En a yb g A w1 w2 o c)(m:c=0)(j:B=(A.2.1,A.2.2)):vV a yb g B w w2 o:=by
 obtain⟨q,r,i,⟨f,k,n⟩,p⟩:=h;subst j;refine⟨(i m).base d.size,⟨f,k,λb l=>?_⟩,iH (mK d yb) p⟩;rcases n b l with e|e
 .exact .inl e
 .exact .inr (cE d.size e)
theorem QM{R:Except Int GR}{c:Int}(b:c=(QH M now R).1)(a:c≠0):dD M now R=(aY now (QH M now R).1,(QH M now R).2.2):=by
 have d:nD M R≠0:=by rw[b]at a;exact a
 show dD M now R=(aY now (nD M R),(dD M now R).2);rw[Ia d]
theorem LR(h:p:=by
 have hci:bT c:=by rw[HMd.1];exact Ra.o
 clear C hS
 by_cases hc:c=0
 .have HF:=I (Bn lh HMd hc Ie)
  clear CR hci
  go_wp2
  go_ret
  exact⟨_,rfl,HF⟩
 .have C3:=I (λW=>zO now c W cO hci)
  have HC:=I hc
  go_wp2_with fail
  refine(C3 _).mono ?_
  rintro e w5 ⟨o2,rfl,hH,g5⟩
  have HF:=I (Bl lh HMd (Ie.o.trans (QM HMd.1 HC)) hH g5)
  clear hH g5 CR
  go_wp2
  go_ret
  exact⟨_,rfl,HF⟩):p:=h
theorem IG(h:p:=by
 have h4:(bG p.pair).isSome=true:=by rw[HNB];exact h1
 obtain⟨y,hy⟩:=cD.1 h4
 rw[hy,<-HKV.2 y hy,h2]):p:=h
theorem Dr(a yb)(M)(g)(now)(A)(v)(w)(h:RD w a yb M g)(ba:gy 4611686018427387904 M.aC)(ai:a<=w.1.size)(d:gQ w v A)(bp:A.length<=140737488355328)(cO:bT now)(bc:bT M.ax)(ax:∀e∈M.aC,bT e.bH/\bT e.aD)(au:M.aL.length<=140737488355328)(bn:M.aI.length<=1000)(yo:∀y∈M.aI,bT y.time):Calls Tryz.prog 33 #[N yb 0,Y now,v] w λe b=>∃o,e=.returned o/\vV a yb g (dF M now A) w b o:=by
 have f:=I (Bb 48 A v w d bp)
 obtain⟨va,vc,bf⟩:=d.shape
 obtain⟨n,b⟩:=aq A.length
 rw[b]at bf
 subst bf
 have Ko:=I b
 have HD:=I h
 obtain⟨O,B⟩:=aq (vN 48 A)
 have HO:=I B
 rw[B]at f
 clear h b B d
 have CR:=I (λW=>zO now 60 W cO ⟨by decide,by decide⟩)
 go_enter Tryz.func33,Tryz.ntmps33
 go_wp2_with fail
 refine f.mono ?_
 rintro e w1 ⟨x,i,rfl,k,av,b,l⟩
 have j:=I (rM i x w1 k.prt G)
 obtain⟨xa,xc,bq⟩:=k.shape
 subst bq
 obtain⟨CC,d⟩:=aq (Box.dG i)
 have Rf:=I d
 rw[d]at j
 have af:=I b
 have r:=I l
 obtain⟨il,h⟩:=aq i.length
 rw[h]at j⊢
 have bk:=I h
 clear f k av b l d h
 go_wp2_with fail
 refine j.mono ?_
 rintro e w2 ⟨px,rfl,f,b,q⟩
 have bo:∃(l:List Pc) (ao:Option Addr) (pc:Nat),px=.slice ao l.length pc/\(∀ps,CC=some ps->l.map Pc.pair=ps/\(l≠[]->∃K,ao=some ⟨K,0,none⟩/\jT w2 K l)):=by
  cases hc:CC with
  |none=>exact⟨[],none,0,b hc,λps h=>by cases h⟩
  |some ps=>
   obtain⟨l,⟨ao,pc,h1,h2⟩,S,_⟩:=f ps hc;exact⟨l,ao,pc,h1,λd h=>by injection h with h;subst h;exact⟨S,h2⟩⟩
 obtain⟨l,ao,pc,bl,d⟩:=bo
 subst bl
 have XY:=I d
 have ae:=I (aa r q)
 obtain⟨m,k⟩:=aq l.length
 rw[k]
 have Q:=I k
 clear f b d q r j k
 obtain⟨b1,d⟩:=aq O.isSome
 obtain⟨b2,f⟩:=aq CC.isSome
 rw[d,f]
 have ab:=I d
 have ad:=I f
 obtain⟨ar,b⟩:=aq ((!b1||(!b2||(decide ((300:Int)<(n:Int))||decide ((m:Int)=0)))))
 have sj:=I b
 clear d f b
 go_upto_region 3 with fail
 go_cut [40] (λz wx=>z=.bool ar/\w2=wx)
 case first=>
  cases b1 with
  |false=>
   go_wp2;go_meet
   case rel=>exact⟨by rw[<-sj];rfl,rfl⟩
  |true=>
   cases b2 with
   |false=>
    go_wp2;go_meet
    case rel=>exact⟨by rw[<-sj];rfl,rfl⟩
   |true=>
    by_cases S:(300:Int)<(n:Int)
    .have t:=I S;go_wp2;go_meet
     case rel=>exact⟨by rw[<-sj,ee t.o];rfl,rfl⟩
    .have t:=I (fh.1 S);by_cases h4:(m:Int)=0
     .have b:=I h4;have d:((m:Int)==0)=true:=(by rw[h4];rfl);go_wp2;go_meet
      case rel=>exact⟨by rw[<-sj,ee b.o,cY (fh.2 t.o)];rfl,rfl⟩
     .have b:=I h4;have d:((m:Int)==0)=false:=(by simpa using h4);go_wp2;go_meet
      case rel=>exact⟨by rw[<-sj,cY b.o,cY (fh.2 t.o)];rfl,rfl⟩
 case rest=>
  obtain⟨rfl,rfl⟩:=hcut;cases ar with
  |true=>
   have J:dF M now A=(aY now 60,M):=by
    refine V0 (λhl=>?_);have h:=sj.o;rw[vO,HO];cases B:O with
    |none=>exact .inl rfl
    |some d=>
     have R:=af d B;subst R;show Box.dG d=none\/Box.dG d=some [];rw[Rf];cases b:CC with
     |none=>exact .inl rfl
     |some ps=>
      right;have V:b1=true:=(by rw[<-ab,B];rfl);have k:b2=true:=(by rw[<-ad,b];rfl);have j:¬ (300:Int)<(n:Int):=(by have:=Ko.o;omega);rw[V,k,cY j]at h;simp at h;have f:l=[]:=List.length_eq_zero_iff.1 (by have:=Q.o;omega);rw[<-(XY.o ps b).1,f];rfl
   have Ie:=I J;clear J;go_wp2_with fail;refine(CR _).mono ?_;rintro e w3 ⟨o,rfl,hH,P⟩;have HH:=I (cZ hH P);clear hH P;go_wp2;go_ret;exact⟨_,rfl,Dq HD Ie ae HH.1 HH.2⟩
  |false=>
   have aj:∃ps,lL A=some ps/\l.map Pc.pair=ps/\n<=300/\l≠[]/\(∀p∈l,p.ins.length<=900)/\∃K,ao=some ⟨K,0,none⟩/\jT w2 K l:=by
    have h:=sj.o;simp at h;obtain⟨h1,h2,S,h4⟩:=h;have B:=cD.1 (by rw[ab];exact h1);have b:=cD.1 (by rw[ad];exact h2);obtain⟨d,B⟩:=B;obtain⟨ps,b⟩:=b;have R:=af d B;subst R;have f:l≠[]:=λe=>by have:=Q.o;rw[e]at this;simp at this;omega
    obtain⟨q1,q2⟩:=XY ps b;have av:=acZ (HO.o.trans B);refine⟨ps,?_,q1,by omega,f,λp j=>?_,q2 f⟩
    .rw[vO,HO,B];show Box.dG d=some ps;rw[Rf,b]
    .have:=Box.mq (Rf.o.trans b) p.pair (by rw[<-q1];exact eS j);have L:p.ins.length<=d.length:=this;have:=Ko.o;omega
   obtain⟨ps,u,k,YS,f,j,K,bm,T⟩:=aj;subst bm;have X:=I T;have D:=I u;have d:=I k;have D7:=I j;have Tf:Hid (A.length<=300):=(by show _<=_;rw[Ko];exact YS);obtain⟨p,r,b⟩:∃p r,l=p::r:=by cases l with|nil=>exact absurd rfl f|cons p r=>exact⟨p,r,rfl⟩
   have U:=I (uR p w2 (T.2 p (by rw[b];exact List.mem_cons_self ..)).1);have c0:w2.cell? (F K 0)=some (.int .u8 (p.tag.toNat:Int)):=(by have:=T.tag 0 (by rw[b];simp);simpa[b]using this);have V:w2.cell? (F K 1)=some (.slice p.ad p.ins.length p.cap):=(by have:=T.ins 0 (by rw[b];simp);simpa[b]using this);have az:(0:Int)<(m:Int):=(by have:=Q.o;rw[b]at this;simp at this;omega);have HLR:=I b;obtain⟨nb,q⟩:=aq ((bG p.pair).isSome);rw[q]at U;have HNB:=I q;clear u k YS f j T b q sj XY ab ad HO Rf af bk;go_wp2_with fail;refine U.mono ?_;rintro e w3 ⟨kv,rfl,u,P⟩;have lh:=I (aa ae P);have wC:=I (X.grown P);have HKV:=I u;have an:Hid (RD w3 a yb M g):=HD.keep (λb f=>lh.block b (HD.o.lt b f).2 Z);have al:Hid (a<=w3.1.size):=cE ai lh.size;clear U c0 V X u P ae;obtain⟨q1,b⟩:=aq ((nb&&(decide (kv=10)&&decide ((m:Int)=9))));have P:=I b;clear b;go_upto_region 8 with fail
   go_cut [50] (λz wx=>z=.bool q1/\w3=wx)
   case first=>
    cases nb with
    |false=>
     go_wp2;go_meet
     case rel=>exact⟨by rw[<-P];rfl,rfl⟩
    |true=>
     by_cases L:kv=10
     .have t:=I L;have ag:(kv==10)=true:=(by rw[L];rfl);by_cases T:(m:Int)=9
      .have PE:=I T;have ah:((m:Int)==9)=true:=(by rw[T];rfl);go_wp2;go_meet
       case rel=>exact⟨by rw[<-P,ee t.o,ee PE.o];rfl,rfl⟩
      .have PE:=I T;have ah:((m:Int)==9)=false:=(by simpa using T);go_wp2;go_meet
       case rel=>exact⟨by rw[<-P,ee t.o,cY PE.o];rfl,rfl⟩
     .have t:=I L;have ag:(kv==10)=false:=(by simpa using L);go_wp2;go_meet
      case rel=>exact⟨by rw[<-P,cY t.o];rfl,rfl⟩
   case rest=>
    obtain⟨rfl,rfl⟩:=hcut;cases q1 with
    |true=>
     have h:=P.o;simp at h;obtain⟨h1,h2,S⟩:=h;have Yl:l.length=9:=(by have:=Q.o;omega);have f:bG p.pair=some 10:=by
      exact IG
     obtain⟨p0,U,V,X,p4,p5,p6,p7,b,hl⟩:=UE Yl;have ak:p=p0:=DO;subst ak;have k:m=9:=G;subst k;have C:=I (M7 a yb M g now K pc p U V X p4 p5 p6 p7 b w3 an ba al (by rw[<-hl];exact wC) (by rw[<-hl];exact D7) f cO bc ax au);have J:dF M now A=dD M now (ow M now ([p,U,V,X,p4,p5,p6,p7,b].map Pc.pair)):=by
      rw[<-hl,d];exact Yx Tf D (by rw[<-d,hl];exact⟨_,_,rfl,f⟩)
     have Ie:=I J;obtain⟨RR,j⟩:=aq (ow M now ([p,U,V,X,p4,p5,p6,p7,b].map Pc.pair));have Ra:Hid (bT (nD M RR)):=VH (λc hc=>acX (j.trans hc));rw[j]at C Ie;clear h1 h2 S Yl f hl J P D d D7 HLR HKV wC HNB Q j az;go_wp2_with fail;refine C.mono ?_;rintro e w4 ⟨o,c,rfl,hS⟩;have HMd:=I (Yy (now:=now) hS);exact LR
    |false=>
     obtain⟨q2,bb⟩:=aq ((nb&&(decide (kv=12)&&decide ((m:Int)=8))));have b:=I bb;clear bb;go_upto_region 10 with fail
     go_cut [68] (λz wx=>z=.bool q2/\w3=wx)
     case first=>
      cases nb with
      |false=>
       go_wp2;go_meet
       case rel=>exact⟨by rw[<-b];rfl,rfl⟩
      |true=>
       by_cases L:kv=12
       .have t:=I L;have ag:(kv==12)=true:=(by rw[L];rfl);by_cases T:(m:Int)=8
        .have PE:=I T;have ah:((m:Int)==8)=true:=(by rw[T];rfl);go_wp2;go_meet
         case rel=>exact⟨by rw[<-b,ee t.o,ee PE.o];rfl,rfl⟩
        .have PE:=I T;have ah:((m:Int)==8)=false:=(by simpa using T);go_wp2;go_meet
         case rel=>exact⟨by rw[<-b,ee t.o,cY PE.o];rfl,rfl⟩
       .have t:=I L;have ag:(kv==12)=false:=(by simpa using L);go_wp2;go_meet
        case rel=>exact⟨by rw[<-b,cY t.o];rfl,rfl⟩
     case rest=>
      obtain⟨rfl,rfl⟩:=hcut;cases q2 with
      |true=>
       have h:=b.o;simp at h;obtain⟨h1,h2,S⟩:=h;have Yl:l.length=8:=(by have:=Q.o;omega);have f:bG p.pair=some 12:=by
        exact IG
       obtain⟨p0,U,V,X,p4,p5,p6,p7,hl⟩:=UF Yl;have ak:p=p0:=DO;subst ak;have k:m=8:=G;subst k;have C:=I (QB a yb M g now K pc p U V X p4 p5 p6 p7 w3 an ba al (by rw[<-hl];exact wC) (by rw[<-hl];exact D7) f cO bc ax au bn yo);have J:dF M now A=dD (oF M now ([p,U,V,X,p4,p5,p6,p7].map Pc.pair)).2 now (oF M now ([p,U,V,X,p4,p5,p6,p7].map Pc.pair)).1:=by
        rw[<-hl,d];exact acU Tf D (by rw[<-d,hl];exact⟨_,_,rfl,f⟩)
       have Ie:=I J;obtain⟨RR,j⟩:=aq (oF M now ([p,U,V,X,p4,p5,p6,p7].map Pc.pair));have Ra:Hid (bT (nD RR.2 RR.1)):=VH (λc hc=>VF (M:=M) (now:=now) (ps:=[p,U,V,X,p4,p5,p6,p7].map Pc.pair) (by rw[j];exact hc));rw[j]at C Ie;clear h1 h2 S Yl f hl J P b D d D7 HLR HKV wC HNB Q j az;go_wp2_with fail;refine C.mono ?_;rintro e w4 ⟨o,c,rfl,hS⟩;have HMd:=I (acW (now:=now) hS);exact LR
      |false=>
       have J:dF M now A=(aY now 60,M):=by
        have h1:=P.o;have h2:=b.o;refine acV Tf D (λf h e=>?_) (λf h e=>?_)
        .rintro⟨R,f⟩;rw[<-d,HLR]at e;injection e with e3 e4;subst e3;have q:nb=true:=(by rw[<-HNB,R];rfl);have u:=HKV.2 10 R;have k:(m:Int)=9:=(by have:=Q.o;rw[<-d,cU]at f;omega);rw[q,u,k]at h1;revert h1;decide
        .rintro⟨R,f⟩;rw[<-d,HLR]at e;injection e with e3 e4;subst e3;have q:nb=true:=(by rw[<-HNB,R];rfl);have u:=HKV.2 12 R;have k:(m:Int)=8:=(by have:=Q.o;rw[<-d,cU]at f;omega);rw[q,u,k]at h2;revert h2;decide
       have Ie:=I J;clear J P b;go_wp2_with fail;refine(CR _).mono ?_;rintro e w4 ⟨o,rfl,hH,f⟩;have HH:=I (cZ hH f);clear hH f;go_wp2;go_ret;exact⟨_,rfl,Dq HD Ie lh HH.1 HH.2⟩
