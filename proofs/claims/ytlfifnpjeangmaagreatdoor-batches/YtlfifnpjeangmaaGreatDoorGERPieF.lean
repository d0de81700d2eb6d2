import Derived.Test.YtlfifnpjeangmaaGreatDoorGEQLookB
import Derived.Test.YtlfifnpjeangmaaGreatDoorGEDeskI
namespace Go.Proofs.YtlfifnpjeangmaaGreatDoor
set_option maxHeartbeats 4000000
open Proofs.Tryz Go.RowKit
set_option maxRecDepth 100000
variable {p:Prop}
theorem vY{p:Pc}{y:List UInt8}(h:dh p.pair=some y):y=p.ins:=by
 unfold dh at h;split at h
 ·injection h with h;exact h.symm
 ·cases h
def aju(p:PF):Prop:=In64 p.time/\In64 p.count
theorem oK:aju ⟨[],0,0⟩:=⟨gL,gL⟩
theorem aaB(h:p:=by
 go_wp2
 refine bodyPost_ret (aF results145 _ _ _ w.heap.size rfl _ (oJ (fD HC.o _ _ _))) rfl ?_
 exact⟨⟨[],0,0⟩,by rw[HO.o];rfl,λq hq=>(by rw[HO.o]at hq;cases hq),oK,az (az (az (HG.o) (cy _)) (cy _)) (cy _)⟩):p:=h
theorem ND(zs)(v)(w)(h:Has w v zs)(hl:zs.length<=100000):
  Calls prog 145 #[v] w λe w'=>∃p,e=.returned (.tuple #[.agg p.cells.toArray,.bool (fG zs).isSome])/\(∀q,fG zs=some q->p=q)/\aju p/\w.grownBy w' none:=by
 have D:Hid (fG zs=((uK 48 zs).bind Box.dF).bind tN):=by show _=_;unfold fG;rw[uL]
 obtain⟨O,hO⟩:=aq (fG zs)
 rw[hO]at D⊢
 clear hO
 have HG:=hid (cx w (.cells #[.string ⟨#[]⟩,ι 0,ι 0] 283) none)
 have HC:=hid (Live.new w #[.string ⟨#[]⟩,ι 0,ι 0] 283)
 have H1:Hid (Calls prog 65 #[v,.int .u8 48] (w.alloc (.cells #[.string ⟨#[]⟩,ι 0,ι 0] 283)) λe w'=>∃x i,e=.returned (.tuple #[x,.bool (uK 48 zs).isSome])/\Has w' x i/\i.length<=65535/\(∀j,uK 48 zs=some j->j=i)/\(w.alloc (.cells #[.string ⟨#[]⟩,ι 0,ι 0] 283)).grownBy w' none):=zS 48 zs v _ (h.grown HG.o) agE
 obtain⟨OM,H⟩:=aq (uK 48 zs)
 rw[H]at D H1
 clear h hl H
 go_enter func145,ntmps145
 go_wp2_with (go_at_call 65;refine H1.o.mono ?_;clear H1;rintro e w1 ⟨x1,i,rfl,F,hi,hj,R⟩;have kF:=hid (aa HG.o R);have sO:=hid (HC.o.grown R);have X:=hid hj;have HI:=hid hi;have HP:=hid (qO i x1 w1 F.prt agE);clear HG HC R F hj hi)
 refine HP.o.mono ?_
 rintro e w2 ⟨x,rfl,J,E,V⟩
 have HG:=hid (aa kF.o V)
 have HC:=hid (sO.o.grown V)
 clear HP V kF sO
 obtain⟨⟨e0,k0⟩,⟨e1,k1⟩,⟨e2,k2⟩,f0,f1,f2⟩:=IP HC.o
 cases OM with
 |none=>
  have HO:Hid (O=none):=D.o;clear D J E X;simp only[Option.isSome_none];exact aaB
 |some j=>
  obtain rfl:=X.o j rfl;simp only[dj];have f:Hid (O=(Box.dF j).bind tN):=D.o;clear D X;have P:Hid (∀ps,Box.dF j=some ps->∀q∈ps,q.2.length<=65535):=λps k q hq=>cE (Box.lX k q hq) HI.o;obtain⟨cl,I⟩:=aq (Box.dF j);rw[I]at f J E P⊢;clear I HI;cases cl with
  |none=>
   have HO:Hid (O=none):=f.o;obtain rfl:=E rfl;clear f J E;simp only[Option.isSome_none];exact aaB
  |some ps=>
   obtain⟨l,Z,k,_⟩:=J ps rfl;clear J E;simp only[dj];by_cases hn:l.length=3
   ·obtain⟨d,z,u,rfl⟩:=EP hn;have TR:Hid (∀q∈[d,z,u],q.ins.length<=65535):=λq hq=>P.o ps rfl q.pair (by rw[<-k];exact eK hq);clear P;obtain⟨g,c,rfl,L⟩:=Z.some agI;have BZ:=hid L;have s:Hid (O=(dh d.pair).bind λc=>(bG z.pair).bind λt=>(bG u.pair).bind λn=>some ⟨c,t,n⟩):=by
     show _=_;rw[f.o,<-k];rfl
    have c0:w2.cell? (g,0)=some (.int .u8 d.tag.toNat):=L.tag 0 agI;have c1:w2.cell? (g,1)=some (.slice d.ad d.ins.length d.cap):=L.ins 0 agI;have U:=hid (qQ d w2 (L.2 d agI).1 (cE (TR.o d agI) agF));have HV:Hid (∀W,jJ W g [d,z,u]->Calls prog 97 #[.slice (some (g,0)) 3 c,ι 1,ι 3] W λe w'=>∃o Q,e=.returned (.tuple #[o,.bool ((bG z.pair).isSome&&(bG u.pair).isSome)])/\rG [z,u] Q/\w'.ownsRow W.heap.size 2 1 o Q.length (Q.map I64)/\W.grownBy w' none):=λW hW=>by
     have:=uM 1 3 3 g c [d,z,u] W (hid rfl) agF agF agF hW;simpa[jS]using this
    have G:Hid (∀y,dh d.pair=some y->y=d.ins):=λy hy=>vY hy;obtain⟨N,hN⟩:=aq (dh d.pair);rw[hN]at U s G;clear f k hn Z L hN;simp only[de,List.length_nil];go_wp2_with (go_at_call 96;refine U.o.mono ?_;clear U;rintro e w3 ⟨rfl,M⟩;have vg:=hid (BZ.o.grown M);have kR:=hid (aa HG.o M);have yf:=hid (HC.o.grown M);clear BZ HG HC M c0 c1 k0 k1 k2 f0 f1 f2)
    refine(HV.o _ vg.o).mono ?_;rintro e w4 ⟨o,Q,rfl,Zi,C,T⟩;obtain⟨v1,v2,rfl,q1,q2⟩:=Zi.two;obtain⟨go,co,rfl,r,_⟩:=jI C agI;have r0:w4.cell? (go,0)=some (ι v1):=r 0 _ rfl;have r1:w4.cell? (go,1)=some (ι v2):=r 1 _ rfl;have HG:=hid (aa kR.o T);have HC:=hid (yf.o.grown T);obtain⟨⟨e0,k0⟩,⟨e1,k1⟩,⟨e2,k2⟩,f0,f1,f2⟩:=IP HC.o;have K:Hid ((In64 v1/\∀y,bG z.pair=some y->v1=y)/\(In64 v2/\∀y,bG u.pair=some y->v2=y)):=⟨q1,q2⟩
    obtain⟨A,Y⟩:=aq (bG z.pair);obtain⟨B,S⟩:=aq (bG u.pair);rw[Y,S]at s K;rw[Y,S];simp only[de,List.length_nil];clear HV vg kR yf T r C Zi q1 q2 Y S TR;cases N with
    |none=>
     have HO:Hid (O=none):=s.o;clear s;simp only[Option.isSome_none];exact aaB
    |some y=>
     obtain rfl:=G.o y rfl;simp only[dj];cases A with
     |none=>
      have HO:Hid (O=none):=s.o;clear s;simp only[Option.isSome_none,gj];exact aaB
     |some a=>
      obtain rfl:=K.o.1.2 a rfl;cases B with
      |none=>
       have HO:Hid (O=none):=s.o;clear s;simp only[Option.isSome_none,dj,Bool.and_false];exact aaB
      |some b=>
       obtain rfl:=K.o.2.2 b rfl;have HO:Hid (O=some ⟨d.ins,v1,v2⟩):=s.o;clear s;simp only[dj,fW];go_wp2_with fail;go_region;go_wp2;(try simp only[Exit.inBlock,Exit.then]);refine bodyPost_ret (aF results145 _ _ _ w.heap.size rfl _ (oJ (fD HC.o _ _ _))) rfl ?_;exact⟨⟨d.ins,v1,v2⟩,by rw[HO.o];rfl,λq hq=>(by rw[HO.o]at hq;injection hq),⟨K.o.1.1,K.o.2.1⟩,bg (az (az (az (HG.o) (cy _)) (cy _)) (cy _))⟩
   ·have HO:Hid (O=none):=by
     show _=_;rw[f.o,<-k];exact ES _ (by rw[cR];exact hn)
    obtain⟨ao,c,rfl,_⟩:=Z;obtain⟨m,hm⟩:=aq l.length;rw[hm]at hn⊢;have b2:((m:Int) != 3)=true:=ahg;clear f k hn hm P;exact aaB
variable {b:Nat}{w:World}
theorem Kg(l d g m h i j)(v0 v3 v4 v5 v6)(u:iI l v0)(F:iI m v3)(B:iI h v4)(o:iI i v5)(K:iI j v6):
  (jO ([l,d,g,m,h,i,j].map Pc.pair)).isSome=((bG l.pair).isSome&&((dh g.pair).isSome&&(jS [m,h,i,j]&&(decide (d.tag.toNat=4)&&decide (d.ins.length=8)))))/\∀t,jO ([l,d,g,m,h,i,j].map Pc.pair)=some t->t=⟨v0,Pure.joinL 0 d.ins,g.ins,v3,v4,v5,v6⟩:=by
 have e:jO ([l,d,g,m,h,i,j].map Pc.pair)=(bG l.pair).bind λf=>(PR d.pair).bind λk=>(dh g.pair).bind λc=>(bG m.pair).bind λa=>(bG h.pair).bind λs=>(bG i.pair).bind λe=>(bG j.pair).bind λr=>some ⟨f,k,c,a,s,e,r⟩:=rfl
 have n:PR d.pair=if d.tag.toNat=4/\d.ins.length=8 then some (Pure.joinL 0 d.ins) else none:=rfl
 have hn:∀y,dh g.pair=some y->y=g.ins:=λy hy=>vY hy
 rw[e,n]
 unfold iI at *
 simp only[jS,List.all_cons,List.all_nil,fW]
 cases C:bG l.pair with
 |none=>grind
 |some G=>
  have L:=u.2 G C;by_cases q:d.tag.toNat=4/\d.ins.length=8
  ·rw[if_pos q];cases A:dh g.pair with
   |none=>grind
   |some E=>
    have I:=hn E A;cases v:bG m.pair with
    |none=>grind
    |some z=>
     have O:=F.2 z v;cases x:bG h.pair with
     |none=>grind
     |some H=>
      have P:=B.2 H x;cases D:bG i.pair with
      |none=>grind
      |some p=>
       have N:=o.2 p D;cases M:bG j.pair with
       |none=>grind
       |some J=>
        grind
  grind
theorem Q0{g j k:Nat}(h:b≠g)(v):(w.setCell (b,k) v).cell? (g,j)=w.cell? (g,j):=World.cell?_setCell_far _ _ _ _ h
theorem Vg(w:World)(a):w.drew.cell? a=w.cell? a:=rfl
theorem Zj{g j:Nat}(h:b≠g)(v0 v1 v2 v3 v4 v5 v6):(((((((w.setCell (b,0) v0).setCell (b,1) v1).setCell (b,2) v2).setCell (b,3) v3).setCell (b,4) v4).setCell (b,5) v5).setCell (b,6) v6).drew.cell? (g,j)=w.cell? (g,j):=by
 rw[Vg,Q0 h,Q0 h,Q0 h,Q0 h,Q0 h,Q0 h,Q0 h]
theorem Q3{o:Nat}{cs:List Value}(h:w.rangeAt b o cs):w.drew.rangeAt b o cs:=h
theorem rJ:TK.In ⟨0,0,[],0,0,0,0⟩:=⟨gL,gL,gL,gL,gL⟩
theorem aaM(h:p:=by
 go_wp2
 go_meet
 case rel=>exact⟨by rw[HS.o];rfl,rfl⟩):p:=h
theorem aaN(h:p:=by
 go_wp2
 refine bodyPost_ret (aF results113 _ _ _ w.heap.size rfl _ (iE (fe HC.o _ _ _ _ _ _ _))) rfl ?_
 exact⟨⟨0,0,[],0,0,0,0⟩,by rw[HO.o];rfl,λq hq=>(by rw[HO.o]at hq;cases hq),rJ,az (az (az (az (az (az (az (HG.o) (cy _)) (cy _)) (cy _)) (cy _)) (cy _)) (cy _)) (cy _)⟩):p:=h
theorem zV(zs)(v)(w)(h:Has w v zs)(hl:zs.length<=100000):
  Calls prog 113 #[v] w λe w'=>∃p,e=.returned (.tuple #[.agg p.cells.toArray,.bool (dR zs).isSome])/\(∀q,dR zs=some q->p=q)/\p.In/\w.grownBy w' none:=by
 have R:Hid (dR zs=((uK 48 zs).bind Box.dF).bind jO):=by show _=_;unfold dR;rw[uL]
 obtain⟨O,hO⟩:=aq (dR zs)
 rw[hO]at R⊢
 clear hO
 have HG:=hid (cx w (.cells #[ι 0,υ 0,.string ⟨#[]⟩,ι 0,ι 0,ι 0,ι 0] 43) none)
 have HC:=hid (Live.new w #[ι 0,υ 0,.string ⟨#[]⟩,ι 0,ι 0,ι 0,ι 0] 43)
 have H1:Hid (Calls prog 65 #[v,.int .u8 48] (w.alloc (.cells #[ι 0,υ 0,.string ⟨#[]⟩,ι 0,ι 0,ι 0,ι 0] 43)) λe w'=>∃x i,e=.returned (.tuple #[x,.bool (uK 48 zs).isSome])/\Has w' x i/\i.length<=65535/\(∀j,uK 48 zs=some j->j=i)/\(w.alloc (.cells #[ι 0,υ 0,.string ⟨#[]⟩,ι 0,ι 0,ι 0,ι 0] 43)).grownBy w' none):=zS 48 zs v _ (h.grown HG.o) agE
 obtain⟨OM,X⟩:=aq (uK 48 zs)
 rw[X]at R H1
 clear h hl X
 go_enter func113,ntmps113
 go_wp2_with (go_at_call 65;refine H1.o.mono ?_;clear H1;rintro e w1 ⟨x1,i,rfl,ab,hi,hj,g1⟩;have kF:=hid (aa HG.o g1);have sO:=hid (HC.o.grown g1);have HJ:=hid hj;have HI:=hid hi;have HP:=hid (qO i x1 w1 ab.prt agE);clear HG HC g1 ab hj hi)
 refine HP.o.mono ?_
 rintro e w2 ⟨x,rfl,h1,T,g2⟩
 have HG:=hid (aa kF.o g2)
 have HC:=hid (sO.o.grown g2)
 have au:=sO.o.lt
 clear HP g2 kF sO
 obtain⟨⟨e0,k0⟩,⟨e1,k1⟩,⟨e2,k2⟩,⟨e3,k3⟩,⟨e4,k4⟩,⟨e5,k5⟩,⟨e6,k6⟩,f0,f1,f2,f3,f4,f5,f6⟩:=pR HC.o
 cases OM with
 |none=>
  have HO:Hid (O=none):=R.o;clear R h1 T HJ;simp only[Option.isSome_none];exact aaN
 |some j=>
  obtain rfl:=HJ.o j rfl;simp only[dj];have r:Hid (O=(Box.dF j).bind jO):=R.o;clear R HJ;have Jy:Hid (∀ps,Box.dF j=some ps->∀q∈ps,q.2.length<=65535):=λps n q hq=>cE (Box.lX n q hq) HI.o;obtain⟨cl,Y⟩:=aq (Box.dF j);rw[Y]at r h1 T Jy⊢;clear Y HI;cases cl with
  |none=>
   have HO:Hid (O=none):=r.o;obtain rfl:=T rfl;clear r h1 T;simp only[Option.isSome_none];exact aaN
  |some ps=>
   obtain⟨l,hv,n,_,J⟩:=h1 ps rfl;clear h1 T;simp only[dj];by_cases hn:l.length=7
   ·obtain⟨s,a,d,y,u,A,B,rfl⟩:=QY hn;have TR:Hid (∀q∈[s,a,d,y,u,A,B],q.ins.length<=65535):=λq hq=>Jy.o ps rfl q.pair (by rw[<-n];exact eK hq);clear Jy;obtain⟨g,c,rfl,nW⟩:=hv.some agI;have al:=J g c rfl;have an:w.heap.size≠g:=agE;have av:g≠w.heap.size:=agE;clear J al;have F:=hid nW;have ym:Hid (O=jO ([s,a,d,y,u,A,B].map Pc.pair)):=by
     show _=_;rw[r.o,<-n];rfl
    have c0:w2.cell? (g,0)=some (.int .u8 s.tag.toNat):=nW.tag 0 agI;have c1:w2.cell? (g,1)=some (.slice s.ad s.ins.length s.cap):=nW.ins 0 agI;have G:=hid (uh s w2 (nW.2 s agI).1);have HN:Hid (∀W,jJ W g [s,a,d,y,u,A,B]->Calls prog 96 #[.agg #[.int .u8 d.tag.toNat,.slice d.ad d.ins.length d.cap]] W λe w'=>e=.returned (.tuple #[.string d.ins,.bool (dh d.pair).isSome])/\W.grownBy w' none):=λW hW=>qQ d W (hW.2 d agI).1 (cE (TR.o d agI) agF);have HV:Hid (∀W,jJ W g [s,a,d,y,u,A,B]->Calls prog 97 #[.slice (some (g,0)) 7 c,ι 3,ι 7] W λe w'=>∃o vs,e=.returned (.tuple #[o,.bool (jS [y,u,A,B])])/\rG [y,u,A,B] vs/\w'.ownsRow W.heap.size 2 1 o vs.length (vs.map I64)/\W.grownBy w' none):=λW hW=>uM 3 7 7 g c [s,a,d,y,u,A,B] W (hid rfl) agF agF agF hW;have HK:Hid (∀W,jJ W g [s,a,d,y,u,A,B]->Calls prog 85 #[.slice a.ad a.ins.length a.cap] W λe w'=>e=.returned (υ ((Pure.joinL 0 a.ins).toNat:Int))/\W=w'):=λW hW=>vw a.ins a.ins.length a.ad a.cap W (hid rfl) (cE (TR.o a agI) agF) (hW.2 a agI).1;clear r n hn hv nW;obtain⟨bn,Q⟩:=aq ((dh d.pair).isSome);obtain⟨ba,I⟩:=aq (jS [y,u,A,B]);obtain⟨b0,H⟩:=aq ((bG s.pair).isSome);rw[H]at G;rw[Q]at HN;rw[I]at HV;have af:=hid Q;have ae:=hid I;have Z:=hid H;clear Q I H;simp only[de,List.length_nil];go_wp2_with (first|(go_at_call 68;refine G.o.mono ?_;clear G;rintro e w3 ⟨v0,rfl,V,g3⟩;have M:=hid V;have vg:=hid (F.o.grown g3);have kR:=hid (aa HG.o g3);have yf:=hid (HC.o.grown g3);have c4:w3.cell? (g,4)=some (.int .u8 d.tag.toNat):=vg.o.tag 2 agI;have c5:w3.cell? (g,5)=some (.slice d.ad d.ins.length d.cap):=vg.o.ins 2 agI;clear F HG HC g3 c0 c1 V k0 k1 k2 k3 k4 k5 k6 f0 f1 f2 f3 f4 f5 f6)|(go_at_call 96;refine(HN.o _ vg.o).mono ?_;clear HN;rintro e w5 ⟨rfl,g5⟩;have N:=hid (vg.o.grown g5);have MP:=hid (aa kR.o g5);have D:=hid (yf.o.grown g5);clear vg kR yf g5 c4 c5))
    refine(HV.o _ N.o).mono ?_;rintro e K ⟨o,vs,rfl,Zi,E,g4⟩;obtain⟨v3,v4,v5,v6,rfl,q3,q4,q5,q6⟩:=Zi.four;obtain⟨f,co,rfl,k,aj⟩:=jI E agI;have C:w.heap.size≠f:=(by have:=D.o.lt;omega);have aw:f≠w.heap.size:=(by have:=D.o.lt;omega);clear aj;have GN:Hid (K.cell? (f,0)=some (ι v3)/\K.cell? (f,1)=some (ι v4)/\K.cell? (f,2)=some (ι v5)/\K.cell? (f,3)=some (ι v6)):=⟨k 0 _ rfl,k 1 _ rfl,k 2 _ rfl,k 3 _ rfl⟩
    have HG:=hid (aa MP.o g4);have HC:=hid (D.o.grown g4);have F:=hid (N.o.grown g4);have S:=hid (Kg s a d y u A B v0 v3 v4 v5 v6 M.o q3 q4 q5 q6);have OV:Hid (TK.In ⟨v0,Pure.joinL 0 a.ins,d.ins,v3,v4,v5,v6⟩):=⟨M.o.1,q3.1,q4.1,q5.1,q6.1⟩
    rw[<-ym.o,af.o,ae.o,Z.o]at S;simp only[de,List.length_nil];clear HV N MP D g4 k E Zi q3 q4 q5 q6 TR af ae Z ym M;obtain⟨kl,hkl⟩:=aq a.ins.length;obtain⟨kt,P⟩:=aq a.tag.toNat;have c2:K.cell? (g,2)=some (.int .u8 a.tag.toNat):=F.o.tag 1 agI;have U:K.cell? (g,3)=some (.slice a.ad a.ins.length a.cap):=F.o.ins 1 agI;rw[P]at c2;rw[hkl]at U;rw[hkl]at HK;rw[hkl,P]at S;clear hkl P;go_upto_region 8 with fail
    go_cut [79] (λz wx=>z=.bool (!O.isSome)/\wx=K)
    case first=>
     have HB:Hid (O.isSome=(b0&&(bn&&(ba&&(decide (kt=4)&&decide (kl=8)))))):=S.o.1;clear S;cases b0 with
     |false=>
      have HS:Hid (O.isSome=false):=HB.o;clear HB;exact aaM
     |true=>
      cases bn with
      |false=>
       have HS:Hid (O.isSome=false):=HB.o;clear HB;exact aaM
      |true=>
       cases ba with
       |false=>
        have HS:Hid (O.isSome=false):=HB.o;clear HB;exact aaM
       |true=>
        by_cases h4:kt=4
        ·have ak:((kt:Int) != 4)=false:=ahv;by_cases h8:kl=8
         ·have ar:((kl:Int) != 8)=false:=ahv;have HS:Hid (O.isSome=true):=(by show _=_;rw[HB.o];simp[h4,h8]);clear HB h4 h8;exact aaM
         ·have ar:((kl:Int) != 8)=true:=ahg;have HS:Hid (O.isSome=false):=(by show _=_;rw[HB.o];simp[h8]);clear HB h4 h8;exact aaM
        ·have ak:((kt:Int) != 4)=true:=ahg;have HS:Hid (O.isSome=false):=(by show _=_;rw[HB.o];simp[h4]);clear HB h4;exact aaM
    case rest=>
     obtain⟨rfl,rfl⟩:=hcut;have L:=hid S.o.2;clear S c2;obtain⟨⟨e0,k0⟩,⟨e1,k1⟩,⟨e2,k2⟩,⟨e3,k3⟩,⟨e4,k4⟩,⟨e5,k5⟩,⟨e6,k6⟩,f0,f1,f2,f3,f4,f5,f6⟩:=pR HC.o;cases O with
     |none=>
      clear L HK U;simp only[Option.isSome_none,eM];go_wp2;refine bodyPost_ret (aF results113 _ _ _ w.heap.size rfl _ (iE (fe HC.o _ _ _ _ _ _ _))) rfl ?_;exact⟨⟨0,0,[],0,0,0,0⟩,rfl,λq hq=>(by cases hq),rJ,az (az (az (az (az (az (az (HG.o) (cy _)) (cy _)) (cy _)) (cy _)) (cy _)) (cy _)) (cy _)⟩
     |some t=>
      obtain rfl:=L.o t rfl;clear L;simp only[dj,eV];have ah:Hid (Calls prog 85 #[.slice a.ad kl a.cap] (wc.drew) λe w'=>e=.returned (υ ((Pure.joinL 0 a.ins).toNat:Int))/\wc.drew=w'):=HK.o _ (F.o.grown (bg (cC _ _)));obtain⟨r0,r1,r2,r3⟩:=GN.o;have ai:Hid (wc.drew.cell? (g,3)=some (.slice a.ad kl a.cap)/\wc.drew.cell? (f,0)=some (ι v3)/\wc.drew.cell? (f,1)=some (ι v4)/\wc.drew.cell? (f,2)=some (ι v5)/\wc.drew.cell? (f,3)=some (ι v6)):=⟨U,r0,r1,r2,r3⟩
      have ag:Hid (∀u0 u1 u2 u3 u4 u5 u6,(((((((wc.setCell (w,0) u0).setCell (w,1) u1).setCell (w,2) u2).setCell (w,3) u3).setCell (w,4) u4).setCell (w,5) u5).setCell (w,6) u6).drew.cell? (g,3)=some (.slice a.ad kl a.cap)/\(((((((wc.setCell (w,0) u0).setCell (w,1) u1).setCell (w,2) u2).setCell (w,3) u3).setCell (w,4) u4).setCell (w,5) u5).setCell (w,6) u6).drew.cell? (f,0)=some (ι v3)/\(((((((wc.setCell (w,0) u0).setCell (w,1) u1).setCell (w,2) u2).setCell (w,3) u3).setCell (w,4) u4).setCell (w,5) u5).setCell (w,6) u6).drew.cell? (f,1)=some (ι v4)/\(((((((wc.setCell (w,0) u0).setCell (w,1) u1).setCell (w,2) u2).setCell (w,3) u3).setCell (w,4) u4).setCell (w,5) u5).setCell (w,6) u6).drew.cell? (f,2)=some (ι v5)/\(((((((wc.setCell (w,0) u0).setCell (w,1) u1).setCell (w,2) u2).setCell (w,3) u3).setCell (w,4) u4).setCell (w,5) u5).setCell (w,6) u6).drew.cell? (f,3)=some (ι v6)):=λu0 u1 u2 u3 u4 u5 u6=>⟨(Zj an _ _ _ _ _ _ _).trans U,(Zj C _ _ _ _ _ _ _).trans r0,(Zj C _ _ _ _ _ _ _).trans r1,(Zj C _ _ _ _ _ _ _).trans r2,(Zj C _ _ _ _ _ _ _).trans r3⟩
      clear HK F;go_wp2_with fail;go_region_held3 (λw'=>w'.cell? ⟨g,3,none⟩=some (.slice a.ad kl a.cap)/\w'.cell? ⟨f,0,none⟩=some (ι v3)/\w'.cell? ⟨f,1,none⟩=some (ι v4)/\w'.cell? ⟨f,2,none⟩=some (ι v5)/\w'.cell? ⟨f,3,none⟩=some (ι v6)) (first|(with_reducible exact ai.o)|(with_reducible exact⟨U,r0,r1,r2,r3⟩)|(with_reducible exact ag.o _ _ _ _ _ _ _)|go_keep) (first|(go_at_call 85;refine ah.o.mono ?_;rintro e w6 ⟨rfl,rfl⟩));go_wp2;(try simp only[Exit.inBlock,Exit.then]);refine bodyPost_ret (aF results113 _ _ _ w.heap.size rfl _ (iE (Q3 (fe HC.o _ _ _ _ _ _ _)))) rfl ?_;exact⟨_,rfl,λq hq=>(by injection hq),OV.o,bg (az (az (az (az (az (az (az (HG.o) (cy _)) (cy _)) (cy _)) (cy _)) (cy _)) (cy _)) (cy _))⟩
   ·have HO:Hid (O=none):=by
     show _=_;rw[r.o,<-n];exact Ca _ (by rw[cR];exact hn)
    obtain⟨ao,c,rfl,_⟩:=hv;obtain⟨m,hm⟩:=aq l.length;rw[hm]at hn⊢;have b2:((m:Int) != 7)=true:=ahg;clear r n hn hm Jy J;exact aaN
theorem Zk{a b:Int}(h:0<=a):a.tdiv b=a / b:=Int.tdiv_eq_ediv_of_nonneg h
theorem Zl{a b:Int}(h:0<=a):a.tmod b=a % b:=fk h
theorem lI(e:RE)(f)(w)(m:0<f)(a:0<=e.ae)(d:e.ae<64):
  Calls prog 100 #[.agg e.arr,ι f] w λr w'=>r=.returned (.bool (e.be.has f))/\w.grownBy w' none:=by
 have h:=cx w (.cells e.arr 166) none
 have b:=hid h
 have HB:Hid (e.be.has f=decide (e.ae / f % 2=1)):=rfl
 obtain⟨x,g⟩:=aq e.ae
 unfold RE.arr at b⊢
 rw[g]at b a d HB⊢
 have k:(f==0)=false:=agM
 have c:0<=x / f:=Int.ediv_nonneg a agE
 have i:x / f<64:=Int.lt_of_le_of_lt (Int.ediv_le_self _ a) d
 have n:x.tdiv f=x / f:=Zk a
 have p:(x / f).tmod 2=x / f % 2:=Zl c
 have l:¬ f=0:=agE
 have hw:wrap64 (x / f)=x / f:=ag9
 have j:wrap64 (x / f % 2)=x / f % 2:=ag9
 clear g h
 go_enter func100,ntmps100
 go_wp2
 go_ret
 exact⟨fM (by rw[HB.o];first|rfl|(rw[Bool.eq_iff_iff];simp)),b.o⟩
theorem IQ(e:RE)(now)(w):
  Calls prog 142 #[.agg e.arr,ι now] w λr w'=>r=.returned (.bool (e.be.gone now))/\w.grownBy w' none:=by
 have a:=hid (cx w (.cells e.arr 166) none)
 have HB:Hid (e.be.gone now=decide (e.bB≠0/\e.bB<=now)):=rfl
 obtain⟨x,b⟩:=aq e.bB
 unfold RE.arr at a⊢
 rw[b]at a HB⊢
 clear b
 by_cases c:x=0
 ·subst c;go_enter func142,ntmps142;go_wp2;go_ret;exact⟨fM (by rw[HB.o];simp),a.o⟩
 ·go_enter func142,ntmps142;go_wp2;go_ret;exact⟨fM (by rw[HB.o];simp[c]),a.o⟩
theorem acB(h:p:=by
 go_enter func112,ntmps112
 go_wp2
 go_ret2
 exact⟨by rw[HE.o];rfl,HG.o⟩):p:=h
theorem ET(e:RE)(n)(w)(c:1<=e.aH)(d:e.aH<=9223372036854775807):
  Calls prog 112 #[.agg e.arr,ι n] w λr w'=>r=.returned (.tuple #[υ (((e.be.keyOf n).getD 0).toNat:Int),.bool (e.be.keyOf n).isSome])/\w.grownBy w' none:=by
 have HG:=hid (cx w (.cells e.arr 166) none)
 have HB:Hid (e.be.keyOf n=if n=e.aH then some e.key else if n=e.aH-1/\1<e.aH then some e.before else none):=rfl
 obtain⟨R,g⟩:=aq (e.be.keyOf n)
 rw[g]at HB⊢
 obtain⟨x,f⟩:=aq e.aH
 unfold RE.arr at HG⊢
 rw[f]at HG HB c d⊢
 have hw:wrap64 (x-1)=x-1:=ag9
 clear f g
 by_cases b:n=x
 ·have HE:Hid (R=some e.key):=by show _=_;rw[HB.o,if_pos b]
  clear HB;subst b;exact acB
 ·by_cases a:n=x-1
  ·by_cases h:1<x
   ·have HE:Hid (R=some e.before):=(by show _=_;rw[HB.o,if_neg b,if_pos ⟨a,h⟩]);clear HB;have j:(n==x)=false:=agM;have i:(n==x-1)=true:=(by rw[db];exact a);clear a;exact acB
   ·have HE:Hid (R=none):=(by show _=_;rw[HB.o,if_neg b,if_neg (λq=>h q.2)]);clear HB;have i:(n==x-1)=true:=(by rw[db];exact a);clear a;exact acB
  ·have HE:Hid (R=none):=(by show _=_;rw[HB.o,if_neg b,if_neg (λq=>a q.1)]);clear HB;exact acB
def nP(x y:BE)(now a b:Int):Int:=if x.gone now=true then a else if y.gone now=true then b else if x.has 32=true\/y.has 32=true then 12 else 0
theorem aiQ(h:p:=by first|with_reducible rfl|(simp only[cF];done)|(simp only[cF];omega)):p:=h
variable {g:Nat}
theorem eu{b:Nat}{e:RE}(h:w.rangeAt b 0 e.cells):w.cell? (b,0)=some (ι e.k)/\w.cell? (b,1)=some (.string e.name)/\w.cell? (b,2)=some (υ e.zk.toNat)/\w.cell? (b,3)=some (ι e.bI)/\w.cell? (b,4)=some (ι e.aC)/\w.cell? (b,5)=some (ι e.bB)/\w.cell? (b,6)=some (ι e.ae)/\w.cell? (b,7)=some (ι e.aH)/\w.cell? (b,8)=some (υ e.key.toNat)/\w.cell? (b,9)=some (υ e.before.toNat):=
 ⟨h 0 _ rfl,h 1 _ rfl,h 2 _ rfl,h 3 _ rfl,h 4 _ rfl,h 5 _ rfl,h 6 _ rfl,h 7 _ rfl,h 8 _ rfl,h 9 _ rfl⟩
theorem vZ(w:World)(e:RE):(w.alloc (.cells e.arr 166)).rangeAt w.heap.size 0 e.cells:=aS w e.arr 166
theorem aB{w':World}{b o:Nat}{cs:List Value}(h:w.rangeAt b o cs)(k:w.grownBy w' none):w'.rangeAt b o cs:=λi v a=>k.cell (h i v a) agI
theorem adB(h:p:=by
 clear HR
 go_wp2
 go_ret
 exact⟨bD HS.o.symm,FH.o⟩):p:=h
theorem zW(d)(x y:RE)(now a b)(w)(M:0<=x.ae/\x.ae<64)(hy:0<=y.ae/\y.ae<64):
  Calls Tryz.prog 99 #[d,.agg x.arr,.agg y.arr,ι now,ι a,ι b] w λe w'=>e=.returned (ι (nP x.be y.be now a b))/\w.grownBy w' none:=by
 have S:=hid (aB (vZ w x) (cx _ (.cells y.arr 166) none))
 have U:Hid (((w.alloc (.cells x.arr 166)).alloc (.cells y.arr 166)).rangeAt (w.heap.size+1) 0 y.cells):=by
  have h:=vZ (w.alloc (.cells x.arr 166)) y;rw[cF]at h;exact h
 have N:=hid (aM (cx w (.cells x.arr 166) none) (.cells y.arr 166))
 have I:=hid (λW=>IQ x now W)
 have G:=hid (λW=>IQ y now W)
 have H:=hid (λW=>lI x 32 W agF M.1 M.2)
 have E:=hid (λW=>lI y 32 W agF hy.1 hy.2)
 have HR:Hid (nP x.be y.be now a b=if x.be.gone now=true then a else if y.be.gone now=true then b else if x.be.has 32=true\/y.be.has 32=true then 12 else 0):=rfl
 obtain⟨R,Q⟩:=aq (nP x.be y.be now a b)
 rw[Q]at HR⊢
 obtain⟨p,J⟩:=aq (x.be.gone now)
 obtain⟨q,L⟩:=aq (y.be.gone now)
 obtain⟨m,F⟩:=aq (x.be.has 32)
 obtain⟨n,hn⟩:=aq (y.be.has 32)
 rw[J,L,F,hn]at HR
 rw[J]at I
 rw[L]at G
 rw[F]at H
 rw[hn]at E
 clear J L F hn Q M hy
 go_enter Tryz.func99,Tryz.ntmps99
 go_wp2_with fail
 refine(I.o _).mono ?_
 rintro e Z ⟨rfl,C⟩
 have O:=hid (aB S.o C)
 have c:=hid (aB U.o C)
 have T:=hid (aa N.o C)
 clear S U N C I
 obtain⟨k,A,j,f,B,r,l,s,z,t⟩:=eu c.o
 go_wp2_with fail
 refine(G.o _).mono ?_
 rintro e w2 ⟨rfl,D⟩
 have V:=hid (aB O.o D)
 have v:=hid (aB c.o D)
 have i:=hid (aa T.o D)
 clear O c T D G k A j f B r l s z t
 obtain⟨k,A,j,f,B,r,l,s,z,t⟩:=eu V.o
 go_wp2_with fail
 refine(H.o _).mono ?_
 rintro e w3 ⟨rfl,K⟩
 have u:=hid (aB v.o K)
 have X:=hid (aa i.o K)
 clear V v i K H k A j f B r l s z t
 obtain⟨k,A,j,f,B,r,l,s,z,t⟩:=eu u.o
 go_wp2_with fail
 refine(E.o _).mono ?_
 rintro e Y ⟨rfl,P⟩
 have FH:=hid (aa X.o P)
 clear u X P E k A j f B r l s z t
 cases p with
 |true=>
  have HS:Hid (R=a):=HR.o;exact adB
 |false=>
  cases q with
  |true=>
   have HS:Hid (R=b):=HR.o;exact adB
  |false=>
   cases m with
   |true=>
    have HS:Hid (R=12):=(by show _=_;rw[HR.o];simp);exact adB
   |false=>
    cases n with
    |true=>
     have HS:Hid (R=12):=(by show _=_;rw[HR.o];simp);exact adB
    |false=>
     have HS:Hid (R=0):=(by show _=_;rw[HR.o];simp);exact adB
theorem acW{cs:Array Value}{e:TypeId}{l:List Value}(a:cs.toList=l)(h:g=w.heap.size):(w.alloc (.cells cs e)).rangeAt g 0 l:=by
 grind [aS]
theorem Zm{cs:Array Value}{e:TypeId}{n:Nat}(hn:cs.size=n)(h:g=w.heap.size):Live (w.alloc (.cells cs e)) g n:=by
 grind [Live.new]
theorem TK.oL(t:TK):t.cells.toArray=#[ι t.ae,υ t.aN.toNat,.string t.ay,ι t.dV,ι t.start,ι t.fin,ι t.aC]:=rfl
theorem Vh{W:World}{v0 v1 v2 v3 v4 v5 v6:Value}(h:w.grownBy W none)(a:w.heap.size<=g):w.grownBy (((((((W.setCell (g,0) v0).setCell (g,1) v1).setCell (g,2) v2).setCell (g,3) v3).setCell (g,4) v4).setCell (g,5) v5).setCell (g,6) v6) none:=
 az (az (by grind [az]) a) a
theorem Kh(h:p:=by repeat (first|exact acW rfl aiQ|exact Zm rfl aiQ|exact cx _ _ none|refine aB ?_ (cx _ _ none)|refine Live.grown ?_ (cx _ _ none)|refine aM ?_ _)):p:=h
theorem ahs(h:p:=by rw[<-hn];exact EU _ B (λx hx=>(h x (List.mem_reverse.1 hx)).2)):p:=h
variable {L:List (Value×List UInt8)}{B:Nat}{W:World}
def Acc(W:World)(B:Nat)(L:List (Value×List UInt8)):Prop:=∀x∈L,Has W x.1 x.2/\x.2.length<=B
theorem Acc.nil(W)(B):Acc W B []:=λ_ h=>by simp at h
theorem Has.shape{v:Value}{z:List UInt8}(h:Has W v z):∃a c,v=.slice a z.length c:=by
 obtain⟨a,c,b,_⟩:=h;exact⟨a,c,b⟩
theorem Acc.grown{W':World}(h:Acc W B L)(k:W.grownBy W' none):Acc W' B L:=λx a=>⟨(h x a).1.grown k,(h x a).2⟩
theorem Acc.push{W':World}{o:Value}{z:List UInt8}(h:Acc W B L)(k:W.grownBy W' none)(q:Has W' o z)(a:z.length<=B):Acc W' B ((o,z)::L):=by
 intro x b;rcases List.mem_cons.1 b with e|e
 ·subst e;exact⟨q,a⟩
 ·exact h.grown k x e
theorem EU:∀(L)(B),(∀x∈L,x.2.length<=B)->(pU L).length<=L.length*B:=by
 intro L B;unfold pU;induction L with
 |nil=>intro _;simp
 |cons a L b=>
  intro h;have d:=h a agI;have e:=b (λx c=>h x (by simp[c]));rw[eE,eI,cD,de,Nat.succ_mul];omega
theorem oM(tag)(l):(Box.box tag l).length<=l.length+4:=by
 grind [Box.kZ]
theorem jT(v)(B)(h:10<=B):(bR v).length<=B:=(by grind [fo])
theorem fI(l)(B)(h:l.length+4<=B):(dw l).length<=B:=cE (oM 4 l) h
theorem IU(k)(B)(h:12<=B):(nC k).length<=B:=cE (oM 4 _) (by rw[Pure.dm];exact h)
theorem afl(h:p:=by
 rintro e w' ⟨o,q1,q2,q3⟩
 exact⟨o,q1,q2,cE (oM 48 _) (Nat.add_le_add_right hc 4),q3⟩):p:=h
theorem Acc.list(h:Acc W B L)(b)(n)(a:b=(L.reverse.map λx=>x.1).toArray)(hn:L.reverse.length=n)(c:n<=1000)(d:n*B<=140737488351232):
  Calls prog 60 #[.slice (some (W,0)) n n] (W.alloc (.cells b 37)) λe w'=>∃o,e=.returned o/\Has w' o (jN (L.reverse.map λx=>x.2))/\(jN (L.reverse.map λx=>x.2)).length<=n*B+4/\W.grownBy w' none:=by
 have hc:(pU L.reverse).length<=n*B:=ahs
 refine(Va L.reverse b n W (λx hx=>(h x (List.mem_reverse.1 hx)).1) a hn c agE).mono ?_
 exact afl
theorem RD.drawn{w w':World}{base c:Nat}{M:DM}{g:RG}(f:RD w base c M g){v:Value}{ds:List UInt8}(m:w.grownBy W none)(j:W.ownsRow w.heap.size 5 1 v ds.length (ds.map U8))(hw:w'=W.setCell (c,3) v)(a:base<=w.heap.size):
  RD w' base c {M with aL:=ds} {g with dv:=v}/\w.grownBy w' (some c)/\NewAt w.heap.size v:=by
 have q:=f.bP.blk.lt
 have i:NewAt w.heap.size v:=λb a=>(j.lt b a).1
 have k:=f.keep (λb a=>m.block b (f.lt b a).2 agI)
 have h:∀b,g.foot c b->v.ownBlock≠some b:=λb a e=>by have:=i b e;have:=(f.lt b a).2;omega
 have n:w.grownBy w' (some c):=by
  subst hw;refine⟨m.os,m.tape,m.output,?_,λb a p=>?_⟩
  ·rw[show(W.setCell (c,3) v).heap.size=W.heap.size from by simp[World.setCell]];exact m.size
  ·have l:b≠c:=λe=>p (by rw[e]);rw[show(W.setCell (c,3) v).heap[b]?=W.heap[b]? from by simp[World.setCell,Array.getElem?_modify,Ne.symm l]];exact m.block b a agI
 have d:∀b,b≠c->w'.heap[b]?=W.heap[b]?:=λb l=>by
  subst hw;simp[World.setCell,Array.getElem?_modify,Ne.symm l]
 refine⟨⟨⟨?_,bZ k.bP.aG (λb a=>d b (λe=>f.bP.bne (by rw[a,e]))),dC (bZ j (λb a=>d b (λe=>h c (.inl rfl) (by rw[a,e])))) a,f.bP.here,f.bP.bne,h c (.inl rfl),?_⟩,f.aG,bZ k.aJ (by grind [RD.pne]),f.pne,f.pb,?_⟩,n,i⟩
 ·subst hw;have:=k.bP.blk.set 3 v;simpa using this
 ·cases o:g.bv.ownBlock with
  |none=>exact .inl rfl
  |some b=>exact .inr (λe=>h b (.inr (.inl o)) e.symm)
 ·cases o:g.pv.ownBlock with
  |none=>exact .inl rfl
  |some b=>exact .inr (λe=>h b (.inr (.inr (.inl o))) e.symm)
theorem AX(base y:Nat)(M)(g)(w)(m:RD w base y M g)(x:8<=M.aL.length)(r:M.aL.length<=140737488355328)(i:base<=w.heap.size):
  Calls prog 144 #[(y,0)] w λe w'=>e=.returned (υ ((Pure.joinL 0 (M.aL.take 8)).toNat:Int))/\∃v,RD w' base y {M with aL:=M.aL.drop 8} {g with dv:=v}/\w.grownBy w' (some y)/\NewAt w.heap.size v:=by
 obtain⟨G,h,E,l,C⟩:=info_parts Tryz.info5
 obtain⟨u,c,j,d,F,_,f⟩:=iY m.bP.aL
 obtain⟨n,hn⟩:=aq M.aL.length
 rw[hn]at x r j d
 have A:=m.bP.blk.cell 3
 have V:=m.bP.blk.frozen 3
 rw[j]at A
 simp only[cH,cG,cI]at A
 obtain⟨S,e1,O⟩:=yT (P:=prog) 37 5 G underlying37 h l u n c (hid hn) d 8 (8:Int) rfl x
 have T:∀w,(Instr.sliceAt 37 (.slice u n c) (some (ι 8)) none none).run prog w=.ok (.slice (sl u c 8) (n-8) (c-8)) w:=xG (P:=prog) 37 5 G underlying37 h l u n c 8 x
 have z:=f.part c 8 (by rw[hn];exact d)
 obtain⟨Q,k⟩:=aq (sl u c 8)
 have U:Hid (Q=none->c-8=0):=by
  intro e;obtain⟨b,off,q,_⟩:=f.addr (by rw[hn];omega);rw[<-k,q]at e;unfold sl at e;split at e<;>cases e
 rw[k]at T z
 have J:=hid m
 have K:=hid (vw (M.aL.take 8) 8 S c w agM agF (O w f))
 obtain⟨Z,s⟩:=aq (Pure.joinL 0 (M.aL.take 8))
 rw[s]at K⊢
 have p:(M.aL.drop 8).length=n-8:=by rw[dr,hn]
 have t:=hid p
 have X:n-8<=140737488355328:=agE
 clear m f O s j hn p k x r d F
 go_enter func144,ntmps144
 go_wp2_with (first|(go_at_call 85;refine K.o.mono ?_;rintro e w' ⟨rfl,rfl⟩)|(at_builtin;refine bV _ rfl _ _ 37 rfl w.heap.size 5 G underlying37 h E l C _ 0 [] rfl (World.ownsRow_nil _ _ _ _) Q (n-8) (c-8) (M.aL.drop 8) rfl t.o U.o z agE (cy _) ?_))
 intro v1 Y a hg1 _
 have N:Hid (Y.ownsRow w.heap.size 5 1 v1 (M.aL.drop 8).length ((M.aL.drop 8).map U8)):=hid (by rw[t.o];simpa using a)
 have I:=hid aiW
 obtain⟨av,cv,rfl⟩:=bA N.o
 have D:=J.o.bP.blk.grown I.o agI
 have H:=D.cell 3
 have R:=D.frozen 3
 simp only[cH,cG,cI]at H
 clear a hg1 D A V z
 go_wp2
 go_ret
 exact⟨rfl,_,J.o.drawn I.o N.o (by rw[dr]) i⟩
set_option maxHeartbeats 8000000
theorem ahq(h:p:=by show _=_;cases c0<;>cases c1<;>cases c2<;>simp[gZ]<;>omega):p:=h
theorem ahx(h:p:=by show _=_;rw[FM.o];simp):p:=h
variable {fl rn:Int}{k:Nat}{x:RE}{t:TK}
def zX(aO old:Int)(x s:BE)(b f:Int):Bool:=aI aO b&&(aI old b&&(x.has f&&s.has f))
def gZ(c0 c1 c2:Bool)(k:Nat):Int:=(if c0=true then(if 0<k then 1 else 0) else 0)+(if c1=true then(if 1<k then 2 else 0) else 0)+(if c2=true then(if 2<k then 4 else 0) else 0)
theorem Vk(a old)(x s):gZ (zX a old x s 1 4) (zX a old x s 2 8) (zX a old x s 4 2) 3=gY a old x s:=by
 grind [zX,gZ,gY]
theorem uO(c old)(x s)(start a):fu c old x s start a=if zX c old x s 4 2=true then lesser a (lesser (aW start x.aC) (aW start s.aC)) else 0:=by
 grind [fu,zX]
def TK.more(t:TK)(f r:Int):TK:={t with ae:=t.ae+f,aC:=r}
theorem Vl{f:Int}(g:0<=f)(e:f<4096)(d a c)(k):0<=f+gZ d a c k/\f+gZ d a c k<8192:=by
 unfold gZ;(repeat' split)<;>omega
structure MW(w wr:World)(t:TK)(x s:RE)(fl rn:Int):Prop where
 t:wr.rangeAt w.heap.size 0 [ι fl,υ t.aN.toNat,.string t.ay,ι t.dV,ι t.start,ι t.fin,ι rn]
 lt:Live wr w.heap.size 7
 x:wr.rangeAt (w.heap.size+1) 0 x.cells
 s:wr.rangeAt (w.heap.size+2) 0 s.cells
 r:Live wr (w.heap.size+3) 7
 b:wr.rangeAt (w.heap.size+4) 0 [ι 1,ι 2,ι 4]
 f:wr.rangeAt (w.heap.size+5) 0 [ι 4,ι 8,ι 2]
 g:w.grownBy wr none
theorem MW.grown{W':World}{s:RE}(h:MW w W t x s fl rn)(k:W.grownBy W' none):MW w W' t x s fl rn:=
 ⟨aB h.t k,h.lt.grown k,aB h.x k,aB h.s k,h.r.grown k,aB h.b k,aB h.f k,aa h.g k⟩
theorem MW.drew{s:RE}(h:MW w W t x s fl rn):MW w W.drew t x s fl rn:=h.grown (bg (cC _ _))
theorem gM{g o:Nat}{cs:List Value}(h:w.rangeAt g o cs)(hn:b≠g)(v):(w.setCell (b,k) v).rangeAt g o cs:=λj u a=>by
 rw[World.cell?_setCell_far _ _ _ _ hn]
 exact h j u a
theorem range_one{cs:List Value}(h:w.rangeAt b 0 cs)(c:k<cs.length)(v):(w.setCell (b,k) v).rangeAt b 0 (cs.set k v):=by
 intro j x a;rw[List.getElem?_set]at a;by_cases d:k=j
 ·subst d;rw[if_pos rfl,if_pos c]at a;injection a with a;subst a;have:=h k cs[k] (cL c);exact agq
 ·rw[if_neg d]at a;rw[World.cell?_setCell_other _ _ _ _ agM];exact h j x a
theorem dH{g n:Nat}(h:Live w b n)(v):Live (w.setCell (g,k) v) b n:=h.cf (ex:=λ_ _=>True) (by grind [CF.setCell,CF.refl])
theorem MW.agc{s:RE}(h:MW w W t x s fl rn)(v):MW w (W.setCell (w,0) (ι v)) t x s v rn:=
 ⟨range_one h.t agI _,dH h.lt _,gM h.x agE _,gM h.s agE _,dH h.r _,gM h.b agE _,gM h.f agE _,az h.g (cy _)⟩
theorem MW.agd{s:RE}(h:MW w W t x s fl rn)(v):MW w (W.setCell (w,6) (ι v)) t x s fl v:=
 ⟨range_one h.t agI _,dH h.lt _,gM h.x agE _,gM h.s agE _,dH h.r _,gM h.b agE _,gM h.f agE _,az h.g (cy _)⟩
theorem MW.sx{s:RE}(h:MW w W t x s fl rn)(k:Nat)(v)(a:[Value.int .i64 4,ι 8,ι 2][k]?=some v):W.cell? (w.heap.size+1,0)=some (ι x.k)/\W.cell? (w.heap.size+1,1)=some (.string x.name)/\W.cell? (w.heap.size+1,2)=some (υ x.zk.toNat)/\W.cell? (w.heap.size+1,3)=some (ι x.bI)/\W.cell? (w.heap.size+1,4)=some (ι x.aC)/\W.cell? (w.heap.size+1,5)=some (ι x.bB)/\W.cell? (w.heap.size+1,6)=some (ι x.ae)/\W.cell? (w.heap.size+1,7)=some (ι x.aH)/\W.cell? (w.heap.size+1,8)=some (υ x.key.toNat)/\W.cell? (w.heap.size+1,9)=some (υ x.before.toNat)/\W.cell? (w.heap.size+5,k)=some v:=by
 obtain⟨n,d,e,g,i,j,l,o,c,m⟩:=eu h.x;have:=h.f k v a;grind
theorem MW.ss{s:RE}(h:MW w W t x s fl rn)(k:Nat)(v)(a:[Value.int .i64 4,ι 8,ι 2][k]?=some v):W.cell? (w.heap.size+2,0)=some (ι s.k)/\W.cell? (w.heap.size+2,1)=some (.string s.name)/\W.cell? (w.heap.size+2,2)=some (υ s.zk.toNat)/\W.cell? (w.heap.size+2,3)=some (ι s.bI)/\W.cell? (w.heap.size+2,4)=some (ι s.aC)/\W.cell? (w.heap.size+2,5)=some (ι s.bB)/\W.cell? (w.heap.size+2,6)=some (ι s.ae)/\W.cell? (w.heap.size+2,7)=some (ι s.aH)/\W.cell? (w.heap.size+2,8)=some (υ s.key.toNat)/\W.cell? (w.heap.size+2,9)=some (υ s.before.toNat)/\W.cell? (w.heap.size+5,k)=some v:=by
 obtain⟨n,d,e,g,i,j,l,o,c,m⟩:=eu h.s;have:=h.f k v a;grind
theorem MW.s3{s:RE}(h:MW w W t x s fl rn):W.cell? (w,4)=some (ι t.start)/\W.cell? (w.heap.size+1,4)=some (ι x.aC)/\W.cell? (w.heap.size+2,4)=some (ι s.aC):=⟨h.t 4 _ rfl,h.x 4 _ rfl,h.s 4 _ rfl⟩
theorem age(h:p:=by
  have HX:=hid HC.o
  simp only[gj,gn,Bool.and_false]at HX
  clear HC
  go_wp2_with (go_at_call 102;(first|(with_reducible refine Calls.mono (C3.o _) ?_)|(with_reducible refine Calls.mono (C4.o _) ?_));rintro e w' ⟨rfl,rfl⟩)
  go_meet
  case rel=>exact⟨by rw[HX.o],rfl⟩):p:=h
theorem aa8(h:p:=by
 go_wp2
 go_roundw
 case rel=>grind [RowKit.Hid.o]
 case measure=>decide):p:=h
theorem afU(h:p:=by
 cases bo<;>cases bl<;>cases p<;>exact age):p:=h
theorem NL(t:TK)(u old m)(x s:RE)(w)(hx:0<=x.ae/\x.ae<64)(hs:0<=s.ae/\s.ae<64)(Yo:In64 x.aC)(Yp:In64 s.aC)(ai:In64 t.start)(ag:0<=t.ae)(ah:t.ae<4096):
  Calls Tryz.prog 106 #[.agg t.cells.toArray,ι u,ι old,.agg x.arr,.agg s.arr,ι m] w λe w'=>e=.returned (.agg (t.more (gY u old x.be s.be) (if zX u old x.be s.be 4 2=true then fu u old x.be s.be t.start m else t.aC)).cells.toArray)/\w.grownBy w' none:=by
 rw[<-Vk,uO]
 obtain⟨c0,C⟩:=aq (zX u old x.be s.be 1 4)
 obtain⟨c1,y⟩:=aq (zX u old x.be s.be 2 8)
 obtain⟨c2,v⟩:=aq (zX u old x.be s.be 4 2)
 rw[C,y,v]
 have U:=hid (Vl ag ah c0 c1 c2)
 obtain⟨rn,aa⟩:=aq (lesser m (lesser (aW t.start x.be.aC) (aW t.start s.be.aC)))
 rw[aa]
 obtain⟨FR,OT⟩:=aq ((if c2=true then rn else t.aC))
 have ad:(if c2=true then(if c2=true then rn else 0) else t.aC)=(if c2=true then rn else t.aC):=by cases c2<;>rfl
 rw[ad,OT]
 clear ad
 have SF:=hid OT
 have ab:=hid aa
 clear aa ag ah OT
 rw[TK.oL t]
 have af:MW w ((((((w.alloc (.cells #[ι t.ae,υ t.aN.toNat,.string t.ay,ι t.dV,ι t.start,ι t.fin,ι t.aC] 43)).alloc (.cells x.arr 166)).alloc (.cells s.arr 166)).alloc (.cells #[ι 0,υ 0,.string ⟨#[]⟩,ι 0,ι 0,ι 0,ι 0] 43)).alloc (.cells #[ι 1,ι 2,ι 4] 2)).alloc (.cells #[ι 4,ι 8,ι 2] 3)) t x s t.ae t.aC:=by
  exact⟨Kh,Kh,Kh,Kh,Kh,Kh,Kh,Kh⟩
 have f:=hid af
 clear af
 go_enter Tryz.func106,Tryz.ntmps106
 go_wp2
 go_loopw [15] (λi wr=>∃k:Nat,k<=3/\i = ι k/\MW w wr t x s (t.ae+gZ c0 c1 c2 k) (if c2=true/\k=3 then rn else t.aC)) (λi _=>3-(intOf i).toNat)
 case atStart=>
  refine⟨0,by decide,rfl,?_⟩;rw[if_neg (λh=>by omega)];have h0:t.ae+gZ c0 c1 c2 0=t.ae:=by cases c0<;>cases c1<;>cases c2<;>simp[gZ]
  rw[h0];exact f.o
 case round=>
  clear f;obtain⟨k,hk,rfl,hM⟩:=hrel;have a:=hid hM;clear hM;have ar:k=0\/k=1\/k=2\/k=3:=agE;rcases ar with rfl|rfl|rfl|rfl
  ·obtain⟨bo,P⟩:=aq (aI u 1);obtain⟨bl,d⟩:=aq (aI old 1);obtain⟨p,K⟩:=aq (x.be.has 4);obtain⟨q,T⟩:=aq (s.be.has 4);have R:=hid (λW=>lI x 4 W agF hx.1 hx.2);have E:=hid (λW=>lI s 4 W agF hs.1 hs.2);have C3:=hid (λW=>eO u 1 0 W agF agF);have C4:=hid (λW=>eO old 1 0 W agF agF);rw[K]at R;rw[T]at E;rw[P]at C3;rw[d]at C4;have HC:Hid (c0=(bo&&(bl&&(p&&q)))):=(by show _=_;rw[<-C,<-P,<-d,<-K,<-T];rfl);have FM:Hid (t.ae+gZ c0 c1 c2 1=t.ae+gZ c0 c1 c2 0+(if c0=true then 1 else 0)):=ahq;have HB:=hid (And.intro (U.o 0) (U.o 1));clear P d K T C y v U;obtain⟨fl,c⟩:=aq (t.ae+gZ c0 c1 c2 0);rw[c]at a FM HB;clear c;rw[if_neg agE]at a;have f:=a;have a:=hid f.o.drew;obtain⟨J,Q,I,N,M,F,O,G,L,H,S⟩:=a.o.sx 0 _ rfl;go_wp2_with fail;go_region_held3 (λw'=>w'.cell? ⟨w.heap.size+1,0,none⟩=some (ι x.k)/\w'.cell? ⟨w.heap.size+1,1,none⟩=some (.string x.name)/\w'.cell? ⟨w.heap.size+1,2,none⟩=some (υ x.zk.toNat)/\w'.cell? ⟨w.heap.size+1,3,none⟩=some (ι x.bI)/\w'.cell? ⟨w.heap.size+1,4,none⟩=some (ι x.aC)/\w'.cell? ⟨w.heap.size+1,5,none⟩=some (ι x.bB)/\w'.cell? ⟨w.heap.size+1,6,none⟩=some (ι x.ae)/\w'.cell? ⟨w.heap.size+1,7,none⟩=some (ι x.aH)/\w'.cell? ⟨w.heap.size+1,8,none⟩=some (υ x.key.toNat)/\w'.cell? ⟨w.heap.size+1,9,none⟩=some (υ x.before.toNat)/\w'.cell? ⟨w.heap.size+5,0,none⟩=some (ι 4)) (first|(with_reducible exact MW.sx a.o 0 _ rfl)|(with_reducible exact MW.sx a.o.drew 0 _ rfl)|go_keep) (first|(go_at_call 100;refine(R.o _).mono ?_;rintro e w5 ⟨rfl,Y⟩;have l:=hid (a.o.grown Y);clear a Y R;have a:=l;clear l));clear J Q I N M F O G L H S f;have f:=a;have a:=hid f.o.drew;obtain⟨J,Q,I,N,M,F,O,G,L,H,S⟩:=a.o.ss 0 _ rfl;go_wp2_with fail;go_region_held3 (λw'=>w'.cell? ⟨w.heap.size+2,0,none⟩=some (ι s.k)/\w'.cell? ⟨w.heap.size+2,1,none⟩=some (.string s.name)/\w'.cell? ⟨w.heap.size+2,2,none⟩=some (υ s.zk.toNat)/\w'.cell? ⟨w.heap.size+2,3,none⟩=some (ι s.bI)/\w'.cell? ⟨w.heap.size+2,4,none⟩=some (ι s.aC)/\w'.cell? ⟨w.heap.size+2,5,none⟩=some (ι s.bB)/\w'.cell? ⟨w.heap.size+2,6,none⟩=some (ι s.ae)/\w'.cell? ⟨w.heap.size+2,7,none⟩=some (ι s.aH)/\w'.cell? ⟨w.heap.size+2,8,none⟩=some (υ s.key.toNat)/\w'.cell? ⟨w.heap.size+2,9,none⟩=some (υ s.before.toNat)/\w'.cell? ⟨w.heap.size+5,0,none⟩=some (ι 4)) (first|(with_reducible exact MW.ss a.o 0 _ rfl)|(with_reducible exact MW.ss a.o.drew 0 _ rfl)|go_keep) (first|(go_at_call 100;refine(E.o _).mono ?_;rintro e V ⟨rfl,Z⟩;have j:=hid (a.o.grown Z);clear a Z E;have a:=j;clear j));clear J Q I N M F O G L H S f;have z0:V.cell? ⟨w.heap.size+4,0,none⟩=some (ι 1):=a.o.b 0 _ rfl;go_upto_region 8 with fail
   go_cut [55] (λz wx=>z=.bool c0/\wx=V)
   case first=>
    exact afU
   case rest=>
    obtain⟨rfl,rfl⟩:=hcut;clear HC C3 C4;cases c0 with
    |false=>
     have X:Hid (t.ae+gZ false c1 c2 1=fl):=ahx;clear FM;exact aa8
    |true=>
     have X:Hid (t.ae+gZ true c1 c2 1=fl+1):=ahx;rw[X.o]at HB;obtain⟨⟨b0,b1⟩,b2,b3⟩:=HB.o;have aj:wrap64 (fl+1)=fl+1:=ag9;clear FM b0 b1 b2 b3 HB;have t0:wc.cell? (w,0)=some (ι fl):=a.o.t 0 _ rfl;have Wp:=a.o.lt.frozen 0;have ak:w.heap.size≠w.heap.size+4:=agE;go_wp2_with fail;go_region;have n:=hid (a.o.agc (fl+1)).drew;clear a t0 Wp;have z1:=n.o.b 0 _ rfl;exact aa8
  ·obtain⟨bo,P⟩:=aq (aI u 2);obtain⟨bl,d⟩:=aq (aI old 2);obtain⟨p,K⟩:=aq (x.be.has 8);obtain⟨q,T⟩:=aq (s.be.has 8);have R:=hid (λW=>lI x 8 W agF hx.1 hx.2);have E:=hid (λW=>lI s 8 W agF hs.1 hs.2);have C3:=hid (λW=>eO u 2 1 W agF agF);have C4:=hid (λW=>eO old 2 1 W agF agF);rw[K]at R;rw[T]at E;rw[P]at C3;rw[d]at C4;have HC:Hid (c1=(bo&&(bl&&(p&&q)))):=(by show _=_;rw[<-y,<-P,<-d,<-K,<-T];rfl);have FM:Hid (t.ae+gZ c0 c1 c2 2=t.ae+gZ c0 c1 c2 1+(if c1=true then 2 else 0)):=ahq;have HB:=hid (And.intro (U.o 1) (U.o 2));clear P d K T C y v U;obtain⟨fl,c⟩:=aq (t.ae+gZ c0 c1 c2 1);rw[c]at a FM HB;clear c;rw[if_neg agE]at a;have f:=a;have a:=hid f.o.drew;obtain⟨J,Q,I,N,M,F,O,G,L,H,S⟩:=a.o.sx 1 _ rfl;go_wp2_with fail;go_region_held3 (λw'=>w'.cell? ⟨w.heap.size+1,0,none⟩=some (ι x.k)/\w'.cell? ⟨w.heap.size+1,1,none⟩=some (.string x.name)/\w'.cell? ⟨w.heap.size+1,2,none⟩=some (υ x.zk.toNat)/\w'.cell? ⟨w.heap.size+1,3,none⟩=some (ι x.bI)/\w'.cell? ⟨w.heap.size+1,4,none⟩=some (ι x.aC)/\w'.cell? ⟨w.heap.size+1,5,none⟩=some (ι x.bB)/\w'.cell? ⟨w.heap.size+1,6,none⟩=some (ι x.ae)/\w'.cell? ⟨w.heap.size+1,7,none⟩=some (ι x.aH)/\w'.cell? ⟨w.heap.size+1,8,none⟩=some (υ x.key.toNat)/\w'.cell? ⟨w.heap.size+1,9,none⟩=some (υ x.before.toNat)/\w'.cell? ⟨w.heap.size+5,1,none⟩=some (ι 8)) (first|(with_reducible exact MW.sx a.o 1 _ rfl)|(with_reducible exact MW.sx a.o.drew 1 _ rfl)|go_keep) (first|(go_at_call 100;refine(R.o _).mono ?_;rintro e w5 ⟨rfl,Y⟩;have l:=hid (a.o.grown Y);clear a Y R;have a:=l;clear l));clear J Q I N M F O G L H S f;have f:=a;have a:=hid f.o.drew;obtain⟨J,Q,I,N,M,F,O,G,L,H,S⟩:=a.o.ss 1 _ rfl;go_wp2_with fail;go_region_held3 (λw'=>w'.cell? ⟨w.heap.size+2,0,none⟩=some (ι s.k)/\w'.cell? ⟨w.heap.size+2,1,none⟩=some (.string s.name)/\w'.cell? ⟨w.heap.size+2,2,none⟩=some (υ s.zk.toNat)/\w'.cell? ⟨w.heap.size+2,3,none⟩=some (ι s.bI)/\w'.cell? ⟨w.heap.size+2,4,none⟩=some (ι s.aC)/\w'.cell? ⟨w.heap.size+2,5,none⟩=some (ι s.bB)/\w'.cell? ⟨w.heap.size+2,6,none⟩=some (ι s.ae)/\w'.cell? ⟨w.heap.size+2,7,none⟩=some (ι s.aH)/\w'.cell? ⟨w.heap.size+2,8,none⟩=some (υ s.key.toNat)/\w'.cell? ⟨w.heap.size+2,9,none⟩=some (υ s.before.toNat)/\w'.cell? ⟨w.heap.size+5,1,none⟩=some (ι 8)) (first|(with_reducible exact MW.ss a.o 1 _ rfl)|(with_reducible exact MW.ss a.o.drew 1 _ rfl)|go_keep) (first|(go_at_call 100;refine(E.o _).mono ?_;rintro e V ⟨rfl,Z⟩;have j:=hid (a.o.grown Z);clear a Z E;have a:=j;clear j));clear J Q I N M F O G L H S f;have z0:V.cell? ⟨w.heap.size+4,1,none⟩=some (ι 2):=a.o.b 1 _ rfl;go_upto_region 8 with fail
   go_cut [55] (λz wx=>z=.bool c1/\wx=V)
   case first=>
    exact afU
   case rest=>
    obtain⟨rfl,rfl⟩:=hcut;clear HC C3 C4;cases c1 with
    |false=>
     have X:Hid (t.ae+gZ c0 false c2 2=fl):=ahx;clear FM;exact aa8
    |true=>
     have X:Hid (t.ae+gZ c0 true c2 2=fl+2):=ahx;rw[X.o]at HB;obtain⟨⟨b0,b1⟩,b2,b3⟩:=HB.o;have aj:wrap64 (fl+2)=fl+2:=ag9;clear FM b0 b1 b2 b3 HB;have t0:wc.cell? (w,0)=some (ι fl):=a.o.t 0 _ rfl;have Wp:=a.o.lt.frozen 0;have ak:w.heap.size≠w.heap.size+4:=agE;go_wp2_with fail;go_region;have n:=hid (a.o.agc (fl+2)).drew;clear a t0 Wp;have z1:=n.o.b 1 _ rfl;exact aa8
  ·obtain⟨bo,P⟩:=aq (aI u 4);obtain⟨bl,d⟩:=aq (aI old 4);obtain⟨p,K⟩:=aq (x.be.has 2);obtain⟨q,T⟩:=aq (s.be.has 2);have R:=hid (λW=>lI x 2 W agF hx.1 hx.2);have E:=hid (λW=>lI s 2 W agF hs.1 hs.2);have C3:=hid (λW=>eO u 4 2 W agF agF);have C4:=hid (λW=>eO old 4 2 W agF agF);rw[K]at R;rw[T]at E;rw[P]at C3;rw[d]at C4;have HC:Hid (c2=(bo&&(bl&&(p&&q)))):=(by show _=_;rw[<-v,<-P,<-d,<-K,<-T];rfl);have FM:Hid (t.ae+gZ c0 c1 c2 3=t.ae+gZ c0 c1 c2 2+(if c2=true then 4 else 0)):=ahq;have HB:=hid (And.intro (U.o 2) (U.o 3));clear P d K T C y v U;obtain⟨fl,c⟩:=aq (t.ae+gZ c0 c1 c2 2);rw[c]at a FM HB;clear c;rw[if_neg agE]at a;have f:=a;have a:=hid f.o.drew;obtain⟨J,Q,I,N,M,F,O,G,L,H,S⟩:=a.o.sx 2 _ rfl;go_wp2_with fail;go_region_held3 (λw'=>w'.cell? ⟨w.heap.size+1,0,none⟩=some (ι x.k)/\w'.cell? ⟨w.heap.size+1,1,none⟩=some (.string x.name)/\w'.cell? ⟨w.heap.size+1,2,none⟩=some (υ x.zk.toNat)/\w'.cell? ⟨w.heap.size+1,3,none⟩=some (ι x.bI)/\w'.cell? ⟨w.heap.size+1,4,none⟩=some (ι x.aC)/\w'.cell? ⟨w.heap.size+1,5,none⟩=some (ι x.bB)/\w'.cell? ⟨w.heap.size+1,6,none⟩=some (ι x.ae)/\w'.cell? ⟨w.heap.size+1,7,none⟩=some (ι x.aH)/\w'.cell? ⟨w.heap.size+1,8,none⟩=some (υ x.key.toNat)/\w'.cell? ⟨w.heap.size+1,9,none⟩=some (υ x.before.toNat)/\w'.cell? ⟨w.heap.size+5,2,none⟩=some (ι 2)) (first|(with_reducible exact MW.sx a.o 2 _ rfl)|(with_reducible exact MW.sx a.o.drew 2 _ rfl)|go_keep) (first|(go_at_call 100;refine(R.o _).mono ?_;rintro e w5 ⟨rfl,Y⟩;have l:=hid (a.o.grown Y);clear a Y R;have a:=l;clear l));clear J Q I N M F O G L H S f;have f:=a;have a:=hid f.o.drew;obtain⟨J,Q,I,N,M,F,O,G,L,H,S⟩:=a.o.ss 2 _ rfl;go_wp2_with fail;go_region_held3 (λw'=>w'.cell? ⟨w.heap.size+2,0,none⟩=some (ι s.k)/\w'.cell? ⟨w.heap.size+2,1,none⟩=some (.string s.name)/\w'.cell? ⟨w.heap.size+2,2,none⟩=some (υ s.zk.toNat)/\w'.cell? ⟨w.heap.size+2,3,none⟩=some (ι s.bI)/\w'.cell? ⟨w.heap.size+2,4,none⟩=some (ι s.aC)/\w'.cell? ⟨w.heap.size+2,5,none⟩=some (ι s.bB)/\w'.cell? ⟨w.heap.size+2,6,none⟩=some (ι s.ae)/\w'.cell? ⟨w.heap.size+2,7,none⟩=some (ι s.aH)/\w'.cell? ⟨w.heap.size+2,8,none⟩=some (υ s.key.toNat)/\w'.cell? ⟨w.heap.size+2,9,none⟩=some (υ s.before.toNat)/\w'.cell? ⟨w.heap.size+5,2,none⟩=some (ι 2)) (first|(with_reducible exact MW.ss a.o 2 _ rfl)|(with_reducible exact MW.ss a.o.drew 2 _ rfl)|go_keep) (first|(go_at_call 100;refine(E.o _).mono ?_;rintro e V ⟨rfl,Z⟩;have j:=hid (a.o.grown Z);clear a Z E;have a:=j;clear j));clear J Q I N M F O G L H S f;have z0:V.cell? ⟨w.heap.size+4,2,none⟩=some (ι 4):=a.o.b 2 _ rfl;go_upto_region 8 with fail
   go_cut [55] (λz wx=>z=.bool c2/\wx=V)
   case first=>
    exact afU
   case rest=>
    obtain⟨rfl,rfl⟩:=hcut;clear HC C3 C4;cases c2 with
    |false=>
     have X:Hid (t.ae+gZ c0 c1 false 3=fl):=ahx;clear FM;exact aa8
    |true=>
     have X:Hid (t.ae+gZ c0 c1 true 3=fl+4):=ahx;rw[X.o]at HB;obtain⟨⟨b0,b1⟩,b2,b3⟩:=HB.o;have aj:wrap64 (fl+4)=fl+4:=ag9;clear FM b0 b1 b2 b3 HB;have t0:wc.cell? ⟨w.heap.size,0,none⟩=some (ι fl):=a.o.t 0 _ rfl;have Wp:=a.o.lt.frozen 0;have ak:w.heap.size≠w.heap.size+4:=agE;go_wp2_with fail;go_region;have n:=hid (a.o.agc (fl+4)).drew;clear a t0 Wp;obtain⟨W1,an⟩:=aq ((wc.setCell ⟨w.heap.size,0,none⟩ (ι (fl+4))).drew);rw[an]at n⊢;clear an;have z1:W1.cell? ⟨w.heap.size+4,2,none⟩=some (ι 4):=n.o.b 2 _ rfl;have C5:=hid (λW=>mr t.start x.aC W ai Yo);have C6:=hid (λW=>mr t.start s.aC W ai Yp);obtain⟨A,hA⟩:=aq (aW t.start x.aC);obtain⟨B,hB⟩:=aq (aW t.start s.aC);rw[hA]at C5;rw[hB]at C6;have C7:=hid (λW=>ky A B W);obtain⟨D,hD⟩:=aq (lesser A B);rw[hD]at C7;have C8:=hid (λW=>ky m D W);have au:Hid (lesser m D=rn):=(by show _=_;rw[<-hD,<-hA,<-hB];exact ab.o);rw[au.o]at C8;clear hA hB hD ab;obtain⟨m0,m1,m2⟩:=n.o.s3;have t6:W1.cell? ⟨w.heap.size,6,none⟩=some (ι t.aC):=n.o.t 6 _ rfl;have ao:=n.o.lt.frozen 6;go_wp2_with fail;go_region_held3 (λw'=>w'.cell? ⟨w.heap.size,4,none⟩=some (ι t.start)/\w'.cell? ⟨w.heap.size+1,4,none⟩=some (ι x.aC)/\w'.cell? ⟨w.heap.size+2,4,none⟩=some (ι s.aC)) (first|(with_reducible exact MW.s3 n.o)|(with_reducible exact MW.s3 n.o.drew)|(with_reducible exact MW.s3 (n.o.agd _))|(with_reducible exact MW.s3 (n.o.agd _).drew)|go_keep) (first|(go_at_call 103;(first|(with_reducible refine Calls.mono (C5.o _) ?_)|(with_reducible refine Calls.mono (C6.o _) ?_));rintro e w' ⟨rfl,rfl⟩)|(go_at_call 104;(first|(with_reducible refine Calls.mono (C7.o _) ?_)|(with_reducible refine Calls.mono (C8.o _) ?_));rintro e w' ⟨rfl,rfl⟩));have av:=hid (n.o.agd rn).drew;clear n m0 m1 m2 t6 ao z1 C5 C6 C7 C8;exact aa8
  ·have al:(if c2=true/\(3:Nat)=3 then rn else t.aC)=(if c2=true then rn else t.aC):=agI;rw[al,SF.o]at a;obtain⟨fl,c⟩:=aq (t.ae+gZ c0 c1 c2 3);have FM:=hid c;rw[c]at a;clear c al C y v U ab hk;have t0:wr.cell? (w,0)=some (ι fl):=a.o.t 0 _ rfl;have t1:wr.cell? (w,1)=some (υ t.aN.toNat):=a.o.t 1 _ rfl;have t2:wr.cell? (w,2)=some (.string t.ay):=a.o.t 2 _ rfl;have t3:wr.cell? (w,3)=some (ι t.dV):=a.o.t 3 _ rfl;have t4:wr.cell? (w,4)=some (ι t.start):=a.o.t 4 _ rfl;have t5:wr.cell? (w,5)=some (ι t.fin):=a.o.t 5 _ rfl;have t6:wr.cell? (w,6)=some (ι FR):=a.o.t 6 _ rfl;obtain⟨⟨e0,k0⟩,⟨e1,k1⟩,⟨e2,k2⟩,⟨e3,k3⟩,⟨e4,k4⟩,⟨e5,k5⟩,⟨e6,k6⟩,f0,f1,f2,f3,f4,f5,f6⟩:=pR a.o.r;go_wp2;refine bodyPost_ret (jD Tryz.results106 _ _ _ (w.heap.size+3) rfl _ (iE (fe a.o.r _ _ _ _ _ _ _))) rfl ?_;refine⟨?_,az (az (az (az (az (az (az a.o.g agE) agE) agE) agE) agE) agE) agE⟩;rw[<-FM.o];rfl
end Go.Proofs.YtlfifnpjeangmaaGreatDoor
