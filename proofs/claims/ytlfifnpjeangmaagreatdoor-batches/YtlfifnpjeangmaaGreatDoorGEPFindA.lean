import Derived.Test.YtlfifnpjeangmaaGreatDoorGEPPrfA
import Derived.Deep.CutBlock
import Derived.Test.YtlfifnpjeangmaaGreatDoorGEPOpenB
namespace Go.Proofs.YtlfifnpjeangmaaGreatDoor
set_option maxHeartbeats 1000000
open Proofs.Tryz Go.RowKit
set_option maxRecDepth 100000
variable {b:Nat}{w:World}{p:Prop}
def rE(x:Option BE):List Value:=match x with|none=>noEntry.toList|some e=>e.bE
def nM(x:Option BE):Value:=.tuple #[.agg (rE x).toArray,.bool x.isSome]
def findF(T:Nat):Nat:=if T=247 then 281 else 277
theorem Bo(T)(args)(W):(callFunc (findF T) args).run prog W=.ok (.enter (findF T) args) W:=by
 unfold findF;split
 ·kernel_rfl
 ·kernel_rfl
structure Finds(ff:Nat)(J:World->Prop)(dQ sU:Nat->Nat->Prop)(rv:Value)(es:List BE):Prop where
 call:∀W,J W->∀l:List UInt8,Calls prog ff #[rv,.string l] W λe w'=>e=.returned (nM (BE.find es l))/\J w'/\CF W w' dQ
 stay:∀W W',J W->CF W W' sU->J W'
theorem iM(x):∃v0 v1 v2 v3 v4 v5 v6 v7,rE x=[.string v0,ι v1,υ v2,υ v3,ι v4,ι v5,ι v6,ι v7]:=by cases x<;>exact⟨_,_,_,_,_,_,_,_,rfl⟩
theorem gX{w':World}{o:Nat}{cs:List Value}(h:w.rangeAt b o cs)(k:w.grownBy w' none):w'.rangeAt b o cs:=λi v a=>k.cell (h i v a) agI
theorem gG(h:Live w b 8):(∃d,w.cell? (b,0)=some d)/\(∃d,w.cell? (b,1)=some d)/\(∃d,w.cell? (b,2)=some d)/\(∃d,w.cell? (b,3)=some d)/\(∃d,w.cell? (b,4)=some d)/\(∃d,w.cell? (b,5)=some d)/\(∃d,w.cell? (b,6)=some d)/\(∃d,w.cell? (b,7)=some d)/\w.frozen? (b,0)=false/\w.frozen? (b,1)=false/\w.frozen? (b,2)=false/\w.frozen? (b,3)=false/\w.frozen? (b,4)=false/\w.frozen? (b,5)=false/\w.frozen? (b,6)=false/\w.frozen? (b,7)=false:=by
 have a:=λj c=>cA.1 (h.some j c);exact⟨a 0 agF,a 1 agF,a 2 agF,a 3 agF,a 4 agF,a 5 agF,a 6 agF,a 7 agF,h.frozen 0,h.frozen 1,h.frozen 2,h.frozen 3,h.frozen 4,h.frozen 5,h.frozen 6,h.frozen 7⟩
theorem jX{v0 v1 v2 v3 v4 v5 v6 v7:Value}(h:w.rangeAt b 0 [v0,v1,v2,v3,v4,v5,v6,v7]):w.cell? (b,0)=some v0/\w.cell? (b,1)=some v1/\w.cell? (b,2)=some v2/\w.cell? (b,3)=some v3/\w.cell? (b,4)=some v4/\w.cell? (b,5)=some v5/\w.cell? (b,6)=some v6/\w.cell? (b,7)=some v7:=
 ⟨h 0 _ rfl,h 1 _ rfl,h 2 _ rfl,h 3 _ rfl,h 4 _ rfl,h 5 _ rfl,h 6 _ rfl,h 7 _ rfl⟩
theorem aa2(h:p:=by
 repeat refine CF.setCell ?_ _ _ _ (λ_=>rfl)
 exact CF.refl _ _):p:=h
theorem XX(w)(b c:Nat)(a:b≠c)(v0 v1 v2 v3 v4 v5 v6 v7 u0 u1 u2 u3 u4 u5 u6 u7)(r:w.rangeAt b 0 [v0,v1,v2,v3,v4,v5,v6,v7])(j:w.rangeAt c 0 [u0,u1,u2,u3,u4,u5,u6,u7]):
  ((((((((((((((((w.setCell (b,0) v0).setCell (b,1) v1).setCell (b,2) v2).setCell (b,3) v3).setCell (b,4) v4).setCell (b,5) v5).setCell (b,6) v6).setCell (b,7) v7).setCell (c,0) u0).setCell (c,1) u1).setCell (c,2) u2).setCell (c,3) u3).setCell (c,4) u4).setCell (c,5) u5).setCell (c,6) u6).setCell (c,7) u7).rangeAt b 0 [v0,v1,v2,v3,v4,v5,v6,v7]/\((((((((((((((((w.setCell (b,0) v0).setCell (b,1) v1).setCell (b,2) v2).setCell (b,3) v3).setCell (b,4) v4).setCell (b,5) v5).setCell (b,6) v6).setCell (b,7) v7).setCell (c,0) u0).setCell (c,1) u1).setCell (c,2) u2).setCell (c,3) u3).setCell (c,4) u4).setCell (c,5) u5).setCell (c,6) u6).setCell (c,7) u7).rangeAt c 0 [u0,u1,u2,u3,u4,u5,u6,u7]/\CF w ((((((((((((((((w.setCell (b,0) v0).setCell (b,1) v1).setCell (b,2) v2).setCell (b,3) v3).setCell (b,4) v4).setCell (b,5) v5).setCell (b,6) v6).setCell (b,7) v7).setCell (c,0) u0).setCell (c,1) u1).setCell (c,2) u2).setCell (c,3) u3).setCell (c,4) u4).setCell (c,5) u5).setCell (c,6) u6).setCell (c,7) u7) (λx _=>x=b\/x=c):=by
 obtain⟨q,l,h,u,m,n,p,v⟩:=jX r
 have C:=jo w b v0 v1 v2 v3 v4 v5 v6 v7 q l h u m n p v
 have f:CF w ((((((((w.setCell (b,0) v0).setCell (b,1) v1).setCell (b,2) v2).setCell (b,3) v3).setCell (b,4) v4).setCell (b,5) v5).setCell (b,6) v6).setCell (b,7) v7) (λx _=>x=b):=by
  exact aa2
 have d:=f.range j (λ_ _ e=>a e.symm)
 generalize ((((((((w.setCell (b,0) v0).setCell (b,1) v1).setCell (b,2) v2).setCell (b,3) v3).setCell (b,4) v4).setCell (b,5) v5).setCell (b,6) v6).setCell (b,7) v7)=W8 at *
 obtain⟨g,i,y,A,B,z,s,t⟩:=jX d
 have o:=jo W8 c u0 u1 u2 u3 u4 u5 u6 u7 g i y A B z s t
 have k:CF W8 ((((((((W8.setCell (c,0) u0).setCell (c,1) u1).setCell (c,2) u2).setCell (c,3) u3).setCell (c,4) u4).setCell (c,5) u5).setCell (c,6) u6).setCell (c,7) u7) (λx _=>x=c):=by
  exact aa2
 exact⟨(by grind [CF.range]),o,(f.mono (λ_ _ _ e=>.inl e)).trans k (λ_ _ _ e=>.inr e)⟩
theorem Gn{j:Func}{a b u:Tmp}{d:TypeId}(h:j.results=#[.cell a d,.cell b d,.tmp u])(c)(P)(w)(e g:Nat)(hp:c.getD a undef=.pointer (some (e,0)))(m:c.getD b undef=.pointer (some (g,0)))(x y)(k:(loadVar d ⟨e,0,none⟩).run P w=.ok x w)(l:(loadVar d ⟨g,0,none⟩).run P w=.ok y w):
  (results j c).run P w=.ok (.tuple #[x,y,c.getD u undef]) w:=by
 have f:c[a]?.getD undef=.pointer (some (e,0)):=ahr
 have i:c[b]?.getD undef=.pointer (some (g,0)):=by simpa using m
 simp[results,h,f,i,k,l,asAddr]
theorem aaH(h:p:=by
 go_wp2_with (first|(go_at_call 207;refine ym.o.mono ?_;clear ym;rintro e w1 ⟨rfl,rfl⟩)|(go_at_call 207;refine FV.o.mono ?_;clear FV;rintro e w1 ⟨rfl,rfl⟩)|(go_at_call 208;refine HH1.o.mono ?_;clear HH1;rintro e w1 ⟨rfl,rfl⟩)|(go_at_call 208;refine Mh.o.mono ?_;clear Mh;rintro e w1 ⟨rfl,rfl⟩))
 go_meet
 exact⟨by rw[yM.o];simp,rfl⟩):p:=h
theorem af5(h:p:=by
 rw[cF]at h
 rw[hW0]
 exact h):p:=h
theorem agk(h:p:=by
 repeat refine CF.setCell ?_ _ _ _ (λ_=>H3.o _ _ agE)
 exact CF.refl _ _):p:=h
theorem Ir (s base T:Nat) (V rv) (J:World->Prop) (q sU:Nat->Nat->Prop) (D) (d i) (k g n l now) (w)
  (hm:∀W,(method 520 T V "Find").run prog W=.ok (findF T,rv) W) (hF:Finds (findF T) J q sU rv D) (hJ:J w)
  (c0:w.cell? (s,0)=some (.iface T V)) (c4:w.cell? (s,4)=some (ι now)) (h1:∀y,¬ q s y) (h2:∀b y,base<=b->¬ q b y) (h3:∀b y,base<=b->sU b y) (C:base<=w.heap.size) :
  Calls prog 171 #[(s,0),.agg #[.string ⟨d.toArray⟩,ι k,ι g],.agg #[.string ⟨i.toArray⟩,ι n,ι l]] w λe w'=>e=.returned (.tuple #[.agg (rE (BE.find D d)).toArray,.agg (rE (BE.find D i)).toArray,ι (dS (BE.find D d) (BE.find D i) now k n g l)])/\J w'/\CF w w' q:=by
 obtain⟨r,hW0⟩:=aw ((((w.alloc (.cells #[.string d,ι k,ι g] 328)).alloc (.cells #[.string i,ι n,ι l] 328)).alloc (.cells noEntry 126)).alloc (.cells noEntry 126))
 have G0:w.grownBy r none:=by rw[hW0];exact aM (aM (aM (cx w _ none) _) _) _
 have s0:r.heap.size=w.heap.size+4:=by rw[hW0];simp only[cF]
 have RA:r.rangeAt w.heap.size 0 [.string d,ι k,ι g]:=by
  rw[hW0];exact gX (aS w #[.string d,ι k,ι g] _) (aM (aM (cx _ _ none) _) _)
 have RB:r.rangeAt (w.heap.size+1) 0 [.string i,ι n,ι l]:=by
  have h:=gX (aS (w.alloc (.cells #[.string d,ι k,ι g] 328)) #[.string i,ι n,ι l] 328) (aM (cx _ (.cells noEntry 126) none) (.cells noEntry 126));exact af5
 have LA:Live r (w.heap.size+1+1) 8:=by
  have h:=(Live.new ((w.alloc (.cells #[.string d,ι k,ι g] 328)).alloc (.cells #[.string i,ι n,ι l] 328)) noEntry 126).grown (cx _ (.cells noEntry 126) none);rw[cF,cF]at h;rw[hW0];exact h
 have LB:Live r (w.heap.size+1+1+1) 8:=by
  have h:=Live.new (((w.alloc (.cells #[.string d,ι k,ι g] 328)).alloc (.cells #[.string i,ι n,ι l] 328)).alloc (.cells noEntry 126)) noEntry 126;rw[cF,cF,cF]at h;rw[hW0];exact h
 obtain⟨x,hx⟩:=aq (BE.find D d)
 obtain⟨y,hy⟩:=aq (BE.find D i)
 have U:=hid (λW hW=>hF.call W hW d)
 have HB:=hid (λW hW=>hF.call W hW i)
 rw[hx]at U
 rw[hy]at HB
 rw[hx,hy]
 clear hx hy
 obtain⟨v0,v1,v2,v3,v4,v5,v6,v7,hv⟩:=iM x
 obtain⟨u0,u1,u2,u3,u4,u5,u6,u7,hu⟩:=iM y
 obtain⟨ba,B⟩:=aq x.isSome
 obtain⟨bb,A⟩:=aq y.isSome
 unfold nM at U HB
 rw[hv,B]at U
 rw[hu,A]at HB
 have m:=hid hF.stay
 have HJ:=hid hJ
 have aa:=hid hW0
 have Hv:=hid hv
 have Hu:=hid hu
 have M:=hid B
 have O:=hid A
 have Z:=hid G0
 have a0:=G0.cell c0 agI
 have a1:r.cell? (w,0)=some (.string d):=RA 0 _ rfl
 have Iu:=hid RA
 have Sn:=hid RB
 have P:=hid LA
 have Q:=hid LB
 have HN:Hid (w.heap.size<=s->False):=λe=>by have:=jE c0;omega
 have n1:w.heap.size+1+1≠s:=λe=>HN.o agE
 have n2:w.heap.size+1+1≠w.heap.size:=agE
 have n3:w.heap.size+1+1+1≠s:=λe=>HN.o agE
 have n4:w.heap.size+1+1+1≠w.heap.size+1:=agE
 have H1:=hid h1
 have v:=hid h2
 have H3:=hid h3
 clear hF hJ hW0 hv hu B A RA RB LA LB h1 h2 h3 G0
 have ad:=Bo T
 go_enter func171,ntmps171
 go_wp2_with fail
 rw[<-aa.o]
 go_cut [9] (λc p=>c=.bool ba/\p.rangeAt (w.heap.size+1+1) 0 [.string v0,ι v1,υ v2,υ v3,ι v4,ι v5,ι v6,ι v7]/\J p/\CF r p (λb y=>q b y\/b=w.heap.size+1+1))
 case first=>
  go_region_held3 (λw'=>w'.cell? ⟨s,0,none⟩=some (.iface T V)/\w'.cell? ⟨w.heap.size,0,none⟩=some (.string d)) (go_keep) (first|((with_reducible show Calls _ (findF T) _ _ _);refine(U.o _ (m.o _ _ HJ.o (CF.bF (aR Z.o 1) _))).mono ?_;rintro e w1 ⟨rfl,R,u⟩;have b0:=u.dM.cell a0 (H1.o 0);have b1:=u.dM.cell a1 (v.o _ 0 C);have S:=hid R;have F:=hid u.dM;clear R u;have Y:=P.o.cf F.o;obtain⟨⟨d0,q0⟩,⟨d1,q1⟩,⟨d2,q2⟩,⟨d3,q3⟩,⟨d4,q4⟩,⟨d5,q5⟩,⟨d6,q6⟩,⟨d7,q7⟩,f0,f1,f2,f3,f4,f5,f6,f7⟩:=gG Y));go_wp2;go_meet;refine⟨rfl,jo _ _ _ _ _ _ _ _ _ _ q0 q1 q2 q3 q4 q5 q6 q7,?_,?_⟩
  ·refine m.o _ _ S.o ?_;exact agk
  ·repeat refine CF.setCell ?_ _ _ _ (λ_=>.inr rfl)
   exact F.o.mono (λ_ _ _ e=>.inl e)
 case rest=>
  obtain⟨rfl,N,I,t⟩:=hcut;have H:=hid N;have S:=hid I;have F:=hid t;have k0:=t.cell a0 (λe=>by rcases e with e|e;exact H1.o _ e;exact HN.o agE);have k1:wc.cell? (w.heap.size+1,0)=some (.string i):=t.cell (Sn.o 0 _ rfl) (λe=>by rcases e with e|e;exact v.o _ _ agE e;omega);clear N I t a0 a1;go_wp2_with fail;go_cut [10] (λc p=>c=.bool bb/\p.rangeAt (w.heap.size+1+1+1) 0 [.string u0,ι u1,υ u2,υ u3,ι u4,ι u5,ι u6,ι u7]/\p.rangeAt (w.heap.size+1+1) 0 [.string v0,ι v1,υ v2,υ v3,ι v4,ι v5,ι v6,ι v7]/\J p/\CF r p (λb y=>q b y\/b=w.heap.size+1+1\/b=w.heap.size+1+1+1))
  case first=>
   go_region_held3 (λw'=>w'.cell? ⟨s,0,none⟩=some (.iface T V)/\w'.cell? ⟨w.heap.size+1,0,none⟩=some (.string i)) (go_keep) (first|((with_reducible show Calls _ (findF T) _ _ _);refine(HB.o _ (m.o _ _ S.o (CF.bF (aR (cC _ _) 1) _))).mono ?_;rintro e w1 ⟨rfl,R,u⟩;have b0:=u.dM.cell k0 (H1.o 0);have b1:=u.dM.cell k1 (v.o _ 0 agE);have E:=hid R;have G:=hid u.dM;clear R u;have Y:=(Q.o.cf F.o).cf G.o;obtain⟨⟨d0,q0⟩,⟨d1,q1⟩,⟨d2,q2⟩,⟨d3,q3⟩,⟨d4,q4⟩,⟨d5,q5⟩,⟨d6,q6⟩,⟨d7,q7⟩,f0,f1,f2,f3,f4,f5,f6,f7⟩:=gG Y));go_wp2;go_meet;have C3:=G.o.mono (ex':=λb y=>q b y\/b=w.heap.size+1+1+1) (λ_ _ _ e=>.inl e);refine⟨rfl,jo _ _ _ _ _ _ _ _ _ _ q0 q1 q2 q3 q4 q5 q6 q7,?_,?_,?_⟩
   ·refine CF.range (ex:=λb y=>q b y\/b=w.heap.size+1+1+1) ?_ H.o (λj _ e=>?_)
    ·repeat refine CF.setCell ?_ _ _ _ (λ_=>.inr rfl)
     exact C3
    ·rcases e with e|e
     ·exact v.o _ _ agE e
     ·omega
   ·refine m.o _ _ E.o ?_;exact agk
   ·refine(F.o.mono (λ_ _ _ e=>e.elim .inl (λe=>.inr (.inl e)))).trans (ex2:=λb y=>q b y\/b=w.heap.size+1+1+1) ?_ (λ_ _ _ e=>e.elim .inl (λe=>.inr (.inr e)));repeat refine CF.setCell ?_ _ _ _ (λ_=>.inr rfl)
    exact C3
  case rest=>
   obtain⟨rfl,WC,N,L,a⟩:=hcut;have Ui:=hid N;have z:=hid WC;have E:=hid L;have G:=hid a;clear S F H k0 k1;have t1:wc.cell? (w,1)=some (ι k):=a.cell (Iu.o 1 _ rfl) (λe=>by rcases e with e|e|e;exact v.o _ _ agE e;omega;omega);have t2:wc.cell? (w,2)=some (ι g):=a.cell (Iu.o 2 _ rfl) (λe=>by rcases e with e|e|e;exact v.o _ _ agE e;omega;omega);have t3:wc.cell? (w.heap.size+1,1)=some (ι n):=a.cell (Sn.o 1 _ rfl) (λe=>by rcases e with e|e|e;exact v.o _ _ agE e;omega;omega);have t4:wc.cell? (w.heap.size+1,2)=some (ι l):=a.cell (Sn.o 2 _ rfl) (λe=>by rcases e with e|e|e;exact v.o _ _ agE e;omega;omega);have t5:=a.cell (Z.o.cell c4 agI) (λe=>by rcases e with e|e|e;exact H1.o _ e;exact n1 e.symm;exact n3 e.symm);clear N WC L a;go_upto_block 0 with fail
   go_cut [8] (λc p=>c = ι (dS x y now k n g l)/\p=wc)
   case first=>
    cases x with
    |none=>
     obtain rfl:ba=false:=M.o.symm;go_wp2_with fail;go_meet;exact⟨rfl,rfl⟩
    |some e=>
     obtain rfl:ba=true:=M.o.symm;cases y with
     |none=>
      obtain rfl:bb=false:=O.o.symm;go_wp2_with fail;go_meet;exact⟨rfl,rfl⟩
     |some f=>
      obtain rfl:bb=true:=O.o.symm;have re:wc.rangeAt (w.heap.size+1+1) 0 e.bE:=(by have h:=Ui.o;rw[<-Hv.o]at h;exact h);have rf:wc.rangeAt (w.heap.size+1+1+1) 0 f.bE:=(by have h:=z.o;rw[<-Hu.o]at h;exact h);have ym:=hid (Ea (w.heap.size+1+1) 4 e now wc (re 6 _ rfl));have FV:=hid (Ea (w.heap.size+1+1+1) 4 f now wc (rf 6 _ rfl));have HH1:=hid (zG (w.heap.size+1+1) 4 e 32 5 wc agF agF (re 7 _ rfl));have Mh:=hid (zG (w.heap.size+1+1+1) 4 f 32 5 wc agF agF (rf 7 _ rfl));have yM:Hid (dS (some e) (some f) now k n g l=if e.gone now=true then g else if f.gone now=true then l else if e.has 32=true\/f.has 32=true then 12 else 0):=rfl;clear re rf;generalize e.gone now=b1 at *;generalize f.gone now=b2 at *;generalize e.has 32=b3 at *;generalize f.has 32=b4 at *;generalize dS (some e) (some f) now k n g l=pc at *;cases b1 with
      |true=>
       go_wp2_with (first|(go_at_call 207;refine ym.o.mono ?_;clear ym;rintro e w1 ⟨rfl,rfl⟩))
       go_meet;exact⟨by rw[yM.o];rfl,rfl⟩
      |false=>
       cases b2 with
       |true=>
        go_wp2_with (first|(go_at_call 207;refine ym.o.mono ?_;clear ym;rintro e w1 ⟨rfl,rfl⟩)|(go_at_call 207;refine FV.o.mono ?_;clear FV;rintro e w1 ⟨rfl,rfl⟩))
        go_meet;exact⟨by rw[yM.o];rfl,rfl⟩
       |false=>
        cases b3 with
        |true=>
         exact aaH
        |false=>
         cases b4 with
         |true=>
          exact aaH
         |false=>
          exact aaH
   case rest=>
    obtain⟨rfl,rfl⟩:=hcut;clear t1 t2 t3 t4 t5;obtain⟨p0,p1,p2,p3,p4,p5,p6,p7⟩:=jX Ui.o;obtain⟨r0,r1,r2,r3,r4,r5,r6,r7⟩:=jX z.o;have K:=(P.o.cf G.o)
    have V7:=(Q.o.cf G.o)
    obtain⟨_,_,_,_,_,_,_,_,f0,f1,f2,f3,f4,f5,f6,f7⟩:=gG K;obtain⟨_,_,_,_,_,_,_,_,g0,g1,g2,g3,g4,g5,g6,g7⟩:=gG V7;clear K V7;go_wp2_with fail;have X:=XX wc (w.heap.size+1+1) (w.heap.size+1+1+1) agE _ _ _ _ _ _ _ _ _ _ _ _ _ _ _ _ Ui.o z.o;refine bodyPost_ret (Gn results171 _ _ _ (w.heap.size+1+1) (w.heap.size+1+1+1) rfl rfl _ _ (eG X.1 126 _ underlying126 rfl Tryz.iT) (eG X.2.1 126 _ underlying126 rfl Tryz.iT)) rfl ⟨by rw[Hv.o,Hu.o];rfl,?_,?_⟩
    ·exact m.o _ _ E.o (X.2.2.mono (λb _ _ e=>H3.o _ _ (by rcases e with e|e<;>omega)))
    ·refine((CF.before Z.o G.o).trans X.2.2 (λ_ _ _ e=>e.elim (λe=>.inr (.inl e)) (λe=>.inr (.inr e)))).mono (λb _ ab e=>?_);rcases e with e|e|e
     ·exact e
     ·omega
     ·omega
theorem Sq:∀(a)(l),((BE.o9 a l).isSome=false->BE.find a l=none)/\∀i(b:i<a.length),BE.o9 a l=some i->BE.find a l=some a[i]:=by
 intro a l;unfold BE.o9 BE.find;induction a with
 |nil=>grind
 |cons e a c=>
  rw[List.findIdx?_cons,List.find?_cons];cases h:(e.name==l)with
  |true=>
   grind
  |false=>
   simp only[fL,if_false];refine⟨agM,λi b hn=>?_⟩;rw[Option.map_eq_some_iff]at hn;grind
theorem P9(g:Nat)(a)(l)(w)(h:bS w g 2 a)(j:a.Pairwise (λx y=>Op.bytesLess x.name y.name=true)):
  Calls prog 278 #[(g,2),.string ⟨l.toArray⟩] w λe w'=>e=.returned (nM (BE.find a l))/\w.grownBy w' none:=by
 refine(XH g 2 a l _ w h j (hid rfl)).mono ?_
 rintro e w' ⟨f,k,m⟩
 refine⟨?_,m⟩
 have c:=Sq a l
 cases b:BE.o9 a l with
 |none=>
  rw[c.1 (by rw[b];rfl)];exact f (by rw[b];rfl)
 |some i=>
  obtain⟨d,_⟩:=Ch b;rw[c.2 i d b];exact k i d b
theorem JH(g:Nat)(c)(l)(w)(h:bS w g 2 c)(k:c.Pairwise (λx y=>Op.bytesLess x.name y.name=true)):
  Calls prog 277 #[(g,0),.string ⟨l.toArray⟩] w λe w'=>e=.returned (nM (BE.find c l))/\w.grownBy w' none:=by
 have f:=cx w (.cells noEntry 126) none
 have b:=P9 g c l _ (h.grown f) k
 obtain⟨x,j⟩:=aq (BE.find c l)
 rw[j]at b
 rw[j]
 obtain⟨v0,v1,v2,v3,v4,v5,v6,v7,i⟩:=iM x
 unfold nM at b⊢
 rw[i]at b
 rw[i]
 obtain⟨N,a⟩:=aq x.isSome
 rw[a]at b
 rw[a]
 have HB:=hid b
 have n:=hid f
 have r:=hid (Live.new w noEntry 126)
 clear b f i a j h k
 go_enter func277,ntmps277
 go_wp2_with (first|(go_at_call 278;refine HB.o.mono ?_;clear HB;rintro e B ⟨rfl,d⟩;have s:=hid (aa n.o d);have m:=r.o.grown d;clear d;obtain⟨⟨I,u⟩,⟨E,t⟩,⟨S,p⟩,⟨R,z⟩,⟨L,A⟩,⟨J,v⟩,⟨G,C⟩,⟨Q,q⟩,F,M,K,H,D,O,T,P⟩:=gG m))
 refine bodyPost_ret (aF results277 _ _ _ w.heap.size rfl _ (eG (jo B w.heap.size _ _ _ _ _ _ _ _ u t p z A v C q) 126 _ underlying126 rfl Tryz.iT)) rfl ⟨rfl,?_⟩
 repeat refine az ?_ (cy _)
 exact s.o
def FQ.cells(q:FQ)(pn:Int)(v:Value):List Value:=[.string q.ay,.string q.aV,ι q.bU,ι q.ma,ι q.dI,ι q.bW,ι q.aO,.bool q.pre.isSome,ι pn,v]
def NQ.cells(q:NQ)(v u:Value):List Value:=[.string q.fQ,ι q.ou,v,u,.string q.aV,ι q.bU,ι q.dI,ι q.bW,ι q.aO]
def TK.cells(t:TK):List Value:=[ι t.ae,υ t.aN.toNat,.string t.ay,ι t.dV,ι t.start,ι t.fin,ι t.aC]
theorem Qu(b:Nat)(x s)(f)(k)(w)(nq)(c:f=2 ^ k)(a:k<63)(h:eZ w b x s):
  Calls Tryz.prog 211 #[(b,0),ι f] (w.drewN nq) λr w'=>r=.returned (.bool (x.has f&&s.has f))/\∃m,w'=w.drewN m:=
 (qH b x s f k _ c a (h.grown (aR (cC _ _) nq))).mono agM
theorem UA(a g:Nat)(now aA t)(w:World)(nq)(d:w.cell? (a,3)=some (.pointer (some (g,0))))(c:w.cell? (a,4)=some (ι now))(cs:w.cell? (g,0)=some (ι aA))(f:In64 now)(b:In64 aA):
  Calls Tryz.prog 184 #[(a,0),ι t] (w.drewN nq) λe w'=>e=.returned (.bool (decide (aW now aA<t)))/\∃m,w'=w.drewN m:=
 (Bj a g now aA t _ ((aR (cC w none) nq).cell d agI) ((aR (cC w none) nq).cell c agI) ((aR (cC w none) nq).cell cs agI) f b).mono (by grind [World.drewN_drewN])
theorem tZ(s):In64 (bM s).1:=by
 grind [Du,In64,bM]
theorem pg{p:Option Pl}{b:Nat}(h:Off p b)(o):¬ Pl.has p b o:=λ⟨q,a,c,_⟩=>h q a c
theorem Sy{w:World}{v:Value}{p:Option Pl}{a:List UInt8}(h:Out w v p a)(o):¬ Pl.has p w.heap.size o:=λe=>gC _ (h.lt e)
abbrev jy:Array Value:=#[ι 0,υ 0,.string ⟨#[]⟩,ι 0,ι 0,ι 0,ι 0]
theorem Az(x):In64 (sat x):=by
 grind [In64,sat]
theorem Qv(a b):lesser a b=min a b:=by
 unfold lesser;split<;>omega
def sG(r:Except Int TK):Value:=match r with|.error c=>.tuple #[.agg jy,ι c]|.ok t=>.tuple #[.agg t.cells.toArray,ι 0]
def yz(now:Int)(old:TK):Except Int TK:=if now<old.start then .error 33 else .ok {old with ae:=if aI old.ae 16=true then old.ae-16 else old.ae}
def yA(now:Int)(old:TK):Except Int TK:=if old.aC<=now then .error 32 else .ok {old with start:=now,fin:=lesser old.aC (aW now (fV old.fin old.start))}
theorem abH(h:p:=by
 clear G0 hW0 R0 hf HN s0
 go_enter func224,ntmps224
 go_wp2_with (rw[<-HW0.o];fail_if_success done)
 go_wp2
 exact bodyPost_ret (aF results224 _ _ _ W0.heap.size rfl _ ((dB.new W0 _ 333).load 333 _ underlying333 rfl Tryz.jf)) rfl ⟨rfl,aa HG.o (cx _ _ none)⟩):p:=h
theorem Gy(now)(old)(w)(hf:In64 old.ae):
  Calls prog 224 #[ι now,.agg old.cells.toArray] w λe w'=>e=.returned (sG (yz now old))/\w.grownBy w' none:=by
 obtain⟨W0,hW0⟩:=aw (w.alloc (.cells old.cells.toArray 333))
 have G0:w.grownBy W0 none:=ahE
 have R0:W0.rangeAt w.heap.size 0 old.cells:=by rw[hW0];exact aS w old.cells.toArray _
 have s0:W0.heap.size=w.heap.size+1:=by rw[hW0];exact cF _ _
 have a:=cx W0 (.cells jy 333) none
 have c:=a.cell (R0 0 _ rfl) agI
 have g:=a.cell (R0 1 _ rfl) agI
 have j:=a.cell (R0 2 _ rfl) agI
 have f:=a.cell (R0 3 _ rfl) agI
 have i:=a.cell (R0 4 _ rfl) agI
 have d:=a.cell (R0 5 _ rfl) agI
 have h:=a.cell (R0 6 _ rfl) agI
 have HG:=hid G0
 have HW0:=hid hW0
 have HN:=hid (zI old.ae hf)
 unfold yz
 rw[<-HN.o]
 by_cases b:now<old.start
 ·rw[if_pos b];exact abH
 ·rw[if_neg b];exact abH
theorem MN(now)(old)(w)(m:In64 now)(i:In64 old.start)(k:In64 old.fin):
  Calls prog 225 #[ι now,.agg old.cells.toArray] w λe w'=>e=.returned (sG (yA now old))/\w.grownBy w' none:=by
 obtain⟨a,hW0⟩:=aw (w.alloc (.cells old.cells.toArray 333))
 have n:w.grownBy a none:=ahE
 have b:a.rangeAt w.heap.size 0 old.cells:=by rw[hW0];exact aS w old.cells.toArray _
 have q:a.heap.size=w.heap.size+1:=by rw[hW0];exact cF _ _
 have c:=cx a (.cells jy 333) none
 have r:=c.cell (b 0 _ rfl) agI
 have s:=c.cell (b 1 _ rfl) agI
 have y:=c.cell (b 2 _ rfl) agI
 have z:=c.cell (b 3 _ rfl) agI
 have B:=c.cell (b 4 _ rfl) agI
 have x:=c.cell (b 5 _ rfl) agI
 have v:=c.cell (b 6 _ rfl) agI
 have p:=hid n
 have g:=hid hW0
 have t:=hid (λW=>rC old.fin old.start W k.1 k.2 i.1 i.2)
 have l:In64 (fV old.fin old.start):=Az _
 have u:=hid (λW=>Cm now (fV old.fin old.start) W m.1 m.2 l.1 l.2)
 unfold yA
 by_cases f:old.aC<=now
 ·rw[if_pos f];clear n hW0 b q l m i k;go_enter func225,ntmps225;go_wp2_with (rw[<-g.o];fail_if_success done)
  go_wp2;exact bodyPost_ret (aF results225 _ _ _ a.heap.size rfl _ ((dB.new a _ 333).load 333 _ underlying333 rfl Tryz.jf)) rfl ⟨rfl,aa p.o (cx _ _ none)⟩
 ·rw[if_neg f,Qv];have d:Hid (a.cell? (w,4)=some (ι old.start)/\a.cell? (w,5)=some (ι old.fin)/\a.cell? (w,6)=some (ι old.aC)):=⟨b 4 _ rfl,b 5 _ rfl,b 6 _ rfl⟩
  generalize fV old.fin old.start=dd at *;generalize aW now dd=ss at *;clear n hW0 b q l m i k;go_enter func225,ntmps225;go_wp2_with (rw[<-g.o];fail_if_success done)
  have j:=cx a (.cells #[ι old.ae,υ old.aN.toNat,.string old.ay,ι old.dV,ι now,ι old.fin,ι old.aC] 333) none;have G:=j.cell d.o.1 agI;have F:=j.cell d.o.2.1 agI;have H:=j.cell d.o.2.2 agI;have h:=cx a (.cells #[ι old.ae,υ old.aN.toNat,.string old.ay,ι old.dV,ι now,ι (min old.aC ss),ι old.aC] 333) none;have C:=h.cell d.o.1 agI;have D:=h.cell d.o.2.1 agI;have E:=h.cell d.o.2.2 agI;clear c j h r s y z B x v;go_region_held3 (λw'=>w'.cell? ⟨w.heap.size,4,none⟩=some (ι old.start)/\w'.cell? ⟨w.heap.size,5,none⟩=some (ι old.fin)/\w'.cell? ⟨w.heap.size,6,none⟩=some (ι old.aC)) (go_keep) (first|(go_at_call 247;refine(t.o _).mono ?_;rintro e A ⟨rfl,rfl⟩)|(go_at_call 221;refine(u.o _).mono ?_;rintro e A ⟨rfl,rfl⟩));go_wp2;exact bodyPost_ret (aF results225 _ _ _ a.heap.size rfl _ ((dB.new a _ 333).drew.load 333 _ underlying333 rfl Tryz.jf)) rfl ⟨rfl,bg (aa p.o (cx _ _ none))⟩
def Ev(o:Int)(old:TK)(x s:BE):Int:=bits .or .i64 (bits .and .i64 old.ae 448) (jG (bits .and .i64 o old.ae) x s)
def Ew(o:Int)(old:TK)(x s:BE):Int:=if aI o 64=true then bits .or .i64 (Ev o old x s) 128 else Ev o old x s
def vT(o:Int)(old:TK)(x s:BE):Int:=if aI o 128=true then bits .or .i64 (Ew o old x s) 256 else Ew o old x s
theorem afD:∀(f d k b h a j i),
  (let kept:Int:=(if f=true then 64 else 0)+(if d=true then 128 else 0)+(if k=true then 256 else 0)
   let l:Int:=(if b=true then 1 else 0)+(if h=true then 2 else 0)+(if a=true then 4 else 0)
   let c:=bits .or .i64 kept l
   let g:=if j=true then bits .or .i64 c 128 else c
   let e:=if i=true then bits .or .i64 g 256 else g
   e=(if f=true then 64 else 0)+(if (d||j)=true then 128 else 0)+(if (k||i)=true then 256 else 0)+((if b=true then 1 else 0)+(if h=true then 2 else 0)+(if a=true then 4 else 0))/\aI e 4=a):=by decide
theorem Ex(o)(old)(x s):vT o old x s=iL o old x s/\aI (vT o old x s) 4=(aI o 4&&aI old.ae 4&&(x.has 2&&s.has 2)):=by
 have h:=afD (aI old.ae 64) (aI old.ae 128) (aI old.ae 256) (aI (bits .and .i64 o old.ae) 1&&(x.has 4&&s.has 4)) (aI (bits .and .i64 o old.ae) 2&&(x.has 8&&s.has 8)) (aI (bits .and .i64 o old.ae) 4&&(x.has 2&&s.has 2)) (aI o 64) (aI o 128)
 have e:vT o old x s=(let kept:Int:=(if aI old.ae 64=true then 64 else 0)+(if aI old.ae 128=true then 128 else 0)+(if aI old.ae 256=true then 256 else 0)
   let d:Int:=jG (bits .and .i64 o old.ae) x s
   let a:=bits .or .i64 kept d
   let b:=if aI o 64=true then bits .or .i64 a 128 else a
   if aI o 128=true then bits .or .i64 b 256 else b):=by
  unfold vT Ew Ev
  rw[X8]
  rfl
 have c:=e.trans h.1;constructor
 ·rw[c];unfold iL gY;rw[X9,Ya,Mq];simp only[Bool.and_eq_true,Bool.or_eq_true,and_assoc]
 grind [Mq]
theorem ahp(h:p:=by rw[HT8.o];exact cy _):p:=h
theorem jR{w:World}{b:Nat}{v0 v1 v2 v3 v4 v5 v6:Value}(h:dB w b #[v0,v1,v2,v3,v4,v5,v6]):(w.cell? (b,0)=some v0/\w.cell? (b,1)=some v1/\w.cell? (b,2)=some v2/\w.cell? (b,3)=some v3/\w.cell? (b,4)=some v4/\w.cell? (b,5)=some v5/\w.cell? (b,6)=some v6)/\w.frozen? (b,0)=false/\w.frozen? (b,1)=false/\w.frozen? (b,2)=false/\w.frozen? (b,3)=false/\w.frozen? (b,4)=false/\w.frozen? (b,5)=false/\w.frozen? (b,6)=false:=
 ⟨⟨h.cell 0,h.cell 1,h.cell 2,h.cell 3,h.cell 4,h.cell 5,h.cell 6⟩,h.frozen 0,h.frozen 1,h.frozen 2,h.frozen 3,h.frozen 4,h.frozen 5,h.frozen 6⟩
def JU(now:Int)(q:NQ)(old:TK)(x s:BE):Int:=min old.fin (lesser (asked q.dI) (lesser (aW now x.bI) (aW now s.bI)))
def Qw(now:Int)(q:NQ)(old:TK)(x s:BE):Int:=if aI (vT q.aO old x s) 4=true then min old.aC (lesser (asked q.bW) (lesser (aW now x.aC) (aW now s.aC))) else 0
def Qx(now:Int)(q:NQ)(old:TK)(x s:BE):Except Int TK:=if JU now q old x s<=now then .error 11 else .ok ⟨vT q.aO old x s,0,old.ay,old.dV,now,JU now q old x s,Qw now q old x s⟩
theorem MO(S:Nat)(now)(q)(v u)(old)(x s)(w)(Y:eZ w S x s)(dA:In64 now)(av:In64 x.bI)(aj:In64 s.bI)(Yo:In64 x.aC)(Yp:In64 s.aC):
  Calls prog 226 #[(S,0),ι now,.agg (q.cells v u).toArray,.agg old.cells.toArray] w λe w'=>e=.returned (sG (Qx now q old x s))/\w.grownBy w' none:=by
 obtain⟨a,hW0⟩:=aw ((w.alloc (.cells (q.cells v u).toArray 276)).alloc (.cells old.cells.toArray 333))
 have G0:w.grownBy a none:=by rw[hW0];exact aM (cx w _ none) _
 have RQ:a.rangeAt w.heap.size 0 (q.cells v u):=by rw[hW0];exact gX (aS w (q.cells v u).toArray _) (cx _ _ none)
 have RT:a.rangeAt (w.heap.size+1) 0 old.cells:=by
  have h:=aS (w.alloc (.cells (q.cells v u).toArray 276)) old.cells.toArray 333;exact af5
 have s0:a.heap.size=w.heap.size+1+1:=by rw[hW0];simp only[cF]
 obtain⟨H,ah⟩:=aw a.heap.size
 obtain⟨W1,Q⟩:=aw (a.alloc (.cells #[ι 0,υ 0,.string old.ay,ι old.dV,ι now,ι 0,ι 0] 333))
 have B1:dB W1 H #[ι 0,υ 0,.string old.ay,ι old.dV,ι now,ι 0,ι 0]:=by rw[Q,ah];exact dB.new _ _ _
 have G1:a.grownBy W1 none:=by rw[Q];exact cx _ _ none
 have HP:Hid (∀W,a.grownBy W none->eZ W S x s):=λW k=>Y.grown (aa G0 k)
 have O:Hid (∀W,a.grownBy W none->W.cell? (w,6)=some (ι q.dI)/\W.cell? (w,7)=some (ι q.bW)/\W.cell? (w,8)=some (ι q.aO)/\W.cell? (w.heap.size+1,0)=some (ι old.ae)/\W.cell? (w.heap.size+1,5)=some (ι old.fin)/\W.cell? (w.heap.size+1,6)=some (ι old.aC)):=
  λW k=>⟨k.cell (RQ 6 _ rfl) agI,k.cell (RQ 7 _ rfl) agI,k.cell (RQ 8 _ rfl) agI,k.cell (RT 0 _ rfl) agI,k.cell (RT 5 _ rfl) agI,k.cell (RT 6 _ rfl) agI⟩
 have r2:a.cell? (w.heap.size+1,2)=some (.string old.ay):=RT 2 _ rfl
 have r3:a.cell? (w.heap.size+1,3)=some (ι old.dV):=RT 3 _ rfl
 have gz:=cx a (.cells jy 333) none
 have z2:=gz.cell r2 agI
 have z3:=gz.cell r3 agI
 have HE:Hid (∀W,a.grownBy W none->Calls prog 176 #[(S,0),ι now,ι q.dI] W λr w'=>r=.returned (ι (lesser (asked q.dI) (lesser (aW now x.bI) (aW now s.bI))))/\∃m,w'=W.drewN m):=λW k=>Mi S x s now q.dI W (HP.o W k) dA av aj
 have HR:Hid (∀W,a.grownBy W none->Calls prog 179 #[(S,0),ι now,ι q.bW] W λr w'=>r=.returned (ι (lesser (asked q.bW) (lesser (aW now x.aC) (aW now s.aC))))/\∃m,w'=W.drewN m):=λW k=>Ec S x s now q.bW W (HP.o W k) dA Yo Yp
 have ak:Hid (∀W,a.grownBy W none->Calls prog 213 #[(S,0),ι (bits .and .i64 q.aO old.ae)] W λr w'=>r=.returned (ι (jG (bits .and .i64 q.aO old.ae) x s))/\W.grownBy w' none):=λW k=>Bq S x s _ W (HP.o W k)
 have aP:Hid (JU now q old x s=min old.fin (lesser (asked q.dI) (lesser (aW now x.bI) (aW now s.bI)))):=rfl
 have ao:Hid (Qw now q old x s=if aI (vT q.aO old x s) 4=true then min old.aC (lesser (asked q.bW) (lesser (aW now x.aC) (aW now s.aC))) else 0):=rfl
 have aK:Hid (Ev q.aO old x s=bits .or .i64 (bits .and .i64 old.ae 448) (jG (bits .and .i64 q.aO old.ae) x s)):=rfl
 have p9:Hid (Ew q.aO old x s=if aI q.aO 64=true then bits .or .i64 (Ev q.aO old x s) 128 else Ev q.aO old x s):=rfl
 have aG:Hid (vT q.aO old x s=if aI q.aO 128=true then bits .or .i64 (Ew q.aO old x s) 256 else Ew q.aO old x s):=rfl
 have ar:=hid (kG q.aO 64 6 agF agF)
 have au:=hid (kG q.aO 128 7 agF agF)
 have aH:=hid (kG (vT q.aO old x s) 4 2 agF agF)
 unfold Qx
 generalize lesser (asked q.dI) (lesser (aW now x.bI) (aW now s.bI))=e0 at *
 generalize lesser (asked q.bW) (lesser (aW now x.aC) (aW now s.aC))=e1 at *
 generalize jG (bits .and .i64 q.aO old.ae) x s=al at *
 generalize JU now q old x s=E at *
 generalize Qw now q old x s=R at *
 generalize Ev q.aO old x s=F1 at *
 generalize Ew q.aO old x s=F2 at *
 generalize vT q.aO old x s=F3 at *
 generalize aI q.aO 64=o6 at *
 generalize aI q.aO 128=o7 at *
 generalize aI F3 4=o4 at *
 obtain⟨dI,Yq⟩:=aq q.dI
 obtain⟨bW,d⟩:=aq q.bW
 obtain⟨aO,Yr⟩:=aq q.aO
 rw[Yq]at HE
 rw[d]at HR
 rw[Yr]at ak ar au
 rw[Yq,d,Yr]at O
 obtain⟨qc,ad⟩:=aq ((q.cells v u).toArray)
 obtain⟨oc,ab⟩:=aq old.cells.toArray
 rw[ad,ab]at hW0
 rw[ad,ab]
 obtain⟨mv,af⟩:=aq (sG (if E<=now then .error 11 else .ok ⟨F3,0,old.ay,old.dV,now,E,R⟩))
 rw[af]
 have ag:=hid af
 clear af
 have n1:H≠w.heap.size:=agE
 have n2:H≠w.heap.size+1:=agE
 have sP:=hid G0
 have kF:=hid G1
 have aN:=hid B1
 have aL:=hid hW0
 have aJ:=hid Q
 have HT8:=hid ah
 have dY:=hid s0
 clear G0 G1 B1 hW0 Q ah s0 Y dA av aj Yo Yp RQ RT gz Yq d Yr ad ab
 go_enter func226,ntmps226
 go_wp2_with (rw[<-aL.o];fail_if_success done)
 rw[<-aJ.o,<-HT8.o]
 go_cut [9] (λc l=>c = ι 0/\dB l H #[ι 0,υ 0,.string old.ay,ι old.dV,ι now,ι E,ι 0]/\a.grownBy l none)
 case first=>
  obtain⟨c6,V,U,X,Z,T⟩:=O.o W1 kF.o;go_region_held3 (λw'=>w'.cell? ⟨w.heap.size,6,none⟩=some (ι dI)/\w'.cell? ⟨w.heap.size+1,5,none⟩=some (ι old.fin)) (go_keep) (first|(go_at_call 176;refine(HE.o _ (bg kF.o)).mono ?_;rintro e M ⟨rfl,m,g⟩;have j:Hid (dB M H #[ι 0,υ 0,.string old.ay,ι old.dV,ι now,ι 0,ι 0]):=(by rw[g];exact aN.o.drew.drewN m);have f:Hid (a.grownBy M none):=(by rw[g];exact aR (bg kF.o) m);clear g;obtain⟨aD,aB,aE,aA,ax,an⟩:=O.o M f.o;obtain⟨⟨y,J,n,A,p,G,K⟩,F,D,t,C,B,z,I⟩:=jR j.o));go_wp2;go_meet;exact⟨rfl,by rw[aP.o];exact j.o.set 5 (ι (min old.fin e0)),az f.o ahp⟩
 case rest=>
  obtain⟨rfl,B2,g2⟩:=hcut;have j:=hid B2;have f:=hid g2;clear B2 g2;obtain⟨c6,V,U,X,Z,T⟩:=O.o _ f.o;obtain⟨⟨y,J,n,A,p,G,K⟩,F,D,t,C,B,z,I⟩:=jR j.o;by_cases hE:E<=now
  ·have ai:Hid (mv=sG (.error 11)):=(by rw[<-ag.o,if_pos hE];exact rfl);go_wp2_with fail;have B7:=((((((j.o.set 0 (ι 0)).set 1 (υ 0)).set 2 (.string ⟨#[]⟩)).set 3 (ι 0)).set 4 (ι 0)).set 5 (ι 0)).set 6 (ι 0);refine bodyPost_ret (aF results226 _ _ _ H rfl _ (B7.load 333 _ underlying333 rfl Tryz.jf)) rfl ⟨by rw[ai.o];rfl,?_⟩;refine aa sP.o ?_;repeat refine az ?_ ahp
   exact f.o
  ·have ai:Hid (mv=sG (.ok ⟨F3,0,old.ay,old.dV,now,E,R⟩)):=(by rw[<-ag.o,if_neg hE];exact rfl);clear ag;go_wp2_with fail;go_cut [9] (λc l=>c = ι 0/\dB l H #[ι F1,υ 0,.string old.ay,ι old.dV,ι now,ι E,ι 0]/\a.grownBy l none)
   case first=>
    clear y J n A p G K F D t C B z I;go_region_held3 (λw'=>w'.cell? ⟨w.heap.size,8,none⟩=some (ι aO)/\w'.cell? ⟨w.heap.size+1,0,none⟩=some (ι old.ae)) (go_keep) (first|(go_at_call 213;refine(ak.o _ (bg f.o)).mono ?_;rintro e M ⟨rfl,g1⟩;have i:Hid (dB M H #[ι 0,υ 0,.string old.ay,ι old.dV,ι now,ι E,ι 0]):=j.o.drew.grown g1 agI;have kR:Hid (a.grownBy M none):=aa (bg f.o) g1;clear g1;obtain⟨aD,aB,aE,aA,ax,an⟩:=O.o M kR.o;obtain⟨⟨y,J,n,A,p,G,K⟩,F,D,t,C,B,z,I⟩:=jR i.o));go_wp2;go_meet;exact⟨rfl,by rw[aK.o];exact i.o.set 0 (ι (bits .or .i64 (bits .and .i64 old.ae 448) al)),az kR.o ahp⟩
   case rest=>
    obtain⟨rfl,B3,g3⟩:=hcut;have i:=hid B3;have kR:=hid g3;clear B3 g3 j f c6 V U X Z T y J n A p G K F D t C B z I;obtain⟨c6,V,U,X,Z,T⟩:=O.o _ kR.o;obtain⟨⟨y,J,n,A,p,G,K⟩,F,D,t,C,B,z,I⟩:=jR i.o;go_upto_if 45 with fail
    go_cut [9] (λc l=>c = ι 0/\dB l H #[ι F2,υ 0,.string old.ay,ι old.dV,ι now,ι E,ι 0]/\a.grownBy l none)
    case first=>
     have b:=ar.o;cases o6 with
     |true=>
      rw[eV]at b;have Y:=cJ.1 b;clear b;go_wp2;go_meet;exact⟨rfl,by rw[p9.o];exact i.o.set 0 (ι (bits .or .i64 F1 128)),az kR.o ahp⟩
     |false=>
      rw[eM]at b;have Y:=db.1 b;clear b;go_wp2;go_meet;exact⟨rfl,by rw[p9.o];exact i.o,kR.o⟩
    case rest=>
     obtain⟨rfl,B4,g4⟩:=hcut;have N:=hid B4;have FH:=hid g4;clear B4 g4 i kR c6 V U X Z T y J n A p G K F D t C B z I;obtain⟨c6,V,U,X,Z,T⟩:=O.o _ FH.o;obtain⟨⟨y,J,n,A,p,G,K⟩,F,D,t,C,B,z,I⟩:=jR N.o;go_upto_if 53 with fail
     go_cut [9] (λc l=>c = ι 0/\dB l H #[ι F3,υ 0,.string old.ay,ι old.dV,ι now,ι E,ι 0]/\a.grownBy l none)
     case first=>
      have b:=au.o;cases o7 with
      |true=>
       rw[eV]at b;have Y:=cJ.1 b;clear b;go_wp2;go_meet;exact⟨rfl,by rw[aG.o];exact N.o.set 0 (ι (bits .or .i64 F2 256)),az FH.o ahp⟩
      |false=>
       rw[eM]at b;have Y:=db.1 b;clear b;go_wp2;go_meet;exact⟨rfl,by rw[aG.o];exact N.o,FH.o⟩
     case rest=>
      obtain⟨rfl,B5,g5⟩:=hcut;have P:=hid B5;have MP:=hid g5;clear B5 g5 N FH c6 V U X Z T y J n A p G K F D t C B z I;obtain⟨c6,V,U,X,Z,T⟩:=O.o _ MP.o;obtain⟨⟨y,J,n,A,p,G,K⟩,F,D,t,C,B,z,I⟩:=jR P.o;go_upto_if 61 with fail
      go_cut [9] (λc l=>c = ι 0/\dB l H #[ι F3,υ 0,.string old.ay,ι old.dV,ι now,ι E,ι R]/\a.grownBy l none)
      case first=>
       have b:=aH.o;cases o4 with
       |true=>
        rw[eV]at b;have Y:=cJ.1 b;clear b;go_wp2_with fail;clear y J n A p G K F D t C B z I;go_region_held3 (λw'=>w'.cell? ⟨w.heap.size,7,none⟩=some (ι bW)/\w'.cell? ⟨w.heap.size+1,6,none⟩=some (ι old.aC)) (go_keep) (first|(go_at_call 179;refine(HR.o _ (bg MP.o)).mono ?_;rintro e M ⟨rfl,m,g⟩;have L:Hid (dB M H #[ι F3,υ 0,.string old.ay,ι old.dV,ι now,ι E,ι 0]):=(by rw[g];exact P.o.drew.drewN m);have OQ:Hid (a.grownBy M none):=(by rw[g];exact aR (bg MP.o) m);clear g;obtain⟨aD,aB,aE,aA,ax,an⟩:=O.o M OQ.o;obtain⟨⟨y,J,n,A,p,G,K⟩,F,D,t,C,B,z,I⟩:=jR L.o));go_wp2;go_meet;exact⟨rfl,by rw[ao.o];exact L.o.set 6 (ι (min old.aC e1)),az OQ.o ahp⟩
       |false=>
        rw[eM]at b;have Y:=db.1 b;clear b;go_wp2;go_meet;exact⟨rfl,by rw[ao.o];exact P.o,MP.o⟩
      case rest=>
       obtain⟨rfl,B6,g6⟩:=hcut;have L:=hid B6;have OQ:=hid g6;clear B6 g6 P MP c6 V U X Z T y J n A p G K F D t C B z I;obtain⟨⟨y,J,n,A,p,G,K⟩,F,D,t,C,B,z,I⟩:=jR L.o;go_wp2_with fail;have B7:=((((((L.o.set 0 (ι F3)).set 1 (υ 0)).set 2 (.string old.ay)).set 3 (ι old.dV)).set 4 (ι now)).set 5 (ι E)).set 6 (ι R);refine bodyPost_ret (aF results226 _ _ _ H rfl _ (B7.load 333 _ underlying333 rfl Tryz.jf)) rfl ⟨by rw[ai.o];rfl,?_⟩;refine aa sP.o ?_;repeat refine az ?_ ahp
       exact OQ.o
theorem uf(c a b d)(w):
  Calls Tryz.prog 222 #[υ ((if c=true then 16 else 0)+(if a=true then 32 else 0)+(if b=true then 64 else 0)+(if d=true then 128 else 0))] w λe w'=>e=.returned (ι ((if c=true then 1 else 0)+(if a=true then 1 else 0)+(if b=true then 1 else 0)+(if d=true then 1 else 0)))/\w'=w:=by
 cases c<;>cases a<;>cases b<;>cases d
 all_goals
  simp only[if_true,if_false,fL,Int.add_zero,Int.zero_add]
  go_enter Tryz.func222,Tryz.ntmps222
  go_wp2
  go_ret
  exact⟨bD agP,rfl⟩
theorem Qy(o f)(h:¬ (0<=o/\o<256/\aI o 8=false)):jZ o f=false:=by
 grind [jZ]
theorem MQ(o f)(h:0<=o/\o<256/\aI o 8=false):jZ o f=if 1<vI o\/aI o 32=true/\o≠32 then false
  else if aI o 16=true/\aI f 4=false\/aI o 64=true/\aI f 1=false\/aI o 128=true/\aI f 2=false then false else !aI o 32||aI f 16:=by
 grind [jZ]
theorem afF(o)(h:0<=o/\o<256/\aI o 8=false)(c:aI o 16=false)(b:aI o 32=true)(d:aI o 64=false)(a:aI o 128=false):(bits .and .i64 o 7==0)=decide (o=32):=by
 grind [and7,aI]
def acr(b4 b5 b6 b7 no7:Bool)(f:Int):Bool:=
 if 1<(if b4=true then 1 else 0)+(if b5=true then 1 else 0)+(if b6=true then 1 else 0)+(if b7=true then(1:Int) else 0) then false
 else if b4=true then aI f 4 else if b5=true then no7&&aI f 16 else if b6=true then aI f 1 else if b7=true then aI f 2 else true
theorem acs(o f)(h:0<=o/\o<256/\aI o 8=false):jZ o f=acr (aI o 16) (aI o 32) (aI o 64) (aI o 128) (bits .and .i64 o 7==0) f:=by
 grind [afF,MQ,acr,vI]
theorem UB(n):bits .and .i64 n 240=(if aI n 16=true then 16 else 0)+(if aI n 32=true then 32 else 0)+(if aI n 64=true then 64 else 0)+(if aI n 128=true then 128 else 0):=X7 n
theorem and_zero(n):(bits .and .i64 n 0==0)=true:=by
 rw[db];refine Bp (Ef n 0) ⟨by decide,by decide⟩ (λj a=>?_);rw[jq n 0 j a,tX,Bool.and_false]
theorem UC(o f)(w)(h:(bits .andNot .i64 o 247==0)=false):
  Calls prog 185 #[ι o,ι f] w λe w'=>e=.returned (.bool false)/\w'=w:=by
 have a:=cJ.1 h
 clear h
 go_enter func185,ntmps185
 exact aaE
theorem aar(h:p:=by
 go_enter func185,ntmps185
 go_wp2_with (first
  |(go_at_call 222;refine HO.o.mono ?_;clear HO;rintro e w1 ⟨rfl,rfl⟩)
  |(go_at_call 223;refine HN.o.mono ?_;clear HN;rintro e w1 ⟨rfl,rfl⟩)
  |(go_at_call 223;refine HM.o.mono ?_;clear HM;rintro e w1 ⟨rfl,rfl⟩))
 go_wp2
 go_ret
 exact⟨fM HF.o,rfl⟩):p:=h
theorem acu(o f)(w)(h:(bits .andNot .i64 o 247==0)=true)(hw:bits .and .i64 o 240=0):
  Calls prog 185 #[ι o,ι f] w λe w'=>e=.returned (.bool (true))/\w'=w:=by
 have a:=db.1 h
 clear h
 have HO:Hid (Calls prog 222 #[υ 0] w λe w'=>e=.returned (ι 0)/\w'=w):=uf false false false false w
 have HN:=hid (gq 0 w)
 have HM:=hid (gq 0 w)
 rw[show Bn 0=0 from rfl]at HN HM
 have HF:=hid (and_zero f)
 exact aar
theorem Yt(o f)(w)(h:(bits .andNot .i64 o 247==0)=true)(hw:bits .and .i64 o 240=16):
  Calls prog 185 #[ι o,ι f] w λe w'=>e=.returned (.bool (aI f 4))/\w'=w:=by
 have a:=db.1 h
 clear h
 have HO:Hid (Calls prog 222 #[υ 16] w λe w'=>e=.returned (ι 1)/\w'=w):=uf true false false false w
 have HN:=hid (gq 16 w)
 have HM:=hid (gq 16 w)
 rw[show Bn 16=4 from rfl]at HN HM
 have HF:=hid (rD f 4 2 agF agF)
 exact aar
theorem Yu(o f)(w)(h:(bits .andNot .i64 o 247==0)=true)(hw:bits .and .i64 o 240=64):
  Calls prog 185 #[ι o,ι f] w λe w'=>e=.returned (.bool (aI f 1))/\w'=w:=by
 have a:=db.1 h
 clear h
 have HO:Hid (Calls prog 222 #[υ 64] w λe w'=>e=.returned (ι 1)/\w'=w):=uf false false true false w
 have HN:=hid (gq 64 w)
 have HM:=hid (gq 64 w)
 rw[show Bn 64=1 from rfl]at HN HM
 have HF:=hid (rD f 1 0 agF agF)
 exact aar
theorem UD(o f)(w)(h:(bits .andNot .i64 o 247==0)=true)(hw:bits .and .i64 o 240=128):
  Calls prog 185 #[ι o,ι f] w λe w'=>e=.returned (.bool (aI f 2))/\w'=w:=by
 have a:=db.1 h
 clear h
 have HO:Hid (Calls prog 222 #[υ 128] w λe w'=>e=.returned (ι 1)/\w'=w):=uf false false false true w
 have HN:=hid (gq 128 w)
 have HM:=hid (gq 128 w)
 rw[show Bn 128=2 from rfl]at HN HM
 have HF:=hid (rD f 2 1 agF agF)
 exact aar
theorem Yv(o f)(w)(h:(bits .andNot .i64 o 247==0)=true)(hw:bits .and .i64 o 240=32):
  Calls prog 185 #[ι o,ι f] w λe w'=>e=.returned (.bool ((bits .and .i64 o 7==0)&&aI f 16))/\w'=w:=by
 have b:=db.1 h
 clear h
 have HO:Hid (Calls prog 222 #[υ 32] w λe w'=>e=.returned (ι 1)/\w'=w):=uf false true false false w
 have HN:=hid (gq 32 w)
 have HM:=hid (gq 32 w)
 rw[show Bn 32=16 from rfl]at HN HM
 have HF:=hid (rD f 16 4 agF agF)
 by_cases a:bits .and .i64 o 7=0
 ·rw[a];exact aar
 ·rw[cJ.2 a,gj];go_enter func185,ntmps185
  go_wp2_with (first
   |(go_at_call 222;refine HO.o.mono ?_;clear HO;rintro e w1 ⟨rfl,rfl⟩))
  exact aaE
theorem Qz(o f)(g b d a)(w)(h:(bits .andNot .i64 o 247==0)=true)(hw:bits .and .i64 o 240=(if g=true then 16 else 0)+(if b=true then 32 else 0)+(if d=true then 64 else 0)+(if a=true then 128 else 0))(k:1<(if g=true then 1 else 0)+(if b=true then 1 else 0)+(if d=true then 1 else 0)+(if a=true then(1:Int) else 0)):
  Calls prog 185 #[ι o,ι f] w λe w'=>e=.returned (.bool false)/\w'=w:=by
 have q:=db.1 h
 clear h
 have i:=hid (uf g b d a w)
 obtain⟨c,j⟩:=aq ((if g=true then 1 else 0)+(if b=true then 1 else 0)+(if d=true then 1 else 0)+(if a=true then(1:Int) else 0))
 have m:0<=(if g=true then(16:Int) else 0)+(if b=true then 32 else 0)+(if d=true then 64 else 0)+(if a=true then 128 else 0)/\(if g=true then(16:Int) else 0)+(if b=true then 32 else 0)+(if d=true then 64 else 0)+(if a=true then 128 else 0)<=240:=by
  cases g<;>cases b<;>cases d<;>cases a<;>decide
 rw[j]at i k
 generalize (if g=true then(16:Int) else 0)+(if b=true then 32 else 0)+(if d=true then 64 else 0)+(if a=true then 128 else 0)=v at *
 clear j
 obtain⟨n,l⟩:=m
 go_enter func185,ntmps185
 go_wp2_with (first
  |(go_at_call 222;refine i.o.mono ?_;clear i;rintro e p ⟨rfl,rfl⟩))
 exact aaE
theorem MS(o f)(w)(d:In64 o):
  Calls prog 185 #[ι o,ι f] w λe w'=>e=.returned (.bool (jZ o f))/\w'=w:=by
 have a:=Ul o d
 by_cases c:0<=o/\o<256/\aI o 8=false
 ·rw[dk c]at a;rw[acs o f c];have hw:=UB o;by_cases b:1<(if aI o 16=true then 1 else 0)+(if aI o 32=true then 1 else 0)+(if aI o 64=true then 1 else 0)+(if aI o 128=true then(1:Int) else 0)
  ·rw[acr,if_pos b];exact Qz o f _ _ _ _ w a hw b
  ·rw[acr,if_neg b];generalize aI o 16=b4 at *;generalize aI o 32=b5 at *;generalize aI o 64=b6 at *;generalize aI o 128=b7 at *;cases b4 with
   |true=>
    cases b5 with
    |true=>exact absurd (by cases b6<;>cases b7<;>decide) b
    |false=>
     cases b6 with
     |true=>exact absurd (by cases b7<;>decide) b
     |false=>
      cases b7 with
      |true=>exact absurd agF b
      |false=>exact Yt o f w a hw
   |false=>
    cases b5 with
    |true=>
     cases b6 with
     |true=>exact absurd (by cases b7<;>decide) b
     |false=>
      cases b7 with
      |true=>exact absurd agF b
      |false=>exact Yv o f w a hw
    |false=>
     cases b6 with
     |true=>
      cases b7 with
      |true=>exact absurd agF b
      |false=>exact Yu o f w a hw
     |false=>
      cases b7 with
      |true=>exact UD o f w a hw
      |false=>exact acu o f w a hw
 ·rw[cX c]at a;rw[Qy o f c];exact UC o f w a
theorem pQ(r):∃e a h b g d f m7,sG r=.tuple #[.agg #[ι e,υ a,.string h,ι b,ι g,ι d,ι f],ι m7]:=by
 cases r with
 |error c=>exact⟨_,_,_,_,_,_,_,_,rfl⟩
 |ok t=>exact⟨_,_,_,_,_,_,_,_,rfl⟩
def oH(now:Int)(q:NQ)(old:TK)(x s:BE):Except Int TK:=if Gt q.aO=32 then yz now old else if Gt q.aO=16 then yA now old else Qx now q old x s
structure TK.In(t:TK):Prop where
 ae:In64 t.ae
 dV:In64 t.dV
 start:In64 t.start
 fin:In64 t.fin
 aC:In64 t.aC
theorem aaJ(h:p:=by
 have B7:=((((((HB2.o.set 0 (ι m0)).set 1 (υ m1)).set 2 (.string m2)).set 3 (ι m3)).set 4 (ι m4)).set 5 (ι m5)).set 6 (ι m6)
 refine bodyPost_ret (aF results186 _ _ _ (w.heap.size+1+1) rfl _ (B7.load 333 _ underlying333 rfl Tryz.jf)) rfl ⟨by rw[Hm.o];rfl,?_⟩
 grind [RowKit.Hid.o,aa,az]):p:=h
theorem UE(L:Nat)(now)(q)(v u)(old)(x s)(w)(F:eZ w L x s)(E:In64 now)(j:In64 x.bI)(g:In64 s.bI)(K:In64 x.aC)(J:In64 s.aC)(y:old.In):
  Calls prog 186 #[(L,0),ι now,.agg (q.cells v u).toArray,.agg old.cells.toArray] w λe w'=>e=.returned (sG (oH now q old x s))/\w.grownBy w' none:=by
 obtain⟨t,i⟩:=aw ((w.alloc (.cells (q.cells v u).toArray 276)).alloc (.cells old.cells.toArray 333))
 have A:w.grownBy t none:=by grind [cx,aM]
 have B:t.rangeAt w.heap.size 0 (q.cells v u):=by grind [aS,gX,cx]
 have G:t.rangeAt (w.heap.size+1) 0 old.cells:=by
  grind [aS,cF]
 have I:t.heap.size=w.heap.size+1+1:=aiZ
 obtain⟨C,f⟩:=aw (t.alloc (.cells jy 333))
 have H:dB C (w.heap.size+1+1) jy:=by grind [dB.new]
 have l:t.grownBy C none:=ahe
 have c8:=l.cell (B 8 (ι q.aO) rfl) agI
 have b:=gX B l
 have a:=gX G l
 have h:=F.grown (aa A l)
 have sP:=hid A
 have M:=hid l
 have n:=hid H
 have af:=hid I.symm
 rw[i]at f
 have m:=hid f
 unfold oH
 rw[<-X7]
 have e0:=a 0 _ rfl
 have e1:=a 1 _ rfl
 have e2:=a 2 _ rfl
 have e3:=a 3 _ rfl
 have e4:=a 4 _ rfl
 have e5:=a 5 _ rfl
 have e6:=a 6 _ rfl
 by_cases p:bits .and .i64 q.aO 240=32
 ·rw[if_pos p];have k:=hid (Gy now old C y.ae);obtain⟨m0,m1,m2,m3,m4,m5,m6,m7,d⟩:=pQ (yz now old);rw[d]at k;have Hm:=hid d;clear d A l H i f B G I F E j g K J y b a h;go_enter func186,ntmps186
  go_wp2_with (first
   |(rw[<-m.o];fail_if_success done)
   |(go_at_call 224;refine k.o.mono ?_;rintro e D ⟨rfl,c⟩;have HB2:Hid (dB D (w.heap.size+1+1) jy):=n.o.grown c agI;have z:=hid (aa M.o c);clear c;obtain⟨⟨X,Q,O,Z,R,S,V⟩,P,W,U,T,N,Y,f6⟩:=jR HB2.o))
  exact aaJ
 ·rw[if_neg p];have ad:=cJ.2 p;by_cases r:bits .and .i64 q.aO 240=16
  ·rw[if_pos r];have k:=hid (MN now old C E y.start y.fin);obtain⟨m0,m1,m2,m3,m4,m5,m6,m7,d⟩:=pQ (yA now old);rw[d]at k;have Hm:=hid d;clear d A l H i f B G I F E j g K J y b a h;go_enter func186,ntmps186
   go_wp2_with (first
    |(rw[<-m.o];fail_if_success done)
    |(go_at_call 225;refine k.o.mono ?_;rintro e D ⟨rfl,c⟩;have HB2:Hid (dB D (w.heap.size+1+1) jy):=n.o.grown c agI;have z:=hid (aa M.o c);clear c;obtain⟨⟨X,Q,O,Z,R,S,V⟩,P,W,U,T,N,Y,f6⟩:=jR HB2.o))
   exact aaJ
  ·rw[if_neg r];have ab:=cJ.2 r;have k:=hid (MO L now q v u old x s C h E j g K J);obtain⟨m0,m1,m2,m3,m4,m5,m6,m7,d⟩:=pQ (Qx now q old x s);rw[d]at k;have Hm:=hid d;have k0:=b 0 _ rfl;have k1:=b 1 _ rfl;have k2:=b 2 _ rfl;have k3:=b 3 _ rfl;have k4:=b 4 _ rfl;have k5:=b 5 _ rfl;have k6:=b 6 _ rfl;have k7:=b 7 _ rfl;have k8:=b 8 _ rfl;clear d A l H i f B G I F E j g K J y b a h;go_enter func186,ntmps186
   go_wp2_with (first
    |(rw[<-m.o];fail_if_success done)
    |(go_at_call 226;refine k.o.mono ?_;rintro e D ⟨rfl,c⟩;have HB2:Hid (dB D (w.heap.size+1+1) jy):=n.o.grown c agI;have z:=hid (aa M.o c);clear c;obtain⟨⟨X,Q,O,Z,R,S,V⟩,P,W,U,T,N,Y,f6⟩:=jR HB2.o))
   exact aaJ
theorem ajf(h:p:=by have h:=R0 7 (.bool q.pre.isSome) rfl;rw[hq]at h;exact h):p:=h
theorem acp(h:p:=by
 go_enter func174,ntmps174
 go_wp2_with (first
  |(rw[<-HW0.o];fail_if_success done)
  |(go_at_call 208;refine HA.o.mono ?_;clear HA;rintro e w1 ⟨rfl,rfl⟩))
 go_wp2
 go_ret
 exact⟨bD (by rw[HE.o];rfl),HG.o⟩):p:=h
theorem Gz(j g:Nat)(aA now d)(v)(q:FQ)(x s)(w)(i:eZ w g x s)(hq:q.pre=none):
  Calls prog 174 #[(j,0),(g,0),.agg (q.cells d v).toArray] w λe w'=>e=.returned (ι (eT aA now x q.pre))/\w.grownBy w' none:=by
 obtain⟨b,a⟩:=aw (w.alloc (.cells (q.cells d v).toArray 269))
 have f:w.grownBy b none:=ahe
 have R0:b.rangeAt w.heap.size 0 (q.cells d v):=ahn
 have k:b.cell? (w,7)=some (.bool false):=ajf
 have HA:=hid (zG g 4 x 1 0 b agF agF ((i.grown f).c 7 _ rfl))
 have HG:=hid f
 have HW0:=hid a
 have HE:Hid (eT aA now x q.pre=if x.has 1=true then 25 else 0):=by rw[hq];exact rfl
 generalize eT aA now x q.pre=pc at *
 clear f a R0 i hq
 generalize x.has 1=b1 at *
 cases b1 with
 |true=>
  exact acp
 |false=>
  exact acp
theorem GD(r g B:Nat)(F)(p)(rb)(aA now)(i)(z)(l)(n cap)(q:FQ)(x s)(w)(M:eZ w B x s)(hq:q.pre=some (i,z))(Q:w.cell? (r,1)=some F)(U:w.cell? (r,3)=some (.pointer (some (g,0))))(c4:w.cell? (r,4)=some (ι now))(cs:w.cell? (g,0)=some (ι aA))(dA:In64 now)(L:Out w F p rb)(I:Off p r)(J:Off p B)(o3:∀j,j<188->¬ Pl.has p g j)(hn:Hid (z.length=n))(G:n<=cap)(Y:At w l z)(A:∀b off,l=some ⟨b,off,none⟩->∀j,j<z.length->¬ Pl.has p b (off+j)):
  Calls prog 174 #[(r,0),(B,0),.agg (q.cells i (.slice l n cap)).toArray] w λe w'=>e=.returned (ι (eT aA now x q.pre))/\CF w w' (Pl.has p):=by
 obtain⟨y,D⟩:=aw (w.alloc (.cells (q.cells i (.slice l n cap)).toArray 269))
 have u:w.grownBy y none:=ahe
 have R0:y.rangeAt w.heap.size 0 (q.cells i (.slice l n cap)):=ahn
 have r7:y.cell? (w,7)=some (.bool true):=ajf
 have S:y.cell? (w,8)=some (ι i):=R0 8 _ rfl
 have r9:y.cell? (w,9)=some (.slice l n cap):=R0 9 _ rfl
 have O:=u.cell Q agI
 have T:=(M.grown u).c 1 _ rfl
 have R:=(M.grown u).c 2 _ rfl
 have X:=hid (Mx F p rb x.key l z n cap y.drew (by grind [Out.grown,bg]) hn G (Y.below (bg u)) A)
 have HG:=hid u
 have N:=hid D
 have Z:Hid (∀W,CF y W (Pl.has p)->∀t,In64 t->Calls prog 210 #[(r,0),ι t] W λe w'=>e=.returned (.bool (decide (aA<dU t now)))/\∃m,w'=W.drewN m):=
  λW v t H=>wV r g now aA t W (v.cell (u.cell U agI) (pg I _)) (v.cell (u.cell c4 agI) (pg I _)) (by grind [CF.cell,World.grownBy.cell]) dA H
 have P:Hid (eT aA now x q.pre=if iB (bM (dD x.key 1 z,false)).2=true then(if i≠x.aH then 24 else if aA<dU (bM (dD x.key 1 z,false)).1 now then 37 else 0) else 24):=by
  refine hid ?_;rw[hq];unfold eT;simp only[];rw[Ym];cases hd:iB (bM (dD x.key 1 z,false)).2<;>rfl
 have H:In64 (bM (dD x.key 1 z,false)).1:=tZ _
 have HT:=hid H
 have E:Hid (∀W,CF y W (Pl.has p)->W.cell? (r,1)=some F/\W.cell? (B,1)=some (ι x.aH)/\W.cell? (B,2)=some (υ x.key.toNat)/\W.cell? (w,8)=some (ι i)/\W.cell? (w,9)=some (.slice l n cap)):=
  λW v=>⟨v.cell O (pg I _),v.cell T (pg J _),v.cell R (pg J _),v.cell S (Sy L _),v.cell r9 (Sy L _)⟩
 generalize eT aA now x q.pre=pc at *
 generalize (bM (dD x.key 1 z,false)).1=t at *
 generalize iB (bM (dD x.key 1 z,false)).2=d at *
 clear u D R0 M hq Q U c4 cs dA L I J o3 hn Y A H
 go_enter func174,ntmps174
 go_wp2_with (first|(rw[<-N.o];fail_if_success done))
 go_region_held3 (λw'=>w'.cell? ⟨r,1,none⟩=some F/\w'.cell? ⟨B,2,none⟩=some (υ x.key.toNat)/\w'.cell? ⟨w.heap.size,9,none⟩=some (.slice l n cap)) (go_keep) (first|(go_at_call 209;refine X.o.mono ?_;rintro e w1 ⟨rfl,V⟩;have sO:=hid V.dM;clear V;obtain⟨b1,bn,b2,b8,b9⟩:=E.o _ sO.o))
 clear r7 S r9 O T R X E b1 b2 b9
 cases d with
 |false=>
  go_wp2_with fail;go_quiet (fail)
  go_wp2;go_ret;exact⟨bD (by rw[P.o];rfl),(by grind [RowKit.Hid.o,CF.before,CF.trans,CF.bF,aR,cC])⟩
 |true=>
  by_cases hn:i=x.aH
  ·have K:(i==x.aH)=true:=(by rw[db];exact hn);have HN:=hid hn;clear hn;have f:=hid (λk=>Z.o (w1.drewN k) (sO.o.trans (by grind [cC,aR,CF.bF]) (λ_ _ _ e=>e)) t HT.o);have a:Hid (pc=if aA<dU t now then 37 else 0):=agM;clear Z P;by_cases C:aA<dU t now
   ·rw[dk C]at f;rw[if_pos C]at a;clear C;go_wp2_with fail;go_quiet (fail)
    go_wp2_with (first|(go_at_call 210;refine(f.o _).mono ?_;clear f;rintro e w2 ⟨rfl,m,rfl⟩))
    go_wp2;go_ret;exact⟨bD a.o.symm,(by grind [CF.bF,aR,cC,CF.trans,RowKit.Hid.o,CF.before])⟩
   ·rw[cX C]at f;rw[if_neg C]at a;clear C;go_wp2_with fail;go_quiet (fail)
    go_wp2_with (first|(go_at_call 210;refine(f.o _).mono ?_;clear f;rintro e w2 ⟨rfl,m,rfl⟩))
    go_wp2;go_ret;exact⟨bD a.o.symm,(by grind [CF.before,CF.trans,RowKit.Hid.o,CF.bF,aR,cC])⟩
  ·have K:(i==x.aH)=false:=agM;have a:Hid (pc=24):=agR;go_wp2_with fail;go_quiet (fail)
   go_wp2;go_ret;exact⟨bD a.o.symm,(by grind [CF.bF,aR,cC,RowKit.Hid.o,CF.trans,CF.before])⟩
def sH(now aA:Int)(q:FQ)(x s:BE):Bool:=if aI q.aO 8=true then(x.has 16&&s.has 16) else !decide (aW now aA<q.ma)
theorem UF(j g l:Nat)(now aA k)(v)(q)(x s)(w)(p:w.cell? (j,3)=some (.pointer (some (g,0))))(r:w.cell? (j,4)=some (ι now))(cs:w.cell? (g,0)=some (ι aA))(t:In64 now)(h:In64 aA)(i:eZ w l x s):
  Calls prog 175 #[(j,0),(l,0),.agg (q.cells k v).toArray] w λe w'=>e=.returned (.tuple #[ι (bH now q),.bool (sH now aA q x s)])/\w.grownBy w' none:=by
 obtain⟨b,d⟩:=aw (w.alloc (.cells (q.cells k v).toArray 269))
 have a:w.grownBy b none:=ahe
 have m:b.rangeAt w.heap.size 0 (q.cells k v):=ahn
 have A:b.cell? (w,3)=some (ι q.ma):=m 3 _ rfl
 have z:b.cell? (w,6)=some (ι q.aO):=m 6 _ rfl
 have y:=a.cell r agI
 have u:=hid (λnq=>Qu l x s 16 4 b nq agF agF (i.grown a))
 have HB:=hid (λnq=>UA j g now aA q.ma b nq (a.cell p agI) y (a.cell cs agI) t h)
 have n:=hid a
 have f:=hid d
 have c:=kG q.aO 8 3 agF agF
 unfold bH sH
 clear a d m p r cs t h i
 generalize aI q.aO 8=b1 at *
 generalize (x.has 16&&s.has 16)=b2 at *
 generalize aW now aA=sk at *
 cases b1 with
 |true=>
  rw[eV]at c;have i:=cJ.1 c;clear c;go_enter func175,ntmps175;go_wp2_with (rw[<-f.o];fail_if_success done)
  go_quiet (first|(go_at_call 211;exact u.o _))
  go_wp2;go_ret2;exact⟨rfl,aR n.o _⟩
 |false=>
  rw[eM]at c;have i:=db.1 c;clear c;go_enter func175,ntmps175;go_wp2_with (rw[<-f.o];fail_if_success done)
  go_quiet (first|(go_at_call 184;exact HB.o _))
  go_wp2;go_ret2;exact⟨rfl,aR n.o _⟩
def oI(q:FQ)(x s:BE):Int:=32+(if q.pre.isSome then 64 else 0)+(if aI q.aO 8=true then 24 else 0)+jG q.aO x s
theorem MU(o)(x s):jG o x s=gY o 7 x s:=by
 grind [aI,gY,jG]
theorem GH(now)(q)(x s):(mH now q x s).ae=oI q x s:=by
 unfold mH oI;rw[MU]
theorem Yw:∀(b c a),(bits .or .i64 32 ((if b=true then 1 else 0)+(if c=true then 2 else 0)+(if a=true then 4 else 0))=32+((if b=true then 1 else 0)+(if c=true then 2 else 0)+(if a=true then 4 else 0)))/\(bits .or .i64 (32+((if b=true then 1 else 0)+(if c=true then 2 else 0)+(if a=true then 4 else 0))) 64=96+((if b=true then 1 else 0)+(if c=true then 2 else 0)+(if a=true then 4 else 0)))/\(bits .or .i64 (32+((if b=true then 1 else 0)+(if c=true then 2 else 0)+(if a=true then 4 else 0))) 24=56+((if b=true then 1 else 0)+(if c=true then 2 else 0)+(if a=true then 4 else 0)))/\(bits .or .i64 (96+((if b=true then 1 else 0)+(if c=true then 2 else 0)+(if a=true then 4 else 0))) 24=120+((if b=true then 1 else 0)+(if c=true then 2 else 0)+(if a=true then 4 else 0))):=by decide
theorem Ey(z:Nat)(y)(v)(q)(x s)(w)(p:eZ w z x s):
  Calls prog 178 #[(z,0),.agg (q.cells y v).toArray] w λe w'=>e=.returned (ι (oI q x s))/\w.grownBy w' none:=by
 obtain⟨k,j⟩:=aw (w.alloc (.cells (q.cells y v).toArray 269))
 have A:w.grownBy k none:=ahe
 have B:k.rangeAt w.heap.size 0 (q.cells y v):=ahn
 have r:k.cell? (w,6)=some (ι q.aO):=B 6 _ rfl
 have t:k.cell? (w,7)=some (.bool q.pre.isSome):=B 7 _ rfl
 have c:=hid (Bq z x s q.aO k (p.grown A))
 have l:=hid A
 have b:=hid j
 have h:=kG q.aO 8 3 agF agF
 have C:=Yw (aI q.aO 1&&(x.has 4&&s.has 4)) (aI q.aO 2&&(x.has 8&&s.has 8)) (aI q.aO 4&&(x.has 2&&s.has 2))
 unfold oI
 change bits .or .i64 32 (jG q.aO x s)=32+jG q.aO x s/\bits .or .i64 (32+jG q.aO x s) 64=96+jG q.aO x s/\bits .or .i64 (32+jG q.aO x s) 24=56+jG q.aO x s/\bits .or .i64 (96+jG q.aO x s) 24=120+jG q.aO x s at C
 have n:=hid C
 clear A j B p C
 generalize aI q.aO 8=b1 at *
 generalize jG q.aO x s=al at *
 generalize q.pre.isSome=b2 at *
 cases b1 with
 |true=>
  rw[eV]at h;have p:=cJ.1 h;clear h;cases b2 with
  |true=>
   go_enter func178,ntmps178
   go_wp2_with (first
    |(rw[<-b.o];fail_if_success done)
    |(go_at_call 213;refine c.o.mono ?_;clear c;rintro e D ⟨rfl,a⟩;have d:=a.cell r agI;have f:=a.cell t agI))
   go_wp2;go_ret;exact⟨bD (by obtain⟨g,i,u,m⟩:=n.o;rw[g,i,m]),aa l.o a⟩
  |false=>
   go_enter func178,ntmps178
   go_wp2_with (first
    |(rw[<-b.o];fail_if_success done)
    |(go_at_call 213;refine c.o.mono ?_;clear c;rintro e D ⟨rfl,a⟩;have d:=a.cell r agI;have f:=a.cell t agI))
   go_wp2;go_ret;exact⟨bD (by obtain⟨g,i,u,m⟩:=n.o;rw[g,u]),aa l.o a⟩
 |false=>
  rw[eM]at h;have p:=db.1 h;clear h;cases b2 with
  |true=>
   go_enter func178,ntmps178
   go_wp2_with (first
    |(rw[<-b.o];fail_if_success done)
    |(go_at_call 213;refine c.o.mono ?_;clear c;rintro e D ⟨rfl,a⟩;have d:=a.cell r agI;have f:=a.cell t agI))
   go_wp2;go_ret;exact⟨bD (by obtain⟨g,i,u,m⟩:=n.o;rw[g,i]),aa l.o a⟩
  |false=>
   go_enter func178,ntmps178
   go_wp2_with (first
    |(rw[<-b.o];fail_if_success done)
    |(go_at_call 213;refine c.o.mono ?_;clear c;rintro e D ⟨rfl,a⟩;have d:=a.cell r agI;have f:=a.cell t agI))
   go_wp2;go_ret;exact⟨bD (by obtain⟨g,i,u,m⟩:=n.o;rw[g]),aa l.o a⟩
def jA(q:NQ):Bool:=(aI q.aO 16||aI q.aO 32)&&decide (q.fQ=q.aV)
theorem Ez(v u)(q)(w):
  Calls prog 216 #[.agg (q.cells v u).toArray] w λe w'=>e=.returned (.bool (jA q))/\w.grownBy w' none:=by
 obtain⟨c,b⟩:=aw (w.alloc (.cells (q.cells v u).toArray 276))
 have i:w.grownBy c none:=ahe
 have f:c.rangeAt w.heap.size 0 (q.cells v u):=ahn
 have l:c.cell? (w,0)=some (.string q.fQ):=f 0 _ rfl
 have m:c.cell? (w,4)=some (.string q.aV):=f 4 _ rfl
 have n:c.cell? (w,8)=some (ι q.aO):=f 8 _ rfl
 have h:=hid i
 have d:=hid b
 have a:=aiB q.aO
 have g:Hid (jA q=((aI q.aO 16||aI q.aO 32)&&decide (q.fQ=q.aV))):=rfl
 generalize jA q=sb at *
 have j:(!aI q.aO 16&&!aI q.aO 32)=!(aI q.aO 16||aI q.aO 32):=agI
 rw[j]at a
 clear i b f j
 generalize (aI q.aO 16||aI q.aO 32)=b1 at *
 cases b1 with
 |true=>
  rw[eV]at a;have k:=cJ.1 a;clear a;go_enter func216,ntmps216;go_wp2_with (rw[<-d.o];fail_if_success done)
  go_wp2;go_ret;exact⟨fM (by rw[g.o,show(bits .and .i64 q.aO 48 != 0)=true from by simpa using k];simp[Bool.beq_eq_decide_eq]),h.o⟩
 |false=>
  rw[eM]at a;have k:=db.1 a;clear a;go_enter func216,ntmps216;go_wp2_with (rw[<-d.o];fail_if_success done)
  go_wp2;go_ret;exact⟨fM (by rw[g.o];simp),h.o⟩
def RP.drawn(r:RP)(a b c:UInt64):RP:={r with t:={r.t with aN:=a},uV:=b,vL:=c}
theorem Yx{w:World}{rb:Nat}{r:RP}(h:nJ w rb r)(a b c):nJ (((w.setCell (rb,1) (υ a.toNat)).setCell (rb,10) (υ b.toNat)).setCell (rb,14) (υ c.toNat)) rb (r.drawn a b c):=by
 intro i v e;have j:=h.at 14 _ rfl;have g:=h.at 10 _ rfl;have k:=h.at 1 _ rfl;rw[cN];by_cases d:i=14
 ·subst d;obtain rfl:Value.int .u64 c.toNat=v:=by simpa[RP.cells,RP.drawn]using e
  grind [ax,di]
 by_cases f:i=10
 ·subst f;obtain rfl:Value.int .u64 b.toNat=v:=by simpa[RP.cells,RP.drawn]using e
  grind [ax,di]
 by_cases l:i=1
 ·grind [di,ax,RP.cells,RP.drawn]
 have m:r.cells[i]?=some v:=by
  rw[<-e];rcases i with _|_|_|_|_|_|_|_|_|_|_|_|_|_|_|i;all_goals first|rfl|(exfalso;omega)
 grind [ax,nJ.at]
theorem Sz(q g rb n cap:Nat)(p)(r)(w)(m:w.cell? (q,3)=some (.pointer (some (g,0))))(hn:n<24)(l:w.cell? (g,1)=some (.slice p n cap))(h:nJ w rb r)(f:Live w rb 15):
  Calls prog 180 #[(q,0),(rb,0)] w λe w'=>e=.returned (.bool false)/\CF w w' (λb _=>b=rb):=by
 obtain⟨c,d⟩:=aw (w.alloc (.cells #[υ 0,υ 0,υ 0] 367))
 have a:w.grownBy c none:=ahe
 have i:c.rangeAt w.heap.size 0 [υ 0,υ 0,υ 0]:=ahn
 have s:=hid (λk=>abQ g 1 n cap w.heap.size p (c.drewN k) hn ((aR a k).cell l agI))
 have y:w.heap.size≠rb:=λe=>by have:=f.lt;omega
 have G:c.cell? (w,0)=some (υ 0):=i 0 _ rfl
 have z:c.cell? (w,1)=some (υ 0):=i 1 _ rfl
 have E:c.cell? (w,2)=some (υ 0):=i 2 _ rfl
 have B:=a.cell m agI
 have D:=a.cell (h.at 1 _ rfl) agI
 have v:=a.cell (h.at 10 _ rfl) agI
 have x:=a.cell (h.at 14 _ rfl) agI
 have C:=(f.grown a).frozen 1
 have t:=(f.grown a).frozen 10
 have u:=(f.grown a).frozen 14
 have A:=hid a
 have j:=hid d
 clear a d i hn h f l m
 go_enter func180,ntmps180
 go_wp2_with (first|(rw[<-j.o];fail_if_success done))
 go_quiet (first|(go_at_call 214;refine(s.o _).mono ?_;rintro e F ⟨rfl,rfl⟩;exact⟨rfl,_,rfl⟩))
 go_wp2
 go_ret
 refine⟨rfl,?_⟩
 grind [CF.setCell,aR,CF.bF,RowKit.Hid.o]
theorem MV(d g rb:Nat)(q:Pl)(ds)(n)(r)(w)(C:w.cell? (d,3)=some (.pointer (some (g,0))))(hn:Hid (ds.length=n))(P:24<=n)(m:n<=q.cap)(x:q.cap<=9223372036854775807)(N:w.cell? (g,1)=some (.slice (some (q.g,q.off)) n q.cap))(j:Live w g 188)(R:w.rangeAt q.g q.off (ds.map U8))(u:q.g≠g)(H:q.g<w.heap.size)(M:nJ w rb r)(A:Live w rb 15)(h:g≠rb)(s:d≠rb)(t:d≠g):
  Calls prog 180 #[(d,0),(rb,0)] w λe w'=>e=.returned (.bool true)/\nJ w' rb (r.drawn (eB ds 0) (eB ds 1) (eB ds 2))/\(∃off,w'.cell? (g,1)=some (.slice (some ⟨q.g,off,none⟩) (n-24) (q.cap-24))/\(q.cap-24≠0->off=q.off+24)/\off<=q.off+24)/\CF w w' (λb y=>b=g/\y=1\/b=rb):=by
 obtain⟨E,p⟩:=aw (w.alloc (.cells #[υ 0,υ 0,υ 0] 367))
 have c:w.grownBy E none:=ahe
 have L:Live E w.heap.size 3:=by grind [Live.new]
 have z:=j.lt
 have J:=A.lt
 have W:=hid (XO g 1 w.heap.size q ds n E.drew hn P m x ((bg c).cell N agI) ((j.grown (bg c)).mono agE) (L.grown (bg (cC _ _))) (gX R (bg c)) agE u agE)
 have K:w.heap.size≠rb:=λe=>by omega
 have U:=c.cell C agI
 have B:=hid (M.grown c)
 have V:=hid (A.grown c)
 have I:=jE C
 have D:Hid (d≠w.heap.size/\g≠w.heap.size/\g≠rb/\d≠rb/\d≠g):=⟨by omega,by omega,h,s,t⟩
 have S:=hid c
 have G:=hid p
 clear c p L hn P m x N j R u H M A h s t z J I C
 go_enter func180,ntmps180
 go_wp2_with (first|(rw[<-G.o];fail_if_success done))
 go_region_held3 (λw'=>w'.cell? ⟨d,3,none⟩=some (.pointer (some ⟨g,0,none⟩))) (go_keep) (first|(go_at_call 214;refine W.o.mono ?_;rintro e w1 ⟨rfl,Q,l,k⟩;have Y:=hid Q;have F:=hid k.dM;have a0:=l 0 agF;have a1:=l 1 agF;have a2:=l 2 agF;clear Q k l;have ad:=F.o.cell U (λe=>by rcases e with e|e;exact D.o.2.2.2.2 e.1;exact D.o.1 e)))
 have k:=F.o
 have f:Hid (nJ w1 rb r):=λi v Z=>k.cell (B.o i v Z) agR
 have q1:=f.o.at 1 _ rfl
 have ab:=f.o.at 10 _ rfl
 have ae:=f.o.at 14 _ rfl
 have a:=V.o.cf k
 have f1:=a.frozen 1
 have X:=a.frozen 10
 have aa:=a.frozen 14
 have O:rb≠w.heap.size:=λe=>K e.symm
 clear k a
 go_wp2
 go_ret
 refine⟨rfl,?_,?_,?_⟩
 ·grind [RowKit.Hid.o,Yx]
 ·obtain⟨off,h1,T,l⟩:=Y.o;refine⟨off,?_,T,l⟩;have h:=D.o.2.2.1;rw[World.cell?_setCell_other _ _ _ _ agM,World.cell?_setCell_other _ _ _ _ agM,World.cell?_setCell_other _ _ _ _ agM];exact h1
 ·repeat refine CF.setCell ?_ _ _ _ (λ_=>.inr rfl)
  exact(CF.before S.o F.o).mono agE
variable {w':World}
structure yB(w:World)(hb g T:Nat)(fv ro rr:Value)(now:Int):Prop where
 c0:w.cell? (hb,0)=some (.iface T fv)
 c1:w.cell? (hb,1)=some ro
 c2:w.cell? (hb,2)=some rr
 c3:w.cell? (hb,3)=some (.pointer (some (g,0)))
 c4:w.cell? (hb,4)=some (ι now)
theorem yB.cf{ex:Nat->Nat->Prop}{b g T:Nat}{e c d:Value}{now:Int}(h:yB w b g T e c d now)(k:CF w w' ex)(a:∀y,¬ ex b y):yB w' b g T e c d now:=
 ⟨k.cell h.c0 (a 0),k.cell h.c1 (a 1),k.cell h.c2 (a 2),k.cell h.c3 (a 3),k.cell h.c4 (a 4)⟩
theorem yB.grown{a g T:Nat}{d c b:Value}{now:Int}(h:yB w a g T d c b now)(k:w.grownBy w' none):yB w' a g T d c b now:=h.cf (CF.bF k (λ_ _=>False)) (λ_ e=>e)
theorem vU{v:Value}{p:Option Pl}(h:Out w v p []):∃b cap,v=.slice b 0 cap/\∀w,(Instr.sliceAt 37 (.slice b 0 cap) none (some (ι 0)) none).run prog w=.ok (.slice b 0 cap) w:=by
 rcases h with⟨_,rfl,_⟩|⟨q,_,rfl,_,_,_,_⟩
 ·exact⟨none,0,rfl,λw=>by kernel_rfl⟩
 ·refine⟨_,_,rfl,λw=>?_⟩;have c:prog.elem 37=5:=by simp[Program.elem,underlying37]
  have a:prog.underlying 37=some (.slice (prog.elem 37)):=by rw[c];exact underlying37
  rw[run_sliceAt_slice w 37 _ _ _ _ a,run_slice_h w 37 _ _ q.cap a .i64 0 agF agE,c];have d:∀W,(sizeOf 5).run prog W=.ok 1 W:=λ_=>by kernel_rfl
  rw[d];simp only[Result.andThen,sliced,Int.toNat_zero,Nat.sub_zero,gf];split<;>first|rfl|simp[Addr.add_lit]
theorem EA{v:Value}{p:Option Pl}{a:List UInt8}(h:aU w.drew w' v p a):aU w w' v p a:=by
 obtain⟨p',b,c,d,e⟩:=h;exact⟨p',b,c.dM,d,e⟩
theorem yC(c g T:Nat)(t x l)(d)(now a)(w)(h:yB w c g T t x l now)(i:Out w l d [])(o:Off d c)(r:In64 now)(b:In64 a):
  Calls prog 141 #[(c,0),ι a] w λe w'=>∃f,e=.returned f/\aU w w' f d (aY now a):=by
 have m:=hid (zu l d [] now a w.drew i.drew r b agI)
 obtain⟨y,cap,k,s⟩:=vU i
 rw[k]at m
 have q:=h.c2
 rw[k]at q
 have u:=h.c4
 have n:=hid o
 clear h i o r b k
 go_enter func141,ntmps141
 go_wp2_with fail
 go_region_held3 (λw'=>w'.cell? ⟨c,2,none⟩=some (.slice y 0 cap)/\w'.cell? ⟨c,4,none⟩=some (ι now)) (go_keep) (first|(go_at_call 188;refine m.o.mono ?_;rintro e A ⟨f,rfl,p⟩;have j:=hid p;clear p;have z:=j.o.cf.dM.cell q (pg n.o _);have v:=j.o.cf.dM.cell u (pg n.o _)))
 go_wp2
 go_ret
 exact⟨_,rfl,EA j.o⟩
variable {M:DM}{now:Int}{es:List BE}{ask:List Value}{T g hb sb:Nat}{dQ sU:Nat->Nat->Prop}{dp po pr:Option Pl}{fv ro rr rv:Value}{W W':World}{J:World->Prop}
theorem Tryz.II:(prog.info? 328).map (·.size)=some 3:=by kernel_rfl
theorem zP(S)(w):
  Calls prog 172 #[.string S] w λe w'=>e=.returned (.agg #[.string S,ι 6,ι 1])/\w.grownBy w' none:=by
 go_enter func172,ntmps172
 go_wp2
 exact bodyPost_ret (sQ results172 _ _ _ w.heap.size rfl _ ((dB.new w _ 328).load 328 _ underlying328 rfl Tryz.II)) rfl ⟨rfl,cx _ _ none⟩
theorem xP(S)(w):
  Calls prog 173 #[.string S] w λe w'=>e=.returned (.agg #[.string S,ι 7,ι 2])/\w.grownBy w' none:=by
 go_enter func173,ntmps173
 go_wp2
 exact bodyPost_ret (sQ results173 _ _ _ w.heap.size rfl _ ((dB.new w _ 328).load 328 _ underlying328 rfl Tryz.II)) rfl ⟨rfl,cx _ _ none⟩
structure BE.In(e:BE):Prop where
 aH:1<=e.aH/\e.aH<=4611686018427387904
 bI:In64 e.bI
 aC:In64 e.aC
 name:e.name.length<=1000
structure HS(hb g base T:Nat)(fv rv:Value)(po pr dp:Option Pl)(J:World->Prop)(dQ sU:Nat->Nat->Prop)(es:List BE):Prop where
 afG:∀W,(method 520 T fv "Find").run prog W=.ok (findF T,rv) W
 finds:Finds (findF T) J dQ sU rv es
 hbF:∀y,¬ dQ hb y
 UG:∀b y,base<=b->¬ dQ b y
 AA:∀b y,base<=b->sU b y
 poJ:∀b y,Pl.has po b y->sU b y
 prJ:∀b y,Pl.has pr b y->sU b y
 ad7:sU g 1
 acv:∀y,163<=y->y<188->sU g y
 poH:Off po hb
 prH:Off pr hb
 poG:∀j,j<188->¬ Pl.has po g j
 prG:∀j,j<188->¬ Pl.has pr g j
 ad8:∀y,y<188->¬ dQ g y
 hbg:hb≠g
 MX:∀p,dp=some p->p.g≠g/\p.g≠hb/\p.g<base/\∀y,¬ dQ p.g y/\¬ Pl.has po p.g y/\¬ Pl.has pr p.g y
 gb:g<base
 hbb:hb<base
 sV:∀e∈es,e.In
 sorted:es.Pairwise (λx y=>Op.bytesLess x.name y.name=true)
def exX(po:Option Pl)(dQ:Nat->Nat->Prop)(b y:Nat):Prop:=dQ b y\/Pl.has po b y
theorem mq{l:List UInt8}{e:BE}(h:BE.find es l=some e):e∈es:=List.mem_of_find?_eq_some h
theorem lV{l:List UInt8}{e:BE}(h:BE.find es l=some e):e.name=l:=by
 have:=List.find?_some h;simpa using this
theorem eZ.cf{w':World}{ex:Nat->Nat->Prop}{b:Nat}{x s:BE}(h:eZ w b x s)(k:CF w w' ex)(a:∀y,¬ ex b y):eZ w' b x s:=
 ⟨k.range h.ay (λ_ _=>a _),k.range h.aV (λ_ _=>a _)⟩
theorem lG{c a b:Int}(d:In64 c):In64 (lesser (asked c) (lesser (sat a) (sat b))):=by
 have e:=Az a;have hb:=Az b;unfold In64 at *;unfold lesser asked;(repeat' split)<;>omega
structure FX(w W:World)(hb g base T:Nat)(fv ro rr:Value)(po pr dp:Option Pl)(dQ:Nat->Nat->Prop)(M:DM)(now:Int)(sb:Nat)(ask:List Value):Prop where
 hear:yB W hb g T fv ro rr now
 bP:dE W g 0 dp M
 o:Out W ro po []
 r:Out W rr pr []
 ask:W.rangeAt sb 0 ask
 big:w.heap.size<=W.heap.size
 cf:CF w W (exX po dQ)
theorem adZ(h:p:=by
 rintro j _ ((e|e)|e)
 ·exact S.UG _ _ agE e
 ·have:=hpo _ _ e;omega
 ·omega):p:=h
theorem aei(h:p:=by
 rintro q hq j hj ((e|e)|e)
 ·exact((S.MX q hq).2.2.2 _).1 e
 ·exact((S.MX q hq).2.2.2 _).2.1 e
 ·have:=(S.MX q hq).2.2.1;omega):p:=h
theorem afj(h:p:=by
 rintro j _ h2 ((e|e)|e)
 ·exact S.ad8 j agE e
 ·exact S.poG j agE e
 ·omega):p:=h
theorem FX.step{base:Nat}(h:FX w W hb g base T fv ro rr po pr dp dQ M now sb ask)(S:HS hb g base T fv rv po pr dp J dQ sU es)(k:CF W W' (λb y=>exX po dQ b y\/w.heap.size<b))(f:sb=w.heap.size)(a:base<=w.heap.size)(hpo:∀b y,Pl.has po b y->b<w.heap.size):FX w W' hb g base T fv ro rr po pr dp dQ M now sb ask:=by
 have d:=S.hbb;have c:=S.gb;refine⟨h.hear.cf k ?_,h.bP.cf k ?_ ?_,h.o.cf k agM,h.r.cf k agM,k.range h.ask ?_,?_,?_⟩
 ·rintro y ((e|e)|e)
  ·exact S.hbF y e
  ·exact pg S.poH y e
  ·omega
 ·exact afj
 ·exact aei
 ·exact adZ
 ·exact cE h.big k.size
 ·exact h.cf.trans k agM
structure EB(J:World->Prop)(w W:World)(hb g base T:Nat)(fv ro rr:Value)(po pr dp:Option Pl)(dQ:Nat->Nat->Prop)(M:DM)(now:Int)(sb:Nat)(ask:List Value):Prop extends FX w W hb g base T fv ro rr po pr dp dQ M now sb ask where
 j:J W
theorem EB.step{base:Nat}(h:EB J w W hb g base T fv ro rr po pr dp dQ M now sb ask)(S:HS hb g base T fv rv po pr dp J dQ sU es)(k:CF W W' (λb y=>Pl.has po b y\/w.heap.size<b))(d:sb=w.heap.size)(a:base<=w.heap.size)(c:∀b y,Pl.has po b y->b<w.heap.size):EB J w W' hb g base T fv ro rr po pr dp dQ M now sb ask:=
 ⟨h.toFX.step S (k.mono (λ_ _ _ e=>e.elim (λe=>.inl (.inr e)) .inr)) d a c,S.finds.stay _ _ h.j (k.mono (λb y _ e=>e.elim (S.poJ b y) (λe=>S.AA b y agE)))⟩
theorem EB.found{base:Nat}(h:EB J w W hb g base T fv ro rr po pr dp dQ M now sb ask)(S:HS hb g base T fv rv po pr dp J dQ sU es)(k:CF W W' dQ)(f:J W')(d:sb=w.heap.size)(a:base<=w.heap.size)(c:∀b y,Pl.has po b y->b<w.heap.size):EB J w W' hb g base T fv ro rr po pr dp dQ M now sb ask:=
 ⟨h.toFX.step S (k.mono (λ_ _ _ e=>.inl (.inl e))) d a c,f⟩
variable {e f:BE}{q:FQ}{aA:Int}
theorem SA(x y)(now)(a b c d)(h:0<=a/\a<=100)(j:0<=b/\b<=100)(i:0<=c/\c<=100)(g:0<=d/\d<=100):In64 (dS x y now a b c d):=by
 unfold dS In64;grind
theorem IJ{x y:Option BE}{a b c d:Int}(g:a≠0)(i:b≠0)(h:dS x y now a b c d=0):∃e f,x=some e/\y=some f:=by
 cases x with
 |none=>exact absurd h g
 |some e=>
  cases y with
  |none=>exact absurd h i
  |some f=>exact⟨e,f,rfl,rfl⟩
theorem QA{x y:Option BE}(a:BE.find M.aG q.ay=x)(hy:BE.find M.aG q.aV=y)(h:dS x y now 6 7 1 2≠0):dz M now (firstM M now q)=(aY now (dS x y now 6 7 1 2),M):=by
 unfold firstM;rw[a,hy];cases x with
 |none=>rfl
 |some e=>
  cases y with
  |none=>rfl
  |some f=>
   simp only[];rw[if_pos h];rfl
theorem uI(b:BE.find M.aG q.ay=some e)(hy:BE.find M.aG q.aV=some f)(h:dS (some e) (some f) now 6 7 1 2=0)(a:cB M.aA now q e f≠0):dz M now (firstM M now q)=(aY now (cB M.aA now q e f),M):=by
 unfold firstM;rw[b,hy];simp only[];rw[if_neg (λn=>n h),if_pos a];rfl
theorem Yy(b:BE.find M.aG q.ay=some e)(hy:BE.find M.aG q.aV=some f)(h:dS (some e) (some f) now 6 7 1 2=0)(a:cB M.aA now q e f=0):dz M now (firstM M now q)=if M.aL.length<24 then(aY now 60,M) else(lU 11 {mH now q e f with aN:=eB M.aL 0} f q.bU e.aH e.key 3 (eB M.aL 1) (eB M.aL 2),{M with aL:=M.aL.drop 24}):=by
 unfold firstM;rw[b,hy];simp only[];rw[if_neg (λn=>n h),if_neg (λn=>n a)];rfl
theorem Yz(aA now)(x)(p):In64 (eT aA now x p):=by
 unfold eT In64;grind
theorem MZ(h:eT aA now e q.pre≠0):cB aA now q e f=eT aA now e q.pre:=by
 unfold cB;rw[if_pos h]
theorem UH(h:eT aA now e q.pre=0)(b:In64 q.aO)(a:(bits .andNot .i64 q.aO 15==0)=false):cB aA now q e f=13:=by
 unfold cB;rw[Eg q.aO b,decide_eq_false_iff_not]at a;rw[if_neg (λn=>n h),if_pos agE]
theorem aeA(h:p:=by
 unfold cB
 rw[Eg q.aO ho,decide_eq_true_eq]at hb
 rw[if_neg (λn=>n h),if_neg agE]
 unfold sH at hs
 grind):p:=h
theorem QB(h:eT aA now e q.pre=0)(ho:In64 q.aO)(hb:(bits .andNot .i64 q.aO 15==0)=true)(hs:sH now aA q e f=false):cB aA now q e f=10:=by
 exact aeA
theorem YA(h:eT aA now e q.pre=0)(ho:In64 q.aO)(hb:(bits .andNot .i64 q.aO 15==0)=true)(hs:sH now aA q e f=true):cB aA now q e f=if fK now q e f<=bH now q then 11 else 0:=by
 exact aeA
theorem afH(q)(x s):aI (oI q x s) 4=(aI q.aO 4&&(x.has 2&&s.has 2)):=by
 unfold oI jG;generalize q.pre.isSome=b1;generalize aI q.aO 8=b2;generalize (aI q.aO 1&&(x.has 4&&s.has 4))=b3;generalize (aI q.aO 2&&(x.has 8&&s.has 8))=b4;generalize (aI q.aO 4&&(x.has 2&&s.has 2))=b5;revert b1 b2 b3 b4 b5;decide
theorem YB(q)(x s):In64 (oI q x s):=by
 unfold oI jG In64;(repeat' split)<;>omega
def UI(now:Int)(q:FQ)(x s:BE):Int:=if aI (oI q x s) 4=true then lesser (asked q.bW) (lesser (aW (bH now q) x.aC) (aW (bH now q) s.aC)) else 0
theorem QC(now)(q)(x s):mH now q x s=⟨oI q x s,0,q.ay,now,bH now q,fK now q x s,UI now q x s⟩:=by
 grind [afH,GH,aI,UI,fu,mH]
theorem IK(h:dE W g 0 dp M)(e:24<=M.aL.length):∃a,dp=some a/\W.cell? (g,1)=some (.slice (some (a.g,a.off)) M.aL.length a.cap)/\M.aL.length<=a.cap/\a.cap<=9223372036854775807/\W.rangeAt a.g a.off (M.aL.map U8)/\Live W a.g (a.off+a.cap):=by
 obtain⟨v,f,c⟩:=h.aL;rcases c with⟨_,_,i⟩|⟨q,k,rfl,d,b,j,l⟩
 ·grind
 ·unfold maxLen at b;grind
theorem M0(h:dE W g 0 dp M):∃a cap,W.cell? (g,1)=some (.slice a M.aL.length cap):=by
 grind [Out.shape,dE.aL]
theorem EC{W':World}{rb:Nat}{a:Pl}{off:Nat}(h:dE W g 0 dp M)(u:24<=M.aL.length)(t:M.aL.length<=a.cap)(l:a.cap<=9223372036854775807)(m:W.rangeAt a.g a.off (M.aL.map U8))(i:Live W a.g (a.off+a.cap))(o:W'.cell? (g,1)=some (.slice (some (a.g,off)) (M.aL.length-24) (a.cap-24)))(q:a.cap-24≠0->off=a.off+24)(n:off<=a.off+24)(k:CF W W' (λb y=>b=g/\y=1\/b=rb))(r:a.g≠g)(d:a.g≠rb)(c:g≠rb):
  dE W' g 0 (some ⟨a.g,off,a.cap-24⟩) {M with aL:=M.aL.drop 24}:=by
 refine⟨h.live.cf k,k.cell h.aA (λe=>by rcases e with⟨_,e⟩|e;exact absurd e agF;exact c e),⟨_,o,.inr ⟨_,rfl,?_,?_,?_,?_,?_⟩⟩,h.aG.cf k (λj s w e=>by rcases e with⟨_,e⟩|e;omega;exact c e),k.range h.aJ (λj _ e=>by rcases e with⟨_,e⟩|e;omega;exact c e),k.cell h.count (λe=>by rcases e with⟨_,e⟩|e;exact absurd e agF;exact c e),h.few⟩
 ·show Value.slice _ _ _=Value.slice _ _ _;rw[dr]
 ·show(M.aL.drop 24).length<=a.cap-24;rw[dr];omega
 ·show a.cap-24<=maxLen;unfold maxLen;omega
 ·show Live W' a.g (off+(a.cap-24));exact(i.cf k).mono agE
 ·show W'.rangeAt a.g off ((M.aL.drop 24).map U8);by_cases p:a.cap-24=0
  ·have:M.aL.drop 24=[]:=by
    apply fh;rw[dr];omega
   rw[this];intro j v f;simp at f
  ·rw[q p];intro j v f;refine k.cell ?_ (λe=>by rcases e with⟨e,_⟩|e;exact r e;exact d e);have:=m (24+j) v (by rw[<-f,List.map_drop,List.getElem?_drop]);rw[gi];exact this
theorem ED{w:World}{b:Nat}{cs:Array Value}(h:dB w b cs)(n)(hn:n<=cs.size):Live w b n:=by
 obtain⟨e,a⟩:=h;exact⟨cs,e,a,hn⟩
theorem Bu(now)(q)(e f)(h:In64 q.dI):In64 (fK now q e f):=lG h
theorem acx(now)(q)(e f)(h:In64 q.bW):In64 (UI now q e f):=by
 unfold UI;split
 ·exact lG h
 ·exact⟨by decide,by decide⟩
theorem QE{now:Int}{q:FQ}{e f:BE}{h:List BE}{n o:Int}{a b c:UInt64}{M:DM}{rp:RP}(s:rp=⟨⟨n,0,q.ay,now,bH now q,fK now q e f,o⟩,q.aV,f.aH,f.key,0,q.bU,e.aH,e.key,0⟩)(i:In64 n)(k:In64 o)(j:In64 now/\In64 M.aA/\In64 q.bU/\In64 q.ma/\In64 q.dI/\In64 q.bW/\In64 q.aO)(d:BE.find h q.ay=some e/\BE.find h q.aV=some f)(g:∀e∈h,e.In):(rp.drawn a b c).Fits:=by
 subst s;have l:=g e (mq d.1);have m:=g f (mq d.2);have p:=lV d.1;have r:=lV d.2;have u:=l.aH;have t:=m.aH;refine⟨i,j.1,?_,Bu now q e f j.2.2.2.2.1,k,?_,j.2.2.1,?_,?_,?_⟩
 ·show In64 (bH now q);grind [bH]
 ·show In64 f.aH;unfold In64;omega
 ·show In64 e.aH;unfold In64;omega
 ·show q.ay.length<=1000;rw[<-p];exact l.name
 ·show q.aV.length<=1000;rw[<-r];exact m.name
theorem M3{now:Int}{q:FQ}{e f:BE}{d g:Int}{a b c:UInt64}{rp:RP}(j:rp=⟨⟨d,0,q.ay,now,bH now q,fK now q e f,g⟩,q.aV,f.aH,f.key,0,q.bU,e.aH,e.key,0⟩)(h:mH now q e f=⟨d,0,q.ay,now,bH now q,fK now q e f,g⟩)(i:f.name=q.aV):[]++(rp.drawn a b c).uW 11 3=lU 11 {mH now q e f with aN:=a} f q.bU e.aH e.key 3 b c:=by
 rw[<-RP.DT,j,h,<-i];rfl
variable {q:NQ}
def iH(M:DM)(now:Int)(q:NQ):Except Int TK×DM:=
 match iV M now q with
 |.error c=>(.error c,M)
 |.ok (t,p)=>if bL M.aA now M.aJ p≠0 then(.error (bL M.aA now M.aJ p),{M with aJ:=bJ M.aA now M.aJ p}) else(.ok t,{M with aJ:=bJ M.aA now M.aJ p})
theorem M4(M)(now)(q):tO M now q=match (iH M now q).1 with
  |.error c=>(aY now c,(iH M now q).2)
  |.ok t=>dz (iH M now q).2 now (ek (iH M now q).2 now q t):=by
 unfold tO iH
 grind
theorem JV(l)(j):In64 (xO l j):=by unfold xO;exact tZ _
theorem afI(l):In64 (Uq l).1:=by unfold Uq;exact tZ _
theorem afJ(l)(j):In64 (OL l j):=by unfold OL;exact tZ _
theorem YC(l):(Wi l).In:=by
 have c:=afI l;have a:=JV l 0;have b:=JV l 1;have d:=JV l 2;have f:=JV l 3;unfold Wi;generalize (Uq l).1=a0 at *;generalize xO l 0=a1 at *;generalize xO l 1=a2 at *;generalize xO l 2=a3 at *;generalize xO l 3=a4 at *;exact⟨c,a,b,d,f⟩
theorem YD(l):In64 (Yn l).time:=by
 grind [afJ,Yn]
theorem M5(a:q.fQ≠[116,103,115])(b:jA q=false):iH M now q=(.error 36,M):=by
 unfold iH iV;rw[if_pos ⟨a,(by grind [jA])⟩]
theorem wZ(h:q.fQ=[116,103,115]\/jA q=true):¬ (q.fQ≠[116,103,115]/\¬ ((aI q.aO 16=true\/aI q.aO 32=true)/\q.fQ=q.aV)):=by
 grind [jA]
theorem M6(h:q.fQ=[116,103,115]\/jA q=true)(a:BE.find M.aG q.fQ=none):iH M now q=(.error 7,M):=by
 unfold iH iV;rw[if_neg (wZ h),a]
theorem SB(h:q.fQ=[116,103,115]\/jA q=true)(b:BE.find M.aG q.fQ=some e)(a:e.keyOf q.ou=none):iH M now q=(.error 44,M):=by
 grind [wZ,iV,iH]
theorem QF{key:UInt64}(h:q.fQ=[116,103,115]\/jA q=true)(b:BE.find M.aG q.fQ=some e)(a:e.keyOf q.ou=some key)(c:iB (Ur (dD key 2 q.dO))=false):iH M now q=(.error 31,M):=by
 grind [sF,wZ,iH,iV]
theorem UJ{key:UInt64}(h:q.fQ=[116,103,115]\/jA q=true)(b:BE.find M.aG q.fQ=some e)(a:e.keyOf q.ou=some key)(c:iB (Ur (dD key 2 q.dO))=true)(d:iB (Wd (dD (Wi (dD key 2 q.dO)).aN 4 q.proof))=false):iH M now q=(.error 31,M):=by
 grind [wZ,yx,sF,iH,iV]
theorem YE{key:UInt64}{t:TK}{p:PF}(h:q.fQ=[116,103,115]\/jA q=true)(a:BE.find M.aG q.fQ=some e)(d:e.keyOf q.ou=some key)(f:iB (Ur (dD key 2 q.dO))=true)(c:Wi (dD key 2 q.dO)=t)(g:iB (Wd (dD t.aN 4 q.proof))=true)(b:Yn (dD t.aN 4 q.proof)=p):iH M now q=if p.ay≠t.ay then(.error 36,M) else if M.aA<dU p.time now then(.error 37,M) else if bL M.aA now M.aJ p≠0 then(.error (bL M.aA now M.aJ p),{M with aJ:=bJ M.aA now M.aJ p}) else(.ok t,{M with aJ:=bJ M.aA now M.aJ p}):=by
 unfold iH iV;rw[if_neg (wZ h),a];grind [yx,sF]
theorem YF(l):(Wi l).cells.toArray=#[ι (Uq l).1,υ ((tkK l).1.toNat:Int),.string ⟨(JO l).1.toArray⟩,ι (xO l 0),ι (xO l 1),ι (xO l 2),ι (xO l 3)]:=by
 unfold Wi;generalize (Uq l).1=a0;generalize (tkK l).1=a1;generalize (JO l).1=a2;generalize xO l 0=a3;generalize xO l 1=a4;generalize xO l 2=a5;generalize xO l 3=a6;rfl
theorem YG(l):(Yn l).bE.toArray=#[.string ⟨(Ql l).1.toArray⟩,ι (OL l 0),ι (OL l 1)]:=by
 unfold Yn;generalize (Ql l).1=a0;generalize OL l 0=a1;generalize OL l 1=a2;rfl
theorem JW(f)(p)(rb)(key)(d)(z)(n cap)(w)(g:Out w f p rb)(hn:Hid (z.length=n))(c:n<=cap)(i:At w d z)(a:∀b off,d=some ⟨b,off,none⟩->∀j,j<z.length->¬ Pl.has p b (off+j)):
  Calls Tryz.prog 218 #[f,υ key.toNat,.slice d n cap] w λe w'=>e=.returned (.tuple #[.agg (Wi (dD key 2 z)).cells.toArray,.bool (iB (Ur (dD key 2 z)))])/\CF w w' (Pl.has p):=by
 have h:=Ep f p rb key d z n cap w g hn c i a
 rw[<-YF]at h
 exact h
theorem M7(f)(p)(rb)(key)(d)(z)(n cap)(w)(g:Out w f p rb)(hn:Hid (z.length=n))(c:n<=cap)(i:At w d z)(a:∀b off,d=some ⟨b,off,none⟩->∀j,j<z.length->¬ Pl.has p b (off+j)):
  Calls Tryz.prog 219 #[f,υ key.toNat,.slice d n cap] w λe w'=>e=.returned (.tuple #[.agg (Yn (dD key 4 z)).bE.toArray,.bool (iB (Wd (dD key 4 z)))])/\CF w w' (Pl.has p):=by
 have h:=Gv f p rb key d z n cap w g hn c i a
 rw[<-YG]at h
 exact h
end Go.Proofs.YtlfifnpjeangmaaGreatDoor
