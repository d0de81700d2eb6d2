import Derived.Test.YtlfifnpjeangmaaGreatDoorGESclA
import Derived.Test.YtlfifnpjeangmaaGreatDoorGEBBat
namespace Go.Proofs.YtlfifnpjeangmaaGreatDoor.scr
set_option maxHeartbeats 1000000
open Proofs.Tryz Go.RowKit
set_option maxRecDepth 100000
variable {cs:List Value}
theorem agY(h:cs.length=34):∃g c f d e i j b a r,cs=[g,c,f,d,e,i,j]++([b,a]++r)/\r.length=25:=by
 obtain⟨g,v,rfl,p⟩:=kK h;obtain⟨c,w,rfl,s⟩:=kK p;obtain⟨f,z,rfl,k⟩:=kK s;obtain⟨d,B,rfl,u⟩:=kK k;obtain⟨e,C,rfl,q⟩:=kK u;obtain⟨i,A,rfl,n⟩:=kK q;obtain⟨j,x,rfl,o⟩:=kK n;obtain⟨b,y,rfl,t⟩:=kK o;obtain⟨a,m,rfl,l⟩:=kK t;exact⟨g,c,f,d,e,i,j,b,a,m,rfl,l⟩
theorem adF{H:Type}{enc:TypeId×Value->H}{W:World}{n:Nat}{x:DataW H×List MemPlace}(d:cs.length=34)(h:DataW.trod enc prog W 0 (λ_=>true) true n 192 cs=some x)(y:Rows.uptoBulk x.1<=1048576):∃t:kV,cs=t.cells/\t.Ok:=by
 obtain⟨G,B,F,C,D,J,K,N,M,r,rfl,O⟩:=agY d;obtain⟨j,m,rfl,rfl,_,hxl,g⟩:=DataW.trod_struct underlying192 h;obtain⟨v7,rfl,P⟩:=fint underlying2 fw (g 1 _ rfl) hxl N rfl agF;obtain⟨A,rfl,T⟩:=I7 y (g 2 _ rfl) hxl M rfl agF;have E:=cL (l:=j) (i:=0) ahl;have I:=cL (l:=j) (i:=3) ahl;have f:Rows.uptoBulk (j[0]'ahl).1<=1048576:=by have:=wJ E y;omega
 have R:=(g 0 _ rfl).trans E;obtain⟨Y,Z,_,z,_,b,c⟩:=DataW.trod_struct (cs:=[G,B,F,C,D,J,K]) underlying41 R;rw[z]at f;obtain⟨v,rfl,q0⟩:=fint underlying3 jB (c 0 _ rfl) b G rfl agF;obtain⟨p,rfl,S⟩:=I7 f (c 1 _ rfl) b B rfl agF;obtain⟨k,rfl,Q⟩:=fint underlying39 wI (c 2 _ rfl) b F rfl agF;obtain⟨w,rfl,U⟩:=fint underlying2 fw (c 3 _ rfl) b C rfl agF;obtain⟨q,rfl,V⟩:=fint underlying2 fw (c 4 _ rfl) b D rfl agF;obtain⟨s,rfl,q5⟩:=fint underlying2 fw (c 5 _ rfl) b J rfl agF;obtain⟨u,rfl,X⟩:=fint underlying3 jB (c 6 _ rfl) b K rfl agF;have L:DataW.trod enc prog W 0 (λ_=>true) true m 45 (([Value.int .i64 v,.string p,υ k,ι w,ι q,ι s,ι u]++([Value.int .i64 v7,.string A]++r)).drop 9 |>.take (prog.cellsOf 45))=some (j[3]'ahl):=(g 3 _ rfl).trans I;rw[aay]at L
 obtain⟨a,rfl,o⟩:=agX (cs:=r) O (by
  have e:(([Value.int .i64 v,.string p,υ k,ι w,ι q,ι s,ι u]++([Value.int .i64 v7,.string A]++r)).drop 9).take 25=r:=by show r.take 25=r;rw[cU agE]
  rw[<-e]
  exact L) (by have:=wJ I y;omega)
 refine⟨⟨⟨v,p.data.toList,UInt64.ofNat k.toNat,w,q,s,u⟩,v7,A.data.toList,a⟩,?_,⟨i64_in U,i64_in V,i64_in X,S,i64_in P,T,o⟩⟩;simp only[kV.cells];rw[<-Fz Q]
def FD(W:World)(cs:Array Value):Prop:=∃a n c ts,cs[40]?=some (.slice a n c)/\ts.length=n/\n<=1048576/\pE W a ts/\(∀b off,a=some ⟨b,off,none⟩->0<ts.length->b<W.heap.size)/\∀t∈ts,t.Ok
theorem aaz{H:Type}{enc:TypeId×Value->H}{W:World}{n:Nat}{x:DataW H×List MemPlace}(s:cs.length=41)(h:DataW.trod enc prog W 0 (λ_=>true) true n 48 cs=some x)(hb:Rows.uptoBulk x.1<=1048576):FD W cs.toArray:=by
 obtain⟨c0,c1,c2,c3,c4,c5,c6,c7,c8,c9,S,P,Q,Y,aa,R,al,Z,ar,az,av,O,O6,aq,au,aj,ah,aA,ab,an,V8,ae,aw,ao,ag,af,ay,V,ak,T,F,rfl⟩:=aax s;obtain⟨C,m,rfl,rfl,_,hxl,hf⟩:=DataW.trod_struct underlying48 h;have w:=cL (l:=C) (i:=10) ahl;have p:Rows.uptoBulk (C[10]'ahl).1<=1048576:=by have:=wJ w hb;omega
 have r:DataW.trod enc prog W 0 (λ_=>true) true m 46 [F]=some (C[10]'ahl):=by
  have h:=(hf 10 _ rfl).trans w;have e:=VW;exact h
 obtain⟨X,hX⟩:∃X,C[10]'ahl=X:=⟨_,rfl⟩
 rw[hX]at r p;rcases Go.Deep.open_slice underlying46 r with⟨a,_⟩|⟨B,l,c,mm,nn,D,Pl,a,U,hl,hm,A,hx,z⟩
 ·injection a with a _;subst a;exact⟨none,0,0,[],rfl,rfl,by omega,λi q=>absurd q agI,λb off e=>(by cases e),λt L=>(by cases L)⟩
 ·injection a with a _;subst a;subst hx;simp only[if_true]at A;subst A;have E:l<=1048576:=by
   have y:=FB ((List.range l).map D) (λd _=>OC d);simp only[Rows.uptoBulk]at p;simp only[cR,List.length_range]at y;omega
  have key:∀i,i<l->∃t:kV,t.Ok/\∃b off,B=⟨b,off,none⟩/\b<W.heap.size/\W.rangeAt b (off+i*34) t.cells:=by
   intro i q;obtain⟨ai,y,N⟩:=z i agE;rw[I6]at y;obtain⟨_,k,g⟩:=World.cells?_some y;have hc0:=g 0 agF;rw[cL agE]at hc0;obtain⟨b,off,u⟩:=B;have o:u=none:=by
    obtain⟨aB,G,_⟩:=z 0 agE;rw[I6]at G;have M:=(World.cells?_some G).2.2 0 agF;rw[cL (by rw[(World.cells?_some G).2.1];decide)]at M;simpa[Addr.add]using World.cell?_spot M
   subst o;have J:b<W.heap.size:=by
    exact aen
   have K:Rows.uptoBulk (D i)<=1048576:=by
    have y:=Ae (l:=(List.range l).map D) (List.mem_map.2 ⟨i,by simpa using q,rfl⟩);simp only[Rows.uptoBulk]at p;omega
   obtain⟨t,rfl,I⟩:=adF k N K;refine⟨t,I,b,off,rfl,J,λj v hv=>?_⟩;grind [Addr.add_lit]
  obtain⟨f,ax⟩:∃f:Nat->kV,∀i,i<l->(f i).Ok/\∃b off,B=⟨b,off,none⟩/\b<W.heap.size/\W.rangeAt b (off+i*34) (f i).cells:=by
   refine⟨λi=>if q:i<l then Classical.choose (key i q) else⟨⟨0,[],0,0,0,0,0⟩,0,[],⟨0,[],[],0,0,0,0,0,0,0,0,⟨0,0,[],0,0,0,0⟩,0,0,[],0,0,0,0⟩⟩,λi q=>?_⟩;grind
  refine⟨some B,l,_,(List.range l).map f,rfl,by simp,E,λi q=>?_,λb off e hp=>?_,λt L=>?_⟩
  ·grind
  ·grind
  grind
end Go.Proofs.YtlfifnpjeangmaaGreatDoor.scr
namespace Go.Proofs.YtlfifnpjeangmaaGreatDoor
set_option maxHeartbeats 1000000
open Go.RowKit
set_option maxRecDepth 100000
def wK(p:QD)(i:Nat):Prop:=p.N=p.M/\dX p.M (16*i+1)/\p.kl.length<=16*i
theorem wK.up{p:QD}{i:Nat}(h:wK p i):wK p (i+1):=⟨h.1,h.2.1.mono agE,by have:=h.2.2;omega⟩
structure FO(w1:World)(i:Nat)(wr:World)(d:BW):Prop where
 sep:kJ w1.heap.size w1.heap.size d wr
 below:Below w1.heap.size w1 wr
 le:∀t,(d.le t).length<=16*i
 qs:d.qs.length<=i
 qn:∀p∈d.qs,wK p i
variable {w1 wr w':World}{i:Nat}{d d':BW}
theorem FO.us(h:FO w1 i wr d)(u:Us w1.heap.size w1.heap.size wr (Held w1.heap.size d) d' w')(a:∀t,(d'.le t).length<=(d.le t).length+16)(c:d'.qs.length<=i+1)(hn:∀p∈d'.qs,wK p (i+1)):FO w1 (i+1) w' d':=
 ⟨u.sep,h.below.trans (u.below h.below.size (λb e=>(h.sep.low e).1)),λt=>by have:=a t;have:=h.le t;omega,c,hn⟩
theorem FO.grown(h:FO w1 i wr d)(g:wr.grownBy w' none):FO w1 i w' d:=⟨h.sep.grown g,h.below.trans (Dm g h.below.size),h.le,h.qs,h.qn⟩
theorem FO.mono(h:FO w1 i wr d):FO w1 (i+1) wr d:=⟨h.sep,h.below,λt=>by have:=h.le t;omega,by have:=h.qs;omega,λp a=>(h.qn p a).up⟩
theorem FO.start(g:(w1.alloc Ps).grownBy wr none):FO w1 0 wr ⟨.slice none 0 0,[],λ_=>.slice none 0 0,λ_=>[]⟩:=by
 have c:dB wr w1.heap.size #[.slice none 0 0,.slice none 0 0,.slice none 0 0,.slice none 0 0,.slice none 0 0,.slice none 0 0]:=(by grind [dB.new,dB.grown])
 have G:=aa (cx w1 _ none) g;have a:∀j b,BW.F w1.heap.size ⟨.slice none 0 0,[],λ_=>.slice none 0 0,λ_=>[]⟩ j b->j=(0,0)/\b=w1.heap.size:=by
  intro j b h;match j,h with
  |(0,k),h=>exact⟨by rw[h.1],h.2⟩
  |(1,k),h=>exact absurd h.2 (by simp[Value.ownBlock])
  |(2,k),h=>exact absurd h (by simp[BW.F,Value.ownBlock])
  |(3,k),h=>obtain⟨_,h,_⟩:=h;cases h
  |(j+4,k),h=>obtain⟨_,h,_⟩:=h;simp at h
 refine⟨⟨λj=>?_,λj b h=>by rw[(a j b h).2];exact c.lt,agM,agM,by have:=G.size;omega⟩,tH G,λ_=>by simp,by simp,by simp⟩;match j with
 |(0,k)=>exact λ_=>c
 |(1,k)=>exact λ_=>World.ownsRow_nil _ _ _ _
 |(2,k)=>exact World.ownsRow_nil _ _ _ _
 |(3,k)=>intro x e;cases e
 |(j+4,k)=>intro p f;simp at f
theorem FO.looks(h:FO w1 i wr d)(a:i<=1048577):
  Calls Tryz.prog 6 #[(w1,2)] wr λe w'=>e=.returned (.bool true)/\FO w1 i w' d:=
 (agU d wr h.sep (λt=>by have:=h.le t;omega)).mono (by grind [FO.grown])
def Tm(W:World)(kind:Int)(cs:Array Value):Prop:=aau kind cs/\scr.FD W cs
theorem scr.FD.grown{W W':World}{cs:Array Value}(h:scr.FD W cs)(g:W.grownBy W' none):scr.FD W' cs:=by
 obtain⟨a,n,c,j,f,l,o,q,k,m⟩:=h;exact⟨a,n,c,j,f,l,o,q.below (tH g),λb off e p=>by have:=k b off e p;have:=g.size;omega,m⟩
theorem VX(W)(a)(c:qw a)(zs)(h:zs.length=500):Tm W a (Cg a zs):=
 ⟨aav a c zs h,none,0,0,[],rfl,rfl,by omega,λi g=>absurd g agI,λb off e=>(by cases e),λt f=>(by cases f)⟩
theorem FO.step(h:FO w1 i wr d)(hi:i<=1048577){a:Int}{cs:Array Value}(j:a=9\/a=10\/a=11\/a=12)(K:aau a cs)(hT:scr.FD w1 cs):
  Calls Tryz.prog 5 #[(w1,0),.agg cs] wr λe w'=>e=.returned (.bool true)/\∃d',FO w1 (i+1) w' d':=by
 obtain⟨o,aw,ab,ai,ak,av,U,Z,O6,aj,ay,R,au,ax,al,ae,V8,an,Y,af,ar,ao,ag,ah,X,S,ad,m,I,b⟩:=K
 obtain⟨V,nt,tc,T,t1,t2,t3,t4,t5,t6⟩:=hT
 have b1:=h.qs
 have x:cs[0]?=some (ι a):=by rw[b,<-I];rfl
 have h1:cs[1]?=some (ι o.A):=by rw[b];rfl
 have h3:cs[3]?=some (ι o.C):=by rw[b];rfl
 have h7:cs[7]?=some (.string o.zs):=by rw[b];rfl
 have r:cs.size=41:=by rw[b];rfl
 have hz:=m.2.2.2.2.2.1
 rcases j with j|j
 ·refine(VM d a o.A o.C o.zs cs wr (hid j) r ?_ hz h.sep agE).mono ?_
  ·refine⟨?_,?_,?_,?_⟩<;>(grind [World.cell?_alloc_at])
  ·rintro e w' ⟨rfl,u|⟨v,p,u,e1,H,O,e4,e5⟩⟩
   ·exact⟨rfl,d,h.us u (λt=>by omega) agE (λp c=>(h.qn p c).up)⟩
   ·refine⟨rfl,_,h.us u (λt=>en _ _) (by show(d.qs++[p]).length<=_;rw[cD,eC];omega) (λq hq=>?_)⟩;rcases eW.1 hq with hq|hq
    ·exact(h.qn q hq).up
    ·rw[ew.1 hq];exact⟨H,by grind [dX.new],by rw[O];exact cS _⟩
 ·by_cases z:d.qs=[]
  ·refine(Rq d a cs wr (hid j) x h.sep z).mono ?_;rintro e w' ⟨rfl,g⟩;exact⟨rfl,d,(h.grown g).mono⟩
  ·have y:=fX.2 z;have hkl:=DF o.A y;obtain⟨k,s⟩:=aq (vH o.A d.qs.length);rw[s]at hkl;have c:=cL hkl;obtain⟨p,L⟩:=aq (d.qs[k]);rw[L]at c;have P:=h.qn p (ey c);obtain⟨l,B,dp,D,rg,M,N,sv,kl⟩:=p;obtain⟨e,hM,w⟩:=P;have e:N=M:=e;subst e;have w:kl.length<=16*i:=w;have E:=h.le
   have G:∀(F),(∀qs,F qs->qs.map QD.pb=d.qs.map QD.pb/\∀p∈qs,wK p (i+1))->(∀W,wr.grownBy W none->Calls Tryz.prog 10 #[(w1,0),.agg cs,(l,0)] W λe w'=>xU w1.heap.size w1.heap.size 16 d W e w' F)->
     Calls Tryz.prog 5 #[(w1,0),.agg cs] wr λe w'=>e=.returned (.bool true)/\∃d',FO w1 (i+1) w' d':=λF n HC=>by
    refine(Rs d a o.A cs k ⟨l,B,dp,D,rg,N,N,sv,kl⟩ 16 F wr (hid j) r x h1 m.2.1.1 m.2.1.2 (hid agE) (hid s) c h.sep (λqs q=>(n qs q).1) HC).mono ?_
    rintro e w' ⟨rfl,d',u,_,hq,J⟩
    exact⟨rfl,d',h.us u J (by rw[<-cR (f:=QD.pb),(n _ hq).1,cR];omega) (n _ hq).2⟩
   have same:∀qs,qs=d.qs->qs.map QD.pb=d.qs.map QD.pb/\∀p∈qs,wK p (i+1):=(by grind [wK.up,FO.qn])
   rcases j with rfl|rfl|rfl
   ·refine G (λqs=>∃p',qs=d.qs.set k p'/\p'.pb=l/\p'.N=p'.M/\dX p'.M (16*i+1+16)/\p'.kl.length<=kl.length+16) ?_ (λW g=>VN d ⟨l,B,dp,D,rg,N,N,sv,kl⟩ _ cs W x r (λW' g'=>?_))
    ·rintro qs ⟨p',rfl,e1,H,O,e4⟩;refine⟨?_,λq hq=>?_⟩
     ·apply List.ext_getElem?;grind
     ·rcases List.mem_or_eq_of_mem_set hq with hq|rfl
      ·exact(h.qn q hq).up
      ·exact⟨H,O,by omega⟩
    ·have Q:=aa g g';exact OB d (16*i+1) k l B dp D rg N sv kl cs V nt tc T W' c t1 (hid t2) t3 ((t4.below h.below).below (tH Q)) t5 t6 hM agE agE agE (by have:=E 0;omega) (by have:=E 3;omega) (h.sep.grown Q)
   ·exact G (λqs=>qs=d.qs) same (λW g=>Og d k l B dp D rg N sv kl 11 cs W x c rfl rfl (h.sep.grown g) (by have:=E 2;omega) (by have:=E 1;omega))
   ·exact G (λqs=>qs=d.qs) same (λW g=>Rt d k ⟨l,B,dp,D,rg,N,N,sv,kl⟩ cs W x c (h.sep.grown g))
end Go.Proofs.YtlfifnpjeangmaaGreatDoor
