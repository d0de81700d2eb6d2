import Derived.Test.YtlfifnpjeangmaaGreatDoorGESclA
import Derived.Test.YtlfifnpjeangmaaGreatDoorGEBBat
namespace Go.Proofs.YtlfifnpjeangmaaGreatDoor.scr
set_option maxHeartbeats 1000000
open Proofs.Tryz Go.RowKit
set_option maxRecDepth 100000
variable {cs:List Value}
theorem On(h:cs.length=34):∃a b d e f g i j k r,cs=[a,b,d,e,f,g,i]++([j,k]++r)/\r.length=25:=by
 obtain⟨a,w,rfl,l⟩:=kM h;obtain⟨b,x,rfl,m⟩:=kM l;obtain⟨d,y,rfl,n⟩:=kM m;obtain⟨e,A,rfl,o⟩:=kM n;obtain⟨f,B,rfl,p⟩:=kM o;obtain⟨g,C,rfl,q⟩:=kM p;obtain⟨i,D,rfl,r⟩:=kM q;obtain⟨j,J,rfl,t⟩:=kM r;obtain⟨k,v,rfl,u⟩:=kM t;exact⟨a,b,d,e,f,g,i,j,k,v,rfl,u⟩
theorem RJ{H:Type}{f:TypeId×Value->H}{W:World}{n:Nat}{x:DataW H×List MemPlace}(j:cs.length=34)(h:DataW.trod f prog W 0 (λ_=>true) true n 192 cs=some x)(p:Rows.uptoBulk x.1<=1048576):∃t:kL,cs=t.cells/\t.Ok:=by
 obtain⟨K,L,M,P,Q,R,S,c7,c8,r,rfl,hr⟩:=On j;obtain⟨o,m,rfl,rfl,_,hxl,k⟩:=DataW.trod_struct underlying192 h;obtain⟨D,rfl,w7⟩:=iS underlying2 fC (k 1 _ rfl) hxl c7 rfl O;obtain⟨J,rfl,b8⟩:=Ja p (k 2 _ rfl) hxl c8 rfl O;have T:=cL (l:=o) (i:=0) o';have U:=cL (l:=o) (i:=3) o';have g:Rows.uptoBulk (o[0]'o').1<=1048576:=by have:=wO T p;omega
 have h0:=(k 0 _ rfl).trans T;obtain⟨ys,m8,_,t,_,b,d⟩:=DataW.trod_struct (cs:=[K,L,M,P,Q,R,S]) underlying41 h0;rw[t]at g;obtain⟨u,rfl,q0⟩:=iS underlying3 jC (d 0 _ rfl) b K rfl O;obtain⟨v,rfl,X⟩:=Ja g (d 1 _ rfl) b L rfl O;obtain⟨w,rfl,q2⟩:=iS underlying39 wM (d 2 _ rfl) b M rfl O;obtain⟨y,rfl,q3⟩:=iS underlying2 fC (d 3 _ rfl) b P rfl O;obtain⟨A,rfl,q4⟩:=iS underlying2 fC (d 4 _ rfl) b Q rfl O;obtain⟨B,rfl,q5⟩:=iS underlying2 fC (d 5 _ rfl) b R rfl O;obtain⟨C,rfl,q6⟩:=iS underlying3 jC (d 6 _ rfl) b S rfl O;have V:DataW.trod f prog W 0 (λ_=>true) true m 45 (([Value.int .i64 u,.string v,υ w,Y y,Y A,Y B,Y C]++([Value.int .i64 D,.string J]++r)).drop 9 |>.take (prog.cellsOf 45))=some (o[3]'o'):=(k 3 _ rfl).trans U;rw[Wc]at V
 obtain⟨a,rfl,q⟩:=Ot (cs:=r) hr (by
  have e:(([Value.int .i64 u,.string v,υ w,Y y,Y A,Y B,Y C]++([Value.int .i64 D,.string J]++r)).drop 9).take 25=r:=by show r.take 25=r;rw[cU G]
  rw[<-e]
  exact V) (by have:=wO U p;omega)
 refine⟨⟨⟨u,v.data.toList,UInt64.ofNat w.toNat,y,A,B,C⟩,D,J.data.toList,a⟩,?_,⟨lE q3,lE q4,lE q6,X,lE w7,b8,q⟩⟩;simp only[kL.cells];rw[<-FD q2]
def FH(W:World)(cs:Array Value):Prop:=∃a n c ts,cs[40]?=some (.slice a n c)/\ts.length=n/\n<=1048576/\pG W a ts/\(∀b off,a=some ⟨b,off,none⟩->0<ts.length->b<W.1.size)/\∀t∈ts,t.Ok
theorem aaT{H:Type}{u:TypeId×Value->H}{W:World}{n:Nat}{x:DataW H×List MemPlace}(B:cs.length=41)(h:DataW.trod u prog W 0 (λ_=>true) true n 48 cs=some x)(hb:Rows.uptoBulk x.1<=1048576):FH W cs.toArray:=by
 obtain⟨c0,c1,c2,c3,c4,c5,c6,c7,c8,c9,V,ab,ae,af,ag,ah,ai,aj,ak,al,an,ao,KS,ar,au,We,Wh,Wi,av,Wj,Sg,ay,ba,Wl,bb,Wm,Wn,bc,Wo,Wp,M,rfl⟩:=Lo B;obtain⟨L,m,rfl,rfl,_,hxl,hf⟩:=DataW.trod_struct underlying48 h;have r:=cL (l:=L) (i:=10) o';have k:Rows.uptoBulk (L[10]'o').1<=1048576:=by have:=wO r hb;omega
 have y:DataW.trod u prog W 0 (λ_=>true) true m 46 [M]=some (L[10]'o'):=by
  have h:=(hf 10 _ rfl).trans r;have e:=V9;exact h
 obtain⟨X,hX⟩:∃X,L[10]'o'=X:=⟨_,rfl⟩
 rw[hX]at y k;rcases Go.Deep.open_slice underlying46 y with⟨g,_⟩|⟨K,l,c,mm,nn,D,Pl,g,bk,hl,hm,C,hx,A⟩
 .injection g with g _;subst g;exact⟨none,0,0,[],rfl,rfl,by omega,λi o=>absurd o Z,λb a e=>(by cases e),λt U=>(by cases U)⟩
 .injection g with g _;subst g;subst hx;simp only[if_true]at C;subst C;have Q:l<=1048576:=by
   have w:=FE ((List.range l).map D) (λd _=>OJ d);simp only[Rows.uptoBulk]at k;simp only[cR,List.length_range]at w;omega
  have T:∀i,i<l->∃t:kL,t.Ok/\∃b a,K=⟨b,a,none⟩/\b<W.1.size/\W.rangeAt b (a+i*34) t.cells:=by
   intro i o;obtain⟨bf,w,h2⟩:=A i G;rw[I9]at w;obtain⟨_,p,d⟩:=World.cells?_some w;have hc0:=d 0 O;rw[cL G]at hc0;obtain⟨b,a,J⟩:=K;have q:J=none:=by
    obtain⟨v,f,_⟩:=A 0 G;rw[I9]at f;have j:=(World.cells?_some f).2.2 0 O;rw[cL (by rw[(World.cells?_some f).2.1];decide)]at j;simpa[Addr.add]using World.cell?_spot j
   subst q;have R:b<W.1.size:=by
    exact Hc
   have P:Rows.uptoBulk (D i)<=1048576:=by
    have w:=Ag (l:=(List.range l).map D) (List.mem_map.2 ⟨i,by simpa using o,rfl⟩);simp only[Rows.uptoBulk]at k;omega
   obtain⟨t,rfl,S⟩:=RJ p h2 P;refine⟨t,S,b,a,rfl,R,λj v f=>?_⟩;grind [Addr.add_lit]
  obtain⟨f,j⟩:∃f:Nat->kL,∀i,i<l->(f i).Ok/\∃b a,K=⟨b,a,none⟩/\b<W.1.size/\W.rangeAt b (a+i*34) (f i).cells:=by
   refine⟨λi=>if o:i<l then Classical.choose (T i o) else⟨⟨0,[],0,0,0,0,0⟩,0,[],⟨0,[],[],0,0,0,0,0,0,0,0,⟨0,0,[],0,0,0,0⟩,0,0,[],0,0,0,0⟩⟩,λi o=>?_⟩;grind
  refine⟨some K,l,_,(List.range l).map f,rfl,by simp,Q,λi o=>?_,λb a e d=>?_,λt U=>?_⟩
  .grind
  .grind
  grind
end Go.Proofs.YtlfifnpjeangmaaGreatDoor.scr
namespace Go.Proofs.YtlfifnpjeangmaaGreatDoor
set_option maxHeartbeats 1000000
open Go.RowKit
set_option maxRecDepth 100000
def wP(p:QD)(i:Nat):Prop:=p.N=p.M/\dX p.M (16*i+1)/\p.kl.length<=16*i
theorem wP.up{p:QD}{i:Nat}(h:wP p i):wP p (i+1):=⟨h.1,h.2.1.mono G,by have:=h.2.2;omega⟩
structure FU(w1:World)(i:Nat)(wr:World)(d:BW):Prop where
 sep:kK w1.1.size w1.1.size d wr
 below:Below w1.1.size w1 wr
 le:∀t,(d.le t).length<=16*i
 qs:d.qs.length<=i
 qn:∀p∈d.qs,wP p i
variable {w1 wr w':World}{i:Nat}{d d':BW}
theorem FU.us(h:FU w1 i wr d)(u:Us w1.1.size w1.1.size wr (kB w1.1.size d) d' w')(a:∀t,(d'.le t).length<=(d.le t).length+16)(g:d'.qs.length<=i+1)(f:∀p∈d'.qs,wP p (i+1)):FU w1 (i+1) w' d':=
 ⟨u.sep,h.below.trans (u.below h.below.size (λb e=>(h.sep.low e).1)),λt=>by have:=a t;have:=h.le t;omega,g,f⟩
theorem FU.grown(h:FU w1 i wr d)(g:wr.grownBy w' none):FU w1 i w' d:=⟨h.sep.grown g,h.below.trans (Dq g h.below.size),h.le,h.qs,h.qn⟩
theorem FU.mono(h:FU w1 i wr d):FU w1 (i+1) wr d:=⟨h.sep,h.below,λt=>by have:=h.le t;omega,by have:=h.qs;omega,λp a=>(h.qn p a).up⟩
theorem FU.start(e:(w1.alloc PH).grownBy wr none):FU w1 0 wr ⟨σ,[],λ_=>σ,λ_=>[]⟩:=by
 have d:dz wr w1.1.size #[σ,σ,σ,σ,σ,σ]:=(by grind [dz.new,dz.grown])
 have G:=aa (cx w1 _ none) e;have a:∀j b,BW.F w1.1.size ⟨σ,[],λ_=>σ,λ_=>[]⟩ j b->j=(0,0)/\b=w1.1.size:=by
  intro j b h;match j,h with
  |(0,k),h=>exact⟨by rw[h.1],h.2⟩
  |(1,k),h=>exact absurd h.2 (by simp[Value.ownBlock])
  |(2,k),h=>exact absurd h (by simp[BW.F,Value.ownBlock])
  |(3,k),h=>obtain⟨_,h,_⟩:=h;cases h
  |(j+4,k),h=>obtain⟨_,h,_⟩:=h;simp at h
 refine⟨⟨λj=>?_,λj b h=>by rw[(a j b h).2];exact d.lt,fA,fA,by have:=G.size;omega⟩,tK G,λ_=>by simp,by simp,by simp⟩;match j with
 |(0,k)=>exact λ_=>d
 |(1,k)=>exact λ_=>World.ownsRow_nil _ _ _ _
 |(2,k)=>exact World.ownsRow_nil _ _ _ _
 |(3,k)=>intro x f;cases f
 |(j+4,k)=>intro p b;simp at b
theorem FU.looks(h:FU w1 i wr d)(a:i<=1048577):Calls Tryz.prog 6 #[π w1.1.size 2] wr λe w'=>e=.returned (.bool true)/\FU w1 i w' d:=
 (ON d wr h.sep (λt=>by have:=h.le t;omega)).mono (by grind [FU.grown])
def TA(W:World)(kind:Int)(cs:Array Value):Prop:=tS kind cs/\scr.FH W cs
theorem scr.FH.grown{W f:World}{i:Array Value}(h:scr.FH W i)(g:W.grownBy f none):scr.FH f i:=by
 obtain⟨a,n,c,r,j,k,l,m,o,q⟩:=h;exact⟨a,n,c,r,j,k,l,m.below (tK g),λb d e p=>by have:=o b d e p;have:=g.size;omega,q⟩
theorem Wd(W:World)(a:Int)(g:qx a)(d:E)(h:d.length=500):TA W a (Ck a d):=
 ⟨Wg a g d h,none,0,0,[],rfl,rfl,by omega,λi f=>absurd f Z,λb k e=>(by cases e),λt j=>(by cases j)⟩
theorem FU.step(h:FU w1 i wr d)(hi:i<=1048577){a:Int}{b:Array Value}(r:a=9\/a=10\/a=11\/a=12)(X:tS a b)(hT:scr.FH w1 b):Calls Tryz.prog 5 #[π w1.1.size 0,.agg b] wr λe w'=>e=.returned (.bool true)/\∃d',FU w1 (i+1) w' d':=by
 obtain⟨o,af,ag,ah,ai,aj,ak,al,KS,an,ao,We,Wh,Wi,ar,Wj,Sg,au,av,Wl,ay,Wm,Wn,ba,Wo,Wp,bb,w,ab,l⟩:=X
 obtain⟨ta,nt,tc,ts,t1,t2,t3,t4,t5,t6⟩:=hT
 have b1:=h.qs
 have A:b[0]?=some (Y a):=by rw[l,<-ab];rfl
 have h1:b[1]?=some (Y o.A):=by rw[l];rfl
 have h3:b[3]?=some (Y o.C):=by rw[l];rfl
 have h7:b[7]?=some (.string ⟨o.zs.toArray⟩):=by rw[l];rfl
 have x:b.size=41:=by rw[l];rfl
 have hz:=w.2.2.2.2.2.1
 rcases r with r|r
 .refine(VU d a o.A o.C o.zs b wr (I r) x ?_ hz h.sep G).mono ?_
  .refine⟨?_,?_,?_,?_⟩<;>(grind [World.cell?_alloc_at])
  .rintro e w' ⟨rfl,u|⟨v,p,u,e1,U,V,e4,g⟩⟩
   .exact⟨rfl,d,h.us u (λt=>by omega) G (λp m=>(h.qn p m).up)⟩
   .refine⟨rfl,_,h.us u (λt=>en _ _) (by show(d.qs++[p]).length<=_;rw[cD,eC];omega) (λq hq=>?_)⟩;rcases eW.1 hq with hq|hq
    .exact(h.qn q hq).up
    .rw[ew.1 hq];exact⟨U,by grind [dX.new],by rw[V];exact cS _⟩
 .by_cases J:d.qs=[]
  .refine(Rz d a b wr (I r) A h.sep J).mono ?_;rintro e w' ⟨rfl,g⟩;exact⟨rfl,d,(h.grown g).mono⟩
  .have D:0<d.qs.length:=fX.2 J;have gO:=DJ o.A D;obtain⟨k,B⟩:=aq (vL o.A d.qs.length);rw[B]at gO;have m:d.qs[k]?=some d.qs[k]:=cL gO;obtain⟨p,ad⟩:=aq (d.qs[k]);rw[ad]at m;have ae:=h.qn p (ey m);obtain⟨v,P,y,Q,K,M,N,L,t⟩:=p;obtain⟨e,hM,C⟩:=ae;have e:N=M:=e;subst e;have C:t.length<=16*i:=C;have S:=h.le
   have T:∀(R:List QD->Prop),(∀j,R j->j.map QD.pb=d.qs.map QD.pb/\∀p∈j,wP p (i+1))->(∀W,wr.grownBy W none->Calls Tryz.prog 10 #[π w1.1.size 0,.agg b,π v 0] W λe w'=>xX w1.1.size w1.1.size 16 d W e w' R)->
     Calls Tryz.prog 5 #[π w1.1.size 0,.agg b] wr λe w'=>e=.returned (.bool true)/\∃d',FU w1 (i+1) w' d':=λR n HC=>by
    refine(RF d a o.A b k ⟨v,P,y,Q,K,N,N,L,t⟩ 16 R wr (I r) x A h1 w.2.1.1 w.2.1.2 (I G) (I B) m h.sep (λj q=>(n j q).1) HC).mono ?_
    rintro e w' ⟨rfl,d',u,_,hq,R⟩
    exact⟨rfl,d',h.us u R (by rw[<-cR (f:=QD.pb),(n _ hq).1,cR];omega) (n _ hq).2⟩
   have n:∀j,j=d.qs->j.map QD.pb=d.qs.map QD.pb/\∀p∈j,wP p (i+1):=(by grind [wP.up,FU.qn])
   rcases r with rfl|rfl|rfl
   .refine T (λj=>∃u,j=d.qs.set k u/\u.pb=v/\u.N=u.M/\dX u.M (16*i+1+16)/\u.kl.length<=t.length+16) ?_ (λW g=>VV d ⟨v,P,y,Q,K,N,N,L,t⟩ _ b W A x (λR g'=>?_))
    .rintro j ⟨u,rfl,e1,U,V,e4⟩;refine⟨?_,λq hq=>?_⟩
     .apply List.ext_getElem?;grind
     .rcases List.mem_or_eq_of_mem_set hq with hq|rfl
      .exact(h.qn q hq).up
      .exact⟨U,V,by omega⟩
    .have q:=aa g g';exact OI d (16*i+1) k v P y Q K N L t b ta nt tc ts R m t1 (I t2) t3 ((t4.below h.below).below (tK q)) t5 t6 hM G G G (by have:=S 0;omega) (by have:=S 3;omega) (h.sep.grown q)
   .exact T (λj=>j=d.qs) n (λW g=>Oo d k v P y Q K N L t 11 b W A m rfl rfl (h.sep.grown g) (by have:=S 2;omega) (by have:=S 1;omega))
   .exact T (λj=>j=d.qs) n (λW g=>RH d k ⟨v,P,y,Q,K,N,N,L,t⟩ b W A m (h.sep.grown g))
