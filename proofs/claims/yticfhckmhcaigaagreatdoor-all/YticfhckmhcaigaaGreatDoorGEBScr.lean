import Derived.Test.YticfhckmhcaigaaGreatDoorGESclA
import Derived.Test.YticfhckmhcaigaaGreatDoorGEBBat
namespace Go.Proofs.YticfhckmhcaigaaGreatDoor.scr
set_option maxHeartbeats 1000000
open Proofs.Tryz Go.RowKit
set_option maxRecDepth 100000
variable {cs:List Value}
theorem Rh(h:cs.length=34):∃a b d e f g i j k r,cs=[a,b,d,e,f,g,i]++([j,k]++r)/\r.length=25:=by
 obtain⟨a,w,rfl,l⟩:=kW h;obtain⟨b,x,rfl,m⟩:=kW l;obtain⟨d,y,rfl,n⟩:=kW m;obtain⟨e,A,rfl,o⟩:=kW n;obtain⟨f,B,rfl,p⟩:=kW o;obtain⟨g,C,rfl,q⟩:=kW p;obtain⟨i,D,rfl,r⟩:=kW q;obtain⟨j,J,rfl,t⟩:=kW r;obtain⟨k,v,rfl,u⟩:=kW t;exact⟨a,b,d,e,f,g,i,j,k,v,rfl,u⟩
theorem S3{H:Type}{f:TypeId×Value->H}{W:World}{n:Nat}{x:DataW H×List MemPlace}(j:cs.length=34)(h:DataW.trod f prog W 0 (λ_=>true) true n 192 cs=some x)(p:Rows.uptoBulk x.1<=1048576):∃t:lD,cs=t.cells/\t.Ok:=by
 obtain⟨K,L,M,P,Q,R,S,c7,c8,r,rfl,hr⟩:=Rh j;obtain⟨o,m,rfl,rfl,_,hxl,k⟩:=DataW.trod_struct underlying192 h;obtain⟨D,rfl,w7⟩:=kA underlying2 fF (k 1 _ rfl) hxl c7 rfl a7;obtain⟨J,rfl,b8⟩:=Iq p (k 2 _ rfl) hxl c8 rfl a7;have T:=cN (l:=o) (i:=0) pD;have U:=cN (l:=o) (i:=3) pD;have g:Rows.uptoBulk (o[0]'pD).1<=1048576:=by have:=uX T p;omega
 have h0:=(k 0 _ rfl).trans T;obtain⟨ys,m8,_,t,_,b,d⟩:=DataW.trod_struct (cs:=[K,L,M,P,Q,R,S]) underlying41 h0;rw[t]at g;obtain⟨u,rfl,q0⟩:=kA underlying3 jJ (d 0 _ rfl) b K rfl a7;obtain⟨v,rfl,X⟩:=Iq g (d 1 _ rfl) b L rfl a7;obtain⟨w,rfl,q2⟩:=kA underlying39 xQ (d 2 _ rfl) b M rfl a7;obtain⟨y,rfl,q3⟩:=kA underlying2 fF (d 3 _ rfl) b P rfl a7;obtain⟨A,rfl,q4⟩:=kA underlying2 fF (d 4 _ rfl) b Q rfl a7;obtain⟨B,rfl,q5⟩:=kA underlying2 fF (d 5 _ rfl) b R rfl a7;obtain⟨C,rfl,q6⟩:=kA underlying3 jJ (d 6 _ rfl) b S rfl a7;have V:DataW.trod f prog W 0 (λ_=>true) true m 45 (([Value.int .i64 u,.string v,O w,Y y,Y A,Y B,Y C]++([Value.int .i64 D,.string J]++r)).drop 9 |>.take (prog.cellsOf 45))=some (o[3]'pD):=(k 3 _ rfl).trans U;rw[Z1]at V
 obtain⟨a,rfl,q⟩:=K0 (cs:=r) hr (by
  have e:(([Value.int .i64 u,.string v,O w,Y y,Y A,Y B,Y C]++([Value.int .i64 D,.string J]++r)).drop 9).take 25=r:=by show r.take 25=r;rw[cW G]
  rw[<-e]
  exact V) (by have:=uX U p;omega)
 refine⟨⟨⟨u,v.data.toList,UInt64.ofNat w.toNat,y,A,B,C⟩,D,J.data.toList,a⟩,?_,⟨l7 q3,l7 q4,l7 q6,X,l7 w7,b8,q⟩⟩;simp only[lD.cells];rw[<-Io q2]
def Ir(W:World)(cs:Array Value):Prop:=∃a n c ts,cs[40]?=some (.slice a n c)/\ts.length=n/\n<=1048576/\qh W a ts/\(∀b off,a=some ⟨b,off,none⟩->0<ts.length->b<W.1.size)/\∀t∈ts,t.Ok
theorem adj{H:Type}{u:TypeId×Value->H}{W:World}{n:Nat}{x:DataW H×List MemPlace}(B:cs.length=41)(h:DataW.trod u prog W 0 (λ_=>true) true n 48 cs=some x)(hb:Rows.uptoBulk x.1<=1048576):Ir W cs.toArray:=by
 obtain⟨c0,c1,c2,c3,c4,c5,c6,c7,c8,c9,V,ab,ae,af,ag,ah,ai,aj,ak,al,an,ao,MQ,ar,au,YH,YI,YJ,av,YK,SG,ax,az,YL,ba,YM,YN,bb,YO,YP,M,rfl⟩:=UI B;obtain⟨L,m,rfl,rfl,_,hxl,hf⟩:=DataW.trod_struct underlying48 h;have r:=cN (l:=L) (i:=10) pD;have k:Rows.uptoBulk (L[10]'pD).1<=1048576:=by have:=uX r hb;omega
 have y:DataW.trod u prog W 0 (λ_=>true) true m 46 [M]=some (L[10]'pD):=by
  have h:=(hf 10 _ rfl).trans r;have e:=YQ;exact h
 obtain⟨X,hX⟩:∃X,L[10]'pD=X:=⟨_,rfl⟩
 rw[hX]at y k;rcases Go.Deep.open_slice underlying46 y with⟨g,_⟩|⟨K,l,c,mm,nn,D,Pl,g,bf,hl,hm,C,hx,A⟩
 .injection g with g _;subst g;exact⟨none,0,0,[],rfl,rfl,by omega,λi o=>absurd o Z,λb a e=>(by cases e),λt U=>(by cases U)⟩
 .injection g with g _;subst g;subst hx;simp only[if_true]at C;subst C;have Q:l<=1048576:=by
   have w:=Ip ((List.range l).map D) (λd _=>QV d);simp only[Rows.uptoBulk]at k;simp only[cU,List.length_range]at w;omega
  have T:∀i,i<l->∃t:lD,t.Ok/\∃b a,K=⟨b,a,none⟩/\b<W.1.size/\W.rangeAt b (a+i*34) t.cells:=by
   intro i o;obtain⟨bc,w,h2⟩:=A i G;rw[KH]at w;obtain⟨_,p,d⟩:=World.cells?_some w;have hc0:=d 0 a7;rw[cN G]at hc0;obtain⟨b,a,J⟩:=K;have q:J=none:=by
    obtain⟨v,f,_⟩:=A 0 G;rw[KH]at f;have j:=(World.cells?_some f).2.2 0 a7;rw[cN (by rw[(World.cells?_some f).2.1];decide)]at j;simpa[Addr.add]using World.cell?_spot j
   subst q;have R:b<W.1.size:=by
    exact Is
   have P:Rows.uptoBulk (D i)<=1048576:=by
    have w:=Br (l:=(List.range l).map D) (List.mem_map.2 ⟨i,by simpa using o,rfl⟩);simp only[Rows.uptoBulk]at k;omega
   obtain⟨t,rfl,S⟩:=S3 p h2 P;refine⟨t,S,b,a,rfl,R,λj v f=>?_⟩;grind [Addr.add_lit]
  obtain⟨f,j⟩:∃f:Nat->lD,∀i,i<l->(f i).Ok/\∃b a,K=⟨b,a,none⟩/\b<W.1.size/\W.rangeAt b (a+i*34) (f i).cells:=by
   refine⟨λi=>if o:i<l then Classical.choose (T i o) else⟨⟨0,[],0,0,0,0,0⟩,0,[],⟨0,[],[],0,0,0,0,0,0,0,0,⟨0,0,[],0,0,0,0⟩,0,0,[],0,0,0,0⟩⟩,λi o=>?_⟩;grind
  refine⟨some K,l,_,(List.range l).map f,rfl,by simp,Q,λi o=>?_,λb a e d=>?_,λt U=>?_⟩
  .grind
  .grind
  grind
end Go.Proofs.YticfhckmhcaigaaGreatDoor.scr
namespace Go.Proofs.YticfhckmhcaigaaGreatDoor
set_option maxHeartbeats 2000000
open Proofs.Tryz Go.RowKit
set_option maxRecDepth 100000
def oG(p:QD)(i:Nat):Prop:=p.N=p.M/\dK p.M (16*i+1)/\p.kl.length<=16*i
theorem oG.up{p:QD}{i:Nat}(h:oG p i):oG p (i+1):=⟨h.1,h.2.1.mono G,by have:=h.2.2;omega⟩
section
variable {r s:Bool}{w1 wr w':World}{i:Nat}{d d':BW r}{e:BW s}
structure AI(w1:World)(i:Nat)(wr:World)(d:BW r)(e:BW s):Prop where
 both:Both w1.1.size w1.1.size d e wr
 below:Below w1.1.size w1 wr
 le:∀t,(d.le t).length<=16*i
 ld:d.qs.length<=i
 lx:e.qs.length<=i
 dn:∀p∈d.qs,oG p i
 en:∀p∈e.qs,oG p i
theorem AI.symm(h:AI w1 i wr d e):AI w1 i wr e d:=⟨h.both.symm,h.below,by rw[h.both.same];exact h.le,h.lx,h.ld,h.en,h.dn⟩
theorem AI.us(h:AI w1 i wr d e)(u:Us w1.1.size w1.1.size wr (j' w1.1.size d) d' w')(k:(e.sync d').rv=e.rv)(a:∀t,(d'.le t).length<=(d.le t).length+16)(j:d'.qs.length<=i+1)(f:∀p∈d'.qs,oG p (i+1)):AI w1 (i+1) w' d' (e.sync d'):=
 ⟨h.both.step u k,h.below.trans (u.below h.below.size (λb e=>(h.both.one.low e).1)),λt=>by have:=a t;have:=h.le t;omega,j,by have:=h.lx;show e.qs.length<=_;omega,f,λp g=>(h.en p g).up⟩
theorem AI.ahm(h:AI w1 i wr d e){E:Ending}{b:List QD->Prop}(u:oJ w1.1.size w1.1.size 16 d wr E w' b)(f:∀a,b a->a.length=d.qs.length/\∀p∈a,oG p (i+1)):E=.returned (.bool true)/\∃d':BW r,AI w1 (i+1) w' d' (e.sync d'):=by
 obtain⟨j,d',u,g,a,k⟩:=u;refine⟨j,d',h.us u ?_ k (by have:=h.ld;rw[(f _ a).1];omega) (f _ a).2⟩;rw[h.both.same];cases s
 .exact g.1
 .exact g.2
theorem AI.same(h:AI w1 i wr d e):∀a,a=d.qs->a.length=d.qs.length/\∀p∈a,oG p (i+1):=by
 rintro _ rfl;exact⟨rfl,λp a=>(h.dn p a).up⟩
theorem AI.set(h:AI w1 i wr d e){k:Nat}{b:QD}(f:oG b (i+1)):(d.qs.set k b).length=d.qs.length/\∀p∈d.qs.set k b,oG p (i+1):=
 ⟨eA,λq a=>by
  rcases List.mem_or_eq_of_mem_set a with a|rfl
  .exact(h.dn q a).up
  .exact f⟩
theorem AI.made(h:AI w1 i wr d e){v:Value}{p:QD}{M:DM}(u:Us w1.1.size w1.1.size wr (j' w1.1.size d) (d.push v p) w')(l:(e.sync (d.push v p)).rv=e.rv)(f:p.M=M)(g:p.N=p.M)(j:p.kl=[])(k:dK M (16*(i+1)+1)):AI w1 (i+1) w' (d.push v p) (e.sync (d.push v p)):=by
 have a:(d.push v p).qs=d.qs++[p]/\(d.push v p).le=d.le:=by cases r<;>exact⟨rfl,rfl⟩
 refine h.us u l (λt=>by rw[a.2];omega) (by rw[a.1,cF,eL];have:=h.ld;omega) (λq b=>?_);rw[a.1]at b;rcases fp.1 b with b|b
 .exact(h.dn q b).up
 .rw[eC.1 b];exact⟨g,by rw[f];exact k,by rw[j];exact cS _⟩
theorem AI.grown(h:AI w1 i wr d e)(g:wr.grownBy w' none):AI w1 i w' d e:=⟨⟨h.both.one.grown g,h.both.two.grown g,h.both.same,h.both.meet⟩,h.below.trans (Zz g h.below.size),h.le,h.ld,h.lx,h.dn,h.en⟩
theorem AI.mono(h:AI w1 i wr d e):AI w1 (i+1) wr d e:=⟨h.both,h.below,λt=>by have:=h.le t;omega,by have:=h.ld;omega,by have:=h.lx;omega,λp a=>(h.dn p a).up,λp a=>(h.en p a).up⟩
theorem AI.pick(h:AI w1 i wr d e)(f:d.qs≠[])(A):∃k l o b r m M n a,wh A d.qs.length=k/\d.qs[k]?=some ⟨l,o,b,r,m,M,M,n,a⟩/\dK M (16*i+1)/\a.length<=16*i:=by
 have gN:=EY A (gi.2 f);have g:=cN gN;obtain⟨p,j⟩:=aq (d.qs[wh A d.qs.length]);rw[j]at g;have k:=h.dn p (eE g);obtain⟨l,o,b,r,m,M,N,n,a⟩:=p;obtain⟨q,t,u⟩:=k;have q:N=M:=q;subst q;exact⟨_,l,o,b,r,m,N,n,a,rfl,g,t,u⟩
end
def Iu(w1:World)(i:Nat)(wr:World)(D:BW true×BW false):Prop:=AI w1 i wr D.1 D.2
variable {w1 wr w':World}{i:Nat}{D:BW true×BW false}
theorem Iu.below(h:Iu w1 i wr D):Below w1.1.size w1 wr:=AI.below h
theorem Iu.grown(h:Iu w1 i wr D)(g:wr.grownBy w' none):Iu w1 i w' D:=AI.grown h g
theorem Iu.mono(h:Iu w1 i wr D):Iu w1 (i+1) wr D:=AI.mono h
theorem Iu.looks(h:Iu w1 i wr D)(a:i<=1048577):Calls prog 6 #[N w1.1.size 2] wr λe w'=>e=.returned (.bool true)/\Iu w1 i w' D:=
 (RC D.1 wr (AI.both h).one (λt=>by have:=AI.le h t;omega)).mono λe w' q=>⟨q.1,h.grown q.2⟩
theorem DA(r)(e:(w1.alloc Lg).grownBy wr none):jS w1.1.size w1.1.size (⟨σ,σ,[],λ_=>σ,λ_=>[]⟩:BW r) wr/\∀j b,BW.F w1.1.size (⟨σ,σ,[],λ_=>σ,λ_=>[]⟩:BW r) j b->j=(0,0)/\b=w1.1.size:=by
 have d:dm wr w1.1.size #[σ,σ,σ,σ,σ,σ]:=(by grind [dm.new,dm.grown])
 have G:=aa (cy w1 _ none) e;have a:∀j b,BW.F w1.1.size (⟨σ,σ,[],λ_=>σ,λ_=>[]⟩:BW r) j b->j=(0,0)/\b=w1.1.size:=by
  intro j b h;match j,h with
  |(0,k),h=>exact⟨by rw[h.1],h.2⟩
  |(1,k),h=>cases r<;>exact absurd h.2 (by simp[Value.ownBlock])
  |(2,k),h=>exact absurd h (by simp[BW.F,Value.ownBlock])
  |(3,k),h=>obtain⟨_,h,_⟩:=h;cases h
  |(j+4,k),h=>obtain⟨_,h,_⟩:=h;simp at h
 refine⟨⟨λj=>?_,λj b h=>by rw[(a j b h).2];exact d.lt,dT,dT,by have:=G.size;omega⟩,a⟩;match j with
 |(0,k)=>exact λ_=>d
 |(1,k)=>cases r<;>exact λ_=>World.ownsRow_nil _ _ _ _
 |(2,k)=>exact World.ownsRow_nil _ _ _ _
 |(3,k)=>intro x f;cases f
 |(j+4,k)=>intro p b;simp at b
theorem Iu.start(a:(w1.alloc Lg).grownBy wr none):Iu w1 0 wr (⟨σ,σ,[],λ_=>σ,λ_=>[]⟩,⟨σ,σ,[],λ_=>σ,λ_=>[]⟩):=by
 obtain⟨e,d⟩:=DA true a;obtain⟨f,g⟩:=DA false a;exact⟨⟨e,f,rfl,λi j b h _=>by rw[(d i b h).1];exact .inl rfl⟩,uB (aa (cy w1 _ none) a),λ_=>by simp,by simp,by simp,by simp,by simp⟩
def VK(W:World)(kind:Int)(cs:Array Value):Prop:=ua kind cs/\scr.adh cs/\scr.Ir W cs
theorem scr.Ir.grown{W f:World}{i:Array Value}(h:scr.Ir W i)(g:W.grownBy f none):scr.Ir f i:=by
 obtain⟨a,n,c,r,j,k,l,m,o,q⟩:=h;exact⟨a,n,c,r,j,k,l,m.below (uB g),λb d e p=>by have:=o b d e p;have:=g.size;omega,q⟩
theorem KI:bT 0:=⟨by decide,by decide⟩
theorem YR(W)(a)(l:qX a)(d)(h:d.length=500):VK W a (DY a d):=
 ⟨Z3 a l d h,⟨⟨d,rfl,by omega⟩,⟨0,[],[],0,0,0,0,0,0,0,0,⟨0,0,[],0,0,0,0⟩,0,0,[],0,0,0,0⟩,
  ⟨KI,cS _,cS _,KI,KI,KI,KI,KI,KI,KI,KI,⟨KI,KI,KI,KI,KI⟩,cS _,KI,KI,cS _,KI,KI,KI,KI⟩,
  λj v f=>by
   have k:j<25:=(cM.1 f).1
   rw[<-f]
   match j,k with
   |0,_=>rfl|1,_=>rfl|2,_=>rfl|3,_=>rfl|4,_=>rfl|5,_=>rfl|6,_=>rfl|7,_=>rfl|8,_=>rfl|9,_=>rfl|10,_=>rfl|11,_=>rfl|12,_=>rfl|13,_=>rfl|14,_=>rfl|15,_=>rfl|16,_=>rfl|17,_=>rfl|18,_=>rfl|19,_=>rfl|20,_=>rfl|21,_=>rfl|22,_=>rfl|23,_=>rfl|24,_=>rfl⟩,none,0,0,[],rfl,rfl,by omega,λi g=>absurd g Z,λb n e=>(by cases e),λt m=>(by cases m)⟩
theorem Iu.step(h:Iu w1 i wr D)(hi:i<=1048577)(ae:lZ wr){d:Int}{m:Array Value}(l:d∈[(5:Int),1,2,3,4,6,7,8,9,10,11,12])(ag:ua d m)(hA:scr.adh m)(hT:scr.Ir w1 m):Calls prog 5 #[N w1.1.size 0,.agg m] wr λe w'=>e=.returned (.bool true)/\∃C,Iu w1 (i+1) w' C:=by
 obtain⟨o,ak,al,an,ao,ar,au,av,MQ,ax,az,YH,YI,YJ,ba,YK,SG,bb,bc,YL,bf,YM,YN,bk,YO,YP,bl,r,ai,R⟩:=ag
 obtain⟨q,p⟩:=D
 have h:AI w1 i wr q p:=h
 have T:rh m d o.A o.B o.C o.K o.D o.zs:=by rw[R,<-ai];exact⟨rfl,rfl,rfl,rfl,rfl,rfl,rfl⟩
 have y:=T.1
 have h1:=T.2.1
 have w:m.size=41:=by rw[R];rfl
 have hz:=r.2.2.2.2.2.1
 have bq:=h.ld
 have bp:=h.lx
 have U:=h.le
 have A:∀{W w'},wr.grownBy W none->W.grownBy w' none->∃C,Iu w1 (i+1) w' C:=λg g'=>⟨(q,p),(h.grown (aa g g')).mono⟩
 have af:∀{W E w'}{t:List QD->Prop},wr.grownBy W none->oJ w1.1.size w1.1.size 16 q W E w' t->(∀f,t f->f.length=q.qs.length/\∀p∈f,oG p (i+1))->E=.returned (.bool true)/\∃C,Iu w1 (i+1) w' C:=λg u k=>by
  obtain⟨b,j,a⟩:=(h.grown g).ahm u k;exact⟨b,(j,_),a⟩
 have aj:∀{W E w'}{t:List QD->Prop},wr.grownBy W none->oJ w1.1.size w1.1.size 16 p W E w' t->(∀f,t f->f.length=p.qs.length/\∀p∈f,oG p (i+1))->E=.returned (.bool true)/\∃C,Iu w1 (i+1) w' C:=λg u k=>by
  obtain⟨b,B,a⟩:=(h.symm.grown g).ahm u k;exact⟨b,(_,B),a.symm⟩
 have l:d=1\/(d=2\/d=3)\/d=4\/d=5\/d=9\/(d=6\/d=7\/d=8)\/d=10\/d=11\/d=12:=by simp at l;omega
 rcases l with l|l|l|l|l|l|l
 .refine uV (I (.inl l)) w y (λW g=>(YB T (by rw[l];rfl) hz).mono λe w' a=>⟨a.1,A g a.2⟩)
 .obtain⟨S,j,v,n⟩:∃S j,(d=2/\KT o.K o.D o.B o.zs S j\/d=3/\KU o.K o.B o.zs S j)/\S.length<=100000:=by
   rcases l with l|l
   .obtain⟨S,j,a,b⟩:=ZA o.K o.D o.B o.zs;exact⟨S,j,.inl ⟨l,a⟩,b⟩
   .obtain⟨S,j,a,b⟩:=ZB o.K o.B o.zs;exact⟨S,j,.inr ⟨l,a⟩,b⟩
  exact uV (I G) w y (λW g=>(YD q T (I v) n hz (h.both.one.grown g) (by have:=U 0;omega)).mono λe w' a=>af g a h.same)
 .exact uV (I G) w y (λW g=>(YC T l hz (nI ae g)).mono λe w' a=>⟨a.1,A g a.2⟩)
 .subst l;refine uV (I G) w y (λW g=>(QW p (I (.inr ⟨rfl,rfl⟩)) T hz (h.both.two.grown g) G).mono λe w' a=>⟨a.1,?_⟩);rcases a.2 with a|⟨v,x,u,J,V,X,e4,e5⟩
  .exact A g a
  .exact⟨(_,_),((h.symm.grown g).made u (by rw[h.symm.both.same];rfl) J V X (dK.new e4 e5 (by show o.zs.length<=_;omega) _)).symm⟩
 .subst l;refine uV (I G) w y (λW g=>(QW q (I (.inl ⟨rfl,rfl⟩)) T hz (h.both.one.grown g) G).mono λe w' a=>⟨a.1,?_⟩);rcases a.2 with a|⟨v,x,u,J,V,X,e4,e5⟩
  .exact A g a
  .exact⟨(_,_),(h.grown g).made u (by rw[h.both.same];rfl) J V X (dK.new e4 e5 (by show o.zs.length<=_;omega) _)⟩
 .by_cases ad:p.qs=[]
  .exact(KD p d m wr (I (.inr ⟨rfl,rfl,l⟩)) y h.both.two ad).mono λe w' a=>⟨a.1,A (cC _ _) a.2⟩
  .obtain⟨k,b,P,x,Q,K,M,L,u,ab,S,hM,ah⟩:=h.symm.pick ad o.A
   have HE:∀(t),(∀f,t f->f.map QD.pb=p.qs.map QD.pb)->(∀f,t f->f.length=p.qs.length/\∀p∈f,oG p (i+1))->(∀W,wr.grownBy W none->Calls prog 8 #[N w1.1.size 0,.agg m,N b 0] W λe w'=>oJ w1.1.size w1.1.size 16 p W e w' t)->
     Calls prog 5 #[N w1.1.size 0,.agg m] wr λe w'=>e=.returned (.bool true)/\∃C,Iu w1 (i+1) w' C:=λt h2 h3 HC=>
    (KE p d o.A m k ⟨b,P,x,Q,K,M,M,L,u⟩ 16 t wr (I (.inr ⟨rfl,rfl,l⟩)) w y h1 r.2.1.1 r.2.1.2 (I G) (I ab) S h.both.two h2 HC).mono λe w' a=>aj (cC _ _) a h3
   have HS:=λn j HC=>HE (As p k b n u) (λf ⟨B,J,V,_⟩=>by
     rw[J,List.map_set,V];apply List.ext_getElem?
     grind) (λf ⟨B,J,_,X,e4,e5⟩=>by rw[J];exact h.symm.set ⟨X,e4.mono j,by omega⟩) HC
   rcases l with rfl|rfl|rfl
   .exact HS (16*i+1+1) G (λW g=>QO p (16*i+1) k b P x Q K M L u ⟨o.ak,o.an,o.key,o.bH,o.aD,o.bB,o.ae⟩ m W S y (λj v n=>by
     have hj:j<7:=(cM.1 n).1;rw[<-n,R];match j,hj with
     |0,_=>rfl|1,_=>rfl|2,_=>rfl|3,_=>rfl|4,_=>rfl|5,_=>rfl|6,_=>rfl) hM G G r.2.2.2.2.2.2.2.2.2.2.2 r.2.2.2.2.2.2.2.2.1 r.2.2.2.2.2.2.2.2.2.1 (by have:=r.2.2.2.2.2.2.2.1;show o.an.length<=_;omega) (h.both.two.grown g))
   .obtain⟨⟨zs,v,n⟩,a,ha,j⟩:=hA;exact HS (16*i+1) G (λW g=>Na p (16*i+1) k b P x Q K M L u a o.now o.C zs m W S y T.2.2.2.1 (by rw[R];rfl) v j ha n r.2.2.2.2.1 hM G G (by rw[h.both.same];have:=U 0;show((q.le 0).length+1)*112<=_;omega) (h.both.two.grown g))
   .exact HE (λf=>f=p.qs) (λ_ e=>by rw[e]) h.symm.same (λW g=>H9 p k b P x Q K M L u 8 m W y S (I (.inr ⟨rfl,rfl⟩)) (h.both.two.grown g) (by rw[h.both.same];have:=U 2;show((q.le 2).length+2)*112<=_;omega) (by rw[h.both.same];have:=U 1;show((q.le 1).length+2)*112<=_;omega))
 .by_cases j:q.qs=[]
  .exact(KD q d m wr (I (.inl ⟨rfl,rfl,l⟩)) y h.both.one j).mono λe w' a=>⟨a.1,A (cC _ _) a.2⟩
  .obtain⟨k,b,P,x,Q,K,M,L,u,ab,S,hM,ah⟩:=h.pick j o.A
   have HE:∀(t),(∀f,t f->f.map QD.pb=q.qs.map QD.pb)->(∀f,t f->f.length=q.qs.length/\∀p∈f,oG p (i+1))->(∀W,wr.grownBy W none->Calls prog 10 #[N w1.1.size 0,.agg m,N b 0] W λe w'=>oJ w1.1.size w1.1.size 16 q W e w' t)->
     Calls prog 5 #[N w1.1.size 0,.agg m] wr λe w'=>e=.returned (.bool true)/\∃C,Iu w1 (i+1) w' C:=λt h2 h3 HC=>
    (KE q d o.A m k ⟨b,P,x,Q,K,M,M,L,u⟩ 16 t wr (I (.inl ⟨rfl,rfl,l⟩)) w y h1 r.2.1.1 r.2.1.2 (I G) (I ab) S h.both.one h2 HC).mono λe w' a=>af (cC _ _) a h3
   rcases l with rfl|rfl|rfl
   .obtain⟨ta,t,tc,ts,v,C,t3,t4,t5,t6⟩:=hT
    refine HE (λf=>∃B,f=q.qs.set k B/\B.pb=b/\B.N=B.M/\dK B.M (16*i+1+16)/\B.kl.length<=u.length+16) (λf ⟨B,J,V,_⟩=>by
     rw[J,List.map_set,V];apply List.ext_getElem?
     grind) (λf ⟨B,J,_,X,e4,e5⟩=>by rw[J];exact h.set ⟨X,e4,by omega⟩) (λW g=>Yt q ⟨b,P,x,Q,K,M,M,L,u⟩ _ m W y w (λn g'=>?_))
    have a:=aa g g';exact QU q (16*i+1) k b P x Q K M L u m ta t tc ts n S v (I C) t3 ((t4.below h.below).below (uB a)) t5 t6 hM G G G (by have:=U 0;omega) (by have:=U 3;omega) (h.both.one.grown a)
   .exact HE (λf=>f=q.qs) (λ_ e=>by rw[e]) h.same (λW g=>H9 q k b P x Q K M L u 11 m W y S (I (.inl ⟨rfl,rfl⟩)) (h.both.one.grown g) (by have:=U 2;omega) (by have:=U 1;omega))
   .exact HE (λf=>f=q.qs) (λ_ e=>by rw[e]) h.same (λW g=>Uz q k ⟨b,P,x,Q,K,M,M,L,u⟩ m W y S (h.both.one.grown g))
