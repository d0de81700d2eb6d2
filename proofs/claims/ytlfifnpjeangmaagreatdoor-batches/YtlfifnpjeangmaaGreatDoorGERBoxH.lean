import Derived.Test.YtlfifnpjeangmaaGreatDoorGERBoxG
import Derived.Test.YtlfifnpjeangmaaGreatDoorGESep
namespace Go.Proofs.YtlfifnpjeangmaaGreatDoor
set_option maxHeartbeats 4000000
open Proofs.Tryz Go.RowKit
set_option maxRecDepth 100000
variable {p:Prop}
theorem Tryz.TJ:(prog.info? 117).map (λi=>(i.zero,i.size,i.bytes))=some (some (.agg vC),2,32):=by kernel_rfl
structure Pc where
 tag:UInt8
 ad:Option Addr
 cap:Nat
 ins:List UInt8
def Pc.cells(p:Pc):List Value:=[.int .u8 p.tag.toNat,.slice p.ad p.ins.length p.cap]
def oZ(l:List Pc):List Value:=(l.map Pc.cells).flatten
def Pc.pair(p:Pc):UInt8×List UInt8:=(p.tag,p.ins)
def aeY(ao:Option Addr)(zs:List UInt8)(cap:Nat)(p:Pc):Prop:=(∀w0,At w0 ao zs->At w0 p.ad p.ins)/\p.ins.length<=p.cap/\p.cap<=cap
theorem Jl(l)(x):oZ (l++[x])=oZ l++x.cells:=by simp[oZ]
def adL:Value->Nat
 |.slice _ n _=>n
 |_=>0
theorem Hz{l:List UInt8}(h:l.length<2):Box.cut l=none:=by
 rw[<-Box.Ho,Box.again,if_neg (λa=>by omega)]
theorem Lp(zs)(n)(y)(cap)(w)(hn:Hid (zs.length=n))(hl:n<=100000)(H:n<=cap)(aj:cap<=9223372036854775807)(hc:At w y zs):
  Calls prog 66 #[.slice y n cap] w λe w'=>
   (∀ps,Box.dF zs=some ps->∃v l,e=.returned (.tuple #[v,.bool true])/\w'.ownsRow w.heap.size 117 2 v l.length (oZ l)/\l.map Pc.pair=ps/\∀p∈l,aeY y zs cap p)/\
   (Box.dF zs=none->e=.returned (.tuple #[.slice none 0 0,.bool false]))/\w.grownBy w' none:=by
 obtain⟨ip,Q,P,N,S⟩:=info_parts Tryz.TJ
 go_enter func66,ntmps66
 go_wp2
 go_loopw [0,4] (λU lv wr=>∃(l:List Pc) (r:List UInt8) (m:Nat) (a:Option Addr) (c:Nat),U=.slice a m c/\Hid (r.length=m)/\m<=c/\c<=cap/\Hid (∀t,At t y zs->At t a r)/\wr.ownsRow w.heap.size 117 2 lv l.length (oZ l)/\w.grownBy wr none/\Hid (Box.dF zs=(Box.dF r).map (l.map Pc.pair++·))/\Hid (∀p∈l,aeY y zs cap p)/\l.length+m<=n) (λU _ _=>adL U)
 case atStart=>exact⟨[],zs,n,y,cap,rfl,hn,H,cy _,hid (λ_ h=>h),World.ownsRow_nil _ _ _ _,cC _ _,by show _=_;cases Box.dF zs<;>simp,by intro p C;simp at C,by simp⟩
 case round=>
  obtain⟨l,r,m,a,c,rfl,R,O,ae,z,f,s,E,qa,al⟩:=hrel;by_cases ah:0<m
  ·have af:(0:Int)<(m:Int):=agE;by_cases K:m<2
   ·have HN:Hid (Box.dF zs=none):=by
     grind [RowKit.Hid.o,Hz,Box.nZ]
    clear E;go_wp2_with fail;refine(Bf m a c _ K).mono ?_;rintro e Z ⟨rfl,d⟩;have A:=aM (aa s d) (.cells vC 117);clear f d;go_wp2;go_ret2;exact⟨agR,λ_=>rfl,A⟩
   ·have I:=z.o _ (hc.below s);obtain⟨b,off,rfl,_⟩:=I.addr (by rw[R.o];omega);have hF:=TG r m b off c _ R agE agE O agE I;cases k:Box.cut r with
    |none=>
     have HN:Hid (Box.dF zs=none):=by
      grind [RowKit.Hid.o,Box.nZ]
     rw[k]at hF;clear E k;go_wp2_with fail;refine hF.mono ?_;rintro e Z ⟨_,k2,d⟩;obtain⟨x,xa,xk,xc,rfl⟩:=k2 trivial;have A:=aM (aa s d) (.cells #[.int .u8 x,.slice xa xk xc] 117);clear f d hF k2;go_wp2;go_ret2;exact⟨agR,λ_=>rfl,A⟩
    |some tr=>
     obtain⟨tag,i,B⟩:=tr;have X:=Box.mM k;rw[R.o]at X;have M:Hid (Box.dF zs=(Box.dF B).map (l.map Pc.pair++[(tag,i)]++·)):=by
      show _=_;rw[E.o,Box.qW k];cases Box.dF B with
      |none=>rfl
      |some ps=>simp
     rw[k]at hF;clear E k;go_wp2_with fail;refine hF.mono ?_;rintro e Z ⟨k1,_,d⟩;obtain⟨L,J,a2,c2,rfl,F,W,ak,G,T,an⟩:=k1 tag i B rfl;have g:=f.kept d (eR _);have A:=aa s d;have ad:=A.size;have sM:l.length+1<=maxLen:=ag1;have V:(l.length+1)*32<=140737488355328:=agE;obtain⟨p,C⟩:∃p:Pc,p=⟨tag,L,J,i⟩:=⟨_,rfl⟩
     have HP:Hid (p.cells=[.int .u8 tag.toNat,.slice L i.length J]):=(by subst C;rfl);have V3:Hid (p.pair=(tag,i)):=(by subst C;rfl);have ai:Hid (aeY y zs cap p):=(by subst C;exact⟨λt h=>F t (z.o t h),W,by show J<=cap;omega⟩);have ab:Hid (∀t,At t y zs->At t a2 B):=λt h=>G t (z.o t h);clear f d hF k1 C F G;go_wp2_with (at_builtin;refine dJ _ rfl _ _ 178 rfl w.heap.size 117 ip _ 2 32 underlying178 Q P N S rfl agF _ _ _ rfl ((g.alloc _).alloc _) ⟨Z.heap.size+1,0,none⟩ 1 1 [.int .u8 tag.toNat,.slice L i.length J] rfl rfl ?q1 (by intro u hu;simp at hu;rcases hu with rfl|rfl<;>rfl) agE sM V ag2 ?_)
     case q1=>
      grind [gJ,cF]
     intro v2 w2 Y D _;have G2:=gu (aM (aM A _) _) D (λj hj=>(g.lt j hj).1);clear g D A;go_wp2;go_roundw
     case rel=>
      refine⟨l++[p],B,B.length,a2,c2,rfl,hid rfl,T,by omega,ab,?_,G2,?_,?_,?_⟩
      ·grind [Jl,RowKit.Hid.o]
      ·show _=_;rw[M.o,eg,eE,fy,V3.o]
      ·intro q hq;grind [RowKit.Hid.o]
      grind
     grind [adL]
  ·have ag:¬ (0:Int)<(m:Int):=agE;have HS:Hid (Box.dF zs=some (l.map Pc.pair)):=by
    grind [RowKit.Hid.o,Box.wO]
   clear E;go_wp2;go_ret2;refine⟨λps h=>?_,agR,s⟩;rw[HS.o]at h;simp only[fp]at h;exact⟨_,rfl,l,f,h,qa.o⟩
theorem TL{w w':World}(h:Cf w)(k:w.grownBy w' none):Cf w':=Lib.tabBelow_of_tabIs h w' (tH k)
theorem ahA(h:p:=by simpa using hk):p:=h
theorem Bg(l):∀(k j)(hk:k<l.length),j<2->(oZ l)[k*2+j]?=(l[k]).cells[j]?:=by
 induction l with
 |nil=>intro k j hk;simp at hk
 |cons x l b=>
  intro k j hk a;have e:oZ (x::l)=x.cells++oZ l:=by simp[oZ]
  rw[e];cases k with
  |zero=>rw[gf,cN,cW (by show j<2;exact a)];rfl
  |succ k=>
   rw[cY (by show 2<=(k+1)*2+j;omega),show(k+1)*2+j-x.cells.length=k*2+j from by show(k+1)*2+j-2=k*2+j;omega];exact b k j ahA a
theorem Lr{w w':World}(h:Below w.heap.size w w'):w.grownBy w' none:=⟨h.os,h.tape,h.output,h.size,λi a _=>h.block i a⟩
theorem bsize(a):(ByteArray.mk a).size=a.size:=rfl
def Dv(ks:List Int)(k:Int):Nat->Bool
 |0=>false
 |j+1=>Dv ks k j||(k==ks.getD j 0)
theorem Xm{a:List Int}{k:Int}:∀{j:Nat},j<=a.length->Dv a k j=true->k∈a:=by
 intro j;induction j with
 |zero=>intro _ h;simp[Dv]at h
 |succ j b=>
  grind [Dv]
def qy(Good:Int->Array Value->Prop)(w:World)(a:Option Addr)(n:Nat):Prop:=
 ∀i,i<n->∃b off,a=some ⟨b,off,none⟩/\b<w.heap.size/\∃kind cs,cs.size=41/\cs[0]?=some (ι kind)/\Good kind cs/\∀j v,cs.toList[j]?=some v->w.cell? ⟨b,off+i*41+j,none⟩=some v
theorem qy.grown{Good:Int->Array Value->Prop}{w w':World}{a:Option Addr}{n:Nat}(h:qy Good w a n)(k:w.grownBy w' none):qy Good w' a n:=by
 intro i f;obtain⟨b,off,d,l,c,cs,g,j,e,m⟩:=h i f;have s:=k.size;exact⟨b,off,d,by omega,c,cs,g,j,e,(by grind [World.grownBy.cell])⟩
theorem qy.below{Good:Int->Array Value->Prop}{w w':World}{a:Option Addr}{n:Nat}(h:qy Good w a n)(k:Below w.heap.size w w'):qy Good w' a n:=h.grown (Lr k)
abbrev Ps:Obj:=.cells #[.slice none 0 0,.slice none 0 0,.slice none 0 0,.slice none 0 0,.slice none 0 0,.slice none 0 0] 36
abbrev Cg(k0:Int)(zs:List UInt8):Array Value:=#[ι k0,ι 10,ι 2,ι 0,υ 0,υ 0,ι 0,.string zs,ι 0,.string ⟨#[]⟩,υ 0,ι 0,ι 0,ι 0,ι 0,ι 0,.string ⟨#[]⟩,.string ⟨#[]⟩,ι 0,ι 0,ι 0,ι 0,ι 0,ι 0,ι 0,ι 0,ι 0,υ 0,.string ⟨#[]⟩,ι 0,ι 0,ι 0,ι 0,ι 0,ι 0,.string ⟨#[]⟩,ι 0,ι 0,ι 0,ι 0,.slice none 0 0]
theorem adq(h:p:=by
 have HS:=hid hsu
 clear hsu hin
 go_wp2_with fail
 go_quiet (fail)
 go_wp2
 go_roundw
 case rel=>exact⟨j+1,by omega,by go_num,by rw[HS.o],⟨_,rfl⟩⟩
 case measure=>simp[intOf];omega):p:=h
theorem TM(Good:Int->Array Value->Prop)(I:Nat->World->Prop)(u:List Int)(G)(m)(hm:Hid (u.length=m))(av:1<=m)(aq:m<=12)(K:u.getD 0 0=G)(a)(n cap V:Nat)(w)(O:qy Good w a n)(hn:n<=140737488355328)(ar:V<w.heap.size)(Q:∀j,j<m->w.cell? ⟨V,j,none⟩=some (ι (u.getD j 0)))(l:∀wr,(w.alloc Ps).grownBy wr none->I 0 wr)(r:∀zs,zs.length=500->Good G (Cg G zs))(p:∀i wr c cs,i<=n+1->I i wr->c∈u->cs.size=41->cs[0]?=some (ι c)->Good c cs->Calls prog 5 #[(w.heap.size,0),.agg cs] wr λe w'=>e=.returned (.bool true)/\I (i+1) w')(f:∀i wr,i<=n+1->I i wr->Calls prog 6 #[(w.heap.size,2)] wr λe w'=>e=.returned (.bool true)/\I i w')(F:∀i wr q,I i wr->I i (wr.drewN q))(t:∀i wr,I i wr->I (i+1) wr)(g:∀i wr,I i wr->Below w.heap.size w wr):
  Calls prog 4 #[.slice a n cap,.slice (some (V,0)) m m] w λe w'=>e=.returned (.bool true)/\Below w.heap.size w w':=by
 have ab:G∈u:=by
  grind [RowKit.Hid.o]
 have H:=Q 0 agE
 rw[K]at H
 have ay:(0:Int)<(m:Int):=agE
 clear K
 go_enter func4,ntmps4
 go_wp2
 go_loopw [6,7] (λs i wr=>∃k:Nat,k<=20/\i = ι k/\(∃b:ByteArray,s=.string b/\b.size=25*k)/\(w.alloc Ps).grownBy wr none) (λ_ i _=>20-(intOf i).toNat)
 case atStart=>exact⟨0,by omega,rfl,⟨_,rfl,rfl⟩,cC _ _⟩
 case round=>
  obtain⟨k,hk,rfl,⟨s,rfl,C⟩,A⟩:=hrel;by_cases D:k<20
  ·have HS:=hid C;have au:s.size<=500:=agE;clear C;have N:#[Value.int IntKind.u8 (97+(k:Int))].toList=[UInt8.ofNat (97+k)].map U8:=by
    simp only[eE,fy,U8];rw[eo,ez agE,show(97+(k:Int))=((97+k:Nat):Int) from by omega]
   have ao:=ic (P:=prog) (wr.alloc (.cells #[.int .u8 (97+(k:Int))] 5)) 37 9 5 underlying37 underlying5 underlying9 (some ⟨wr.heap.size,0,none⟩) 1 [UInt8.ofNat (97+k)] (fq wr 5 _ _ N);simp only[de,List.length_nil,cN]at ao;clear N
   go_wp2;go_roundw
   case rel=>exact⟨k+1,by omega,by go_num,⟨_,rfl,by simp[HS.o,bsize];omega⟩,aM A _⟩
   case measure=>simp[intOf];omega
  ·have W:k=20:=agE;subst W;obtain⟨zs,af⟩:∃zs:List UInt8,s=⟨zs.toArray⟩:=⟨s.data.toList,by simp⟩
   subst af;have an:zs.length=500:=by
    have h:(⟨zs.toArray⟩:ByteArray).size=zs.length:=aii;omega
   clear C hk D;have Gw:=aa (cx w _ none) A;have ah:=Gw.cell H agI;have T:=p 0 wr G (Cg G zs) agE (l wr A) ab rfl rfl (r zs an);clear A Gw;go_wp2_with fail;refine T.mono ?_;rintro e w2 ⟨rfl,z⟩;clear T ah;go_wp2;obtain⟨wo,Y⟩:∃wo,wo=wr:=⟨wr,rfl⟩
   subst Y;go_loopw [8,9,10,11] (λ_ i _ _ wr=>∃k:Nat,k<=n/\i = ι k/\I (k+1) wr) (λ_ i _ _ _=>n-(intOf i).toNat)
   case atStart=>grind
   case round=>
    obtain⟨k,hk,rfl,J⟩:=hrel;have L:=g _ _ J;by_cases D:k<n
    ·obtain⟨b,off,ag,_,c,cs,y,M,ai,x⟩:=O.below L k D;subst ag;have B:∀j,j<m->wr.cell? ⟨V,j,none⟩=some (ι (u.getD j 0)):=(by grind [RowKit.Below.cell])
     have ae:wr.cell? (b,off+k*41)=some (ι c):=x 0 _ (by rw[<-M];simp);go_wp2;obtain⟨U,X⟩:∃U,U=wr:=⟨wr,rfl⟩
     subst X;go_loopw [10,11] (λd i wr=>∃j:Nat,j<=m/\i = ι j/\d=.bool (Dv u c j)/\∃q,wr=U.drewN q) (λ_ i _=>m-(intOf i).toNat)
     case atStart=>exact⟨0,by omega,rfl,rfl,0,rfl⟩
     case round=>
      obtain⟨j,hj,rfl,rfl,q,rfl⟩:=hrel;by_cases ak:j<m
      ·have Z:=B j ak;have Ls:(j:Int)<(m:Int):=agE;have ax:(0:Int)<=(j:Int):=agE;obtain⟨kj,E⟩:=aw (u.getD j 0);have ad:=hid E;rw[<-E]at Z;clear E;clear B x J L O H Q z p f l r F t g M;cases hin:Dv u c j
       ·have hsu:Dv u c (j+1)=(c==kj):=(by rw[Dv,hin,ad.o];rfl);exact adq
       ·have hsu:Dv u c (j+1)=true:=(by rw[Dv,hin];rfl);exact adq
      ·have aj:j=m:=agE;subst aj;have Ls:¬ (j:Int)<(j:Int):=agE;cases hin:Dv u c j
       ·have R:=t _ _ (F _ _ q J);clear B x O H z Q p f l r F t g J L M;go_wp2;go_roundw
        case rel=>exact⟨k+1,by omega,by go_num,R⟩
        case measure=>simp[intOf];omega
       ·have OE:=Xm (by rw[hm.o];exact cy _) hin;have T:=p (k+1) (U.drewN q) c cs agE (F _ _ q J) OE y M ai;have LL:=f (k+1+1);clear hin B O H z Q p f l r F t g J L M;go_wp2_with (refine Dn rfl 48 _ rfl ⟨b,off+k*41,none⟩ rfl cs _ ?l1 underlying48 rfl (by rw[y];exact Tryz.Ji) ?_)
        case l1=>intro j v hv;exact x j v (by simpa using hv)
        clear x ae;refine T.mono ?_;rintro e w5 ⟨rfl,S⟩;clear T;have L5:=LL w5 agE S;clear LL S;go_wp2_with fail;refine L5.mono ?_;rintro e w6 ⟨rfl,al⟩;clear L5;go_wp2;go_roundw
        case rel=>exact⟨k+1,by omega,by go_num,al⟩
        case measure=>simp[intOf];omega
    ·clear O H Q z p f l r F t g;go_wp2;go_ret;exact⟨rfl,L⟩
theorem aiD(h:p:=by show _=_;rw[HP.o];exact dk (by omega)):p:=h
theorem ai5(h:p:=by rw[HP.o];exact cX (by omega)):p:=h
theorem amF{S:ByteArray}{l:List UInt8}(hS:S=⟨l.toArray⟩)(j)(h:j<S.size):S[j]'h=l.getD j 0:=by
 subst hS;have a:j<l.length:=by simpa[ByteArray.size]using h
 simp only[List.getD,cL a,Option.getD_some];rfl
theorem ab3(h:p:=by
 go_wp2
 go_round
 case rel=>exact⟨k+1,by omega,by go_num,by show _=_;rw[Xo.o];exact HY.o⟩
 case measure=>simp[intOf];omega):p:=h
theorem acM(h:p:=by
 go_wp2
 go_ret
 exact⟨by rw[HR.o];rfl,rfl⟩):p:=h
theorem af7(h:p:=by
 go_wp2
 go_ret
 exact⟨by rw[HF.o];rfl,rfl⟩):p:=h
theorem vF(l)(n)(S)(w)(hS:Hid (S=⟨l.toArray⟩))(hn:Hid (l.length=n))(H:n<=9223372036854775807):
  Calls prog 56 #[.string S] w λe w'=>e=.returned (.bool (cO l))/\w=w':=by
 have C:S.size=n:=by rw[hS.o,<-hn.o];simp[ByteArray.size]
 go_enter func56,ntmps56
 go_wp2
 go_loop [3] (λi=>∃k:Nat,k<=n/\i = ι k/\Hid ((l.take k).all jC=true)) (λi=>n-(intOf i).toNat)
 case atStart=>exact⟨0,cS _,rfl,hid agI⟩
 case round=>
  obtain⟨k,G,rfl,t⟩:=hrel;by_cases hlt:k<n
  ·have a:k<l.length:=ag4;have j:=amF hS.o k;have Xo:=hid (xJ a);rw[t.o,gn]at Xo;have d:Hid (jC (l.getD k 0)=false->cO l=false):=by
    intro h;rw[cO];have:l.all jC=false:=by
     have y:l.getD k 0∈l:=by
      rw[show l.getD k 0=l[k] from by simp[List.getD,List.getElem?_eq_getElem a]];exact ef a
     rw[List.all_eq_false];exact⟨_,y,by rw[h];simp⟩
    rw[this,Bool.and_false]
   generalize l.getD k 0=z at j Xo d;have I:=z.toNat_lt;have D:(k:Int)<(n:Int):=agE;have B:(0:Int)<=(k:Int):=agE;have HP:Hid (jC z=decide ((97<=z.toNat/\z.toNat<=122)\/(48<=z.toNat/\z.toNat<=57)\/z.toNat=47)):=rfl;by_cases F:97<=z.toNat
   ·have p:(97:Int)<=(z.toNat:Int):=agE;by_cases J:z.toNat<=122
    ·have q:(z.toNat:Int)<=122:=agE;have HY:Hid (jC z=true):=aiD;exact ab3
    ·have q:¬ (z.toNat:Int)<=122:=agE;have HF:=hid (d.o ai5);have E:¬ (z.toNat:Int)<=57:=agE;have A:((z.toNat:Int)==47)=false:=ahd;exact af7
   ·have p:¬ (97:Int)<=(z.toNat:Int):=agE;by_cases E:48<=z.toNat
    ·have f:(48:Int)<=(z.toNat:Int):=agE;by_cases A:z.toNat<=57
     ·have g:(z.toNat:Int)<=57:=agE;have HY:Hid (jC z=true):=aiD;exact ab3
     ·have g:¬ (z.toNat:Int)<=57:=agE;have HF:=hid (d.o ai5);have v:((z.toNat:Int)==47)=false:=ahd;exact af7
    ·have f:¬ (48:Int)<=(z.toNat:Int):=agE;by_cases x:z.toNat=47
     ·have v:((z.toNat:Int)==47)=true:=aht;have HY:Hid (jC z=true):=aiD;clear x;exact ab3
     ·have v:((z.toNat:Int)==47)=false:=ahd;have HF:=hid (d.o ai5);exact af7
  ·have m:k=n:=agE;subst m;have D:¬ (k:Int)<(k:Int):=agE;have b:Hid (l.all jC=true):=(by show _=_;rw[<-t.o,cU (by rw[hn.o];exact cy _)]);by_cases u:1<=k
   ·have s:(1:Int)<=(k:Int):=agE;by_cases c:k<=16
    ·have r:(k:Int)<=16:=agE;have HR:Hid (cO l=true):=(by show _=_;rw[cO,b.o,hn.o,fW];exact dk ⟨u,c⟩);exact acM
    ·have r:¬ (k:Int)<=16:=agE;have HR:Hid (cO l=false):=(by show _=_;rw[cO,b.o,hn.o,fW];exact cX (λh=>c h.2));exact acM
   ·have s:¬ (1:Int)<=(k:Int):=agE;have HR:Hid (cO l=false):=(by show _=_;rw[cO,b.o,hn.o,fW];exact cX (λh=>u h.1));exact acM
theorem abz(h:p:=by
 go_enter func55,ntmps55
 go_wp2
 go_ret
 exact⟨by rw[HD.o];rfl,cx w _ none⟩):p:=h
theorem mX(a:mW)(w):Calls prog 55 #[.agg a.cells] w λe w'=>e=.returned (.bool a.ql)/\w.grownBy w' none:=by
 obtain⟨j,l,key,c,aC,k,ae⟩:=a;have b:Hid (mW.ql ⟨j,l,key,c,aC,k,ae⟩=decide (0<=c/\0<=aC/\0<=ae/\ae<64)):=rfl;simp only[mW.cells];by_cases d:0<=c
 ·by_cases f:0<=aC
  ·by_cases g:0<=ae
   ·by_cases i:ae<64
    ·have HD:=hid (b.o.trans (dk ⟨d,f,g,i⟩));exact abz
    ·have HD:=hid (b.o.trans (cX (λh=>i h.2.2.2)));exact abz
   ·have HD:=hid (b.o.trans (cX (λh=>g h.2.2.1)));exact abz
  ·have HD:=hid (b.o.trans (cX (λh=>f h.2.1)));exact abz
 ·have HD:=hid (b.o.trans (cX (λh=>d h.1)));exact abz
structure RE where
 k:Int
 name:List UInt8
 zk:UInt64
 bI:Int
 aC:Int
 bB:Int
 ae:Int
 aH:Int
 key:UInt64
 before:UInt64
def RE.cells(e:RE):List Value:=[ι e.k,.string e.name,υ e.zk.toNat,ι e.bI,ι e.aC,ι e.bB,ι e.ae,ι e.aH,υ e.key.toNat,υ e.before.toNat]
def bK(l:List RE):List Value:=(l.map RE.cells).flatten
theorem ik(l):∀(k j)(a:k<l.length),j<10->(bK l)[k*10+j]?=(l[k]).cells[j]?:=by
 induction l with
 |nil=>intro k j a;simp at a
 |cons x l c=>
  intro k j a b;have e:bK (x::l)=x.cells++bK l:=by simp[bK]
  rw[e];cases k with
  |zero=>rw[gf,cN,cW (by show j<10;exact b)];rfl
  |succ k=>
   rw[cY (by show 10<=(k+1)*10+j;omega),show(k+1)*10+j-x.cells.length=k*10+j from by show(k+1)*10+j-10=k*10+j;omega];grind
structure iP(w:World)(base pb:Nat)(aA:Int)(bv pv dv:Value)(es:List RE)(ds:List UInt8):Prop where
 blk:dB w pb #[ι aA,bv,pv,dv]
 aG:w.ownsRow base 166 10 bv es.length (bK es)
 aL:w.ownsRow base 5 1 dv ds.length (ds.map U8)
 here:base<=pb
 bne:bv.ownBlock≠some pb
 TN:dv.ownBlock≠some pb
 apart:bv.ownBlock=none\/bv.ownBlock≠dv.ownBlock
theorem iP.grown{w w':World}{base b:Nat}{aA:Int}{c pv dv:Value}{a:List RE}{ds:List UInt8}(h:iP w base b aA c pv dv a ds)(k:w.grownBy w' none):iP w' base b aA c pv dv a ds:=
 ⟨h.blk.grown k agI,h.aG.kept k (eR _),h.aL.kept k (eR _),h.here,h.bne,h.TN,h.apart⟩
def fZ(es:List RE)(l:List UInt8):Int:=
 match es.findIdx? (λe=>e.name==l)with
 |some i=>(i:Int)
 |none=>-1
theorem Pv{a:List RE}{l:List UInt8}{k:Nat}(d:k<a.length)(h:a[k].name=l)(c:∀j(b:j<k),(a[j]'agE).name≠l):fZ a l=(k:Int):=by
 have:a.findIdx? (λe=>e.name==l)=some k:=by
  rw[List.findIdx?_eq_some_iff_getElem];grind
 rw[fZ,this]
theorem Pw{a:List RE}{l:List UInt8}(c:∀j(b:j<a.length),a[j].name≠l):fZ a l=-1:=by
 have:a.findIdx? (λe=>e.name==l)=none:=by
  rw[List.findIdx?_eq_none_iff];intro x d;obtain⟨j,b,rfl⟩:=List.mem_iff_getElem.1 d;simpa using c j b
 rw[fZ,this]
theorem str_eq{a b:List UInt8}{S T:ByteArray}(hS:S=⟨a.toArray⟩)(c:T=⟨b.toArray⟩):(S.toList==T.toList)=(a==b):=by
 subst hS c;rw[ByteArray.toList_mk,ByteArray.toList_mk]
theorem agf(h:p:=by
 rw[hm.o]at hbk
 rw[hbk.cellAt (k*10+1) agE,ik es k 1 hlt' agE]
 rfl):p:=h
theorem og(base x:Nat)(aA)(E pv dv)(es)(ds l)(m)(S)(w)(b:iP w base x aA E pv dv es ds)(hm:Hid (es.length=m))(L:m<=1000)(hS:Hid (S=⟨l.toArray⟩)):
  Calls Tryz.prog 54 #[(x,0),.string S] w λe w'=>e=.returned (ι (fZ es l))/\w.grownBy w' none:=by
 obtain⟨C,K,d⟩:=bA b.aG
 rw[hm.o]at d
 subst d
 have v:=b.blk.cell 1
 simp only[cH,cG,cI]at v
 go_enter Tryz.func54,Tryz.ntmps54
 go_wp2
 go_loopw [5] (λi wr=>∃k:Nat,k<=m/\i = ι k/\Hid (∀j(u:j<es.length),j<k->es[j].name≠l)/\w.grownBy wr none) (λi _=>m-(intOf i).toNat)
 case atStart=>grind [hid,cC]
 case round=>
  obtain⟨k,H,rfl,J,a⟩:=hrel;have A:=a.cell v agI;by_cases hlt:k<m
  ·have hlt':k<es.length:=ahH;have D:(k:Int)<(m:Int):=agE;have z:(0:Int)<=(k:Int):=agE;obtain⟨t,r⟩:∃t,C=some ⟨t,0,none⟩:=by
    rcases b.aG.2 with⟨h,I⟩|⟨g,cap,y,h,_⟩
    ·omega
    grind
   subst r;have c:wr.cell? (t,k*10+1)=some (.string ⟨es[k].name.toArray⟩):=by
    have hbk:=(b.grown a).aG;exact agf
   obtain⟨T,p⟩:∃T:ByteArray,T=⟨es[k].name.toArray⟩:=⟨_,rfl⟩
   rw[<-p]at c;have f:=str_eq p hS.o;by_cases n:es[k].name=l
   ·have s:(T.toList==S.toList)=true:=(by rw[f,n];simp);have q:Hid (fZ es l=(k:Int)):=(by grind [Pv,RowKit.Hid.o])
    clear n f p b;go_wp2;go_ret;exact⟨bD (by rw[q.o]),a⟩
   ·have s:(T.toList==S.toList)=false:=(by rw[f];simpa using n);have B:Hid (∀j(u),j<k+1->es[j].name≠l):=by
     intro j u F;grind [RowKit.Hid.o]
    clear n f p b;go_wp2;go_roundw
    case rel=>exact⟨k+1,by omega,by go_num,B,a⟩
    case measure=>simp[intOf];omega
  ·have G:k=m:=agE;subst G;have D:¬ (k:Int)<(k:Int):=agE;have q:Hid (fZ es l=-1):=(by grind [RowKit.Hid.o,Pw])
   clear b;go_wp2;go_ret;exact⟨bD (by rw[q.o]),a⟩
theorem aiW(h:p:=by simpa[Value.ownBlock]using hg1):p:=h
theorem mE{P:Program}{k:Array Oper}{o:Oper}{a:Act}{w:World}{K:Act->World->Prop}{Q:Exit->Act->World->Prop}{E:Prop}(J:o.guard=none)(s x)(t)(hop:o.op=Op.call {callee:=Callee.builtin Builtin.append,args:=#[s,x],argTypes:=#[t,t]})(base)(e)(i)(z)(size bytes)(G:P.underlying t=some (.slice e))(H:P.info? e=some i)(F:i.zero=some z)(g:i.size=size)(q:i.bytes=bytes)(y:z.cells.size=size)(r:0<size)(v)(n)(B)(hs:a.eval s=v)(l:w.ownsRow base e size v n B)(p)(m c)(b)(hx:a.eval x=.slice (some p) m c)(D:b.length=m*size)(f:∀j u,b[j]?=some u->w.cell? (p.add j)=some u)(I:∀u∈b,u.oneCell'=true)(C:0<m)(A:n+m<=maxLen)(d:(n+m)*bytes<=140737488355328)(h:base<=w.heap.size)(hK:∀v' w',w'.ownsRow base e size v' (n+m) (B++b)->w.grownBy w' v.ownBlock->Hid (v'.ownBlock=v.ownBlock\/v'.ownBlock=some w.heap.size)->K (a.put o.dst v') w'):
  if Region.wanted o (yielded k a.tmps)=true then Oper.wp P o a w K Q else E:=by
 have hw:Region.wanted o (yielded k a.tmps)=true:=by simp[Region.wanted,J]
 rw[if_pos hw]
 obtain⟨v',w',hrun,r1,r2,r3⟩:=qU (P:=P) w base t o.type e i z size bytes G H F g q y r v n B l p m c b D f I C A d h
 exact aeT
theorem Xp(aA)(v)(w)(h:aA<0\/300<aA):
  Calls prog 27 #[ι aA,v] w λe w'=>e=.returned (.tuple #[.pointer none,ι 1])/\w=w':=by
 by_cases a:aA<0
 ·go_enter func27,ntmps27;go_wp2;exact adW
 ·have b:300<aA:=agE;go_enter func27,ntmps27;go_wp2;exact adW
theorem abw(base)(aA)(zs)(n)(f)(cap)(w)(A:0<=aA)(B:aA<=300)(hn:Hid (zs.length=n))(z:n<=140737488355328)(j:Hid (f=none->cap=0))(d:At w f zs)(a:base<=w.heap.size):
  Calls prog 27 #[ι aA,.slice f n cap] w λe w'=>∃dv,e=.returned (.tuple #[(w.heap.size,0),ι 0])/\iP w' base w.heap.size aA (.slice none 0 0) (.slice none 0 0) dv [] zs/\w.grownBy w' none:=by
 obtain⟨v,g,m,p,l⟩:=info_parts Tryz.info5
 have k:w.grownBy (w.alloc (.cells #[ι aA,.slice none 0 0,.slice none 0 0,.slice none 0 0] 144)) none:=cx w _ none
 have c:=dB.new w #[ι aA,.slice none 0 0,.slice none 0 0,.slice none 0 0] 144
 have s:=d.below k
 go_enter func27,ntmps27
 go_wp2_with (at_builtin;refine bV _ rfl _ _ 37 rfl (w.heap.size+1) 5 v underlying37 g m p l _ 0 [] rfl (World.ownsRow_nil _ _ _ _) f n cap zs rfl hn.o j.o s agE agI ?_)
 intro v1 y hown1 hg1 _
 have b:=c.grown hg1 (by simp[Value.ownBlock])
 have x:=aa k (row:=none) aiW
 have q:y.ownsRow (w.heap.size+1) 5 1 v1 n (zs.map U8):=ah0
 obtain⟨h,i,rfl,_,_,_,_⟩:=iY q
 have u:=b.cell 3
 have t:=b.frozen 3
 simp only[cH,cG,cI]at u
 have r:(Value.slice h n i).ownBlock≠some w.heap.size:=λe=>by have:=(q.lt _ e).1;omega
 clear hown1 hg1 c k s d
 go_wp2
 go_ret2
 refine⟨.slice h n i,rfl,⟨?_,World.ownsRow_nil _ _ _ _,?_,a,by simp[Value.ownBlock],r,.inl rfl⟩,az x (cy _)⟩
 ·have:=b.set 3 (.slice h n i);simpa using this
 ·rw[hn.o];exact ny (ownsRow_setCell_below q (by show w.heap.size<w.heap.size+1;omega) _) agE
theorem ag7(h:p:=by show w.heap.size<w.heap.size+2;omega):p:=h
theorem ahy(h:p:=by show w.heap.size+1<w.heap.size+2;omega):p:=h
variable {g:Nat}
theorem Tryz.Sd:(prog.info? 9).map (λi=>(i.zero,i.size,i.bytes))=some (some (.string ⟨#[]⟩),1,16):=by kernel_rfl
theorem Tryz.abx:(prog.info? 3).map (λi=>(i.zero,i.size,i.bytes))=some (some (ι 0),1,8):=by kernel_rfl
theorem TP{w:World}{x y z u:Value}(h:dB w g #[x,y,z,u]):(loadVar 101 ⟨g,0,none⟩).run prog w=.ok (.agg #[x,y,z,u]) w:=
 h.load 101 _ underlying101 rfl agP
theorem jD{e:Func}{a:Tmp}{d:TypeId}(h:e.results=#[.cell a d])(c)(P)(w)(b:Nat)(hp:c.getD a undef=.pointer (some (b,0)))(x)(hl:(loadVar d ⟨b,0,none⟩).run P w=.ok x w):
  (results e c).run P w=.ok x w:=by
 have hp':c[a]?.getD undef=.pointer (some (b,0)):=ahr
 exact aek
theorem Xq{w:World}{a b c d:Value}(h:dB w g #[a,b,c,d])(x y z u):dB ((((w.setCell (g,0) x).setCell (g,1) y).setCell (g,2) z).setCell (g,3) u) g #[x,y,z,u]:=by
 simpa using(((h.set 0 x).set 1 y).set 2 z).set 3 u
theorem aby{a b:World}{x y z u:Value}(h:a.grownBy b none)(c:a.heap.size<=g):a.grownBy ((((b.setCell (g,0) x).setCell (g,1) y).setCell (g,2) z).setCell (g,3) u) none:=
 (by grind [az])
def vG(e:RE):Value:=.string e.name
def Dy(e:RE):Value:=ι e.aH
abbrev lS:Array Value:=#[.slice none 0 0,.slice none 0 0,ι 0,ι 0]
theorem Px(base pb:Nat)(aA)(bv dv)(pa)(G pc)(d)(ds)(m J)(w)(I:iP w base pb aA bv (.slice pa G pc) dv d ds)(hm:Hid (d.length=m))(xY:m<=1000)(aB:Hid (ds.length=J)):
  Calls prog 36 #[(pb,0)] w λe w'=>∃s A,e=.returned (.agg #[s,A,ι (G:Int),ι (J:Int)])/\w'.ownsRow w.heap.size 9 1 s m (d.map vG)/\w'.ownsRow w.heap.size 3 1 A m (d.map Dy)/\w.grownBy w' none:=by
 obtain⟨is,av,ay,al,ao⟩:=info_parts Tryz.Sd
 obtain⟨ii,aE,aC,aq,ax⟩:=info_parts Tryz.abx
 obtain⟨ab,cb,ae⟩:=bA I.aG
 rw[hm.o]at ae
 subst ae
 obtain⟨ad,cd,ag⟩:=bA I.aL
 rw[aB.o]at ag
 subst ag
 have G0:w.grownBy (w.alloc (.cells lS 101)) none:=cx w _ none
 have C:=I.grown G0
 have c1:=C.blk.cell 1
 have c2:=C.blk.cell 2
 have c3:=C.blk.cell 3
 simp only[cH,cG,cI]at c1 c2 c3
 have N:=C.grown (cx (w.alloc (.cells lS 101)) (.cells lS 101) none)
 have d2:=N.blk.cell 2
 have d3:=N.blk.cell 3
 simp only[cH,cG,cI]at d2 d3
 go_enter func36,ntmps36
 go_wp2_with fail
 go_region
 clear c1 c2 c3 d2 d3 N C
 have Gs:w.grownBy ((w.alloc (.cells lS 101)).alloc (.cells #[.slice none 0 0,.slice none 0 0,ι G,ι J] 101)).drew none:=bg (aM G0 _)
 go_wp2_with fail
 go_loopw [4] (λi wr=>∃(k:Nat) (s A:Value),k<=m/\i = ι k/\wr.ownsRow (w.heap.size+2) 9 1 s k ((d.take k).map vG)/\wr.ownsRow (w.heap.size+2) 3 1 A k ((d.take k).map Dy)/\dB wr (w.heap.size+1) #[s,A,ι G,ι J]/\dB wr w.heap.size lS/\Hid (s.ownBlock=none\/s.ownBlock≠A.ownBlock)/\w.grownBy wr none/\w.heap.size+2<=wr.heap.size) (λi _=>m-(intOf i).toNat)
 case atStart=>
  refine⟨0,.slice none 0 0,.slice none 0 0,cS _,rfl,World.ownsRow_nil _ _ _ _,World.ownsRow_nil _ _ _ _,?_,((dB.new w _ _).alloc _).drew,hid (.inl rfl),Gs,by show _<=((w.alloc _).alloc _).heap.size;simp⟩;have:=(dB.new (w.alloc (.cells lS 101)) #[.slice none 0 0,.slice none 0 0,ι G,ι J] 101).drew;rw[cF]at this;exact this
 case round=>
  obtain⟨k,s,A,hk,rfl,L,X,hS,B,Q,D,aO⟩:=hrel;obtain⟨Y,Z,rfl⟩:=bA L;obtain⟨v,x,rfl⟩:=bA X;have E:=I.grown D;have c1:=E.blk.cell 1;have q0:=hS.cell 0;have q1:=hS.cell 1;have q2:=hS.cell 2;have q3:=hS.cell 3;simp only[cH,cG,cI]at c1 q0 q1 q2 q3;by_cases hlt:k<m
  ·have z:k<d.length:=ahH;have mU:(k:Int)<(m:Int):=agE;have aV:=hlt;have aS:(0:Int)<=(k:Int):=agE;obtain⟨g0,aJ⟩:∃g0,ab=some ⟨g0,0,none⟩:=by
    rcases I.aG.2 with⟨h,h2⟩|⟨g,cap,aP,h,_⟩
    ·omega
    ·simp at h;exact⟨g,h.1⟩
   subst aJ;have W:=E.aG;rw[hm.o]at W;have e1:wr.cell? (g0,k*10+1)=some (vG d[k]):=by
    rw[W.cellAt (k*10+1) agE,ik d k 1 z agE];rfl
   have P:∀q,w.grownBy q none->q.cell? (g0,k*10+7)=some (Dy d[k]):=λq hx=>by
    have ah:=(I.grown hx).aG;rw[hm.o]at ah;rw[ah.cellAt (k*10+7) agE,ik d k 7 z agE];rfl
   have aj:∀q,w.grownBy q none->q.cell? (pb,1)=some (.slice (some (g0,0)) m cb):=λq hx=>by
    have:=(I.grown hx).blk.cell 1;simpa using this
   have HT:Hid (d.take (k+1)=d.take k++[d[k]]):=dy z;obtain⟨T,hT⟩:∃T:ByteArray,vG d[k]=.string T:=⟨_,rfl⟩
   obtain⟨t,V⟩:∃t:Int,Dy d[k] = ι t:=⟨_,rfl⟩
   have aN:Hid ((d.take (k+1)).map vG=(d.take k).map vG++[.string T]):=(by show _=_;rw[HT.o,eg,<-hT];rfl);have aI:Hid ((d.take (k+1)).map Dy=(d.take k).map Dy++[ι t]):=(by show _=_;rw[HT.o,eg,<-V];rfl);rw[hT]at e1;rw[V]at P;have sM:k+1<=maxLen:=ag1;have ak:(k+1)*16<=140737488355328:=agE;have aD:(k+1)*8<=140737488355328:=agE;have aK:=(cx wr (.cells #[.string T] 9) none).cell e1 agI;have aw:=(cx wr (.cells #[.string T] 9) none).cell q0 agI;have F:∀g,g<w.heap.size+2->some g≠(Value.slice Y k Z).ownBlock:=λg hg e=>by have:=(L.lt g e.symm).1;omega
   clear hT V W HT;go_upto_region 5 with fail
   go_cut [4] (λi q=>i = ι k/\∃l:Value,q.ownsRow (w.heap.size+2) 9 1 l (k+1) ((d.take (k+1)).map vG)/\q.ownsRow (w.heap.size+2) 3 1 (.slice v k x) k ((d.take k).map Dy)/\dB q (w.heap.size+1) #[l,.slice v k x,ι G,ι J]/\dB q w.heap.size lS/\Hid (l.ownBlock=none\/l.ownBlock≠(Value.slice v k x).ownBlock)/\w.grownBy q none/\w.heap.size+2<=q.heap.size)
   case first=>
    have RR:∀b c f,f.ownsRow (w.heap.size+2) 9 1 (.slice b (k+1) c) (k+1) ((d.take k).map vG++[.string T])->(wr.alloc (.cells #[.string T] 9)).grownBy f (Value.slice Y k Z).ownBlock->((Value.slice b (k+1) c).ownBlock=(Value.slice Y k Z).ownBlock\/(Value.slice b (k+1) c).ownBlock=some (wr.heap.size+1))->
      ∃l,(f.setCell (w.heap.size+1,0) (.slice b (k+1) c)).ownsRow (w.heap.size+2) 9 1 l (k+1) ((d.take (k+1)).map vG)/\(f.setCell (w.heap.size+1,0) (.slice b (k+1) c)).ownsRow (w.heap.size+2) 3 1 (.slice v k x) k ((d.take k).map Dy)/\dB (f.setCell (w.heap.size+1,0) (.slice b (k+1) c)) (w.heap.size+1) #[l,.slice v k x,ι G,ι J]/\dB (f.setCell (w.heap.size+1,0) (.slice b (k+1) c)) w.heap.size lS/\Hid (l.ownBlock=none\/l.ownBlock≠(Value.slice v k x).ownBlock)/\w.grownBy (f.setCell (w.heap.size+1,0) (.slice b (k+1) c)) none/\w.heap.size+2<=(f.setCell (w.heap.size+1,0) (.slice b (k+1) c)).heap.size:=by
     intro b c f a j y
     have n:=(hS.alloc (.cells #[.string T] 9)).grown j (F _ agE)
     have M:=(B.alloc (.cells #[.string T] 9)).grown j (F _ agE)
     have O:=j.size
     rw[cF]at O
     refine⟨.slice b (k+1) c,ownsRow_setCell_below (by rw[aN.o];exact a) ahy _,ownsRow_setCell_below ((X.alloc _).kept j ?_) ahy _,by simpa using n.set 0 (.slice b (k+1) c),M.other _ _ ahB,?_,az (gu (aM D _) j (λi hi=>by have:=(L.lt i hi).1;omega)) agE,by rw[World.size_setCell];omega⟩
     ·rcases Q.o with h|h
      ·rw[h];exact eR _
      ·exact .inr (λe=>h e.symm)
     ·rcases y with h|h
      ·rw[h];exact Q.o
      ·refine .inr ?_;rw[h];intro e;have:=(X.lt _ e.symm).2;omega
    go_wp2_with fail;go_region_law (first|(refine mE rfl _ _ 62 rfl (w.heap.size+2) 9 is _ 1 16 underlying62 av ay al ao rfl agF (.slice Y k Z) k _ ?s1 (L.alloc _) ⟨wr.heap.size,0,none⟩ 1 1 [.string T] ?s2 rfl ?s3 ?s4 agE sM ak ?s5 ?_;(case s1=>first|rfl|simp[Act.eval,Act.put]);(case s2=>first|rfl|simp[Act.eval,Act.put]);(case s3=>exact gJ wr _ _);(case s4=>intro u hu;simp at hu;rcases hu with rfl;rfl);(case s5=>simp;omega);intro v6 f a j p;obtain⟨b,c,K⟩:=bA a;subst K;have DC:(wr.alloc (.cells #[.string T] 9)).grownBy f (Value.slice Y k Z).ownBlock:=⟨j.os,j.tape,j.output,j.size,j.block⟩;have n:=(hS.alloc (.cells #[.string T] 9)).grown DC (F _ agE);have z0:=n.cell 0;have aT:=n.frozen 0;simp only[cH,cG]at z0;have R6:=hid (RR b c f a DC (by simpa using p.o))))
    all_goals
     go_wp2_with fail
     go_meet
     case rel=>exact⟨rfl,R6.o⟩
   case rest=>
    obtain⟨rfl,l,Py,Pz,R,ar,aa,S,aX⟩:=hcut;obtain⟨af,ai,rfl⟩:=bA Py;have e7:=P _ S;have aQ:=aj _ S;have aW:=(cx wc (.cells #[ι t] 3) none).cell e7 agI;have x1:=R.cell 1;simp only[cH,cG,cI]at x1;have aU:=(cx wc (.cells #[ι t] 3) none).cell x1 agI;have U:∀g,g<w.heap.size+2->some g≠(Value.slice v k x).ownBlock:=λg hg e=>by have:=(Pz.lt g e.symm).1;omega
    clear L X hS B Q D aO E e1 aK q0 aw q1 q2 q3 c1 F P aj
    have RR:∀b c f,f.ownsRow (w.heap.size+2) 3 1 (.slice b (k+1) c) (k+1) ((d.take k).map Dy++[ι t])->(wc.alloc (.cells #[ι t] 3)).grownBy f (Value.slice v k x).ownBlock->((Value.slice b (k+1) c).ownBlock=(Value.slice v k x).ownBlock\/(Value.slice b (k+1) c).ownBlock=some (wc.heap.size+1))->
      ∃(s A:Value),(f.setCell (w.heap.size+1,1) (.slice b (k+1) c)).ownsRow (w.heap.size+2) 9 1 s (k+1) ((d.take (k+1)).map vG)/\(f.setCell (w.heap.size+1,1) (.slice b (k+1) c)).ownsRow (w.heap.size+2) 3 1 A (k+1) ((d.take (k+1)).map Dy)/\dB (f.setCell (w.heap.size+1,1) (.slice b (k+1) c)) (w.heap.size+1) #[s,A,ι G,ι J]/\dB (f.setCell (w.heap.size+1,1) (.slice b (k+1) c)) w.heap.size lS/\Hid (s.ownBlock=none\/s.ownBlock≠A.ownBlock)/\w.grownBy (f.setCell (w.heap.size+1,1) (.slice b (k+1) c)) none/\w.heap.size+2<=(f.setCell (w.heap.size+1,1) (.slice b (k+1) c)).heap.size:=by
     intro b c f a j y
     have n:=(R.alloc (.cells #[ι t] 3)).grown j (U _ agE)
     have M:=(ar.alloc (.cells #[ι t] 3)).grown j (U _ agE)
     have O:=j.size
     rw[cF]at O
     refine⟨.slice af (k+1) ai,.slice b (k+1) c,ownsRow_setCell_below ((Py.alloc _).kept j aa.o) ahy _,ownsRow_setCell_below (by rw[aI.o];exact a) ahy _,by simpa using n.set 1 (.slice b (k+1) c),M.other _ _ ahB,?_,az (gu (aM S _) j (λi hi=>by have:=(Pz.lt i hi).1;omega)) agE,by rw[World.size_setCell];omega⟩
     rcases y with h|h
     ·rw[h];exact aa.o
     ·rw[h];cases hx:(Value.slice af (k+1) ai).ownBlock with
      |none=>exact .inl rfl
      |some g=>
       refine .inr ?_;have:=(Py.lt g hx).2;simp;omega
    go_wp2_with fail;go_region_law (first|(refine mE rfl _ _ 24 rfl (w.heap.size+2) 3 ii _ 1 8 underlying24 aE aC aq ax rfl agF (.slice v k x) k _ ?s1 (Pz.alloc _) ⟨wc.heap.size,0,none⟩ 1 1 [ι t] ?s2 rfl ?s3 ?s4 agE sM aD ?s5 ?_;(case s1=>first|rfl|simp[Act.eval,Act.put]);(case s2=>first|rfl|simp[Act.eval,Act.put]);(case s3=>exact gJ wc _ _);(case s4=>intro u hu;simp at hu;rcases hu with rfl;rfl);(case s5=>simp;omega);intro v6 f a j p;obtain⟨b,c,K⟩:=bA a;subst K;have DC:(wc.alloc (.cells #[ι t] 3)).grownBy f (Value.slice v k x).ownBlock:=⟨j.os,j.tape,j.output,j.size,j.block⟩;have n:=(R.alloc (.cells #[ι t] 3)).grown DC (U _ agE);have z1:=n.cell 1;have aR:=n.frozen 1;simp only[cH,cG,cI]at z1;have R6:=hid (RR b c f a DC (by simpa using p.o))))
    all_goals
     go_wp2
     go_roundw
     case rel=>
      obtain⟨aF,aH,r⟩:=R6.o;exact⟨k+1,aF,aH,by omega,by go_num,r⟩
     case measure=>simp[intOf];omega
  ·have OE:k=m:=agE;subst OE;have mU:¬ (k:Int)<(k:Int):=agE;have H:=cU (by rw[hm.o];exact cy _);rw[H]at L X;have r0:=B.cell 0;have r1:=B.cell 1;have r2:=B.cell 2;have r3:=B.cell 3;have s0:=B.frozen 0;have s1:=B.frozen 1;have s2:=B.frozen 2;have s3:=B.frozen 3;simp only[cH,cG,cI]at r0 r1 r2 r3;clear H I E;go_wp2;(try simp only[Exit.inBlock,Exit.then]);refine bodyPost_ret (jD rfl _ _ _ w.heap.size rfl _ (TP (Xq B _ _ _ _))) rfl ?_;refine⟨.slice Y k Z,.slice v k x,rfl,ny (base:=w.heap.size+2) ?_ agE,ny (base:=w.heap.size+2) ?_ agE,aby D (cy _)⟩
   ·exact ownsRow_setCell_below (ownsRow_setCell_below (ownsRow_setCell_below (ownsRow_setCell_below L ag7 _) ag7 _) ag7 _) ag7 _
   ·exact ownsRow_setCell_below (ownsRow_setCell_below (ownsRow_setCell_below (ownsRow_setCell_below X ag7 _) ag7 _) ag7 _) ag7 _
variable {zs:List UInt8}{v:Value}{w:World}
def Has(w:World)(v:Value)(zs:List UInt8):Prop:=∃ao cap,v=.slice ao zs.length cap/\zs.length<=cap/\cap<=maxLen/\(ao=none->cap=0)/\At w ao zs
theorem Has.grown{w':World}(h:Has w v zs)(k:w.grownBy w' none):Has w' v zs:=by
 obtain⟨b,cap,a,d,e,f,c⟩:=h;exact⟨b,cap,a,d,e,f,c.below k⟩
theorem Has.drewN(h:Has w v zs)(m):Has (w.drewN m) v zs:=by
 obtain⟨b,cap,a,d,e,f,c⟩:=h;exact⟨b,cap,a,d,e,f,c.drewN m⟩
theorem Has.own{base:Nat}{e:TypeId}(h:w.ownsRow base e 1 v zs.length (zs.map U8)):Has w v zs:=by
 obtain⟨b,cap,a,d,f,g,c⟩:=iY h;exact⟨b,cap,a,d,f,g.o,c⟩
theorem Has.nil(w):Has w (.slice none 0 0) []:=⟨none,0,rfl,cy _,cS _,λ_=>rfl,At.nil w none⟩
theorem Has.one(h:Has w v zs):v.oneCell'=true:=by
 obtain⟨a,cap,rfl,_⟩:=h;rfl
theorem U9(tag)(zs)(n)(k)(cap)(w)(hn:Hid (zs.length=n))(u:65535<n)(y:n<=140737488351232)(l:Hid (k=none->cap=0))(s:At w k zs):
  Calls prog 88 #[.int .u8 tag.toNat,.slice k n cap] w λe w'=>∃o,e=.returned o/\w'.ownsRow w.heap.size 5 1 o (Box.box tag zs).length ((Box.box tag zs).map U8)/\w.grownBy w' none:=by
 obtain⟨q,b,h,j,g⟩:=info_parts Tryz.info5
 have a:=RY w 5 tag
 have p:w.grownBy (w.alloc (.cells #[.int .u8 tag.toNat] 5)) none:=cx w _ none
 have x:¬ (n:Int)<128:=agE
 have r:¬ (n:Int)<256:=agE
 have z:Hid (Box.box tag zs=[tag]++[130,UInt8.ofNat (n / 256),UInt8.ofNat (n % 256)]++zs):=aiy
 have m:=WL n
 go_enter func88,ntmps88
 go_wp2_with (at_builtin;refine bV _ rfl _ _ 37 rfl w.heap.size 5 q underlying37 b h j g _ _ _ rfl (a.alloc _) (some ⟨w.heap.size+1,0,none⟩) 3 3 [130,UInt8.ofNat (n / 256),UInt8.ofNat (n % 256)] rfl rfl ?e1 ?e2 ?e3 ?e4 ?_)
 case e2=>
  refine uw w _ _ _ _ ?_;simp only[eE,fy,U8]
  first
   |(rw[<-m,eo,ez agE];rfl)
   |(simp only[eo];rw[ez (show n % 256<2 ^ 8 by omega)];rfl)
 case e4=>first|omega|(simp;omega)
 intro v1 A hown1 c _;have G1:=gu (aM p _) c (λi t=>(a.lt i t).1);have d:=s.below G1;have f:=G1.size;clear a c p;go_wp2_with (at_builtin;refine bV _ rfl _ _ 37 rfl w.heap.size 5 q underlying37 b h j g v1 (1+3) ([tag]++[130,UInt8.ofNat (n / 256),UInt8.ofNat (n % 256)]) rfl ah0 k n cap zs rfl hn.o l.o d agE f ?_)
 intro v2 w2 hown2 hg2 _;have G2:w.grownBy w2 none:=(by grind [gu,World.ownsRow.lt])
 exact aaP
theorem Zf(tag)(zs)(v)(w)(h:Has w v zs)(d:zs.length<=140737488351232):
  Calls prog 88 #[.int .u8 tag.toNat,v] w λe w'=>∃o,e=.returned o/\w'.ownsRow w.heap.size 5 1 o (Box.box tag zs).length ((Box.box tag zs).map U8)/\w.grownBy w' none:=by
 obtain⟨a,cap,rfl,g,i,c,b⟩:=h
 by_cases f:zs.length<=65535
 ·exact tK tag zs zs.length a cap w (hid rfl) f (hid c) b
 ·exact U9 tag zs zs.length a cap w (hid rfl) agE d (hid c) b
theorem Zg(tag)(zs)(v)(w)(h:Has w v zs)(a:zs.length<=140737488351232):
  Calls prog 88 #[.int .u8 tag.toNat,v] w λe w'=>∃o,e=.returned o/\Has w' o (Box.box tag zs)/\w.grownBy w' none:=
 (Zf tag zs v w h a).mono (by grind [Has.own])
theorem lW(zs)(v)(w)(h:Has w v zs)(a:zs.length<=140737488351232):
  Calls prog 63 #[v] w λe w'=>∃o,e=.returned o/\Has w' o (dw zs)/\w.grownBy w' none:=by
 have HB:Hid (Calls prog 88 #[.int .u8 4,v] w λe w'=>∃o,e=.returned o/\Has w' o (dw zs)/\w.grownBy w' none):=Zg 4 zs v w h a
 clear h
 go_enter func63,ntmps63
 go_wp2_with (go_at_call 88;refine HB.o.mono ?_;rintro e d ⟨o,rfl,b,c⟩)
 go_ret
 exact⟨_,rfl,b,c⟩
theorem kM(l)(w)(i:l.length<=140737488351232):
  Calls prog 61 #[.string ⟨l.toArray⟩] w λe w'=>∃o,e=.returned o/\Has w' o (dw l)/\w.grownBy w' none:=by
 have b:l.length<=140737488355328:=agE
 go_enter func61,ntmps61
 go_wp2_with (first|(refine pX _ rfl _ 9 37 rfl 5 underlying9 underlying37 underlying5 l rfl b ?_;intro g c w3 d a j f)|(go_at_call 63;refine(lW l _ _ ⟨some ⟨g,0,none⟩,c,rfl,d,a,(λh=>by cases h),j⟩ i).mono ?_;rintro e n ⟨o,rfl,m,k⟩))
 go_ret
 exact⟨_,rfl,m,aa f k⟩
def Row(w:World)(b:Nat)(l:List (Value×List UInt8)):Prop:=
 ∀j,(hj:j<l.length)->w.cell? ⟨b,j,none⟩=some l[j].1/\Has w l[j].1 l[j].2
def pU(l:List (Value×List UInt8)):List UInt8:=(l.map λx=>x.2).flatten
theorem IM(l:List (Value×List UInt8))(k)(h:k<l.length):pU (l.take (k+1))=pU (l.take k)++(l[k]).2:=by
 unfold pU;rw[dy h,eg,List.flatten_append];grind
theorem acR(l)(k):(pU (l.take k)).length<=(pU l).length:=by
 conv=>rhs;rw[<-eN k l]
 grind [pU]
theorem Row.grown{w':World}{b:Nat}{l:List (Value×List UInt8)}(h:Row w b l)(k:w.grownBy w' none):Row w' b l:=by
 intro j a;obtain⟨c,d⟩:=h j a;exact⟨k.cell c agI,d.grown k⟩
theorem acS(b cap m:Nat)(l)(w)(hm:Hid (l.length=m))(N:m<=1000)(G:(pU l).length<=140737488351232)(z:Row w b l):
  Calls prog 60 #[.slice (some (b,0)) m cap] w λe w'=>∃o,e=.returned o/\w'.ownsRow w.heap.size 5 1 o (Box.box 48 (pU l)).length ((Box.box 48 (pU l)).map U8)/\w.grownBy w' none:=by
 obtain⟨J,q,x,A,u⟩:=info_parts Tryz.info5
 go_enter func60,ntmps60
 go_wp2
 go_loopw [3,4] (λo i wr=>∃k:Nat,k<=m/\i = ι k/\wr.ownsRow w.heap.size 5 1 o (pU (l.take k)).length ((pU (l.take k)).map U8)/\w.grownBy wr none) (λ_ i _=>m-(intOf i).toNat)
 case atStart=>exact⟨0,by omega,rfl,World.ownsRow_nil _ _ _ _,cC _ _⟩
 case round=>
  obtain⟨k,L,rfl,d,a⟩:=hrel;have t:=a.size;by_cases hlt:k<m
  ·have f:k<l.length:=ahH;obtain⟨D,M,O,E,r,y,j,n⟩:=(z.grown a) k f;rw[E]at D;have h:=acR l (k+1);rw[IM l k f,cD]at h;have p:(pU (l.take k)).length+((l[k]).2).length<=140737488355328:=agE;have C:=hid j;clear j h z E r y;go_wp2_with (at_builtin;refine bV _ rfl _ _ 37 rfl w.heap.size 5 J underlying37 q x A u _ _ _ rfl d _ _ _ ((l[k]).2) rfl rfl C.o n p t ?_)
   intro F B g s _;have R:B.ownsRow w.heap.size 5 1 F (pU (l.take (k+1))).length ((pU (l.take (k+1))).map U8)/\w.grownBy B none:=⟨by grind [IM],(by grind [gu,World.ownsRow.lt])⟩
   clear d g s a n p C D;exact aaQ
  ·have K:k=m:=agE;subst K;clear z;have c:wr.ownsRow w.heap.size 5 1 u3 (pU l).length ((pU l).map U8):=by
    grind [RowKit.Hid.o]
   have HB:Hid (Calls prog 88 #[.int .u8 48,u3] wr λe w'=>∃o,e=.returned o/\w'.ownsRow wr.heap.size 5 1 o (Box.box 48 (pU l)).length ((Box.box 48 (pU l)).map U8)/\wr.grownBy w' none):=Zf 48 (pU l) u3 wr (Has.own c) G;clear d c;go_wp2_with (go_at_call 88;refine HB.o.mono ?_;rintro e B ⟨o,rfl,I,H⟩)
   go_ret;exact⟨_,rfl,ny I a.size,aa a H⟩
theorem Row.new(w)(l)(t)(h:∀x∈l,Has w x.1 x.2):Row (w.alloc (.cells (l.map λx=>x.1).toArray t)) w.heap.size l:=by
 intro j a;have b:=aS w (l.map λx=>x.1).toArray t j (l[j]).1 (by simp[a]);grind [Has.grown,cx]
theorem yE(l)(b)(n)(w)(h:∀x∈l,Has w x.1 x.2)(a:b=(l.map λx=>x.1).toArray)(hn:l.length=n)(g:n<=1000)(c:(pU l).length<=140737488351232):
  Calls prog 60 #[.slice (some (w.heap.size,0)) n n] (w.alloc (.cells b 37)) λe w'=>∃o,e=.returned o/\w'.ownsRow w.heap.size 5 1 o (jN (l.map λx=>x.2)).length ((jN (l.map λx=>x.2)).map U8)/\w.grownBy w' none:=by
 subst a
 refine(acS w.heap.size n n l _ (hid hn) g c (Row.new w l _ h)).mono ?_
 rintro e w' ⟨o,i,d,f⟩
 exact⟨o,i,ny d (cx w _ none).size,aa (cx w _ none) f⟩
theorem Va(l)(b)(n)(w)(h:∀x∈l,Has w x.1 x.2)(a:b=(l.map λx=>x.1).toArray)(hn:l.length=n)(c:n<=1000)(d:(pU l).length<=140737488351232):
  Calls prog 60 #[.slice (some (w.heap.size,0)) n n] (w.alloc (.cells b 37)) λe w'=>∃o,e=.returned o/\Has w' o (jN (l.map λx=>x.2))/\w.grownBy w' none:=
 (yE l b n w h a hn c d).mono (by grind [Has.own])
theorem bQ(v)(w)(h:In64 v):
  Calls prog 62 #[ι v] w λe w'=>∃o,e=.returned o/\Has w' o (bR v)/\w.grownBy w' none:=by
 refine(qY v w h.1 h.2).mono ?_
 rintro e w' ⟨o,b,c,a⟩
 exact⟨o,b,Has.own c,a⟩
end Go.Proofs.YtlfifnpjeangmaaGreatDoor
