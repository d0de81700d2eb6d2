import Derived.Test.YtlfifnpjeangmaaGreatDoorGERBoxG
import Derived.Test.YtlfifnpjeangmaaGreatDoorGESep
namespace Go.Proofs.YtlfifnpjeangmaaGreatDoor
set_option maxHeartbeats 4000000
open Proofs.Tryz Go.RowKit
set_option maxRecDepth 100000
variable {p:Prop}
theorem Tryz.TW:(prog.info? 117).map (λi=>(i.zero,i.size,i.bytes))=some (some (.agg vG),2,32):=by kernel_rfl
structure Pc where
 tag:UInt8
 ad:Option Addr
 cap:Nat
 ins:E
def Pc.cells(p:Pc):List Value:=[.int .u8 (p.tag.toNat:Int),.slice p.ad p.ins.length p.cap]
def pg(l:List Pc):List Value:=(l.map Pc.cells).flatten
def Pc.pair(p:Pc):UInt8×E:=(p.tag,p.ins)
def AG(ao:Option Addr)(zs:E)(cap:Nat)(p:Pc):Prop:=(∀w0,At w0 ao zs->At w0 p.ad p.ins)/\p.ins.length<=p.cap/\p.cap<=cap
theorem Jp(l)(x):pg (l++[x])=pg l++x.cells:=by simp[pg]
def H':Value->Nat
 |.slice _ n _=>n
 |_=>0
theorem Ia{l:E}(h:l.length<2):Box.cut l=none:=by
 rw[<-Box.Ht,Box.again,cZ (λa=>by omega)]
theorem LC(k)(n)(A)(d)(w)(hn:Hid (k.length=n))(hl:n<=100000)(K:n<=d)(au:d<=9223372036854775807)(hc:At w A k):Calls prog 66 #[.slice A n d] w λe a=>
   (∀Q,Box.dF k=some Q->∃v l,e=.returned (.tuple #[v,.bool true])/\a.ownsRow w.1.size 117 2 v l.length (pg l)/\l.map Pc.pair=Q/\∀p∈l,AG A k d p)/\
   (Box.dF k=none->e=.returned (.tuple #[σ,.bool false]))/\w.grownBy a none:=by
 obtain⟨ip,W,ae,af,ag⟩:=info_parts Tryz.TW
 go_in
 go_wp2
 go_loopw [0,4] (λb f wr=>∃(l:List Pc) (r:E) (m:Nat) (a:Option Addr) (c:Nat),b=.slice a m c/\Hid (r.length=m)/\m<=c/\c<=d/\Hid (∀j,At j A k->At j a r)/\wr.ownsRow w.1.size 117 2 f l.length (pg l)/\w.grownBy wr none/\Hid (Box.dF k=(Box.dF r).map (l.map Pc.pair++·))/\Hid (∀p∈l,AG A k d p)/\l.length+m<=n) (λb _ _=>H' b)
 case atStart=>exact⟨[],k,n,A,d,rfl,hn,K,cy _,I (λ_ h=>h),World.ownsRow_nil _ _ _ _,cC _ _,by show _=_;cases Box.dF k<;>simp,by intro p u;simp at u,by simp⟩
 case round=>
  obtain⟨l,r,m,a,c,rfl,S,ad,ar,C,g,y,D,qf,av⟩:=hrel;by_cases ay:0<m
  .have an:(0:Int)<(m:Int):=G;by_cases ab:m<2
   .have q:Hid (Box.dF k=none):=by
     grind [Hid.o,Ia,Box.og]
    clear D;go_wp2_with fail;refine(Bj m a c _ ab).mono ?_;rintro e w1 ⟨rfl,f⟩;have B:=aM (aa y f) (.cells vG 117);clear g f;go_wp2;go_ret2;exact⟨kA,λ_=>rfl,B⟩
   .have J:=C _ (hc.below y);obtain⟨b,aj,rfl,_⟩:=J.addr (by rw[S];omega);have hF:=TT r m b aj c _ S G G ad G J;cases t:Box.cut r with
    |none=>
     have q:Hid (Box.dF k=none):=by
      grind [Hid.o,Box.og]
     rw[t]at hF;clear D t;go_wp2_with fail;refine hF.mono ?_;rintro e w1 ⟨_,i,f⟩;obtain⟨x,v,M,L,rfl⟩:=i trivial;have B:=aM (aa y f) (.cells #[.int .u8 x,.slice v M L] 117);clear g f hF i;go_wp2;go_ret2;exact⟨kA,λ_=>rfl,B⟩
    |some tr=>
     obtain⟨v,i,x⟩:=tr;have V:=Box.mP t;rw[S]at V;have R:Hid (Box.dF k=(Box.dF x).map (l.map Pc.pair++[(v,i)]++·)):=by
      show _=_;rw[D,Box.qY t];cases Box.dF x with
      |none=>rfl
      |some Q=>simp
     rw[t]at hF;clear D t;go_wp2_with fail;refine hF.mono ?_;rintro e w1 ⟨k1,_,f⟩;obtain⟨T,P,a2,c2,rfl,L,ah,ba,M,ai,bb⟩:=k1 v i x rfl;have q:=g.kept f (eR _);have B:=aa y f;have ak:=B.size;have sO:l.length+1<=maxLen:=kO;have X:(l.length+1)*32<=140737488355328:=G;obtain⟨p,u⟩:∃p:Pc,p=⟨v,T,P,i⟩:=⟨_,rfl⟩
     have HP:Hid (p.cells=[.int .u8 (v.toNat:Int),.slice T i.length P]):=(by subst u;rfl);have Wt:Hid (p.pair=(v,i)):=(by subst u;rfl);have al:Hid (AG A k d p):=(by subst u;exact⟨λj h=>L j (C j h),ah,by show P<=d;omega⟩);have U:Hid (∀j,At j A k->At j a2 x):=λj h=>M j (C j h);clear g f hF k1 u L M;go_wp2_with (at_builtin;refine dJ _ rfl _ _ 178 rfl w.1.size 117 ip _ 2 32 underlying178 W ae af ag rfl O _ _ _ rfl ((q.alloc _).alloc _) ⟨w1.1.size+1,0,none⟩ 1 1 [.int .u8 (v.toNat:Int),.slice T i.length P] rfl rfl ?q1 (by intro u M;simp at M;rcases M with rfl|rfl<;>rfl) G sO X j' ?_)
     case q1=>
      grind [gL,cF]
     intro v2 w2 L f _;have G2:=gD (aM (aM B _) _) f (λj hj=>(q.lt j hj).1);clear q f B;go_wp2;go_roundw
     case rel=>
      refine⟨l++[p],x,x.length,a2,c2,rfl,I rfl,ai,by omega,U,?_,G2,?_,?_,?_⟩
      .grind [Jp,Hid.o]
      .show _=_;rw[R,ef,eE,fy,Wt]
      .intro q f;grind [Hid.o]
      grind
     grind [H']
  .have f:¬ (0:Int)<(m:Int):=G;have HS:Hid (Box.dF k=some (l.map Pc.pair)):=by
    grind [Hid.o,Box.wR]
   clear D;go_wp2;go_ret2;refine⟨λQ h=>?_,kA,y⟩;rw[HS]at h;simp only[fp]at h;exact⟨_,rfl,l,g,h,qf⟩
theorem TY{w a:World}(h:Cj w)(k:w.grownBy a none):Cj a:=Lib.tabBelow_of_tabIs h a (tK k)
theorem rl(h:p:=by simpa using hk):p:=h
theorem Bl(l):∀(k j)(hk:k<l.length),j<2->(pg l)[k*2+j]?=(l[k]).cells[j]?:=by
 induction l with
 |nil=>intro k j hk;simp at hk
 |cons x l b=>
  intro k j hk a;have e:pg (x::l)=x.cells++pg l:=by simp[pg]
  rw[e];cases k with
  |zero=>rw[gf,cN,cW (by show j<2;exact a)];rfl
  |succ k=>
   rw[cY (by show 2<=(k+1)*2+j;omega),show(k+1)*2+j-x.cells.length=k*2+j from by show(k+1)*2+j-2=k*2+j;omega];exact b k j rl a
theorem gb_of_below{w a:World}(h:Below w.1.size w a):w.grownBy a none:=⟨h.os,h.tape,h.output,h.size,λi b _=>h.block i b⟩
theorem L5(a):(ByteArray.mk a).size=a.size:=rfl
def Dx(ks:List Int)(k:Int):Nat->Bool
 |0=>false
 |j+1=>Dx ks k j||(k==ks.getD j 0)
theorem XH{a:List Int}{k:Int}:∀{j:Nat},j<=a.length->Dx a k j=true->k∈a:=by
 intro j;induction j with
 |zero=>intro _ h;simp[Dx]at h
 |succ j b=>
  grind [Dx]
def qD(Good:Int->Array Value->Prop)(w:World)(a:Option Addr)(n:Nat):Prop:=
 ∀i,i<n->∃b off,a=some ⟨b,off,none⟩/\b<w.1.size/\∃kind cs,cs.size=41/\cs[0]?=some (Y kind)/\Good kind cs/\∀j v,cs.toList[j]?=some v->w.cell? (F b (off+i*41+j))=some v
theorem qD.grown{Good:Int->Array Value->Prop}{w f:World}{a:Option Addr}{n:Nat}(h:qD Good w a n)(k:w.grownBy f none):qD Good f a n:=by
 intro i p;obtain⟨b,e,j,q,d,g,l,m,o,r⟩:=h i p;have s:=k.size;exact⟨b,e,j,by omega,d,g,l,m,o,(by grind [World.grownBy.cell])⟩
theorem qD.below{Good:Int->Array Value->Prop}{w b:World}{a:Option Addr}{n:Nat}(h:qD Good w a n)(k:Below w.1.size w b):qD Good b a n:=h.grown (gb_of_below k)
abbrev PH:Obj:=.cells #[σ,σ,σ,σ,σ,σ] 36
abbrev Ck(k0:Int)(zs:E):Array Value:=#[Y k0,Y 10,Y 2,Y 0,H 0,H 0,Y 0,.string ⟨zs.toArray⟩,Y 0,ε,H 0,Y 0,Y 0,Y 0,Y 0,Y 0,ε,ε,Y 0,Y 0,Y 0,Y 0,Y 0,Y 0,Y 0,Y 0,Y 0,H 0,ε,Y 0,Y 0,Y 0,Y 0,Y 0,Y 0,ε,Y 0,Y 0,Y 0,Y 0,σ]
theorem Iv(h:p:=by
 have HS:=I hsu
 clear hsu hin
 go_wp2_with fail
 go_quiet (fail)
 go_wp2
 go_roundw
 case rel=>exact⟨j+1,by omega,by go_num,by rw[HS.o],⟨_,rfl⟩⟩
 case measure=>simp[intOf];omega):p:=h
theorem TZ(Good:Int->Array Value->Prop)(x:Nat->World->Prop)(y:List Int)(T)(m)(hm:Hid (y.length=m))(av:1<=m)(ay:m<=12)(b:y.getD 0 0=T)(a)(n ag kb)(w)(hs:qD Good w a n)(hn:n<=140737488355328)(au:kb<w.1.size)(hq:∀j,j<m->w.cell? (F kb j)=some (Y (y.getD j 0)))(p:∀wr,(w.alloc PH).grownBy wr none->x 0 wr)(t:∀B,B.length=500->Good T (Ck T B))(r:∀i wr f K,i<=n+1->x i wr->f∈y->K.size=41->K[0]?=some (Y f)->Good f K->Calls prog 5 #[π w.1.size 0,.agg K] wr λe d=>e=.returned (.bool true)/\x (i+1) d)(l:∀i wr,i<=n+1->x i wr->Calls prog 6 #[π w.1.size 2] wr λe d=>e=.returned (.bool true)/\x i d)(Q:∀i wr q,x i wr->x i (wr.drewN q))(u:∀i wr,x i wr->x (i+1) wr)(g:∀i wr,x i wr->Below w.1.size w wr):Calls prog 4 #[.slice a n ag,ς kb 0 m m] w λe d=>e=.returned (.bool true)/\Below w.1.size w d:=by
 have ad:T∈y:=by
  grind [Hid.o]
 have U:=hq 0 G
 rw[b]at U
 have ba:(0:Int)<(m:Int):=G
 clear b
 go_in
 go_wp2
 go_loopw [6,7] (λs i wr=>∃k:Nat,k<=20/\i = Y k/\(∃b:ByteArray,s=.string b/\b.size=25*k)/\(w.alloc PH).grownBy wr none) (λ_ i _=>20-(intOf i).toNat)
 case atStart=>exact⟨0,by omega,rfl,⟨_,rfl,rfl⟩,cC _ _⟩
 case round=>
  obtain⟨k,hk,rfl,⟨s,rfl,M⟩,D⟩:=hrel;by_cases L:k<20
  .have HS:=I M;have v:s.size<=500:=G;clear M;have d:#[Value.int IntKind.u8 (97+(k:Int))].toList=[UInt8.ofNat (97+k)].map U8:=by
    simp only[eE,fy,U8];rw[eo,ez G,show(97+(k:Int))=((97+k:Nat):Int) from by omega]
   have h:=iq (P:=prog) (wr.alloc (.cells #[.int .u8 (97+(k:Int))] 5)) 37 9 5 underlying37 underlying5 underlying9 (some ⟨wr.1.size,0,none⟩) 1 [UInt8.ofNat (97+k)] (fw wr 5 _ _ d);simp only[de,List.length_nil,cN]at h;clear d
   go_wp2;go_roundw
   case rel=>exact⟨k+1,by omega,by go_num,⟨_,rfl,by simp[HS.o,L5];omega⟩,aM D _⟩
   case measure=>simp[intOf];omega
  .have ae:k=20:=G;subst ae;obtain⟨B,ar⟩:∃B:E,s=⟨B.toArray⟩:=⟨s.data.toList,by simp⟩
   subst ar;have ao:B.length=500:=by
    have h:(⟨B.toArray⟩:ByteArray).size=B.length:=ue;omega
   clear M hk L;have h:=aa (cx w _ none) D;have d:=h.cell U Z;have V:=r 0 wr T (Ck T B) G (p wr D) ad rfl rfl (t B ao);clear D h;go_wp2_with fail;refine V.mono ?_;rintro e w2 ⟨rfl,C⟩;clear V d;go_wp2;obtain⟨wo,an⟩:∃wo,wo=wr:=⟨wr,rfl⟩
   subst an;go_loopw [8,9,10,11] (λ_ i _ _ wr=>∃k:Nat,k<=n/\i = Y k/\x (k+1) wr) (λ_ i _ _ _=>n-(intOf i).toNat)
   case atStart=>grind
   case round=>
    obtain⟨k,hk,rfl,S⟩:=hrel;have X:=g _ _ S;by_cases L:k<n
    .obtain⟨b,ab,ah,_,f,K,A,W,aj,h⟩:=hs.below X k L;subst ah;have J:∀j,j<m->wr.cell? (F kb j)=some (Y (y.getD j 0)):=(by grind [RowKit.Below.cell])
     have ai:wr.cell? (F b (ab+k*41))=some (Y f):=h 0 _ (by rw[<-W];simp);go_wp2;obtain⟨wi,al⟩:∃wi,wi=wr:=⟨wr,rfl⟩
     subst al;go_loopw [10,11] (λd i wr=>∃j:Nat,j<=m/\i = Y j/\d=.bool (Dx y f j)/\∃q,wr=wi.drewN q) (λ_ i _=>m-(intOf i).toNat)
     case atStart=>exact⟨0,by omega,rfl,rfl,0,rfl⟩
     case round=>
      obtain⟨j,hj,rfl,rfl,q,rfl⟩:=hrel;by_cases ak:j<m
      .have v:=J j ak;have LF:(j:Int)<(m:Int):=G;have R:(0:Int)<=(j:Int):=G;obtain⟨kj,d⟩:=aw (y.getD j 0);have i:=I d;rw[<-d]at v;clear d;clear J h S X hs U hq C r l p t Q u g W;cases hin:Dx y f j
       .have hsu:Dx y f (j+1)=(f==kj):=(by rw[Dx,hin,i];rfl);exact Iv
       .have hsu:Dx y f (j+1)=true:=(by rw[Dx,hin];rfl);exact Iv
      .have af:j=m:=G;subst af;have LF:¬ (j:Int)<(j:Int):=G;cases hin:Dx y f j
       .have R:=u _ _ (Q _ _ q S);clear J h hs U C hq r l p t Q u g S X W;go_wp2;go_roundw
        case rel=>exact⟨k+1,by omega,by go_num,R⟩
        case measure=>simp[intOf];omega
       .have OO:=XH (by rw[hm];exact cy _) hin;have V:=r (k+1) (wi.drewN q) f K G (Q _ _ q S) OO A W aj;have R:=l (k+1+1);clear hin J hs U C hq r l p t Q u g S X W;go_wp2_with (refine wpList_load_at rfl 48 _ rfl ⟨b,ab+k*41,none⟩ rfl K _ ?l1 underlying48 rfl (by rw[A];exact Tryz.Jm) ?_)
        case l1=>intro j v d;exact h j v (by simpa using d)
        clear h ai;refine V.mono ?_;rintro e v ⟨rfl,d⟩;clear V;have i:=R v G d;clear R d;go_wp2_with fail;refine i.mono ?_;rintro e w6 ⟨rfl,d⟩;clear i;go_wp2;go_roundw
        case rel=>exact⟨k+1,by omega,by go_num,d⟩
        case measure=>simp[intOf];omega
    .clear hs U hq C r l p t Q u g;go_wp2;go_ret;exact⟨rfl,X⟩
theorem x'(h:p:=by show _=_;rw[HP];exact dk (by omega)):p:=h
theorem xp(h:p:=by rw[HP];exact cX (by omega)):p:=h
theorem L9{S:ByteArray}{l:E}(a:S=⟨l.toArray⟩)(j)(h:j<S.size):S[j]'h=l.getD j 0:=by
 subst a;have b:j<l.length:=by simpa[ByteArray.size]using h
 simp only[List.getD,cL b,Option.getD_some];rfl
theorem AK(h:p:=by
 go_wp2
 go_round
 case rel=>exact⟨k+1,by omega,by go_num,by show _=_;rw[XJ];exact HY⟩
 case measure=>simp[intOf];omega):p:=h
theorem AI(h:p:=by
 go_wp2
 go_ret
 exact⟨by rw[HR];rfl,rfl⟩):p:=h
theorem yt(h:p:=by
 go_wp2
 go_ret
 exact⟨by rw[HF];rfl,rfl⟩):p:=h
theorem vJ(l)(n)(S)(w)(m:Hid (S=⟨l.toArray⟩))(hn:Hid (l.length=n))(y:n<=9223372036854775807):Calls prog 56 #[.string S] w λe a=>e=.returned (.bool (di l))/\w=a:=by
 have t:S.size=n:=by rw[m,<-hn];simp[ByteArray.size]
 go_in
 go_wp2
 go_loop [3] (λi=>∃k:Nat,k<=n/\i = Y k/\Hid ((l.take k).all jD=true)) (λi=>n-(intOf i).toNat)
 case atStart=>exact⟨0,cS _,rfl,I Z⟩
 case round=>
  obtain⟨k,x,rfl,i⟩:=hrel;by_cases hlt:k<n
  .have a:k<l.length:=mT;have g:=L9 m k;have XJ:=I (xM a);rw[i,gn]at XJ;have b:Hid (jD (l.getD k 0)=false->di l=false):=by
    intro h;rw[di];have:l.all jD=false:=by
     have d:l.getD k 0∈l:=by
      rw[show l.getD k 0=l[k] from by simp[List.getD,List.getElem?_eq_getElem a]];exact eg a
     rw[List.all_eq_false];exact⟨_,d,by rw[h];simp⟩
    rw[this,Bool.and_false]
   generalize l.getD k 0=z at g XJ b;have A:=z.toNat_lt;have u:(k:Int)<(n:Int):=G;have r:(0:Int)<=(k:Int):=G;have HP:Hid (jD z=decide ((97<=z.toNat/\z.toNat<=122)\/(48<=z.toNat/\z.toNat<=57)\/z.toNat=47)):=rfl;by_cases v:97<=z.toNat
   .have d:(97:Int)<=(z.toNat:Int):=G;by_cases f:z.toNat<=122
    .have e:(z.toNat:Int)<=122:=G;have HY:Hid (jD z=true):=x';exact AK
    .have e:¬ (z.toNat:Int)<=122:=G;have HF:=I (b xp);have p:¬ (z.toNat:Int)<=57:=G;have q:((z.toNat:Int)==47)=false:=mN;exact yt
   .have d:¬ (97:Int)<=(z.toNat:Int):=G;by_cases p:48<=z.toNat
    .have e:(48:Int)<=(z.toNat:Int):=G;by_cases q:z.toNat<=57
     .have f:(z.toNat:Int)<=57:=G;have HY:Hid (jD z=true):=x';exact AK
     .have f:¬ (z.toNat:Int)<=57:=G;have HF:=I (b xp);have j:((z.toNat:Int)==47)=false:=mN;exact yt
    .have e:¬ (48:Int)<=(z.toNat:Int):=G;by_cases q:z.toNat=47
     .have j:((z.toNat:Int)==47)=true:=pS;have HY:Hid (jD z=true):=x';clear q;exact AK
     .have j:((z.toNat:Int)==47)=false:=mN;have HF:=I (b xp);exact yt
  .have f:k=n:=G;subst f;have u:¬ (k:Int)<(k:Int):=G;have a:Hid (l.all jD=true):=(by show _=_;rw[<-i,cU (by rw[hn];exact cy _)]);by_cases g:1<=k
   .have e:(1:Int)<=(k:Int):=G;by_cases b:k<=16
    .have d:(k:Int)<=16:=G;have HR:Hid (di l=true):=(by show _=_;rw[di,a,hn,fW];exact dk ⟨g,b⟩);exact AI
    .have d:¬ (k:Int)<=16:=G;have HR:Hid (di l=false):=(by show _=_;rw[di,a,hn,fW];exact cX (λh=>b h.2));exact AI
   .have e:¬ (1:Int)<=(k:Int):=G;have HR:Hid (di l=false):=(by show _=_;rw[di,a,hn,fW];exact cX (λh=>g h.1));exact AI
theorem tE(h:p:=by
 go_in
 go_wp2
 go_ret
 exact⟨by rw[HD];rfl,cx w _ none⟩):p:=h
theorem mY(a:mE)(w):Calls prog 55 #[.agg a.cells] w λe b=>e=.returned (.bool a.qm)/\w.grownBy b none:=by
 obtain⟨m,n,g,f,e,p,d⟩:=a;have b:Hid (mE.qm ⟨m,n,g,f,e,p,d⟩=decide (0<=f/\0<=e/\0<=d/\d<64)):=rfl;simp only[mE.cells];by_cases i:0<=f
 .by_cases j:0<=e
  .by_cases k:0<=d
   .by_cases l:d<64
    .have HD:=I (b.o.trans (dk ⟨i,j,k,l⟩));exact tE
    .have HD:=I (b.o.trans (cX (λh=>l h.2.2.2)));exact tE
   .have HD:=I (b.o.trans (cX (λh=>k h.2.2.1)));exact tE
  .have HD:=I (b.o.trans (cX (λh=>j h.2.1)));exact tE
 .have HD:=I (b.o.trans (cX (λh=>i h.1)));exact tE
structure RE where
 k:Int
 name:E
 zm:UInt64
 bI:Int
 aC:Int
 bB:Int
 ae:Int
 aH:Int
 key:UInt64
 before:UInt64
def RE.cells(e:RE):List Value:=[Y e.k,.string ⟨e.name.toArray⟩,H (e.zm.toNat:Int),Y e.bI,Y e.aC,Y e.bB,Y e.ae,Y e.aH,H (e.key.toNat:Int),H (e.before.toNat:Int)]
def bK(l:List RE):List Value:=(l.map RE.cells).flatten
theorem iw(l):∀(k j)(a:k<l.length),j<10->(bK l)[k*10+j]?=(l[k]).cells[j]?:=by
 induction l with
 |nil=>intro k j a;simp at a
 |cons x l d=>
  intro k j a b;have e:bK (x::l)=x.cells++bK l:=by simp[bK]
  rw[e];cases k with
  |zero=>rw[gf,cN,cW (by show j<10;exact b)];rfl
  |succ k=>
   rw[cY (by show 10<=(k+1)*10+j;omega),show(k+1)*10+j-x.cells.length=k*10+j from by show(k+1)*10+j-10=k*10+j;omega];grind
structure iP(w:World)(base pb:Nat)(aA:Int)(bv pv dv:Value)(es:List RE)(ds:E):Prop where
 blk:dz w pb #[Y aA,bv,pv,dv]
 aF:w.ownsRow base 166 10 bv es.length (bK es)
 aL:w.ownsRow base 5 1 dv ds.length (ds.map U8)
 here:base<=pb
 bne:bv.ownBlock≠some pb
 T9:dv.ownBlock≠some pb
 apart:bv.ownBlock=none\/bv.ownBlock≠dv.ownBlock
theorem iP.grown{w l:World}{a i:Nat}{b:Int}{d j f:Value}{g:List RE}{e:E}(h:iP w a i b d j f g e)(k:w.grownBy l none):iP l a i b d j f g e:=
 ⟨h.blk.grown k Z,h.aF.kept k (eR _),h.aL.kept k (eR _),h.here,h.bne,h.T9,h.apart⟩
def gu(es:List RE)(l:E):Int:=
 match es.findIdx? (λe=>e.name==l)with
 |some i=>(i:Int)
 |none=>-1
theorem PK{a:List RE}{l:E}{k:Nat}(f:k<a.length)(h:a[k].name=l)(b:∀j(d:j<k),(a[j]'G).name≠l):gu a l=(k:Int):=by
 have:a.findIdx? (λe=>e.name==l)=some k:=by
  rw[List.findIdx?_eq_some_iff_getElem];grind
 rw[gu,this]
theorem PM{a:List RE}{l:E}(d:∀j(b:j<a.length),a[j].name≠l):gu a l=-1:=by
 have:a.findIdx? (λe=>e.name==l)=none:=by
  rw[List.findIdx?_eq_none_iff];intro x e;obtain⟨j,b,rfl⟩:=List.mem_iff_getElem.1 e;simpa using d j b
 rw[gu,this]
theorem BO{a b:E}{S T:ByteArray}(d:S=⟨a.toArray⟩)(e:T=⟨b.toArray⟩):(S.toList==T.toList)=(a==b):=by
 subst d e;rw[ByteArray.toList_mk,ByteArray.toList_mk]
theorem DQ(h:p:=by
 rw[hm]at hbk
 rw[hbk.cellAt (k*10+1) G,iw es k 1 hlt' G]
 rfl):p:=h
theorem oh(f v)(y)(B Q J)(es)(D l)(m)(S)(w)(b:iP w f v y B Q J es D)(hm:Hid (es.length=m))(W:m<=1000)(K:Hid (S=⟨l.toArray⟩)):Calls Tryz.prog 54 #[π v 0,.string S] w λe a=>e=.returned (Y (gu es l))/\w.grownBy a none:=by
 obtain⟨A,U,e⟩:=bA b.aF
 rw[hm]at e
 subst e
 have t:=b.blk.cell 1
 simp only[cH,cG,cI]at t
 go_enter Tryz.func54,Tryz.ntmps54
 go_wp2
 go_loopw [5] (λi wr=>∃k:Nat,k<=m/\i = Y k/\Hid (∀j(u:j<es.length),j<k->es[j].name≠l)/\w.grownBy wr none) (λi _=>m-(intOf i).toNat)
 case atStart=>grind [I,cC]
 case round=>
  obtain⟨k,V,rfl,R,a⟩:=hrel;have C:=a.cell t Z;by_cases hlt:k<m
  .have hlt':k<es.length:=tl;have P:(k:Int)<(m:Int):=G;have M:(0:Int)<=(k:Int):=G;obtain⟨p,q⟩:∃p,A=some ⟨p,0,none⟩:=by
    rcases b.aF.2 with⟨h,n⟩|⟨g,d,i,h,_⟩
    .omega
    grind
   subst q;have d:wr.cell? (F p (k*10+1))=some (.string ⟨es[k].name.toArray⟩):=by
    have hbk:=(b.grown a).aF;exact DQ
   obtain⟨T,g⟩:∃T:ByteArray,T=⟨es[k].name.toArray⟩:=⟨_,rfl⟩
   rw[<-g]at d;have i:=BO g K.o;by_cases h:es[k].name=l
   .have r:(T.toList==S.toList)=true:=(by rw[i,h];simp);have n:Hid (gu es l=(k:Int)):=(by grind [PK,Hid.o])
    clear h i g b;go_wp2;go_ret;exact⟨bD (by rw[n]),a⟩
   .have r:(T.toList==S.toList)=false:=(by rw[i];simpa using h);have x:Hid (∀j(u),j<k+1->es[j].name≠l):=by
     intro j u L;grind [Hid.o]
    clear h i g b;go_wp2;go_roundw
    case rel=>exact⟨k+1,by omega,by go_num,x,a⟩
    case measure=>simp[intOf];omega
  .have j:k=m:=G;subst j;have P:¬ (k:Int)<(k:Int):=G;have n:Hid (gu es l=-1):=(by grind [Hid.o,PM])
   clear b;go_wp2;go_ret;exact⟨bD (by rw[n]),a⟩
theorem xj(h:p:=by simpa[Value.ownBlock]using hg1):p:=h
theorem mF{P:Program}{q:Array Oper}{o:Oper}{a:Act}{w:World}{K:Act->World->Prop}{Q:Exit->Act->World->Prop}{E:Prop}(J:o.guard=none)(s x)(t)(hop:o.op=Op.call {callee:=Callee.builtin Builtin.append,args:=#[s,x],argTypes:=#[t,t]})(f)(e)(i)(z)(size d)(S:P.underlying t=some (.slice e))(L:P.info? e=some i)(T:i.zero=some z)(l:i.size=size)(y:i.bytes=d)(B:z.cells.size=size)(A:0<size)(v)(n)(C)(hs:a.eval s=v)(p:w.ownsRow f e size v n C)(r)(m c)(b)(hx:a.eval x=.slice (some r) m c)(M:b.length=m*size)(k:∀j u,b[j]?=some u->w.cell? (r.add j)=some u)(D:∀u∈b,u.oneCell'=true)(R:0<m)(j:n+m<=maxLen)(g:(n+m)*d<=140737488355328)(h:f<=w.1.size)(hK:∀v' w',w'.ownsRow f e size v' (n+m) (C++b)->w.grownBy w' v.ownBlock->Hid (v'.ownBlock=v.ownBlock\/v'.ownBlock=some w.1.size)->K (a.put o.dst v') w'):
  if Region.wanted o (yielded q a.tmps)=true then Oper.wp P o a w K Q else E:=by
 have hw:Region.wanted o (yielded q a.tmps)=true:=by simp[Region.wanted,J]
 rw[dT hw]
 obtain⟨v',w',hrun,r1,r2,r3⟩:=qX (P:=P) w f t o.type e i z size d S L T l y B A v n C p r m c b M k D R j g h
 exact E6
theorem XK(a)(v)(w)(h:a<0\/300<a):Calls prog 27 #[Y a,v] w λe b=>e=.returned (.tuple #[.pointer none,Y 1])/\w=b:=by
 by_cases b:a<0
 .go_in;go_wp2;exact tB
 .have d:300<a:=G;go_in;go_wp2;exact tB
theorem TO(a)(g)(j)(n)(k)(b)(w)(M:0<=g)(P:g<=300)(A:Hid (j.length=n))(Q:n<=140737488355328)(q:Hid (k=none->b=0))(i:At w k j)(f:a<=w.1.size):Calls prog 27 #[Y g,.slice k n b] w λe d=>∃h,e=.returned (.tuple #[π w.1.size 0,Y 0])/\iP d a w.1.size g σ σ h [] j/\w.grownBy d none:=by
 obtain⟨C,p,t,u,v⟩:=info_parts Tryz.info5
 have l:w.grownBy (w.alloc (.cells #[Y g,σ,σ,σ] 144)) none:=cx w _ none
 have h:=dz.new w #[Y g,σ,σ,σ] 144
 have y:=i.below l
 go_in
 go_wp2_with (at_builtin;refine bW _ rfl _ _ 37 rfl (w.1.size+1) 5 C underlying37 p t u v _ 0 [] rfl (World.ownsRow_nil _ _ _ _) k n b j rfl A q y G Z ?_)
 intro K L hown1 hg1 _
 have d:=h.grown hg1 (by simp[Value.ownBlock])
 have B:=aa l (row:=none) xj
 have x:L.ownsRow (w.1.size+1) 5 1 K n (j.map U8):=sg
 obtain⟨m,o,rfl,_,_,_,_⟩:=iZ x
 have D:=d.cell 3
 have J:=d.frozen 3
 simp only[cH,cG,cI]at D
 have r:(Value.slice m n o).ownBlock≠some w.1.size:=λe=>by have:=(x.lt _ e).1;omega
 clear hown1 hg1 h l y i
 go_wp2
 go_ret2
 refine⟨.slice m n o,rfl,⟨?_,World.ownsRow_nil _ _ _ _,?_,f,by simp[Value.ownBlock],r,.inl rfl⟩,az B (cy _)⟩
 .have:=d.set 3 (.slice m n o);simpa using this
 .rw[A];exact nA (ownsRow_setCell_below x (by show w.1.size<w.1.size+1;omega) _) G
theorem qu(h:p:=by show w.1.size<w.1.size+2;omega):p:=h
theorem vh(h:p:=by show w.1.size+1<w.1.size+2;omega):p:=h
variable {g:Nat}
theorem Tryz.Su:(prog.info? 9).map (λi=>(i.zero,i.size,i.bytes))=some (some ε,1,16):=by kernel_rfl
theorem Tryz.abJ:(prog.info? 3).map (λi=>(i.zero,i.size,i.bytes))=some (some (Y 0),1,8):=by kernel_rfl
theorem Ua{w:World}{x y z u:Value}(h:dz w g #[x,y,z,u]):(loadVar 101 ⟨g,0,none⟩).run prog w=.ok (.agg #[x,y,z,u]) w:=
 h.load 101 _ underlying101 rfl gJ
theorem jE{e:Func}{a:Tmp}{f:TypeId}(h:e.results=#[.cell a f])(d)(P)(w)(b)(hp:d.getD a undef = π b 0)(x)(hl:(loadVar f ⟨b,0,none⟩).run P w=.ok x w):
  (results e d).run P w=.ok x w:=by
 have hp':d[a]?.getD undef = π b 0:=rj
 exact rm
theorem XL{w:World}{a b c d:Value}(h:dz w g #[a,b,c,d])(x y z u):dz ((((w.s g 0 x).s g 1 y).s g 2 z).s g 3 u) g #[x,y,z,u]:=by
 simpa using(((h.set 0 x).set 1 y).set 2 z).set 3 u
theorem TM{a b:World}{x y z u:Value}(h:a.grownBy b none)(d:a.1.size<=g):a.grownBy ((((b.s g 0 x).s g 1 y).s g 2 z).s g 3 u) none:=
 (by grind [az])
def vK(e:RE):Value:=.string ⟨e.name.toArray⟩
def DC(e:RE):Value:=Y e.aH
abbrev lS:Array Value:=#[σ,σ,Y 0,Y 0]
theorem PO(base pb)(aA)(bv dv)(pa)(P pc:Nat)(f)(ds)(m L:Nat)(w)(M:iP w base pb aA bv (.slice pa P pc) dv f ds)(hm:Hid (f.length=m))(yg:m<=1000)(bl:Hid (ds.length=L)):Calls prog 36 #[π pb 0] w λe a=>∃t C,e=.returned (.agg #[t,C,Y (P:Int),Y (L:Int)])/\a.ownsRow w.1.size 9 1 t m (f.map vK)/\a.ownsRow w.1.size 3 1 C m (f.map DC)/\w.grownBy a none:=by
 obtain⟨is,bq,bs,bt,bu⟩:=info_parts Tryz.Su
 obtain⟨ii,bp,bm,bn,bo⟩:=info_parts Tryz.abJ
 obtain⟨ab,cb,al⟩:=bA M.aF
 rw[hm]at al
 subst al
 obtain⟨ad,cd,ao⟩:=bA M.aL
 rw[bl]at ao
 subst ao
 have G0:w.grownBy (w.alloc (.cells lS 101)) none:=cx w _ none
 have a:=M.grown G0
 have c1:=a.blk.cell 1
 have d:=a.blk.cell 2
 have g:=a.blk.cell 3
 simp only[cH,cG,cI]at c1 d g
 have b:=a.grown (cx (w.alloc (.cells lS 101)) (.cells lS 101) none)
 have h:=b.blk.cell 2
 have i:=b.blk.cell 3
 simp only[cH,cG,cI]at h i
 go_in
 go_wp2_with fail
 go_region
 clear c1 d g h i b a
 have Gs:w.grownBy ((w.alloc (.cells lS 101)).alloc (.cells #[σ,σ,Y (P:Int),Y (L:Int)] 101)).drew none:=bg (aM G0 _)
 go_wp2_with fail
 go_loopw [4] (λi wr=>∃(k:Nat) (t C:Value),k<=m/\i = Y k/\wr.ownsRow (w.1.size+2) 9 1 t k ((f.take k).map vK)/\wr.ownsRow (w.1.size+2) 3 1 C k ((f.take k).map DC)/\dz wr (w.1.size+1) #[t,C,Y (P:Int),Y (L:Int)]/\dz wr w.1.size lS/\Hid (t.ownBlock=none\/t.ownBlock≠C.ownBlock)/\w.grownBy wr none/\w.1.size+2<=wr.1.size) (λi _=>m-(intOf i).toNat)
 case atStart=>
  refine⟨0,σ,σ,cS _,rfl,World.ownsRow_nil _ _ _ _,World.ownsRow_nil _ _ _ _,?_,((dz.new w _ _).alloc _).drew,I (.inl rfl),Gs,by show _<=((w.alloc _).alloc _).1.size;simp⟩;have:=(dz.new (w.alloc (.cells lS 101)) #[σ,σ,Y (P:Int),Y (L:Int)] 101).drew;rw[cF]at this;exact this
 case round=>
  obtain⟨k,t,C,hk,rfl,Q,Ig,X,A,R,K,bk⟩:=hrel;obtain⟨an,cn,rfl⟩:=bA Q;obtain⟨v,x,rfl⟩:=bA Ig;have J:=M.grown K;have c1:=J.blk.cell 1;have q0:=X.cell 0;have q1:=X.cell 1;have q2:=X.cell 2;have q3:=X.cell 3;simp only[cH,cG,cI]at c1 q0 q1 q2 q3;by_cases hlt:k<m
  .have B:k<f.length:=tl;have mW:(k:Int)<(m:Int):=G;have cj:=hlt;have ch:(0:Int)<=(k:Int):=G;obtain⟨g0,bf⟩:∃g0,ab=some ⟨g0,0,none⟩:=by
    rcases M.aF.2 with⟨h,d⟩|⟨g,a,b,h,_⟩
    .omega
    .simp at h;exact⟨g,h.1⟩
   subst bf;have b:=J.aF;rw[hm]at b;have e1:wr.cell? (F g0 (k*10+1))=some (vK f[k]):=by
    rw[b.cellAt (k*10+1) G,iw f k 1 B G];rfl
   have V:∀a,w.grownBy a none->a.cell? (F g0 (k*10+7))=some (DC f[k]):=λa hx=>by
    have d:=(M.grown hx).aF;rw[hm]at d;rw[d.cellAt (k*10+7) G,iw f k 7 B G];rfl
   have aj:∀a,w.grownBy a none->a.cell? (F pb 1)=some (ς g0 0 m cb):=λa hx=>by
    have:=(M.grown hx).blk.cell 1;simpa using this
   have j:Hid (f.take (k+1)=f.take k++[f[k]]):=dy B;obtain⟨T,l⟩:∃T:ByteArray,vK f[k]=.string T:=⟨_,rfl⟩
   obtain⟨y,d⟩:∃y:Int,DC f[k] = Y y:=⟨_,rfl⟩
   have ar:Hid ((f.take (k+1)).map vK=(f.take k).map vK++[.string T]):=(by show _=_;rw[j,ef,<-l];rfl);have av:Hid ((f.take (k+1)).map DC=(f.take k).map DC++[Y y]):=(by show _=_;rw[j,ef,<-d];rfl);rw[l]at e1;rw[d]at V;have sO:k+1<=maxLen:=kO;have ay:(k+1)*16<=140737488355328:=G;have ba:(k+1)*8<=140737488355328:=G;have bb:=(cx wr (.cells #[.string T] 9) none).cell e1 Z;have bx:=(cx wr (.cells #[.string T] 9) none).cell q0 Z;have D:∀g,g<w.1.size+2->some g≠(Value.slice an k cn).ownBlock:=λg hg e=>by have:=(Q.lt g e.symm).1;omega
   clear l d b j;go_upto_region 5 with fail
   go_cut [4] (λi a=>i = Y k/\∃n:Value,a.ownsRow (w.1.size+2) 9 1 n (k+1) ((f.take (k+1)).map vK)/\a.ownsRow (w.1.size+2) 3 1 (.slice v k x) k ((f.take k).map DC)/\dz a (w.1.size+1) #[n,.slice v k x,Y (P:Int),Y (L:Int)]/\dz a w.1.size lS/\Hid (n.ownBlock=none\/n.ownBlock≠(Value.slice v k x).ownBlock)/\w.grownBy a none/\w.1.size+2<=a.1.size)
   case first=>
    have RR:∀b d j,j.ownsRow (w.1.size+2) 9 1 (.slice b (k+1) d) (k+1) ((f.take k).map vK++[.string T])->(wr.alloc (.cells #[.string T] 9)).grownBy j (Value.slice an k cn).ownBlock->((Value.slice b (k+1) d).ownBlock=(Value.slice an k cn).ownBlock\/(Value.slice b (k+1) d).ownBlock=some (wr.1.size+1))->
      ∃n,(j.setCell (F (w.1.size+1) 0) (.slice b (k+1) d)).ownsRow (w.1.size+2) 9 1 n (k+1) ((f.take (k+1)).map vK)/\(j.setCell (F (w.1.size+1) 0) (.slice b (k+1) d)).ownsRow (w.1.size+2) 3 1 (.slice v k x) k ((f.take k).map DC)/\dz (j.setCell (F (w.1.size+1) 0) (.slice b (k+1) d)) (w.1.size+1) #[n,.slice v k x,Y (P:Int),Y (L:Int)]/\dz (j.setCell (F (w.1.size+1) 0) (.slice b (k+1) d)) w.1.size lS/\Hid (n.ownBlock=none\/n.ownBlock≠(Value.slice v k x).ownBlock)/\w.grownBy (j.setCell (F (w.1.size+1) 0) (.slice b (k+1) d)) none/\w.1.size+2<=(j.setCell (F (w.1.size+1) 0) (.slice b (k+1) d)).1.size:=by
     intro b d j a l r
     have p:=(X.alloc (.cells #[.string T] 9)).grown l (D _ G)
     have W:=(A.alloc (.cells #[.string T] 9)).grown l (D _ G)
     have af:=l.size
     rw[cF]at af
     refine⟨.slice b (k+1) d,ownsRow_setCell_below (by rw[ar];exact a) vh _,ownsRow_setCell_below ((Ig.alloc _).kept l ?_) vh _,by simpa using p.set 0 (.slice b (k+1) d),W.other _ _ vl,?_,az (gD (aM K _) l (λi hi=>by have:=(Q.lt i hi).1;omega)) G,by rw[World.size_setCell];omega⟩
     .rcases R.o with h|h
      .rw[h];exact eR _
      .exact .inr (λe=>h e.symm)
     .rcases r with h|h
      .rw[h];exact R.o
      .refine .inr ?_;rw[h];intro e;have:=(Ig.lt _ e.symm).2;omega
    go_wp2_with fail;go_region_law (first|(refine mF rfl _ _ 62 rfl (w.1.size+2) 9 is _ 1 16 underlying62 bq bs bt bu rfl O (.slice an k cn) k _ ?s1 (Q.alloc _) ⟨wr.1.size,0,none⟩ 1 1 [.string T] ?s2 rfl ?s3 ?s4 G sO ay ?s5 ?_;(case s1=>first|rfl|simp[Act.eval,Act.put]);(case s2=>first|rfl|simp[Act.eval,Act.put]);(case s3=>exact gL wr _ _);(case s4=>intro u hu;simp at hu;rcases hu with rfl;rfl);(case s5=>simp;omega);intro v6 j a l q;obtain⟨b,d,ag⟩:=bA a;subst ag;have DF:(wr.alloc (.cells #[.string T] 9)).grownBy j (Value.slice an k cn).ownBlock:=⟨l.os,l.tape,l.output,l.size,l.block⟩;have p:=(X.alloc (.cells #[.string T] 9)).grown DF (D _ G);have S:=p.cell 0;have U:=p.frozen 0;simp only[cH,cG]at S;have R6:=I (RR b d j a DF (by simpa using q.o))))
    all_goals
     go_wp2_with fail
     go_meet
     case rel=>exact⟨rfl,R6⟩
   case rest=>
    obtain⟨rfl,n,PR,PS,ae,bc,ah,S,bz⟩:=hcut;obtain⟨ai,ak,rfl⟩:=bA PR;have e7:=V _ S;have ca:=aj _ S;have cc:=(cx wc (.cells #[Y y] 3) none).cell e7 Z;have x1:=ae.cell 1;simp only[cH,cG,cI]at x1;have ck:=(cx wc (.cells #[Y y] 3) none).cell x1 Z;have U:∀g,g<w.1.size+2->some g≠(Value.slice v k x).ownBlock:=λg hg e=>by have:=(PS.lt g e.symm).1;omega
    clear Q Ig X A R K bk J e1 bb q0 bx q1 q2 q3 c1 D V aj
    have RR:∀b d j,j.ownsRow (w.1.size+2) 3 1 (.slice b (k+1) d) (k+1) ((f.take k).map DC++[Y y])->(wc.alloc (.cells #[Y y] 3)).grownBy j (Value.slice v k x).ownBlock->((Value.slice b (k+1) d).ownBlock=(Value.slice v k x).ownBlock\/(Value.slice b (k+1) d).ownBlock=some (wc.1.size+1))->
      ∃(t C:Value),(j.setCell (F (w.1.size+1) 1) (.slice b (k+1) d)).ownsRow (w.1.size+2) 9 1 t (k+1) ((f.take (k+1)).map vK)/\(j.setCell (F (w.1.size+1) 1) (.slice b (k+1) d)).ownsRow (w.1.size+2) 3 1 C (k+1) ((f.take (k+1)).map DC)/\dz (j.setCell (F (w.1.size+1) 1) (.slice b (k+1) d)) (w.1.size+1) #[t,C,Y (P:Int),Y (L:Int)]/\dz (j.setCell (F (w.1.size+1) 1) (.slice b (k+1) d)) w.1.size lS/\Hid (t.ownBlock=none\/t.ownBlock≠C.ownBlock)/\w.grownBy (j.setCell (F (w.1.size+1) 1) (.slice b (k+1) d)) none/\w.1.size+2<=(j.setCell (F (w.1.size+1) 1) (.slice b (k+1) d)).1.size:=by
     intro b d j a l r
     have p:=(ae.alloc (.cells #[Y y] 3)).grown l (U _ G)
     have W:=(bc.alloc (.cells #[Y y] 3)).grown l (U _ G)
     have af:=l.size
     rw[cF]at af
     refine⟨.slice ai (k+1) ak,.slice b (k+1) d,ownsRow_setCell_below ((PR.alloc _).kept l ah) vh _,ownsRow_setCell_below (by rw[av];exact a) vh _,by simpa using p.set 1 (.slice b (k+1) d),W.other _ _ vl,?_,az (gD (aM S _) l (λi hi=>by have:=(PS.lt i hi).1;omega)) G,by rw[World.size_setCell];omega⟩
     rcases r with h|h
     .rw[h];exact ah.o
     .rw[h];cases hx:(Value.slice ai (k+1) ak).ownBlock with
      |none=>exact .inl rfl
      |some g=>
       refine .inr ?_;have:=(PR.lt g hx).2;simp;omega
    go_wp2_with fail;go_region_law (first|(refine mF rfl _ _ 24 rfl (w.1.size+2) 3 ii _ 1 8 underlying24 bp bm bn bo rfl O (.slice v k x) k _ ?s1 (PS.alloc _) ⟨wc.1.size,0,none⟩ 1 1 [Y y] ?s2 rfl ?s3 ?s4 G sO ba ?s5 ?_;(case s1=>first|rfl|simp[Act.eval,Act.put]);(case s2=>first|rfl|simp[Act.eval,Act.put]);(case s3=>exact gL wc _ _);(case s4=>intro u hu;simp at hu;rcases hu with rfl;rfl);(case s5=>simp;omega);intro v6 j a l q;obtain⟨b,d,ag⟩:=bA a;subst ag;have DF:(wc.alloc (.cells #[Y y] 3)).grownBy j (Value.slice v k x).ownBlock:=⟨l.os,l.tape,l.output,l.size,l.block⟩;have p:=(ae.alloc (.cells #[Y y] 3)).grown DF (U _ G);have h:=p.cell 1;have i:=p.frozen 1;simp only[cH,cG,cI]at h;have R6:=I (RR b d j a DF (by simpa using q.o))))
    all_goals
     go_wp2
     go_roundw
     case rel=>
      obtain⟨e,g,r⟩:=R6.o;exact⟨k+1,e,g,by omega,by go_num,r⟩
     case measure=>simp[intOf];omega
  .have e:k=m:=G;subst e;have mW:¬ (k:Int)<(k:Int):=G;have a:=cU (by rw[hm];exact cy _);rw[a]at Q Ig;have b:=A.cell 0;have d:=A.cell 1;have g:=A.cell 2;have h:=A.cell 3;have i:=A.frozen 0;have s1:=A.frozen 1;have s2:=A.frozen 2;have s3:=A.frozen 3;simp only[cH,cG,cI]at b d g h;clear a M J;go_wp2;(try simp only[Exit.inBlock,Exit.then]);refine bodyPost_ret (jE rfl _ _ _ w.1.size rfl _ (Ua (XL A _ _ _ _))) rfl ?_;refine⟨.slice an k cn,.slice v k x,rfl,nA (base:=w.1.size+2) ?_ G,nA (base:=w.1.size+2) ?_ G,TM K (cy _)⟩
   .exact ownsRow_setCell_below (ownsRow_setCell_below (ownsRow_setCell_below (ownsRow_setCell_below Q qu _) qu _) qu _) qu _
   .exact ownsRow_setCell_below (ownsRow_setCell_below (ownsRow_setCell_below (ownsRow_setCell_below Ig qu _) qu _) qu _) qu _
variable {zs:E}{v:Value}{w:World}
def gN(w:World)(v:Value)(zs:E):Prop:=∃ao cap,v=.slice ao zs.length cap/\zs.length<=cap/\cap<=maxLen/\(ao=none->cap=0)/\At w ao zs
theorem gN.grown{b:World}(h:gN w v zs)(k:w.grownBy b none):gN b v zs:=by
 obtain⟨d,a,e,f,g,i,j⟩:=h;exact⟨d,a,e,f,g,i,j.below k⟩
theorem gN.drewN(h:gN w v zs)(m):gN (w.drewN m) v zs:=by
 obtain⟨b,a,d,e,f,g,i⟩:=h;exact⟨b,a,d,e,f,g,i.drewN m⟩
theorem gN.own{base:Nat}{e:TypeId}(h:w.ownsRow base e 1 v zs.length (zs.map U8)):gN w v zs:=by
 obtain⟨b,a,d,f,g,i,j⟩:=iZ h;exact⟨b,a,d,f,g,i,j⟩
theorem gN.nil(w):gN w σ []:=⟨none,0,rfl,cy _,cS _,λ_=>rfl,At.nil w none⟩
theorem gN.one(h:gN w v zs):v.oneCell'=true:=by
 obtain⟨b,a,rfl,_⟩:=h;rfl
theorem Vl(tag)(zs)(n)(k)(b)(w)(v:Hid (zs.length=n))(u:65535<n)(B:n<=140737488351232)(l:Hid (k=none->b=0))(x:At w k zs):Calls prog 88 #[.int .u8 (tag.toNat:Int),.slice k n b] w λe a=>∃o,e=.returned o/\a.ownsRow w.1.size 5 1 o (Box.box tag zs).length ((Box.box tag zs).map U8)/\w.grownBy a none:=by
 obtain⟨q,e,g,h,j⟩:=info_parts Tryz.info5
 have a:=Si w 5 tag
 have p:w.grownBy (w.alloc (.cells #[.int .u8 (tag.toNat:Int)] 5)) none:=cx w _ none
 have r:¬ (n:Int)<128:=G
 have t:¬ (n:Int)<256:=G
 have A:Hid (Box.box tag zs=[tag]++[130,UInt8.ofNat (n / 256),UInt8.ofNat (n % 256)]++zs):=ya
 have m:=Xf n
 go_in
 go_wp2_with (at_builtin;refine bW _ rfl _ _ 37 rfl w.1.size 5 q underlying37 e g h j _ _ _ rfl (a.alloc _) (some ⟨w.1.size+1,0,none⟩) 3 3 [130,UInt8.ofNat (n / 256),UInt8.ofNat (n % 256)] rfl rfl ?e1 ?e2 ?e3 ?e4 ?_)
 case e2=>
  refine uB w _ _ _ _ ?_;simp only[eE,fy,U8]
  first
   |(rw[<-m,eo,ez G];rfl)
   |(simp only[eo];rw[ez (show n % 256<2 ^ 8 by omega)];rfl)
 case e4=>first|omega|(simp;omega)
 intro y C hown1 d _;have G1:=gD (aM p _) d (λi f=>(a.lt i f).1);have i:=x.below G1;have f:=G1.size;clear a d p;go_wp2_with (at_builtin;refine bW _ rfl _ _ 37 rfl w.1.size 5 q underlying37 e g h j y (1+3) ([tag]++[130,UInt8.ofNat (n / 256),UInt8.ofNat (n % 256)]) rfl sg k n b zs rfl v l i G f ?_)
 intro v2 w2 hown2 hg2 _;have G2:w.grownBy w2 none:=(by grind [gD,World.ownsRow.lt])
 exact wv
theorem ZA(a)(zs)(v)(w)(h:gN w v zs)(g:zs.length<=140737488351232):Calls prog 88 #[.int .u8 (a.toNat:Int),v] w λe b=>∃o,e=.returned o/\b.ownsRow w.1.size 5 1 o (Box.box a zs).length ((Box.box a zs).map U8)/\w.grownBy b none:=by
 obtain⟨d,b,rfl,j,k,e,f⟩:=h
 by_cases i:zs.length<=65535
 .exact tN a zs zs.length d b w (I rfl) i (I e) f
 .exact Vl a zs zs.length d b w (I rfl) G g (I e) f
theorem ZB(a)(zs)(v)(w)(h:gN w v zs)(d:zs.length<=140737488351232):Calls prog 88 #[.int .u8 (a.toNat:Int),v] w λe b=>∃o,e=.returned o/\gN b o (Box.box a zs)/\w.grownBy b none:=
 (ZA a zs v w h d).mono (by grind [gN.own])
theorem lW(zs)(v)(w)(h:gN w v zs)(b:zs.length<=140737488351232):Calls prog 63 #[v] w λe a=>∃o,e=.returned o/\gN a o (dx zs)/\w.grownBy a none:=by
 have HB:Hid (Calls prog 88 #[.int .u8 4,v] w λe a=>∃o,e=.returned o/\gN a o (dx zs)/\w.grownBy a none):=ZB 4 zs v w h b
 clear h
 go_in
 go_wp2_with (go_at_call 88;refine HB.mono ?_;rintro e f ⟨o,rfl,a,d⟩)
 go_ret
 exact⟨_,rfl,a,d⟩
theorem kP(l)(w)(j:l.length<=140737488351232):Calls prog 61 #[.string ⟨l.toArray⟩] w λe a=>∃o,e=.returned o/\gN a o (dx l)/\w.grownBy a none:=by
 have g:l.length<=140737488355328:=G
 go_in
 go_wp2_with (first|(refine p9 _ rfl _ 9 37 rfl 5 underlying9 underlying37 underlying5 l rfl g ?_;intro i a w3 d b k f)|(go_at_call 63;refine(lW l _ _ ⟨some ⟨i,0,none⟩,a,rfl,d,b,(λh=>by cases h),k⟩ j).mono ?_;rintro e p ⟨o,rfl,m,n⟩))
 go_ret
 exact⟨_,rfl,m,aa f n⟩
def rK(w:World)(b:Nat)(l:List (Value×E)):Prop:=
 ∀j,(hj:j<l.length)->w.cell? (F b j)=some l[j].1/\gN w l[j].1 l[j].2
def pW(l:List (Value×E)):E:=(l.map λx=>x.2).flatten
theorem IU(l:List (Value×E))(k)(h:k<l.length):pW (l.take (k+1))=pW (l.take k)++(l[k]).2:=by
 unfold pW;rw[dy h,ef,List.flatten_append];grind
theorem S7(l)(k):(pW (l.take k)).length<=(pW l).length:=by
 conv=>rhs;rw[<-eN k l]
 grind [pW]
theorem rK.grown{a:World}{b:Nat}{l:List (Value×E)}(h:rK w b l)(k:w.grownBy a none):rK a b l:=by
 intro j f;obtain⟨d,e⟩:=h j f;exact⟨k.cell d Z,e.grown k⟩
theorem S6(b p m)(l)(w)(hm:Hid (l.length=m))(Q:m<=1000)(J:(pW l).length<=140737488351232)(t:rK w b l):Calls prog 60 #[ς b 0 m p] w λe n=>∃o,e=.returned o/\n.ownsRow w.1.size 5 1 o (Box.box 48 (pW l)).length ((Box.box 48 (pW l)).map U8)/\w.grownBy n none:=by
 obtain⟨K,u,x,y,A⟩:=info_parts Tryz.info5
 go_in
 go_wp2
 go_loopw [3,4] (λo i wr=>∃k:Nat,k<=m/\i = Y k/\wr.ownsRow w.1.size 5 1 o (pW (l.take k)).length ((pW (l.take k)).map U8)/\w.grownBy wr none) (λ_ i _=>m-(intOf i).toNat)
 case atStart=>exact⟨0,by omega,rfl,World.ownsRow_nil _ _ _ _,cC _ _⟩
 case round=>
  obtain⟨k,P,rfl,d,a⟩:=hrel;have v:=a.size;by_cases hlt:k<m
  .have f:k<l.length:=tl;obtain⟨C,L,M,D,q,r,j,h⟩:=(t.grown a) k f;rw[D]at C;have g:=S7 l (k+1);rw[IU l k f,cD]at g;have i:(pW (l.take k)).length+((l[k]).2).length<=140737488355328:=G;have B:=I j;clear j g t D q r;go_wp2_with (at_builtin;refine bW _ rfl _ _ 37 rfl w.1.size 5 K underlying37 u x y A _ _ _ rfl d _ _ _ ((l[k]).2) rfl rfl B h i v ?_)
   intro r q g j _;have R:q.ownsRow w.1.size 5 1 r (pW (l.take (k+1))).length ((pW (l.take (k+1))).map U8)/\w.grownBy q none:=⟨by grind [IU],(by grind [gD,World.ownsRow.lt])⟩
   clear d g j a h i B C;exact te
  .have g:k=m:=G;subst g;clear t;have f:wr.ownsRow w.1.size 5 1 u3 (pW l).length ((pW l).map U8):=by
    grind [Hid.o]
   have HB:Hid (Calls prog 88 #[.int .u8 48,u3] wr λe n=>∃o,e=.returned o/\n.ownsRow wr.1.size 5 1 o (Box.box 48 (pW l)).length ((Box.box 48 (pW l)).map U8)/\wr.grownBy n none):=ZA 48 (pW l) u3 wr (gN.own f) J;clear d f;go_wp2_with (go_at_call 88;refine HB.mono ?_;rintro e q ⟨o,rfl,h,i⟩)
   go_ret;exact⟨_,rfl,nA h a.size,aa a i⟩
theorem rK.new(w)(l)(t)(h:∀x∈l,gN w x.1 x.2):rK (w.alloc (.cells (l.map λx=>x.1).toArray t)) w.1.size l:=by
 intro j a;have b:=aS w (l.map λx=>x.1).toArray t j (l[j]).1 (by simp[a]);grind [gN.grown,cx]
theorem yH(l)(d)(n)(w)(h:∀x∈l,gN w x.1 x.2)(a:d=(l.map λx=>x.1).toArray)(g:l.length=n)(m:n<=1000)(f:(pW l).length<=140737488351232):Calls prog 60 #[ς w.1.size 0 n n] (w.alloc (.cells d 37)) λe b=>∃o,e=.returned o/\b.ownsRow w.1.size 5 1 o (jO (l.map λx=>x.2)).length ((jO (l.map λx=>x.2)).map U8)/\w.grownBy b none:=by
 subst a
 refine(S6 w.1.size n n l _ (I g) m f (rK.new w l _ h)).mono ?_
 rintro e b ⟨o,i,j,k⟩
 exact⟨o,i,nA j (cx w _ none).size,aa (cx w _ none) k⟩
theorem Vm(l)(b)(n)(w)(h:∀x∈l,gN w x.1 x.2)(a:b=(l.map λx=>x.1).toArray)(g:l.length=n)(i:n<=1000)(f:(pW l).length<=140737488351232):Calls prog 60 #[ς w.1.size 0 n n] (w.alloc (.cells b 37)) λe d=>∃o,e=.returned o/\gN d o (jO (l.map λx=>x.2))/\w.grownBy d none:=
 (yH l b n w h a g i f).mono (by grind [gN.own])
theorem bR(v)(w)(h:b9 v):Calls prog 62 #[Y v] w λe a=>∃o,e=.returned o/\gN a o (bS v)/\w.grownBy a none:=by
 refine(ru v w h.1 h.2).mono ?_
 rintro e a ⟨o,b,d,f⟩
 exact⟨o,b,gN.own d,f⟩
