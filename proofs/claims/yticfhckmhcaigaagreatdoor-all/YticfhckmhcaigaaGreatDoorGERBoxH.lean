import Derived.Test.YticfhckmhcaigaaGreatDoorGERBoxG
import Derived.Test.YticfhckmhcaigaaGreatDoorGELaw1
namespace Go.Proofs.YticfhckmhcaigaaGreatDoor
set_option maxHeartbeats 4000000
open Proofs.Tryz Go.RowKit
set_option maxRecDepth 100000
variable {p:Prop}
theorem Tryz.Wd:(prog.info? 117).map (λi=>(i.zero,i.size,i.bytes))=some (some (.agg vY),2,32):=by kernel_rfl
structure Pc where
 tag:UInt8
 ad:Option Addr
 cap:Nat
 ins:E
def Pc.cells(p:Pc):List Value:=[.int .u8 (p.tag.toNat:Int),.slice p.ad p.ins.length p.cap]
def pX(l:List Pc):List Value:=(l.map Pc.cells).flatten
def Pc.pair(p:Pc):UInt8×E:=(p.tag,p.ins)
def AS(ao:Option Addr)(zs:E)(cap:Nat)(p:Pc):Prop:=(∀w0,At w0 ao zs->At w0 p.ad p.ins)/\p.ins.length<=p.cap/\p.cap<=cap
theorem Lb(l)(x):pX (l++[x])=pX l++x.cells:=by simp[pX]
def Hc:Value->Nat
 |.slice _ n _=>n
 |_=>0
theorem BG{l:E}(h:l.length<2):Box.cut l=none:=by
 rw[<-Box.Jz,Box.again,b' (λa=>by omega)]
theorem Cw(k)(n)(A)(d)(w)(hn:Hid (k.length=n))(hl:n<=100000)(K:n<=d)(au:d<=9223372036854775807)(hc:At w A k):Calls prog 66 #[.slice A n d] w λe a=>
   (∀Q,Box.dG k=some Q->∃v l,e=.returned (.tuple #[v,.bool true])/\a.ownsRow w.1.size 117 2 v l.length (pX l)/\l.map Pc.pair=Q/\∀p∈l,AS A k d p)/\
   (Box.dG k=none->e=.returned (.tuple #[σ,.bool false]))/\w.grownBy a none:=by
 obtain⟨ip,W,ae,af,ag⟩:=info_parts Tryz.Wd
 go_in
 go_wp2
 go_loopw [0,4] (λb f wr=>∃(l:List Pc) (r:E) (m:Nat) (a:Option Addr) (c:Nat),b=.slice a m c/\Hid (r.length=m)/\m<=c/\c<=d/\Hid (∀j,At j A k->At j a r)/\wr.ownsRow w.1.size 117 2 f l.length (pX l)/\w.grownBy wr none/\Hid (Box.dG k=(Box.dG r).map (l.map Pc.pair++·))/\Hid (∀p∈l,AS A k d p)/\l.length+m<=n) (λb _ _=>Hc b)
 case atStart=>exact⟨[],k,n,A,d,rfl,hn,K,cA _,I (λ_ h=>h),World.ownsRow_nil _ _ _ _,cC _ _,by show _=_;cases Box.dG k<;>simp,by intro p u;simp at u,by simp⟩
 case round=>
  obtain⟨l,r,m,a,c,rfl,S,ad,ar,C,g,y,D,qw,av⟩:=hrel;by_cases ax:0<m
  .have an:(0:Int)<(m:Int):=G;by_cases ab:m<2
   .have q:Hid (Box.dG k=none):=by
     grind [Hid.o,BG,Box.nA]
    clear D;go_wp2_with fail;refine(wK m a c _ ab).mono ?_;rintro e w1 ⟨rfl,f⟩;have B:=aM (aa y f) (.cells vY 117);clear g f;go_wp2;go_ret2;exact⟨kO,λ_=>rfl,B⟩
   .have J:=C _ (hc.below y);obtain⟨b,aj,rfl,_⟩:=J.addr (by rw[S];omega);have hF:=JF r m b aj c _ S G G ad G J;cases t:Box.cut r with
    |none=>
     have q:Hid (Box.dG k=none):=by
      grind [Hid.o,Box.nA]
     rw[t]at hF;clear D t;go_wp2_with fail;refine hF.mono ?_;rintro e w1 ⟨_,i,f⟩;obtain⟨x,v,M,L,rfl⟩:=i trivial;have B:=aM (aa y f) (.cells #[.int .u8 x,.slice v M L] 117);clear g f hF i;go_wp2;go_ret2;exact⟨kO,λ_=>rfl,B⟩
    |some tr=>
     obtain⟨v,i,x⟩:=tr;have V:=Box.gK t;rw[S]at V;have R:Hid (Box.dG k=(Box.dG x).map (l.map Pc.pair++[(v,i)]++·)):=by
      show _=_;rw[D,Box.oO t];cases Box.dG x with
      |none=>rfl
      |some Q=>simp
     rw[t]at hF;clear D t;go_wp2_with fail;refine hF.mono ?_;rintro e w1 ⟨k1,_,f⟩;obtain⟨T,P,a2,c2,rfl,L,ah,az,M,ai,ba⟩:=k1 v i x rfl;have q:=g.kept f (fm _);have B:=aa y f;have ak:=B.size;have ui:l.length+1<=maxLen:=lA;have X:(l.length+1)*32<=140737488355328:=G;obtain⟨p,u⟩:∃p:Pc,p=⟨v,T,P,i⟩:=⟨_,rfl⟩
     have HP:Hid (p.cells=[.int .u8 (v.toNat:Int),.slice T i.length P]):=(by subst u;rfl);have YT:Hid (p.pair=(v,i)):=(by subst u;rfl);have al:Hid (AS A k d p):=(by subst u;exact⟨λj h=>L j (C j h),ah,by show P<=d;omega⟩);have U:Hid (∀j,At j A k->At j a2 x):=λj h=>M j (C j h);clear g f hF k1 u L M;go_wp2_with (at_builtin;refine dN _ rfl _ _ 178 rfl w.1.size 117 ip _ 2 32 underlying178 W ae af ag rfl H _ _ _ rfl ((q.alloc _).alloc _) ⟨w1.1.size+1,0,none⟩ 1 1 [.int .u8 (v.toNat:Int),.slice T i.length P] rfl rfl ?q1 (by intro u M;simp at M;rcases M with rfl|rfl<;>rfl) G ui X iS ?_)
     case q1=>
      grind [gX,cG]
     intro v2 w2 L f _;have G2:=gI (aM (aM B _) _) f (λj hj=>(q.lt j hj).1);clear q f B;go_wp2;go_roundw
     case rel=>
      refine⟨l++[p],x,x.length,a2,c2,rfl,I rfl,ai,by omega,U,?_,G2,?_,?_,?_⟩
      .grind [Lb,Hid.o]
      .show _=_;rw[R,ej,eN,fR,YT]
      .intro q f;grind [Hid.o]
      grind
     grind [Hc]
  .have f:¬ (0:Int)<(m:Int):=G;have HS:Hid (Box.dG k=some (l.map Pc.pair)):=by
    grind [Hid.o,Box.xV]
   clear D;go_wp2;go_ret2;refine⟨λQ h=>?_,kO,y⟩;rw[HS]at h;simp only[ey]at h;exact⟨_,rfl,l,g,h,qw⟩
theorem Xe(w:World)(k)(a):w.grownBy (Sort.grow (w.drewN k) a) none:=by
 have h:=Lib.below_grow w.1.size w (cA _) k a;exact⟨h.os,h.tape,h.output,h.size,λi b _=>h.block i b⟩
theorem yT(n)(d:-9223372036854775808<=n)(f:n<=9223372036854775807)(w)(a:lZ w):Calls prog 89 #[Y n,Y 10] w λe b=>e=.returned (.string ⟨(Lib.itoa n).toArray⟩)/\w.grownBy b none:=
 (Go.Proofs.Tryz.strconv_FormatInt_10 n d f w a).mono λe b ⟨g,k,h,hw⟩=>⟨g,by rw[hw];exact Xe w k h⟩
def rZ(d:Nat)(tag:UInt8)(zs:E)(e:Ending):Prop:=
 (∀t,Box.iq d tag zs=some t->e=.returned (.tuple #[.string ⟨t.toArray⟩,.bool true]))/\
 (Box.iq d tag zs=none->∃s:ByteArray,s.size<=22+22*zs.length/\e=.returned (.tuple #[.string s,.bool false]))
theorem nI{w a:World}(h:lZ w)(k:w.grownBy a none):lZ a:=Lib.tabBelow_of_tabIs h a (uB k)
theorem nJ{d:Nat}{a:UInt8}{b:E}{s:ByteArray}(h:Box.iq d a b=none)(f:s.size<=22+22*b.length):rZ d a b (.returned (.tuple #[.string s,.bool false])):=
 ⟨λt e=>by rw[h]at e;simp at e,λ_=>⟨s,f,rfl⟩⟩
theorem Ah{d:Nat}{b:UInt8}{e t:E}(h:Box.iq d b e=some t):rZ d b e (.returned (.tuple #[.string ⟨t.toArray⟩,.bool true])):=
 ⟨λf a=>by rw[h]at a;simp only[ey]at a;subst a;rfl,λa=>by rw[h]at a;simp at a⟩
theorem Z0(d)(k)(a)(h)(n)(r)(i)(w)(D:Hid (h.length=n))(b:a.toNat=2)(C:At w r h)(g:lZ w):Calls prog 50 #[.agg #[.int .u8 (a.toNat:Int),.slice r n i],Y k] w λe f=>rZ d a h e/\w.grownBy f none:=by
 have K:((a.toNat:Int)==2)=true:=oU
 have B:=I b
 have A:Hid (Box.iq d a h=(Box.num h).map Lib.itoa):=by show _=_;rw[Box.vg d a h G,Box.leaf,dQ b]
 clear b
 have u:w.grownBy (w.alloc (.cells #[.int .u8 (a.toNat:Int),.slice r n i] 117)) none:=cy w _ none
 have t:=EM a r h n i _ D (C.below u)
 cases l:Box.num h with
 |some v=>
  have o:=vz l;have q:=I l;clear l;go_in;go_wp2_with fail;refine t.mono ?_;rintro e y ⟨m,b⟩;obtain rfl:=m.1 v B q.o;have j:=aa u b;have hF:=yT v o.1 o.2 y (nI g j);clear m b t;go_wp2_with fail;refine hF.mono ?_;rintro e J ⟨rfl,f⟩;have x:=aa j f;clear hF f;go_wp2;go_ret2;exact⟨Ah (by rw[A,q];rfl),x⟩
 |none=>
  have q:=I l;clear l;go_in;go_wp2_with fail;refine t.mono ?_;rintro e y ⟨m,b⟩;obtain⟨v,o,p,rfl⟩:=m.2 (.inr q);have j:=aa u b;have hF:=yT v o p y (nI g j);clear m b t;go_wp2_with fail;refine hF.mono ?_;rintro e J ⟨rfl,f⟩;have x:=aa j f;clear hF f;go_wp2;go_ret2;refine⟨nJ (by rw[A,q];rfl) ?_,x⟩;have:=Lib.itoa_length_le v o p;simp only[ByteArray.size,List.size_toArray];omega
theorem Wl(d)(g)(a)(b)(n)(i)(f)(w)(p:Hid (b.length=n))(v:n<=1000)(h:a.toNat=4)(q:At w i b):Calls prog 50 #[.agg #[.int .u8 (a.toNat:Int),.slice i n f],Y g] w λe j=>rZ d a b e/\w.grownBy j none:=by
 have r:((a.toNat:Int)==2)=false:=mC
 have u:((a.toNat:Int)==4)=true:=oU
 have l:Hid (Box.iq d a b=some (34::Box.hex b++[34])):=by show _=_;rw[Box.vg d a b G,Box.leaf,b' G,dQ h]
 clear h
 have k:w.grownBy (w.alloc (.cells #[.int .u8 (a.toNat:Int),.slice i n f] 117)) none:=cy w _ none
 have h:=ZJ b n i f _ p G (q.below k)
 have j:(⟨(Box.hex b).toArray⟩:ByteArray).size<=2000:=by simp only[ByteArray.size,List.size_toArray];rw[Box.zq,p];omega
 obtain⟨H,o⟩:∃H:ByteArray,Hid ((⟨(Box.hex b).toArray⟩:ByteArray)=H):=⟨_,rfl⟩
 rw[o]at h j
 go_in
 go_wp2_with fail
 refine h.mono ?_
 rintro e x ⟨rfl,m,rfl⟩
 clear h
 go_wp2
 go_ret2
 refine⟨⟨λt h=>?_,λh=>by rw[l]at h;simp at h⟩,aN k m⟩
 rw[l]at h
 simp only[ey]at h
 subst h
 rw[<-o]
 rfl
theorem RY(d)(b)(a)(h)(w)(i:a.toNat≠2)(j:a.toNat≠4)(f:a.toNat≠48)(l)(n g):Calls prog 50 #[.agg #[.int .u8 (a.toNat:Int),.slice l n g],Y b] w λe k=>rZ d a h e/\w.grownBy k none:=by
 have m:((a.toNat:Int)==2)=false:=mC
 have o:((a.toNat:Int)==4)=false:=mC
 have e:((a.toNat:Int)==48)=false:=mC
 have k:Hid (Box.iq d a h=none):=by show _=_;rw[Box.vg d a h f,Box.leaf,b' i,b' j]
 clear i j f
 go_in
 go_wp2
 go_ret2
 exact⟨nJ k tD,cy w _ none⟩
theorem sG(h:p:=by simpa using hk):p:=h
theorem Wm(a):a.length<=Box.wt a:=by
 induction a with
 |nil=>simp
 |cons p a b=>simp only[de,Box.wt];omega
theorem Lf(a)(k):Box.wt (a.take k)<=Box.wt a:=by
 have:=Box.JA (a.take k) (a.drop k);rw[eK]at this;omega
theorem WD{a:List (UInt8×E)}{k:Nat}(h:k<a.length):Box.wt (a.take (k+1))=Box.wt (a.take k)+(a[k].2.length+2):=by
 rw[dy h,Box.JA];simp[Box.wt]
def EO(L:Nat):Prop:=∀(dn:Nat)(tag:UInt8)(zs:E)(n:Nat)(ao:Option Addr)(cap:Nat)(w:World),n<L->Hid (zs.length=n)->n<=cap->cap<=9223372036854775807->1<=dn->dn+n<=1000->At w ao zs->lZ w->
 Calls prog 50 #[.agg #[.int .u8 (tag.toNat:Int),.slice ao n cap],Y (dn:Int)] w λe w'=>rZ (9-dn) tag zs e/\w.grownBy w' none
theorem wP(l):∀(k j)(hk:k<l.length),j<2->(pX l)[k*2+j]?=(l[k]).cells[j]?:=by
 induction l with
 |nil=>intro k j hk;simp at hk
 |cons x l b=>
  intro k j hk a;have e:pX (x::l)=x.cells++pX l:=by simp[pX]
  rw[e];cases k with
  |zero=>rw[gj,cR,cX (by show j<2;exact a)];rfl
  |succ k=>
   rw[dr (by show 2<=(k+1)*2+j;omega),show(k+1)*2+j-x.cells.length=k*2+j from by show(k+1)*2+j-2=k*2+j;omega];exact b k j sG a
theorem BH{b:Nat}{a:UInt8}{e:E}(d:a.toNat=48)(h:9<=b\/(match Box.dG e with|none=>none|some f=>Box.tells (9-(b+1)) f)=none):Box.iq (9-b) a e=none:=by
 by_cases g:9<=b
 .rw[show 9-b=0 from by omega,Box.EH a e d]
 .rw[show 9-b=(9-(b+1))+1 from by omega,Box.EG _ a e d];rcases h with h|h
  .exact absurd h g
  .cases i:Box.dG e with
   |none=>rfl
   |some f=>
    rw[i]at h;simp only at h;simp only[h];rfl
theorem Wn{b:Nat}{a:UInt8}{e:E}{f:List (UInt8×E)}{g:List E}(d:a.toNat=48)(j:b<=8)(i:Box.dG e=some f)(h:Box.tells (9-(b+1)) f=some g):Box.iq (9-b) a e=some (123::Box.commas g++[125]):=by
 rw[show 9-b=(9-(b+1))+1 from by omega,Box.EG _ a e d,i];simp only[h];rfl
theorem BF(h:p:=by
 go_wp2
 go_ret2
 exact⟨nJ HN (by rw[hn];simp[ByteArray.size_append];show b.size+1<=_;omega),G2⟩):p:=h
theorem Wo(L)(ih:EO L)(d:Nat)(a)(B)(n)(ao)(u)(w)(hL:n<=L)(hn:Hid (B.length=n))(af:n<=u)(ar:u<=9223372036854775807)(hd:1<=d)(bo:d+n<=1000)(f:a.toNat=48)(hc:At w ao B)(ai:lZ w):Calls prog 50 #[.agg #[.int .u8 (a.toNat:Int),.slice ao n u],Y (d:Int)] w λe g=>rZ (9-d) a B e/\w.grownBy g none:=by
 have bl:((a.toNat:Int)==2)=false:=mC
 have bm:((a.toNat:Int)==4)=false:=mC
 have bf:((a.toNat:Int)==48)=true:=oU
 have C:=I f
 clear f
 have G0:w.grownBy (w.alloc (.cells #[.int .u8 (a.toNat:Int),.slice ao n u] 117)) none:=cy w _ none
 have R:=Cw B n ao u _ hn G af ar (hc.below G0)
 cases q:Box.dG B with
 |none=>
  rw[q]at R;have HN:Hid (Box.iq (9-d) a B=none):=BH C (.inr (by rw[q]));clear q;go_in;go_wp2_with fail;refine R.mono ?_;rintro e w1 ⟨_,g,f⟩;obtain rfl:=g trivial;have S:=aa G0 f;clear R g f;go_wp2;refine wp_loop_rounds 1 ?_;rw[rounds_succ];go_wp2;go_ret2;exact⟨nJ HN (by simp[ByteArray.size];omega),S⟩
 |some p=>
  have ba:=Box.NM n B p (by rw[hn];exact cA _) q;rw[hn]at ba;have U:=I q;rw[q]at R;clear q;go_in;go_wp2_with fail;refine R.mono ?_;rintro e w1 ⟨i,_,f⟩;obtain⟨v,l,rfl,r,g,h⟩:=i p rfl;have D:=I g;have qw:=I h;have S:=aa G0 f;obtain⟨av,cv,rfl⟩:=bA r;clear R i f g h;obtain⟨m,f⟩:=aw l.length;have M:=I f.symm;rw[<-f]at r⊢;clear f;have yP:m<=n:=by
   have:=Wm p;have f:=congrArg List.length D.o;rw[cU,M]at f;omega
  go_wp2_with fail;go_loopw [9,10,11] (λg h i wr=>∃(o:Bool) (k:Nat) (b:ByteArray),k<=m/\i = Y k/\g=.bool o/\h=.string b/\w1.grownBy wr none/\b.size<=1+22*Box.wt (p.take k)/\Hid (o=true->∃A,Box.tells (9-(d+1)) (p.take k)=some A/\b=⟨(123::Box.commas A).toArray⟩)/\Hid (o=false->Box.tells (9-(d+1)) p=none)) (λ_ _ i _=>m-(intOf i).toNat)
  case atStart=>
   exact⟨true,0,_,cS _,rfl,rfl,rfl,cC _ _,by simp[ByteArray.size],I (λ_=>⟨[],rfl,rfl⟩),I (λh=>by cases h)⟩
  case round=>
   obtain⟨o,k,b,hk,rfl,rfl,rfl,x,bn,W,HF⟩:=hrel;cases o with
   |false=>
    have HN:Hid (Box.iq (9-d) a B=none):=BH C (.inr (by rw[U];exact HF rfl));have al:b.size<=1+22*n:=by
     have:=Lf p k;omega
    have G2:=aa S x;clear W HF;by_cases ag:k<m
    .have y:(k:Int)<(m:Int):=G;exact BF
    .have y:¬ (k:Int)<(m:Int):=G;exact BF
   |true=>
    by_cases ag:k<m
    .have y:(k:Int)<(m:Int):=G;have bp:(0:Int)<=(k:Int):=G;have K:k<l.length:=(by rw[M];exact ag);have Q:k<p.length:=(by rw[<-D,cU];exact K);obtain⟨g0,an⟩:∃g0,av=some ⟨g0,0,none⟩:=by
      rcases r.2 with⟨h,f⟩|⟨g,u,i,h,_⟩
      .omega
      .simp at h;exact⟨g,h.1⟩
     subst an;have f:=r.kept x (by simp[Value.ownBlock]);have g:∀j,j<2->wr.cell? (F g0 (k*2+j))=(l[k]).cells[j]?:=by
      intro j i;rw[f.cellAt (k*2+j) G];exact wP l k j K i
     have ae:=qw l[k] (eh K);have j:p[k]=(l[k]).pair:=by
      have:=D.o;subst this;simp
     obtain⟨X,i⟩:=aw (l[k]);rw[<-i]at ae g j;clear i f;obtain⟨J,ak,ad,f⟩:=X;have q0:wr.c g0 (k*2)=some (.int .u8 (J.toNat:Int)):=g 0 G;have q1:wr.c g0 (k*2+1)=some (.slice ak f.length ad):=g 1 G;obtain⟨P,ah,ax⟩:=ae;simp only at P ah ax;have aj:=WD Q;rw[j]at aj;change Box.wt (p.take (k+1))=Box.wt (p.take k)+(f.length+2)at aj;have bk:=Lf p (k+1);have G2:=aa S x;have hI:=ih (d+1) J f f.length ak ad wr G (I rfl) ah G G G (P wr (hc.below G2)) (nI ai G2)
     have HS:Hid (Box.tells (9-(d+1)) (p.take (k+1))=match Box.tells (9-(d+1)) (p.take k)with
      |none=>none
      |some A=>(Box.iq (9-(d+1)) J f).map λt=>A++[t]):=by
      show _=_;rw[dy Q,Box.RF,j];rfl
     obtain⟨A,i,hb⟩:=W rfl;have HB:=I hb;have V:Hid (A.length=k):=by
      show _=_;rw[Box.KZ i,ew];omega
     rw[i]at HS;simp only at HS;have ab:Hid (Box.tells (9-(d+1)) (p.take (k+1))=none->Box.tells (9-(d+1)) p=none):=by
      intro h;have:=Box.RH (b:=p.drop (k+1)) h;rwa [eK]at this
     clear g j i hb P K Q W HF;have az:((d+1:Nat):Int)=(d:Int)+1:=G;rw[az]at hI;cases g:Box.iq (9-(d+1)) J f with
     |none=>
      have HP:=I g;rw[g]at HS;clear g;go_wp2_with fail;refine hI.mono ?_;rintro e w2 ⟨hs,j⟩;obtain⟨t,ht,rfl⟩:=hs.2 HP.o;have T:=aa x j;clear hI hs j;have bb:b.size<=100000:=G;have bc:t.size<=100000:=G;by_cases au:0<k
      .have P:(0:Int)<(k:Int):=G;go_wp2;go_roundw
       case rel=>
        refine⟨false,k+1,_,by omega,by go_num,rfl,rfl,T,?_,I (λh=>by cases h),I (λ_=>ab.o (by rw[HS.o];rfl))⟩;simp[ByteArray.size_append];show b.size+1+t.size<=_;omega
       case measure=>simp[intOf];omega
      .have P:¬ (0:Int)<(k:Int):=G;go_wp2;go_roundw
       case rel=>
        refine⟨false,k+1,_,by omega,by go_num,rfl,rfl,T,?_,I (λh=>by cases h),I (λ_=>ab.o (by rw[HS.o];rfl))⟩;simp[ByteArray.size_append];omega
       case measure=>simp[intOf];omega
     |some t=>
      have HP:=I g;have bs:=Box.K6 _ _ _ _ g;rw[g]at HS;clear g;go_wp2_with fail;refine hI.mono ?_;rintro e w2 ⟨hs,j⟩;obtain rfl:=hs.1 t HP.o;have T:=aa x j;clear hI hs j;obtain⟨tb,NZ⟩:∃tb:ByteArray,Hid ((⟨t.toArray⟩:ByteArray)=tb):=⟨_,rfl⟩
      have bq:tb.size=t.length:=(by rw[<-NZ];simp[ByteArray.size]);rw[NZ];have bb:b.size<=100000:=G;have bc:tb.size<=100000:=G;by_cases au:0<k
      .have P:(0:Int)<(k:Int):=G;go_wp2;go_roundw
       case rel=>
        refine⟨true,k+1,_,by omega,by go_num,rfl,rfl,T,?_,I (λ_=>⟨A++[t],by rw[HS.o];rfl,?_⟩),I (λh=>by cases h)⟩
        .simp[ByteArray.size_append];show b.size+1+tb.size<=_;omega
        .have j:A≠[]:=(by intro h;have:=V.o;rw[h]at this;simp at this;omega);rw[Box.wI,b' j,HB.o,<-NZ.o];refine ByteArray.ext (Array.toList_inj.1 ?_);simp
       case measure=>simp[intOf];omega
      .have P:¬ (0:Int)<(k:Int):=G;go_wp2;go_roundw
       case rel=>
        refine⟨true,k+1,_,by omega,by go_num,rfl,rfl,T,?_,I (λ_=>⟨A++[t],by rw[HS.o];rfl,?_⟩),I (λh=>by cases h)⟩
        .simp[ByteArray.size_append];omega
        .have j:=eW (by rw[V];omega);rw[Box.wI,dQ j,HB.o,<-NZ.o,j];refine ByteArray.ext (Array.toList_inj.1 ?_);simp[Box.commas]
       case measure=>simp[intOf];omega
    .have y:¬ (k:Int)<(m:Int):=G;have t:k=m:=G;obtain⟨A,i,hb⟩:=W rfl;rw[cW (by rw[<-D,cU,M];omega)]at i;have f:=I i;have HB:=I hb;have al:b.size<=1+22*n:=by
      have:=Lf p k;omega
     have G2:=aa S x;clear W HF i hb;by_cases j:d<=8
     .have g:(d:Int)<=8:=G;have h:Hid (Box.iq (9-d) a B=some (123::Box.commas A++[125])):=Wn C j U f.o;go_wp2;go_ret2;refine⟨?_,G2⟩;rw[HB];exact Ah h.o
     .have g:¬ (d:Int)<=8:=G;have HN:Hid (Box.iq (9-d) a B=none):=BH C (.inl G);exact BF
theorem Z4:∀L,EO L:=by
 intro L;induction L with
 |zero=>intro m a i n e b w h;omega
 |succ L r=>
  intro m a i n e b w t l g j q k h d;by_cases o:a.toNat=2
  .exact Z0 _ _ a i n e b w l o h d
  .by_cases p:a.toNat=4
   .exact Wl _ _ a i n e b w l G p h
   .by_cases f:a.toNat=48
    .exact Wo L r m a i n e b w G l g j q k f h d
    .exact RY _ _ a i w o p f e n b
variable {l:E}
theorem l9(h:mW l=none):jB l=.tuple #[ε,Y 2]:=by rw[jB,h]
theorem Ai{t:E}(h:mW l=some t):jB l=.tuple #[.string ⟨t.toArray⟩,Y 0]:=by rw[jB,h]
theorem JH(h:Box.cut l=none):mW l=none:=by
 rw[mW,Box.EI,h];split<;>rfl
theorem RZ{i:E}{b a:UInt8}{r:E}(h:Box.cut l=some (b,i,a::r)):mW l=none:=by
 rw[mW,Box.EI,h];split<;>rfl
theorem R7(h:300<l.length):mW l=none:=by rw[mW,b' G]
theorem Wp{i:E}{a:UInt8}(h:Box.cut l=some (a,i,[]))(b:l.length<=300):mW l=Box.iq 8 a i:=by
 rw[mW,dQ b,Box.EI,h]
theorem wq(h:p:=by
 go_wp2
 go_ret2
 exact⟨by rw[HS];rfl,G1⟩):p:=h
theorem Wq(g)(n)(A)(h)(w)(hn:Hid (g.length=n))(Q:n<=140737488355328)(u:n<=h)(C:h<=9223372036854775807)(B:At w A g)(v:lZ w):Calls prog 25 #[.slice A n h] w λe a=>e=.returned (jB g)/\w.grownBy a none:=by
 by_cases P:n<2
 .have HS:Hid (jB g=.tuple #[ε,Y 2]):=l9 (JH (BG (by rw[hn];exact P)));go_in;go_wp2_with fail;refine(wK n A h _ P).mono ?_;rintro e y ⟨rfl,a⟩;have G1:=aM a (.cells vY 117);clear a;exact wq
 .obtain⟨b,J,rfl,_⟩:=B.addr qE;have hF:=JF g n b J h w hn G Q u C B;cases d:Box.cut g with
  |none=>
   have HS:Hid (jB g=.tuple #[ε,Y 2]):=l9 (JH d);rw[d]at hF;clear d;go_in;go_wp2_with fail;refine hF.mono ?_;rintro e y ⟨_,f,a⟩;obtain⟨x,i,k,j,rfl⟩:=f trivial;have G1:=aM a (.cells #[.int .u8 x,.slice i k j] 117);clear a hF f;exact wq
  |some S=>
   obtain⟨f,i,r⟩:=S;have k:=Box.gK d;rw[hn]at k;cases r with
   |cons q r=>
    have HS:Hid (jB g=.tuple #[ε,Y 2]):=l9 (RZ d);obtain⟨t,j⟩:=aq ((q::r).length);have D:(0:Int)<(t:Int):=(by rw[de]at j;omega);have p:=I j;rw[d]at hF;clear d j;obtain⟨x,j⟩:=aw (q::r);rw[<-j]at hF k p;clear j;go_in;go_wp2_with fail;refine hF.mono ?_;rintro e y ⟨j,_,a⟩;obtain⟨l,m,L,M,rfl,_,_,_,_,_,_⟩:=j f i x rfl;have G1:=aM a (.cells #[.int .u8 (f.toNat:Int),.slice l i.length m] 117);clear a hF j;rw[p];exact wq
   |nil=>
    by_cases p:300<n
    .have x:(300:Int)<(n:Int):=G;have HS:Hid (jB g=.tuple #[ε,Y 2]):=l9 (R7 (by rw[hn];exact p));rw[d]at hF;clear d;go_in;go_wp2_with fail;refine hF.mono ?_;rintro e y ⟨j,_,a⟩;obtain⟨l,m,L,M,rfl,_,_,_,_,_,_⟩:=j f i [] rfl;have G1:=aM a (.cells #[.int .u8 (f.toNat:Int),.slice l i.length m] 117);clear a hF j;simp only[List.length_nil];exact wq
    .have x:¬ (300:Int)<(n:Int):=G;have HS:Hid (mW g=Box.iq (9-1) f i):=Wp d qE;rw[d]at hF;clear d;go_in;go_wp2_with fail;refine hF.mono ?_;rintro e y ⟨j,_,a⟩;obtain⟨l,m,L,M,rfl,t,D,R,_,_,_⟩:=j f i [] rfl;have G1:=aM a (.cells #[.int .u8 (f.toNat:Int),.slice l i.length m] 117);have q:=Z4 (i.length+1) 1 f i i.length l m _ G (I rfl) D G G (by simp at k;omega) (t _ (B.below G1)) (nI v G1);clear a hF j t;simp only[List.length_nil];go_wp2_with fail;refine q.mono ?_;rintro e T ⟨j,a⟩;have K:=aa G1 a;clear q a;cases a:Box.iq (9-1) f i with
     |none=>
      obtain⟨s,_,rfl⟩:=j.2 a;have q:Hid (jB g=.tuple #[ε,Y 2]):=l9 (by rw[HS,a]);clear j a;go_wp2;go_ret2;exact⟨by rw[q];rfl,K⟩
     |some t=>
      obtain rfl:=j.1 t a;have q:Hid (jB g=.tuple #[.string ⟨t.toArray⟩,Y 0]):=Ai (by rw[HS,a]);clear j a;go_wp2;go_ret2;exact⟨by rw[q];rfl,K⟩
theorem Cx{w a:World}(h:Below w.1.size w a):w.grownBy a none:=⟨h.os,h.tape,h.output,h.size,λi b _=>h.block i b⟩
theorem OS(a):(ByteArray.mk a).size=a.size:=rfl
def EP(ks:List Int)(k:Int):Nat->Bool
 |0=>false
 |j+1=>EP ks k j||(k==ks.getD j 0)
theorem Z5{a:List Int}{k:Int}:∀{j:Nat},j<=a.length->EP a k j=true->k∈a:=by
 intro j;induction j with
 |zero=>intro _ h;simp[EP]at h
 |succ j b=>
  grind [EP]
def ru(Good:Int->Array Value->Prop)(w:World)(a:Option Addr)(n:Nat):Prop:=
 ∀i,i<n->∃b off,a=some ⟨b,off,none⟩/\b<w.1.size/\∃kind cs,cs.size=41/\cs[0]?=some (Y kind)/\Good kind cs/\∀j v,cs.toList[j]?=some v->w.cell? (F b (off+i*41+j))=some v
theorem ru.grown{Good:Int->Array Value->Prop}{w f:World}{a:Option Addr}{n:Nat}(h:ru Good w a n)(k:w.grownBy f none):ru Good f a n:=by
 intro i p;obtain⟨b,e,j,q,d,g,l,m,o,r⟩:=h i p;have s:=k.size;exact⟨b,e,j,by omega,d,g,l,m,o,(by grind [World.grownBy.cell])⟩
theorem ru.below{Good:Int->Array Value->Prop}{w b:World}{a:Option Addr}{n:Nat}(h:ru Good w a n)(k:Below w.1.size w b):ru Good b a n:=h.grown (Cx k)
abbrev Lg:Obj:=.cells #[σ,σ,σ,σ,σ,σ] 36
abbrev DY(k0:Int)(zs:E):Array Value:=#[Y k0,Y 10,Y 2,Y 0,O 0,O 0,Y 0,.string ⟨zs.toArray⟩,Y 0,ε,O 0,Y 0,Y 0,Y 0,Y 0,Y 0,ε,ε,Y 0,Y 0,Y 0,Y 0,Y 0,Y 0,Y 0,Y 0,Y 0,O 0,ε,Y 0,Y 0,Y 0,Y 0,Y 0,Y 0,ε,Y 0,Y 0,Y 0,Y 0,σ]
theorem Kd(h:p:=by
 have HS:=I hsu
 clear hsu hin
 go_wp2_with fail
 go_quiet (fail)
 go_wp2
 go_roundw
 case rel=>exact⟨j+1,by omega,by go_num,by rw[HS.o],⟨_,rfl⟩⟩
 case measure=>simp[intOf];omega):p:=h
theorem Ws(Good:Int->Array Value->Prop)(x:Nat->World->Prop)(y:List Int)(T)(m)(hm:Hid (y.length=m))(av:1<=m)(ax:m<=12)(b:y.getD 0 0=T)(a)(n ag kb)(w)(hs:ru Good w a n)(hn:n<=140737488355328)(au:kb<w.1.size)(hq:∀j,j<m->w.cell? (F kb j)=some (Y (y.getD j 0)))(p:∀wr,(w.alloc Lg).grownBy wr none->x 0 wr)(t:∀B,B.length=500->Good T (DY T B))(r:∀i wr f K,i<=n+1->x i wr->f∈y->K.size=41->K[0]?=some (Y f)->Good f K->Calls prog 5 #[N w.1.size 0,.agg K] wr λe d=>e=.returned (.bool true)/\x (i+1) d)(l:∀i wr,i<=n+1->x i wr->Calls prog 6 #[N w.1.size 2] wr λe d=>e=.returned (.bool true)/\x i d)(Q:∀i wr q,x i wr->x i (wr.drewN q))(u:∀i wr,x i wr->x (i+1) wr)(g:∀i wr,x i wr->Below w.1.size w wr):Calls prog 4 #[.slice a n ag,ς kb 0 m m] w λe d=>e=.returned (.bool true)/\Below w.1.size w d:=by
 have ad:T∈y:=by
  grind [Hid.o]
 have U:=hq 0 G
 rw[b]at U
 have az:(0:Int)<(m:Int):=G
 clear b
 go_in
 go_wp2
 go_loopw [6,7] (λs i wr=>∃k:Nat,k<=20/\i = Y k/\(∃b:ByteArray,s=.string b/\b.size=25*k)/\(w.alloc Lg).grownBy wr none) (λ_ i _=>20-(intOf i).toNat)
 case atStart=>exact⟨0,by omega,rfl,⟨_,rfl,rfl⟩,cC _ _⟩
 case round=>
  obtain⟨k,hk,rfl,⟨s,rfl,M⟩,D⟩:=hrel;by_cases L:k<20
  .have HS:=I M;have v:s.size<=500:=G;clear M;have d:#[Value.int IntKind.u8 (97+(k:Int))].toList=[UInt8.ofNat (97+k)].map U8:=by
    simp only[eN,fR,U8];rw[ez,eI G,show(97+(k:Int))=((97+k:Nat):Int) from by omega]
   have h:=ek (P:=prog) (wr.alloc (.cells #[.int .u8 (97+(k:Int))] 5)) 37 9 5 underlying37 underlying5 underlying9 (some ⟨wr.1.size,0,none⟩) 1 [UInt8.ofNat (97+k)] (dX wr 5 _ _ d);simp only[de,List.length_nil,cR]at h;clear d
   go_wp2;go_roundw
   case rel=>exact⟨k+1,by omega,by go_num,⟨_,rfl,by simp[HS.o,OS];omega⟩,aM D _⟩
   case measure=>simp[intOf];omega
  .have ae:k=20:=G;subst ae;obtain⟨B,ar⟩:∃B:E,s=⟨B.toArray⟩:=⟨s.data.toList,by simp⟩
   subst ar;have ao:B.length=500:=by
    have h:(⟨B.toArray⟩:ByteArray).size=B.length:=tD;omega
   clear M hk L;have h:=aa (cy w _ none) D;have d:=h.cell U Z;have V:=r 0 wr T (DY T B) G (p wr D) ad rfl rfl (t B ao);clear D h;go_wp2_with fail;refine V.mono ?_;rintro e w2 ⟨rfl,C⟩;clear V d;go_wp2;obtain⟨wo,an⟩:∃wo,wo=wr:=⟨wr,rfl⟩
   subst an;go_loopw [8,9,10,11] (λ_ i _ _ wr=>∃k:Nat,k<=n/\i = Y k/\x (k+1) wr) (λ_ i _ _ _=>n-(intOf i).toNat)
   case atStart=>grind
   case round=>
    obtain⟨k,hk,rfl,S⟩:=hrel;have X:=g _ _ S;by_cases L:k<n
    .obtain⟨b,ab,ah,_,f,K,A,W,aj,h⟩:=hs.below X k L;subst ah;have J:∀j,j<m->wr.cell? (F kb j)=some (Y (y.getD j 0)):=(by grind [RowKit.Below.cell])
     have ai:wr.cell? (F b (ab+k*41))=some (Y f):=h 0 _ (by rw[<-W];simp);go_wp2;obtain⟨wi,al⟩:∃wi,wi=wr:=⟨wr,rfl⟩
     subst al;go_loopw [10,11] (λd i wr=>∃j:Nat,j<=m/\i = Y j/\d=.bool (EP y f j)/\∃q,wr=wi.drewN q) (λ_ i _=>m-(intOf i).toNat)
     case atStart=>exact⟨0,by omega,rfl,rfl,0,rfl⟩
     case round=>
      obtain⟨j,hj,rfl,rfl,q,rfl⟩:=hrel;by_cases ak:j<m
      .have v:=J j ak;have N7:(j:Int)<(m:Int):=G;have R:(0:Int)<=(j:Int):=G;obtain⟨kj,d⟩:=aw (y.getD j 0);have i:=I d;rw[<-d]at v;clear d;clear J h S X hs U hq C r l p t Q u g W;cases hin:EP y f j
       .have hsu:EP y f (j+1)=(f==kj):=(by rw[EP,hin,i];rfl);exact Kd
       .have hsu:EP y f (j+1)=true:=(by rw[EP,hin];rfl);exact Kd
      .have af:j=m:=G;subst af;have N7:¬ (j:Int)<(j:Int):=G;cases hin:EP y f j
       .have R:=u _ _ (Q _ _ q S);clear J h hs U C hq r l p t Q u g S X W;go_wp2;go_roundw
        case rel=>exact⟨k+1,by omega,by go_num,R⟩
        case measure=>simp[intOf];omega
       .have Ny:=Z5 (by rw[hm];exact cA _) hin;have V:=r (k+1) (wi.drewN q) f K G (Q _ _ q S) Ny A W aj;have R:=l (k+1+1);clear hin J hs U C hq r l p t Q u g S X W;go_wp2_with (refine EC rfl 48 _ rfl ⟨b,ab+k*41,none⟩ rfl K _ ?l1 underlying48 rfl (by rw[A];exact Tryz.KV) ?_)
        case l1=>intro j v d;exact h j v (by simpa using d)
        clear h ai;refine V.mono ?_;rintro e v ⟨rfl,d⟩;clear V;have i:=R v G d;clear R d;go_wp2_with fail;refine i.mono ?_;rintro e w6 ⟨rfl,d⟩;clear i;go_wp2;go_roundw
        case rel=>exact⟨k+1,by omega,by go_num,d⟩
        case measure=>simp[intOf];omega
    .clear hs U hq C r l p t Q u g;go_wp2;go_ret;exact⟨rfl,X⟩
theorem yv(h:p:=by show _=_;rw[HP];exact ee (by omega)):p:=h
theorem yq(h:p:=by rw[HP];exact cY (by omega)):p:=h
theorem OU{S:ByteArray}{l:E}(a:S=⟨l.toArray⟩)(j)(h:j<S.size):S[j]'h=l.getD j 0:=by
 subst a;have b:j<l.length:=by simpa[ByteArray.size]using h
 simp only[List.getD,cN b,Option.getD_some];rfl
theorem B8(h:p:=by
 go_wp2
 go_round
 case rel=>exact⟨k+1,by omega,by go_num,by show _=_;rw[Z7];exact HY⟩
 case measure=>simp[intOf];omega):p:=h
theorem BC(h:p:=by
 go_wp2
 go_ret
 exact⟨by rw[HR];rfl,rfl⟩):p:=h
theorem AT(h:p:=by
 go_wp2
 go_ret
 exact⟨by rw[HF];rfl,rfl⟩):p:=h
theorem wQ(l)(n)(S)(w)(m:Hid (S=⟨l.toArray⟩))(hn:Hid (l.length=n))(y:n<=9223372036854775807):Calls prog 56 #[.string S] w λe a=>e=.returned (.bool (dx l))/\w=a:=by
 have t:S.size=n:=by rw[m,<-hn];simp[ByteArray.size]
 go_in
 go_wp2
 go_loop [3] (λi=>∃k:Nat,k<=n/\i = Y k/\Hid ((l.take k).all jL=true)) (λi=>n-(intOf i).toNat)
 case atStart=>exact⟨0,cS _,rfl,I Z⟩
 case round=>
  obtain⟨k,x,rfl,i⟩:=hrel;by_cases hlt:k<n
  .have a:k<l.length:=nB;have g:=OU m k;have Z7:=I (yU a);rw[i,gO]at Z7;have b:Hid (jL (l.getD k 0)=false->dx l=false):=by
    intro h;rw[dx];have:l.all jL=false:=by
     have d:l.getD k 0∈l:=by
      rw[show l.getD k 0=l[k] from by simp[List.getD,List.getElem?_eq_getElem a]];exact eh a
     rw[List.all_eq_false];exact⟨_,d,by rw[h];simp⟩
    rw[this,Bool.and_false]
   generalize l.getD k 0=z at g Z7 b;have A:=z.toNat_lt;have u:(k:Int)<(n:Int):=G;have r:(0:Int)<=(k:Int):=G;have HP:Hid (jL z=decide ((97<=z.toNat/\z.toNat<=122)\/(48<=z.toNat/\z.toNat<=57)\/z.toNat=47)):=rfl;by_cases v:97<=z.toNat
   .have d:(97:Int)<=(z.toNat:Int):=G;by_cases f:z.toNat<=122
    .have e:(z.toNat:Int)<=122:=G;have HY:Hid (jL z=true):=yv;exact B8
    .have e:¬ (z.toNat:Int)<=122:=G;have HF:=I (b yq);have p:¬ (z.toNat:Int)<=57:=G;have q:((z.toNat:Int)==47)=false:=mC;exact AT
   .have d:¬ (97:Int)<=(z.toNat:Int):=G;by_cases p:48<=z.toNat
    .have e:(48:Int)<=(z.toNat:Int):=G;by_cases q:z.toNat<=57
     .have f:(z.toNat:Int)<=57:=G;have HY:Hid (jL z=true):=yv;exact B8
     .have f:¬ (z.toNat:Int)<=57:=G;have HF:=I (b yq);have j:((z.toNat:Int)==47)=false:=mC;exact AT
    .have e:¬ (48:Int)<=(z.toNat:Int):=G;by_cases q:z.toNat=47
     .have j:((z.toNat:Int)==47)=true:=oU;have HY:Hid (jL z=true):=yv;clear q;exact B8
     .have j:((z.toNat:Int)==47)=false:=mC;have HF:=I (b yq);exact AT
  .have f:k=n:=G;subst f;have u:¬ (k:Int)<(k:Int):=G;have a:Hid (l.all jL=true):=(by show _=_;rw[<-i,cW (by rw[hn];exact cA _)]);by_cases g:1<=k
   .have e:(1:Int)<=(k:Int):=G;by_cases b:k<=16
    .have d:(k:Int)<=16:=G;have HR:Hid (dx l=true):=(by show _=_;rw[dx,a,hn,gh];exact ee ⟨g,b⟩);exact BC
    .have d:¬ (k:Int)<=16:=G;have HR:Hid (dx l=false):=(by show _=_;rw[dx,a,hn,gh];exact cY (λh=>b h.2));exact BC
   .have e:¬ (1:Int)<=(k:Int):=G;have HR:Hid (dx l=false):=(by show _=_;rw[dx,a,hn,gh];exact cY (λh=>g h.1));exact BC
theorem tU(h:p:=by
 go_in
 go_wp2
 go_ret
 exact⟨by rw[HD];rfl,cy w _ none⟩):p:=h
theorem nK(a:nC)(w):Calls prog 55 #[.agg a.cells] w λe b=>e=.returned (.bool a.qQ)/\w.grownBy b none:=by
 obtain⟨m,n,g,f,e,p,d⟩:=a;have b:Hid (nC.qQ ⟨m,n,g,f,e,p,d⟩=decide (0<=f/\0<=e/\0<=d/\d<64)):=rfl;simp only[nC.cells];by_cases i:0<=f
 .by_cases j:0<=e
  .by_cases k:0<=d
   .by_cases l:d<64
    .have HD:=I (b.o.trans (ee ⟨i,j,k,l⟩));exact tU
    .have HD:=I (b.o.trans (cY (λh=>l h.2.2.2)));exact tU
   .have HD:=I (b.o.trans (cY (λh=>k h.2.2.1)));exact tU
  .have HD:=I (b.o.trans (cY (λh=>j h.2.1)));exact tU
 .have HD:=I (b.o.trans (cY (λh=>i h.1)));exact tU
structure RE where
 k:Int
 name:E
 Ak:UInt64
 bH:Int
 aD:Int
 bB:Int
 ae:Int
 aH:Int
 key:UInt64
 before:UInt64
def RE.cells(e:RE):List Value:=[Y e.k,.string ⟨e.name.toArray⟩,O (e.Ak.toNat:Int),Y e.bH,Y e.aD,Y e.bB,Y e.ae,Y e.aH,O (e.key.toNat:Int),O (e.before.toNat:Int)]
def bL(l:List RE):List Value:=(l.map RE.cells).flatten
theorem iC(l):∀(k j)(a:k<l.length),j<10->(bL l)[k*10+j]?=(l[k]).cells[j]?:=by
 induction l with
 |nil=>intro k j a;simp at a
 |cons x l d=>
  intro k j a b;have e:bL (x::l)=x.cells++bL l:=by simp[bL]
  rw[e];cases k with
  |zero=>rw[gj,cR,cX (by show j<10;exact b)];rfl
  |succ k=>
   rw[dr (by show 10<=(k+1)*10+j;omega),show(k+1)*10+j-x.cells.length=k*10+j from by show(k+1)*10+j-10=k*10+j;omega];grind
structure iW(w:World)(base pb:Nat)(ax:Int)(bv pv dv:Value)(es:List RE)(ds:E):Prop where
 blk:dm w pb #[Y ax,bv,pv,dv]
 aC:w.ownsRow base 166 10 bv es.length (bL es)
 aL:w.ownsRow base 5 1 dv ds.length (ds.map U8)
 here:base<=pb
 bne:bv.ownBlock≠some pb
 Wt:dv.ownBlock≠some pb
 apart:bv.ownBlock=none\/bv.ownBlock≠dv.ownBlock
theorem iW.grown{w l:World}{a i:Nat}{b:Int}{d j f:Value}{g:List RE}{e:E}(h:iW w a i b d j f g e)(k:w.grownBy l none):iW l a i b d j f g e:=
 ⟨h.blk.grown k Z,h.aC.kept k (fm _),h.aL.kept k (fm _),h.here,h.bne,h.Wt,h.apart⟩
def gG(es:List RE)(l:E):Int:=
 match es.findIdx? (λe=>e.name==l)with
 |some i=>(i:Int)
 |none=>-1
theorem Sa{a:List RE}{l:E}{k:Nat}(f:k<a.length)(h:a[k].name=l)(b:∀j(d:j<k),(a[j]'G).name≠l):gG a l=(k:Int):=by
 have:a.findIdx? (λe=>e.name==l)=some k:=by
  rw[List.findIdx?_eq_some_iff_getElem];grind
 rw[gG,this]
theorem Sb{a:List RE}{l:E}(d:∀j(b:j<a.length),a[j].name≠l):gG a l=-1:=by
 have:a.findIdx? (λe=>e.name==l)=none:=by
  rw[List.findIdx?_eq_none_iff];intro x e;obtain⟨j,b,rfl⟩:=List.mem_iff_getElem.1 e;simpa using d j b
 rw[gG,this]
theorem Dd{a b:E}{S T:ByteArray}(d:S=⟨a.toArray⟩)(e:T=⟨b.toArray⟩):(S.toList==T.toList)=(a==b):=by
 subst d e;rw[ByteArray.toList_mk,ByteArray.toList_mk]
theorem E2(h:p:=by
 rw[hm]at hbk
 rw[hbk.cellAt (k*10+1) G,iC es k 1 hlt' G]
 rfl):p:=h
theorem oP(f v)(A)(B Q J)(es)(D l)(m)(S)(w)(b:iW w f v A B Q J es D)(hm:Hid (es.length=m))(W:m<=1000)(K:Hid (S=⟨l.toArray⟩)):Calls Tryz.prog 54 #[N v 0,.string S] w λe a=>e=.returned (Y (gG es l))/\w.grownBy a none:=by
 obtain⟨y,U,e⟩:=bA b.aC
 rw[hm]at e
 subst e
 have t:=b.blk.cell 1
 simp only[cI,cH,cL]at t
 go_enter Tryz.func54,Tryz.ntmps54
 go_wp2
 go_loopw [5] (λi wr=>∃k:Nat,k<=m/\i = Y k/\Hid (∀j(u:j<es.length),j<k->es[j].name≠l)/\w.grownBy wr none) (λi _=>m-(intOf i).toNat)
 case atStart=>grind [I,cC]
 case round=>
  obtain⟨k,V,rfl,R,a⟩:=hrel;have C:=a.cell t Z;by_cases hlt:k<m
  .have hlt':k<es.length:=tz;have P:(k:Int)<(m:Int):=G;have M:(0:Int)<=(k:Int):=G;obtain⟨p,q⟩:∃p,y=some ⟨p,0,none⟩:=by
    rcases b.aC.2 with⟨h,n⟩|⟨g,d,i,h,_⟩
    .omega
    grind
   subst q;have d:wr.cell? (F p (k*10+1))=some (.string ⟨es[k].name.toArray⟩):=by
    have hbk:=(b.grown a).aC;exact E2
   obtain⟨T,g⟩:∃T:ByteArray,T=⟨es[k].name.toArray⟩:=⟨_,rfl⟩
   rw[<-g]at d;have i:=Dd g K.o;by_cases h:es[k].name=l
   .have r:(T.toList==S.toList)=true:=(by rw[i,h];simp);have n:Hid (gG es l=(k:Int)):=(by grind [Sa,Hid.o])
    clear h i g b;go_wp2;go_ret;exact⟨bE (by rw[n]),a⟩
   .have r:(T.toList==S.toList)=false:=(by rw[i];simpa using h);have x:Hid (∀j(u),j<k+1->es[j].name≠l):=by
     intro j u L;grind [Hid.o]
    clear h i g b;go_wp2;go_roundw
    case rel=>exact⟨k+1,by omega,by go_num,x,a⟩
    case measure=>simp[intOf];omega
  .have j:k=m:=G;subst j;have P:¬ (k:Int)<(k:Int):=G;have n:Hid (gG es l=-1):=(by grind [Hid.o,Sb])
   clear b;go_wp2;go_ret;exact⟨bE (by rw[n]),a⟩
theorem yk(h:p:=by simpa[Value.ownBlock]using hg1):p:=h
theorem mV{P:Program}{q:Array Oper}{o:Oper}{a:Act}{w:World}{K:Act->World->Prop}{Q:Exit->Act->World->Prop}{E:Prop}(J:o.guard=none)(s x)(t)(hop:o.op=Op.call {callee:=Callee.builtin Builtin.append,args:=#[s,x],argTypes:=#[t,t]})(f)(e)(i)(z)(size d)(S:P.underlying t=some (.slice e))(L:P.info? e=some i)(T:i.zero=some z)(l:i.size=size)(y:i.bytes=d)(B:z.cells.size=size)(A:0<size)(v)(n)(C)(hs:a.eval s=v)(p:w.ownsRow f e size v n C)(r)(m c)(b)(hx:a.eval x=.slice (some r) m c)(M:b.length=m*size)(k:∀j u,b[j]?=some u->w.cell? (r.add j)=some u)(D:∀u∈b,u.oneCell'=true)(R:0<m)(j:n+m<=maxLen)(g:(n+m)*d<=140737488355328)(h:f<=w.1.size)(hK:∀v' w',w'.ownsRow f e size v' (n+m) (C++b)->w.grownBy w' v.ownBlock->Hid (v'.ownBlock=v.ownBlock\/v'.ownBlock=some w.1.size)->K (a.put o.dst v') w'):
  if Region.wanted o (yielded q a.tmps)=true then Oper.wp P o a w K Q else E:=by
 have hw:Region.wanted o (yielded q a.tmps)=true:=by simp[Region.wanted,J]
 rw[dQ hw]
 obtain⟨v',w',hrun,r1,r2,r3⟩:=rQ (P:=P) w f t o.type e i z size d S L T l y B A v n C p r m c b M k D R j g h
 exact IF
theorem Z8(a)(v)(w)(h:a<0\/300<a):Calls prog 27 #[Y a,v] w λe b=>e=.returned (.tuple #[.pointer none,Y 1])/\w=b:=by
 by_cases b:a<0
 .go_in;go_wp2;exact lP
 .have d:300<a:=G;go_in;go_wp2;exact lP
theorem Wz(a)(g)(j)(n)(k)(b)(w)(M:0<=g)(P:g<=300)(A:Hid (j.length=n))(Q:n<=140737488355328)(q:Hid (k=none->b=0))(i:At w k j)(f:a<=w.1.size):Calls prog 27 #[Y g,.slice k n b] w λe d=>∃h,e=.returned (.tuple #[N w.1.size 0,Y 0])/\iW d a w.1.size g σ σ h [] j/\w.grownBy d none:=by
 obtain⟨C,p,t,u,v⟩:=info_parts Tryz.info5
 have l:w.grownBy (w.alloc (.cells #[Y g,σ,σ,σ] 144)) none:=cy w _ none
 have h:=dm.new w #[Y g,σ,σ,σ] 144
 have y:=i.below l
 go_in
 go_wp2_with (at_builtin;refine bJ _ rfl _ _ 37 rfl (w.1.size+1) 5 C underlying37 p t u v _ 0 [] rfl (World.ownsRow_nil _ _ _ _) k n b j rfl A q y G Z ?_)
 intro K L hown1 hg1 _
 have d:=h.grown hg1 (by simp[Value.ownBlock])
 have B:=aa l (row:=none) yk
 have x:L.ownsRow (w.1.size+1) 5 1 K n (j.map U8):=sE
 obtain⟨m,o,rfl,_,_,_,_⟩:=ig x
 have D:=d.cell 3
 have J:=d.frozen 3
 simp only[cI,cH,cL]at D
 have r:(Value.slice m n o).ownBlock≠some w.1.size:=λe=>by have:=(x.lt _ e).1;omega
 clear hown1 hg1 h l y i
 go_wp2
 go_ret2
 refine⟨.slice m n o,rfl,⟨?_,World.ownsRow_nil _ _ _ _,?_,f,by simp[Value.ownBlock],r,.inl rfl⟩,aB B (cA _)⟩
 .have:=d.set 3 (.slice m n o);simpa using this
 .rw[A];exact nO (ownsRow_setCell_below x (by show w.1.size<w.1.size+1;omega) _) G
theorem re(h:p:=by show w.1.size<w.1.size+2;omega):p:=h
theorem wa(h:p:=by show w.1.size+1<w.1.size+2;omega):p:=h
variable {g:Nat}
theorem Tryz.U0:(prog.info? 9).map (λi=>(i.zero,i.size,i.bytes))=some (some ε,1,16):=by kernel_rfl
theorem Tryz.aeg:(prog.info? 3).map (λi=>(i.zero,i.size,i.bytes))=some (some (Y 0),1,8):=by kernel_rfl
theorem Wu{w:World}{x y z u:Value}(h:dm w g #[x,y,z,u]):(loadVar 101 ⟨g,0,none⟩).run prog w=.ok (.agg #[x,y,z,u]) w:=
 h.load 101 _ underlying101 rfl f'
theorem jM{e:Func}{a:Tmp}{f:TypeId}(h:e.results=#[.cell a f])(d)(P)(w)(b)(hp:d.getD a undef = N b 0)(x)(hl:(loadVar f ⟨b,0,none⟩).run P w=.ok x w):
  (results e d).run P w=.ok x w:=by
 have hp':d[a]?.getD undef = N b 0:=rI
 exact rL
theorem Z9{w:World}{a b c d:Value}(h:dm w g #[a,b,c,d])(x y z u):dm ((((w.s g 0 x).s g 1 y).s g 2 z).s g 3 u) g #[x,y,z,u]:=by
 simpa using(((h.set 0 x).set 1 y).set 2 z).set 3 u
theorem Wx{a b:World}{x y z u:Value}(h:a.grownBy b none)(d:a.1.size<=g):a.grownBy ((((b.s g 0 x).s g 1 y).s g 2 z).s g 3 u) none:=
 (by grind [aB])
def wR(e:RE):Value:=.string ⟨e.name.toArray⟩
def ET(e:RE):Value:=Y e.aH
abbrev ma:Array Value:=#[σ,σ,Y 0,Y 0]
theorem Sc(base pb)(ax)(bv dv)(pa)(P pc:Nat)(f)(ds)(m L:Nat)(w)(M:iW w base pb ax bv (.slice pa P pc) dv f ds)(hm:Hid (f.length=m))(yP:m<=1000)(bl:Hid (ds.length=L)):Calls prog 36 #[N pb 0] w λe a=>∃t C,e=.returned (.agg #[t,C,Y (P:Int),Y (L:Int)])/\a.ownsRow w.1.size 9 1 t m (f.map wR)/\a.ownsRow w.1.size 3 1 C m (f.map ET)/\w.grownBy a none:=by
 obtain⟨is,bq,bs,bt,bu⟩:=info_parts Tryz.U0
 obtain⟨ii,bp,bm,bn,bo⟩:=info_parts Tryz.aeg
 obtain⟨ab,cb,al⟩:=bA M.aC
 rw[hm]at al
 subst al
 obtain⟨ad,cd,ao⟩:=bA M.aL
 rw[bl]at ao
 subst ao
 have G0:w.grownBy (w.alloc (.cells ma 101)) none:=cy w _ none
 have a:=M.grown G0
 have c1:=a.blk.cell 1
 have d:=a.blk.cell 2
 have g:=a.blk.cell 3
 simp only[cI,cH,cL]at c1 d g
 have b:=a.grown (cy (w.alloc (.cells ma 101)) (.cells ma 101) none)
 have h:=b.blk.cell 2
 have i:=b.blk.cell 3
 simp only[cI,cH,cL]at h i
 go_in
 go_wp2_with fail
 go_region
 clear c1 d g h i b a
 have Gs:w.grownBy ((w.alloc (.cells ma 101)).alloc (.cells #[σ,σ,Y (P:Int),Y (L:Int)] 101)).drew none:=bg (aM G0 _)
 go_wp2_with fail
 go_loopw [4] (λi wr=>∃(k:Nat) (t C:Value),k<=m/\i = Y k/\wr.ownsRow (w.1.size+2) 9 1 t k ((f.take k).map wR)/\wr.ownsRow (w.1.size+2) 3 1 C k ((f.take k).map ET)/\dm wr (w.1.size+1) #[t,C,Y (P:Int),Y (L:Int)]/\dm wr w.1.size ma/\Hid (t.ownBlock=none\/t.ownBlock≠C.ownBlock)/\w.grownBy wr none/\w.1.size+2<=wr.1.size) (λi _=>m-(intOf i).toNat)
 case atStart=>
  refine⟨0,σ,σ,cS _,rfl,World.ownsRow_nil _ _ _ _,World.ownsRow_nil _ _ _ _,?_,((dm.new w _ _).alloc _).drew,I (.inl rfl),Gs,by show _<=((w.alloc _).alloc _).1.size;simp⟩;have:=(dm.new (w.alloc (.cells ma 101)) #[σ,σ,Y (P:Int),Y (L:Int)] 101).drew;rw[cG]at this;exact this
 case round=>
  obtain⟨k,t,C,hk,rfl,Q,JL,X,A,R,K,bk⟩:=hrel;obtain⟨an,cn,rfl⟩:=bA Q;obtain⟨v,x,rfl⟩:=bA JL;have J:=M.grown K;have c1:=J.blk.cell 1;have q0:=X.cell 0;have q1:=X.cell 1;have q2:=X.cell 2;have q3:=X.cell 3;simp only[cI,cH,cL]at c1 q0 q1 q2 q3;by_cases hlt:k<m
  .have B:k<f.length:=tz;have nG:(k:Int)<(m:Int):=G;have cj:=hlt;have ch:(0:Int)<=(k:Int):=G;obtain⟨g0,bf⟩:∃g0,ab=some ⟨g0,0,none⟩:=by
    rcases M.aC.2 with⟨h,d⟩|⟨g,a,b,h,_⟩
    .omega
    .simp at h;exact⟨g,h.1⟩
   subst bf;have b:=J.aC;rw[hm]at b;have e1:wr.cell? (F g0 (k*10+1))=some (wR f[k]):=by
    rw[b.cellAt (k*10+1) G,iC f k 1 B G];rfl
   have V:∀a,w.grownBy a none->a.cell? (F g0 (k*10+7))=some (ET f[k]):=λa hx=>by
    have d:=(M.grown hx).aC;rw[hm]at d;rw[d.cellAt (k*10+7) G,iC f k 7 B G];rfl
   have aj:∀a,w.grownBy a none->a.cell? (F pb 1)=some (ς g0 0 m cb):=λa hx=>by
    have:=(M.grown hx).blk.cell 1;simpa using this
   have j:Hid (f.take (k+1)=f.take k++[f[k]]):=dy B;obtain⟨T,l⟩:∃T:ByteArray,wR f[k]=.string T:=⟨_,rfl⟩
   obtain⟨y,d⟩:∃y:Int,ET f[k] = Y y:=⟨_,rfl⟩
   have ar:Hid ((f.take (k+1)).map wR=(f.take k).map wR++[.string T]):=(by show _=_;rw[j,ej,<-l];rfl);have av:Hid ((f.take (k+1)).map ET=(f.take k).map ET++[Y y]):=(by show _=_;rw[j,ej,<-d];rfl);rw[l]at e1;rw[d]at V;have ui:k+1<=maxLen:=lA;have ba:(k+1)*16<=140737488355328:=G;have az:(k+1)*8<=140737488355328:=G;have bb:=(cy wr (.cells #[.string T] 9) none).cell e1 Z;have bx:=(cy wr (.cells #[.string T] 9) none).cell q0 Z;have D:∀g,g<w.1.size+2->some g≠(Value.slice an k cn).ownBlock:=λg hg e=>by have:=(Q.lt g e.symm).1;omega
   clear l d b j;go_upto_region 5 with fail
   go_cut [4] (λi a=>i = Y k/\∃n:Value,a.ownsRow (w.1.size+2) 9 1 n (k+1) ((f.take (k+1)).map wR)/\a.ownsRow (w.1.size+2) 3 1 (.slice v k x) k ((f.take k).map ET)/\dm a (w.1.size+1) #[n,.slice v k x,Y (P:Int),Y (L:Int)]/\dm a w.1.size ma/\Hid (n.ownBlock=none\/n.ownBlock≠(Value.slice v k x).ownBlock)/\w.grownBy a none/\w.1.size+2<=a.1.size)
   case first=>
    have RR:∀b d j,j.ownsRow (w.1.size+2) 9 1 (.slice b (k+1) d) (k+1) ((f.take k).map wR++[.string T])->(wr.alloc (.cells #[.string T] 9)).grownBy j (Value.slice an k cn).ownBlock->((Value.slice b (k+1) d).ownBlock=(Value.slice an k cn).ownBlock\/(Value.slice b (k+1) d).ownBlock=some (wr.1.size+1))->
      ∃n,(j.setCell (F (w.1.size+1) 0) (.slice b (k+1) d)).ownsRow (w.1.size+2) 9 1 n (k+1) ((f.take (k+1)).map wR)/\(j.setCell (F (w.1.size+1) 0) (.slice b (k+1) d)).ownsRow (w.1.size+2) 3 1 (.slice v k x) k ((f.take k).map ET)/\dm (j.setCell (F (w.1.size+1) 0) (.slice b (k+1) d)) (w.1.size+1) #[n,.slice v k x,Y (P:Int),Y (L:Int)]/\dm (j.setCell (F (w.1.size+1) 0) (.slice b (k+1) d)) w.1.size ma/\Hid (n.ownBlock=none\/n.ownBlock≠(Value.slice v k x).ownBlock)/\w.grownBy (j.setCell (F (w.1.size+1) 0) (.slice b (k+1) d)) none/\w.1.size+2<=(j.setCell (F (w.1.size+1) 0) (.slice b (k+1) d)).1.size:=by
     intro b d j a l r
     have p:=(X.alloc (.cells #[.string T] 9)).grown l (D _ G)
     have W:=(A.alloc (.cells #[.string T] 9)).grown l (D _ G)
     have af:=l.size
     rw[cG]at af
     refine⟨.slice b (k+1) d,ownsRow_setCell_below (by rw[ar];exact a) wa _,ownsRow_setCell_below ((JL.alloc _).kept l ?_) wa _,by simpa using p.set 0 (.slice b (k+1) d),W.other _ _ vu,?_,aB (gI (aM K _) l (λi hi=>by have:=(Q.lt i hi).1;omega)) G,by rw[World.size_setCell];omega⟩
     .rcases R.o with h|h
      .rw[h];exact fm _
      .exact .inr (λe=>h e.symm)
     .rcases r with h|h
      .rw[h];exact R.o
      .refine .inr ?_;rw[h];intro e;have:=(JL.lt _ e.symm).2;omega
    go_wp2_with fail;go_region_law (first|(refine mV rfl _ _ 62 rfl (w.1.size+2) 9 is _ 1 16 underlying62 bq bs bt bu rfl H (.slice an k cn) k _ ?s1 (Q.alloc _) ⟨wr.1.size,0,none⟩ 1 1 [.string T] ?s2 rfl ?s3 ?s4 G ui ba ?s5 ?_;(case s1=>first|rfl|simp[Act.eval,Act.put]);(case s2=>first|rfl|simp[Act.eval,Act.put]);(case s3=>exact gX wr _ _);(case s4=>intro u hu;simp at hu;rcases hu with rfl;rfl);(case s5=>simp;omega);intro v6 j a l q;obtain⟨b,d,ag⟩:=bA a;subst ag;have EW:(wr.alloc (.cells #[.string T] 9)).grownBy j (Value.slice an k cn).ownBlock:=⟨l.os,l.tape,l.output,l.size,l.block⟩;have p:=(X.alloc (.cells #[.string T] 9)).grown EW (D _ G);have S:=p.cell 0;have U:=p.frozen 0;simp only[cI,cH]at S;have R6:=I (RR b d j a EW (by simpa using q.o))))
    all_goals
     go_wp2_with fail
     go_meet
     case rel=>exact⟨rfl,R6⟩
   case rest=>
    obtain⟨rfl,n,Sd,Sg,ae,bc,ah,S,bz⟩:=hcut;obtain⟨ai,ak,rfl⟩:=bA Sd;have e7:=V _ S;have ca:=aj _ S;have cc:=(cy wc (.cells #[Y y] 3) none).cell e7 Z;have x1:=ae.cell 1;simp only[cI,cH,cL]at x1;have ck:=(cy wc (.cells #[Y y] 3) none).cell x1 Z;have U:∀g,g<w.1.size+2->some g≠(Value.slice v k x).ownBlock:=λg hg e=>by have:=(Sg.lt g e.symm).1;omega
    clear Q JL X A R K bk J e1 bb q0 bx q1 q2 q3 c1 D V aj
    have RR:∀b d j,j.ownsRow (w.1.size+2) 3 1 (.slice b (k+1) d) (k+1) ((f.take k).map ET++[Y y])->(wc.alloc (.cells #[Y y] 3)).grownBy j (Value.slice v k x).ownBlock->((Value.slice b (k+1) d).ownBlock=(Value.slice v k x).ownBlock\/(Value.slice b (k+1) d).ownBlock=some (wc.1.size+1))->
      ∃(t C:Value),(j.setCell (F (w.1.size+1) 1) (.slice b (k+1) d)).ownsRow (w.1.size+2) 9 1 t (k+1) ((f.take (k+1)).map wR)/\(j.setCell (F (w.1.size+1) 1) (.slice b (k+1) d)).ownsRow (w.1.size+2) 3 1 C (k+1) ((f.take (k+1)).map ET)/\dm (j.setCell (F (w.1.size+1) 1) (.slice b (k+1) d)) (w.1.size+1) #[t,C,Y (P:Int),Y (L:Int)]/\dm (j.setCell (F (w.1.size+1) 1) (.slice b (k+1) d)) w.1.size ma/\Hid (t.ownBlock=none\/t.ownBlock≠C.ownBlock)/\w.grownBy (j.setCell (F (w.1.size+1) 1) (.slice b (k+1) d)) none/\w.1.size+2<=(j.setCell (F (w.1.size+1) 1) (.slice b (k+1) d)).1.size:=by
     intro b d j a l r
     have p:=(ae.alloc (.cells #[Y y] 3)).grown l (U _ G)
     have W:=(bc.alloc (.cells #[Y y] 3)).grown l (U _ G)
     have af:=l.size
     rw[cG]at af
     refine⟨.slice ai (k+1) ak,.slice b (k+1) d,ownsRow_setCell_below ((Sd.alloc _).kept l ah) wa _,ownsRow_setCell_below (by rw[av];exact a) wa _,by simpa using p.set 1 (.slice b (k+1) d),W.other _ _ vu,?_,aB (gI (aM S _) l (λi hi=>by have:=(Sg.lt i hi).1;omega)) G,by rw[World.size_setCell];omega⟩
     rcases r with h|h
     .rw[h];exact ah.o
     .rw[h];cases hx:(Value.slice ai (k+1) ak).ownBlock with
      |none=>exact .inl rfl
      |some g=>
       refine .inr ?_;have:=(Sd.lt g hx).2;simp;omega
    go_wp2_with fail;go_region_law (first|(refine mV rfl _ _ 24 rfl (w.1.size+2) 3 ii _ 1 8 underlying24 bp bm bn bo rfl H (.slice v k x) k _ ?s1 (Sg.alloc _) ⟨wc.1.size,0,none⟩ 1 1 [Y y] ?s2 rfl ?s3 ?s4 G ui az ?s5 ?_;(case s1=>first|rfl|simp[Act.eval,Act.put]);(case s2=>first|rfl|simp[Act.eval,Act.put]);(case s3=>exact gX wc _ _);(case s4=>intro u hu;simp at hu;rcases hu with rfl;rfl);(case s5=>simp;omega);intro v6 j a l q;obtain⟨b,d,ag⟩:=bA a;subst ag;have EW:(wc.alloc (.cells #[Y y] 3)).grownBy j (Value.slice v k x).ownBlock:=⟨l.os,l.tape,l.output,l.size,l.block⟩;have p:=(ae.alloc (.cells #[Y y] 3)).grown EW (U _ G);have h:=p.cell 1;have i:=p.frozen 1;simp only[cI,cH,cL]at h;have R6:=I (RR b d j a EW (by simpa using q.o))))
    all_goals
     go_wp2
     go_roundw
     case rel=>
      obtain⟨e,g,r⟩:=R6.o;exact⟨k+1,e,g,by omega,by go_num,r⟩
     case measure=>simp[intOf];omega
  .have e:k=m:=G;subst e;have nG:¬ (k:Int)<(k:Int):=G;have a:=cW (by rw[hm];exact cA _);rw[a]at Q JL;have b:=A.cell 0;have d:=A.cell 1;have g:=A.cell 2;have h:=A.cell 3;have i:=A.frozen 0;have s1:=A.frozen 1;have s2:=A.frozen 2;have s3:=A.frozen 3;simp only[cI,cH,cL]at b d g h;clear a M J;go_wp2;(try simp only[Exit.inBlock,Exit.then]);refine bodyPost_ret (jM rfl _ _ _ w.1.size rfl _ (Wu (Z9 A _ _ _ _))) rfl ?_;refine⟨.slice an k cn,.slice v k x,rfl,nO (base:=w.1.size+2) ?_ G,nO (base:=w.1.size+2) ?_ G,Wx K (cA _)⟩
   .exact ownsRow_setCell_below (ownsRow_setCell_below (ownsRow_setCell_below (ownsRow_setCell_below Q re _) re _) re _) re _
   .exact ownsRow_setCell_below (ownsRow_setCell_below (ownsRow_setCell_below (ownsRow_setCell_below JL re _) re _) re _) re _
variable {zs:E}{v:Value}{w:World}
def gQ(w:World)(v:Value)(zs:E):Prop:=∃ao cap,v=.slice ao zs.length cap/\zs.length<=cap/\cap<=maxLen/\(ao=none->cap=0)/\At w ao zs
theorem gQ.grown{b:World}(h:gQ w v zs)(k:w.grownBy b none):gQ b v zs:=by
 obtain⟨d,a,e,f,g,i,j⟩:=h;exact⟨d,a,e,f,g,i,j.below k⟩
theorem gQ.drewN(h:gQ w v zs)(m):gQ (w.drewN m) v zs:=by
 obtain⟨b,a,d,e,f,g,i⟩:=h;exact⟨b,a,d,e,f,g,i.drewN m⟩
theorem gQ.own{base:Nat}{e:TypeId}(h:w.ownsRow base e 1 v zs.length (zs.map U8)):gQ w v zs:=by
 obtain⟨b,a,d,f,g,i,j⟩:=ig h;exact⟨b,a,d,f,g,i,j⟩
theorem gQ.nil(w):gQ w σ []:=⟨none,0,rfl,cA _,cS _,λ_=>rfl,At.nil w none⟩
theorem gQ.one(h:gQ w v zs):v.oneCell'=true:=by
 obtain⟨b,a,rfl,_⟩:=h;rfl
theorem XN(tag)(zs)(n)(k)(b)(w)(v:Hid (zs.length=n))(u:65535<n)(B:n<=140737488351232)(l:Hid (k=none->b=0))(x:At w k zs):Calls prog 88 #[.int .u8 (tag.toNat:Int),.slice k n b] w λe a=>∃o,e=.returned o/\a.ownsRow w.1.size 5 1 o (Box.box tag zs).length ((Box.box tag zs).map U8)/\w.grownBy a none:=by
 obtain⟨q,e,g,h,j⟩:=info_parts Tryz.info5
 have a:=UT w 5 tag
 have p:w.grownBy (w.alloc (.cells #[.int .u8 (tag.toNat:Int)] 5)) none:=cy w _ none
 have r:¬ (n:Int)<128:=G
 have t:¬ (n:Int)<256:=G
 have A:Hid (Box.box tag zs=[tag]++[130,UInt8.ofNat (n / 256),UInt8.ofNat (n % 256)]++zs):=yy
 have m:=Zm n
 go_in
 go_wp2_with (at_builtin;refine bJ _ rfl _ _ 37 rfl w.1.size 5 q underlying37 e g h j _ _ _ rfl (a.alloc _) (some ⟨w.1.size+1,0,none⟩) 3 3 [130,UInt8.ofNat (n / 256),UInt8.ofNat (n % 256)] rfl rfl ?e1 ?e2 ?e3 ?e4 ?_)
 case e2=>
  refine vo w _ _ _ _ ?_;simp only[eN,fR,U8]
  first
   |(rw[<-m,ez,eI G];rfl)
   |(simp only[ez];rw[eI (show n % 256<2 ^ 8 by omega)];rfl)
 case e4=>first|omega|(simp;omega)
 intro y C hown1 d _;have G1:=gI (aM p _) d (λi f=>(a.lt i f).1);have i:=x.below G1;have f:=G1.size;clear a d p;go_wp2_with (at_builtin;refine bJ _ rfl _ _ 37 rfl w.1.size 5 q underlying37 e g h j y (1+3) ([tag]++[130,UInt8.ofNat (n / 256),UInt8.ofNat (n % 256)]) rfl sE k n b zs rfl v l i G f ?_)
 intro v2 w2 hown2 hg2 _;have G2:w.grownBy w2 none:=(by grind [gI,World.ownsRow.lt])
 exact xv
theorem Mz(a)(zs)(v)(w)(h:gQ w v zs)(g:zs.length<=140737488351232):Calls prog 88 #[.int .u8 (a.toNat:Int),v] w λe b=>∃o,e=.returned o/\b.ownsRow w.1.size 5 1 o (Box.box a zs).length ((Box.box a zs).map U8)/\w.grownBy b none:=by
 obtain⟨d,b,rfl,j,k,e,f⟩:=h
 by_cases i:zs.length<=65535
 .exact uG a zs zs.length d b w (I rfl) i (I e) f
 .exact XN a zs zs.length d b w (I rfl) G g (I e) f
theorem My(a)(zs)(v)(w)(h:gQ w v zs)(d:zs.length<=140737488351232):Calls prog 88 #[.int .u8 (a.toNat:Int),v] w λe b=>∃o,e=.returned o/\gQ b o (Box.box a zs)/\w.grownBy b none:=
 (Mz a zs v w h d).mono (by grind [gQ.own])
theorem mo(zs)(v)(w)(h:gQ w v zs)(b:zs.length<=140737488351232):Calls prog 63 #[v] w λe a=>∃o,e=.returned o/\gQ a o (dC zs)/\w.grownBy a none:=by
 have HB:Hid (Calls prog 88 #[.int .u8 4,v] w λe a=>∃o,e=.returned o/\gQ a o (dC zs)/\w.grownBy a none):=My 4 zs v w h b
 clear h
 go_in
 go_wp2_with (go_at_call 88;refine HB.mono ?_;rintro e f ⟨o,rfl,a,d⟩)
 go_ret
 exact⟨_,rfl,a,d⟩
theorem kY(l)(w)(j:l.length<=140737488351232):Calls prog 61 #[.string ⟨l.toArray⟩] w λe a=>∃o,e=.returned o/\gQ a o (dC l)/\w.grownBy a none:=by
 have g:l.length<=140737488355328:=G
 go_in
 go_wp2_with (first|(refine jw _ rfl _ 9 37 rfl 5 underlying9 underlying37 underlying5 l rfl g ?_;intro i a w3 d b k f)|(go_at_call 63;refine(mo l _ _ ⟨some ⟨i,0,none⟩,a,rfl,d,b,(λh=>by cases h),k⟩ j).mono ?_;rintro e p ⟨o,rfl,m,n⟩))
 go_ret
 exact⟨_,rfl,m,aa f n⟩
def rX(w:World)(b:Nat)(l:List (Value×E)):Prop:=
 ∀j,(hj:j<l.length)->w.cell? (F b j)=some l[j].1/\gQ w l[j].1 l[j].2
def qG(l:List (Value×E)):E:=(l.map λx=>x.2).flatten
theorem Kq(l:List (Value×E))(k)(h:k<l.length):qG (l.take (k+1))=qG (l.take k)++(l[k]).2:=by
 unfold qG;rw[dy h,ej,List.flatten_append];grind
theorem S8(l)(k):(qG (l.take k)).length<=(qG l).length:=by
 conv=>rhs;rw[<-eK k l]
 grind [qG]
theorem rX.grown{a:World}{b:Nat}{l:List (Value×E)}(h:rX w b l)(k:w.grownBy a none):rX a b l:=by
 intro j f;obtain⟨d,e⟩:=h j f;exact⟨k.cell d Z,e.grown k⟩
theorem VE(b p m)(l)(w)(hm:Hid (l.length=m))(Q:m<=1000)(J:(qG l).length<=140737488351232)(t:rX w b l):Calls prog 60 #[ς b 0 m p] w λe n=>∃o,e=.returned o/\n.ownsRow w.1.size 5 1 o (Box.box 48 (qG l)).length ((Box.box 48 (qG l)).map U8)/\w.grownBy n none:=by
 obtain⟨K,u,x,y,A⟩:=info_parts Tryz.info5
 go_in
 go_wp2
 go_loopw [3,4] (λo i wr=>∃k:Nat,k<=m/\i = Y k/\wr.ownsRow w.1.size 5 1 o (qG (l.take k)).length ((qG (l.take k)).map U8)/\w.grownBy wr none) (λ_ i _=>m-(intOf i).toNat)
 case atStart=>exact⟨0,by omega,rfl,World.ownsRow_nil _ _ _ _,cC _ _⟩
 case round=>
  obtain⟨k,P,rfl,d,a⟩:=hrel;have v:=a.size;by_cases hlt:k<m
  .have f:k<l.length:=tz;obtain⟨C,L,M,D,q,r,j,h⟩:=(t.grown a) k f;rw[D]at C;have g:=S8 l (k+1);rw[Kq l k f,cF]at g;have i:(qG (l.take k)).length+((l[k]).2).length<=140737488355328:=G;have B:=I j;clear j g t D q r;go_wp2_with (at_builtin;refine bJ _ rfl _ _ 37 rfl w.1.size 5 K underlying37 u x y A _ _ _ rfl d _ _ _ ((l[k]).2) rfl rfl B h i v ?_)
   intro r q g j _;have R:q.ownsRow w.1.size 5 1 r (qG (l.take (k+1))).length ((qG (l.take (k+1))).map U8)/\w.grownBy q none:=⟨by grind [Kq],(by grind [gI,World.ownsRow.lt])⟩
   clear d g j a h i B C;exact ti
  .have g:k=m:=G;subst g;clear t;have f:wr.ownsRow w.1.size 5 1 u3 (qG l).length ((qG l).map U8):=by
    grind [Hid.o]
   have HB:Hid (Calls prog 88 #[.int .u8 48,u3] wr λe n=>∃o,e=.returned o/\n.ownsRow wr.1.size 5 1 o (Box.box 48 (qG l)).length ((Box.box 48 (qG l)).map U8)/\wr.grownBy n none):=Mz 48 (qG l) u3 wr (gQ.own f) J;clear d f;go_wp2_with (go_at_call 88;refine HB.mono ?_;rintro e q ⟨o,rfl,h,i⟩)
   go_ret;exact⟨_,rfl,nO h a.size,aa a i⟩
theorem rX.new(w)(l)(t)(h:∀x∈l,gQ w x.1 x.2):rX (w.alloc (.cells (l.map λx=>x.1).toArray t)) w.1.size l:=by
 intro j a;have b:=aS w (l.map λx=>x.1).toArray t j (l[j]).1 (by simp[a]);grind [gQ.grown,cy]
theorem zM(l)(d)(n)(w)(h:∀x∈l,gQ w x.1 x.2)(a:d=(l.map λx=>x.1).toArray)(g:l.length=n)(m:n<=1000)(f:(qG l).length<=140737488351232):Calls prog 60 #[ς w.1.size 0 n n] (w.alloc (.cells d 37)) λe b=>∃o,e=.returned o/\b.ownsRow w.1.size 5 1 o (jW (l.map λx=>x.2)).length ((jW (l.map λx=>x.2)).map U8)/\w.grownBy b none:=by
 subst a
 refine(VE w.1.size n n l _ (I g) m f (rX.new w l _ h)).mono ?_
 rintro e b ⟨o,i,j,k⟩
 exact⟨o,i,nO j (cy w _ none).size,aa (cy w _ none) k⟩
theorem XO(l)(b)(n)(w)(h:∀x∈l,gQ w x.1 x.2)(a:b=(l.map λx=>x.1).toArray)(g:l.length=n)(i:n<=1000)(f:(qG l).length<=140737488351232):Calls prog 60 #[ς w.1.size 0 n n] (w.alloc (.cells b 37)) λe d=>∃o,e=.returned o/\gQ d o (jW (l.map λx=>x.2))/\w.grownBy d none:=
 (zM l b n w h a g i f).mono (by grind [gQ.own])
theorem bS(v)(w)(h:bT v):Calls prog 62 #[Y v] w λe a=>∃o,e=.returned o/\gQ a o (bV v)/\w.grownBy a none:=by
 refine(rY v w h.1 h.2).mono ?_
 rintro e a ⟨o,b,d,f⟩
 exact⟨o,b,gQ.own d,f⟩
variable {l:List Pc}{w':World}
def jT(w:World)(g:Nat)(l:List Pc):Prop:=w.rangeAt g 0 (pX l)/\∀p∈l,At w p.ad p.ins/\p.ins.length<=p.cap/\p.cap<=maxLen
theorem jT.grown(h:jT w g l)(k:w.grownBy w' none):jT w' g l:=
 ⟨λj v b=>k.cell (h.1 j v b) Z,λp a=>⟨(h.2 p a).1.below k,(h.2 p a).2⟩⟩
def XP(w:World)(x:Value)(l:List Pc):Prop:=∃ao c,x=.slice ao l.length c/\(l≠[]->∃g,ao=some ⟨g,0,none⟩/\jT w g l)
theorem XP.grown{x:Value}(h:XP w x l)(k:w.grownBy w' none):XP w' x l:=by
 obtain⟨a,c,b,d⟩:=h;exact⟨a,c,b,(by grind [jT.grown])⟩
theorem jT.tag(h:jT w g l)(k)(a:k<l.length):w.cell? (F g (k*2))=some (.int .u8 ((l[k]).tag.toNat:Int)):=by
 have:=h.1 (k*2+0) _ (by rw[wP l k 0 a H];rfl);rwa [cR,fN]at this
theorem jT.ins(h:jT w g l)(k)(a:k<l.length):w.cell? (F g (k*2+1))=some (.slice (l[k]).ad (l[k]).ins.length (l[k]).cap):=by
 have:=h.1 (k*2+1) _ (by rw[wP l k 1 a H];rfl);rwa [cR]at this
def xA(w:World)(v:Value)(zs:E):Prop:=∃ao cap,v=.slice ao zs.length cap/\zs.length<=cap/\cap<=maxLen/\At w ao zs
theorem gQ.prt{v:Value}{b:E}(h:gQ w v b):xA w v b:=by
 obtain⟨d,a,e,f,g,_,i⟩:=h;exact⟨d,a,e,f,g,i⟩
theorem xA.grown{v:Value}{b:E}(h:xA w v b)(k:w.grownBy w' none):xA w' v b:=by
 obtain⟨d,a,e,f,g,i⟩:=h;exact⟨d,a,e,f,g,i.below k⟩
theorem Ek(h:p:=by
 rw[List.getElem?_take_of_lt hj]at hu
 simp only[World.cell?,hg]
 simpa using hu):p:=h
theorem rM(a)(v)(w)(h:xA w v a)(P:a.length<=100000):Calls prog 66 #[v] w λe w'=>∃x,e=.returned (.tuple #[x,.bool (Box.dG a).isSome])/\(∀i,Box.dG a=some i->∃l,XP w' x l/\l.map Pc.pair=i/\(∀p∈l,∀k,xA k v a->xA k (.slice p.ad p.ins.length p.cap) p.ins)/\(∀g f,x = ς g 0 l.length f->w.1.size<=g))/\(Box.dG a=none->x = σ)/\w.grownBy w' none:=by
 obtain⟨C,n,rfl,J,o,y⟩:=h
 refine(Cw a a.length C n w (I rfl) P J (by unfold maxLen at o;omega) y).mono ?_
 rintro e w' ⟨S,X,B⟩
 cases K:Box.dG a with
 |none=>grind
 |some i=>
  obtain⟨x,l,T,t,r3,d⟩:=S i K;refine⟨x,T,λm j=>⟨l,?_,?_,λp b k r=>?_,λg f e=>(t.lt g (by rw[e];rfl)).1⟩,λQ=>(by cases Q),B⟩
  .obtain⟨m,f,rfl⟩:=bA t;refine⟨m,f,rfl,λj=>?_⟩;rcases t.2 with⟨A,W⟩|⟨g,U,D,A,V,hg,R,L,M,q⟩
   .grind
   .injection A with e1 _ e3;subst e1 e3;refine⟨g,rfl,λj u hu=>?_,λp b=>⟨(d p b).1 _ (y.below B),(d p b).2.1,cE (d p b).2.2 o⟩⟩;rw[cR];rw[<-q]at hu;have hj:j<l.length*2:=by
     grind
    exact Ek
  .grind
  .obtain⟨m,j,f,_,_,q⟩:=r;injection f with f;subst f;exact⟨p.ad,p.cap,rfl,(d p b).2.1,cE (d p b).2.2 o,(d p b).1 k q⟩
def vN(tag:UInt8)(l:E):Option E:=
 match Box.cut l with
 |some (t,i,[])=>if t.toNat=tag.toNat then some i else none
 |_=>none
theorem vO(l):lL l=(vN 48 l).bind Box.dG:=by
 unfold lL vN;cases h:Box.cut l with
 |none=>rfl
 |some p=>
  obtain⟨t,i,r⟩:=p;cases r with
  |nil=>
   show(if t.toNat=48 then Box.dG i else none)=(if t.toNat=(48:UInt8).toNat then some i else none).bind Box.dG;by_cases d:t.toNat=48
   .have b:t.toNat=(48:UInt8).toNat:=d;rw[dQ d,dQ b];rfl
   .have b:¬ t.toNat=(48:UInt8).toNat:=d;rw[b' d,b' b];rfl
  |cons a r=>rfl
theorem P5(d)(v)(w)(h:gQ w v d)(y:d.length<=140737488355328):Calls prog 49 #[v] w λe w'=>∃(a:UInt8) (f:Option Addr) (i:E) (b:Nat) (g:Option Addr) (r:E) (j:Nat),
   e=.returned (.tuple #[.agg #[.int .u8 (a.toNat:Int),.slice f i.length b],.slice g r.length j,.bool (Box.cut d).isSome])/\(∀q,Box.cut d=some q->q=(a,i,r))/\At w' f i/\i.length<=b/\b<=maxLen/\i.length<=65535/\(f=none->b=0)/\w.grownBy w' none:=by
 obtain⟨t,f,rfl,u,n,L,k⟩:=h
 by_cases o:d.length<2
 .refine(wK d.length t f w o).mono ?_;rintro e w' ⟨p,m⟩;have g:=BG o;refine⟨0,none,[],0,none,[],0,?_,λq j=>?_,At.nil _ _,cA _,cS _,cS _,λ_=>rfl,m⟩
  .rw[g];exact p
  .rw[g]at j;cases j
 .obtain⟨b,l,rfl,_⟩:=k.addr G;refine(EK d d.length b l f w (I rfl) G y u (by unfold maxLen at n;omega) k).mono ?_;rintro e w' ⟨p,m,r⟩;cases g:Box.cut d with
  |none=>
   obtain⟨x,a,i,c,A,B,C,D,J,K⟩:=m g;exact⟨x,a,i,c,none,[],0,A,λq j=>(by cases j),B _ (k.below r),C,cE D n,J,K,r⟩
  |some q=>
   grind [At.below]
theorem xr(h:p:=by
 go_wp2_with fail
 go_quiet (fail)
 go_wp2
 go_ret2
 exact⟨_,i,by rw[HN];rfl,HH.1.drewN _,HH.2.1,kO,aN HH.2.2 _⟩):p:=h
theorem Bb(a)(f)(v)(w)(h:gQ w v f)(B:f.length<=140737488355328):Calls prog 65 #[v,.int .u8 (a.toNat:Int)] w λe w'=>∃x i,e=.returned (.tuple #[x,.bool (vN a f).isSome])/\gQ w' x i/\i.length<=65535/\(∀j,vN a f=some j->j=i)/\w.grownBy w' none:=by
 have k:=I (P5 f v w h B)
 obtain⟨j,d⟩:=aq (vN a f)
 have b:=I d
 rw[d]
 clear h d
 unfold vN at b
 obtain⟨A,d⟩:=aq (Box.cut f)
 rw[d]at k b
 clear d
 go_in
 go_wp2_with fail
 refine k.mono ?_
 rintro e y ⟨t,d,i,g,C,r,D,rfl,l,m,n,p,q,u,x⟩
 clear k
 have h:=aM x (.cells #[.int .u8 (t.toNat:Int),.slice d i.length g] 117)
 have HH:Hid (gQ (y.alloc (.cells #[.int .u8 (t.toNat:Int),.slice d i.length g] 117)) (.slice d i.length g) i/\i.length<=65535/\w.grownBy (y.alloc (.cells #[.int .u8 (t.toNat:Int),.slice d i.length g] 117)) none):=⟨⟨d,g,rfl,n,p,u,m.below (cy _ _ _)⟩,q,h⟩
 clear m n p q u x h
 cases A with
 |none=>
  have HN:Hid (j=none):=b.o.symm;clear b l;simp only[Option.isSome_none];exact xr
 |some q=>
  obtain rfl:=l q rfl;clear l;simp only[du];cases r with
  |cons k r=>
   have HN:Hid (j=none):=b.o.symm;clear b;have m:((((k::r).length:Nat):Int)==0)=false:=dT;obtain⟨n,h⟩:=aq ((k::r).length);rw[h]at m⊢;clear h;exact xr
  |nil=>
   simp only[List.length_nil];by_cases h:t.toNat=a.toNat
   .have HN:Hid (j=some i):=dT;have k:((t.toNat:Int)==(a.toNat:Int))=true:=oU;clear b h;exact xr
   .have HN:Hid (j=none):=dT;have k:((t.toNat:Int)==(a.toNat:Int))=false:=dT;clear b h;exact xr
