import Derived.Test.YtlfifnpjeangmaaGreatDoorGEQPool
import Derived.Test.YtlfifnpjeangmaaGreatDoorGESHandB
namespace Go.Proofs.YtlfifnpjeangmaaGreatDoor
set_option maxHeartbeats 1000000
open Proofs.Tryz Go.RowKit
set_option maxRecDepth 100000
variable {M:DM}{n:Nat}
theorem NY(g p)(n k)(i)(w)(a:List (Value×Int)->World->Prop)(x:Hid (i.length=n))(f:n<=16)(y:∀j∈i,∃b m c,j.2.2=.slice b m c)(v:w.rangeAt p 0 (eQ i))(o:p<w.1.size)(m:p≠g)(u:g<w.1.size)(l:a [] w)(t:∀d W e,a d W->CF W e (λb _=>b=w.1.size)->a d e)(step:∀d W(h:d.length<i.length),w.1.size<W.1.size->a d W->Calls prog 149 #[.iface 247 (π g 0),.agg (gK (i[d.length]).1 (i[d.length]).2.1 (i[d.length]).2.2)] W λe q=>∃A C B r,e=.returned (.agg #[.slice A C B,Y r])/\a (d++[(.slice A C B,r)]) q/\CF W q (λb _=>b=g)):Calls prog 75 #[π g 0,ς p 0 n k] w λe q=>ER w g n a e q:=by
 have HB:=aE (NF g p n k i w a x f y v o m u l t step)
 clear x f y v o m u l t step
 go_in
 go_wp2_with fail
 refine HB.mono ?_
 rintro e q ⟨f,d,rfl,h⟩
 have b:=aE h
 clear h HB
 go_wp2
 go_ret2
 exact⟨f,d,rfl,b⟩
theorem NZ(g n a)(f)(w)(h:16<n):Calls prog 75 #[π g 0,.slice f n a] w λe b=>e=.returned (.tuple #[σ,Y 7])/\w.grownBy b none:=by
 have d:(16:Int)<(n:Int):=G
 have HB:Hid (Calls prog 118 #[.iface 247 (π g 0),.slice f n a] w λe b=>e=.returned (.tuple #[σ,Y 7])/\w.grownBy b none):=by
  show Calls _ _ _ _ _;go_in;go_wp2;go_ret2;exact⟨rfl,cC _ _⟩
 clear d h
 go_in
 go_wp2_with fail
 refine HB.mono ?_
 rintro e b ⟨rfl,h⟩
 have d:=aE h
 clear h HB
 go_wp2
 go_ret2
 exact⟨rfl,d⟩
abbrev uo:=mE×Int×E
def Kq(M:DM)(j:uo):(E×Int)×DM:=
 if j.1.kind=0 then(((dG M j.2.1 j.2.2).1,0),(dG M j.2.1 j.2.2).2) else(([],(fD M.aF j.1).2),{M with aF:=(fD M.aF j.1).1})
def iy(M:DM)(js:List uo):DM:=js.foldl (λM j=>(Kq M j).2) M
theorem E8(M)(a)(j):iy M (a++[j])=(Kq (iy M a) j).2:=by simp[iy]
structure uo.Ok(j:uo):Prop where
 bI:b9 j.1.bI
 aC:b9 j.1.aC
 ae:b9 j.1.ae
 name:j.1.name.length<=140737488355328
 now:b9 j.2.1
theorem dX.Kq(h:dX M n)(b:1<=n){j:uo}(a:j.Ok):dX (Kq M j).2 (n+1):=by
 unfold Go.Proofs.YtlfifnpjeangmaaGreatDoor.Kq;split
 .exact(h.answer _ _).mono G
 .exact h.adm b _ a.bI a.aC
theorem dX.iy(h:dX M n)(d:1<=n):∀(a),(∀j∈a,j.Ok)->dX (iy M a) (n+a.length):=by
 intro a;induction a generalizing M n with
 |nil=>intro _;exact h
 |cons j a e=>
  intro b;have:=e (h.Kq d (b j Z)) G fA;rw[de,show n+(a.length+1)=n+1+a.length by omega];exact this
def wB(n:Nat)(W:World)(d:Value×Int)(j:uo)(r:E×Int)(p:Option Pl):Prop:=d.2=r.2/\f' W d.1 p r.1/\Pl.fresh n p/\(j.1.kind≠0->p=none)
theorem wB.cf{W a:World}{ex:Nat->Nat->Prop}{d:Value×Int}{j:uo}{r:E×Int}{p:Option Pl}(h:wB n W d j r p)(k:CF W a ex)(f:∀b y,n<=b->¬ ex b y):wB n a d j r p:=⟨h.1,h.2.1.cf k (λq e _ _=>f _ _ (h.2.2.1 q e)),h.2.2⟩
def up{α:Type}(f:Nat->α)(t:Nat)(v:α):Nat->α:=λs=>if s=t then v else f s
theorem qL{α:Type}(f:Nat->α)(t)(v:α):up f t v t=v:=dT rfl
theorem BH{α:Type}(f:Nat->α)(t)(v:α){s:Nat}(h:s≠t):up f t v s=f s:=cZ h
def Mz(w:World)(g:Nat)(v:Value)(aX:E):Prop:=∃ao cap,v=.slice ao aX.length cap/\At w ao aX/\Bs (ao,aX) v aX/\∀b off,ao=some ⟨b,off,none⟩->b≠g
structure QI(w:World)(g:Nat)(dp:Option Pl)(M:DM)(ms:List uo)(ds:List (Value×Int))(W:World):Prop where
 len:ds.length<=ms.length
 bP:∃pX,eZ W g pX (iy M (ms.take ds.length))/\∀q',pX=some q'->∃q,dp=some q/\q.g=q'.g
 said:∃ps:Nat->Option Pl,(∀i(h:i<ds.length)(h':i<ms.length),wB (w.1.size+1) W ds[i] ms[i] (Kq (iy M (ms.take i)) ms[i]).1 (ps i))/\∀i j q r,i<j->j<ds.length->ps i=some q->ps j=some r->q.g<r.g
 cf:CF w W (λb _=>b=g)
theorem QI.snoc{w:World}{g:Nat}{m:Option Pl}{f:List uo}{a:List (Value×Int)}{W l:World}(h:QI w g m M f a W)(y:a.length<f.length)(k:CF W l (λb _=>b=g))(J:g<w.1.size)(d)(u:∃b,eZ l g b (Kq (iy M (f.take a.length)) (f[a.length])).2/\∀e,b=some e->∃q,m=some q/\q.g=e.g)(A:∃p,wB (w.1.size+1) l d (f[a.length]) (Kq (iy M (f.take a.length)) (f[a.length])).1 p/\Pl.fresh W.1.size p):QI w g m M f (a++[d]) l:=by
 obtain⟨C,D,L⟩:=h.said
 obtain⟨p,K,B⟩:=A
 refine⟨by grind,?_,⟨up C a.length p,λi o t=>?_,λi j q r v x b n=>?_⟩,h.cf.trans k (λ_ _ _ e=>e)⟩
 .rw[cD,eC,dy y,E8];exact u
 .grind [wB.cf,BH,qL]
 .rw[cD,eC]at x;rw[BH _ _ _ G]at b;by_cases e:j=a.length
  .rw[e,qL]at n;have o:=(D i G G).2.1.K8 q b;have t:=B r n;omega
  grind [BH]
theorem Rm(g P n B N)(t)(f)(u)(M)(w)(hq:eZ w g u M)(J7:∀q,u=some q->q.g≠g)(ag:∀q,u=some q->q.g<w.1.size)(hM:dX M N)(ab:1<=N)(hN:N+16<=4611686018427387904)(hn:Hid (t.length=n))(J:n<=16)(hl:f.length=n)(K:∀j∈f,j.Ok)(D:∀i(h:i<t.length)(a:i<f.length),(t[i]).1=(f[i]).1/\(t[i]).2.1=(f[i]).2.1/\Mz w g (t[i]).2.2 (f[i]).2.2)(hj:w.rangeAt P 0 (eQ t))(af:P<w.1.size)(ae:P≠g):Calls prog 75 #[π g 0,ς P 0 n B] w λe w'=>ER w g n (QI w g u M f) e w':=by
 have hg:=hq.bP.live.lt
 refine NY g P n B t w (QI w g u M f) hn J (λj l=>?_) hj af ae hg ⟨cS _,⟨u,hq,λq' h=>⟨q',h,rfl⟩⟩,⟨λ_=>none,λi h=>(by simp at h),fA⟩,CF.refl w _⟩ (λo W a h k=>?_) (λo W h b Q=>?_)
 .obtain⟨i,a,rfl⟩:=List.getElem_of_mem l;obtain⟨_,_,S,c,L,_⟩:=D i a (by rw[hl,<-hn];exact a);exact⟨S,_,c,L⟩
 .obtain⟨A,m,p⟩:=h.bP;refine⟨h.len,⟨A,m.cf k (λy e=>by omega) (λq d y e=>?_),p⟩,(by obtain⟨a,v,i⟩:=h.said;exact⟨a,(by grind [wB.cf]),i⟩),h.cf.trans k (λb y r e=>by omega)⟩;grind
 .have k:o.length<f.length:=by rw[hl,<-hn];exact h
  obtain⟨j1,j2,S,c,L,C,p,ad⟩:=D o.length h k;obtain⟨A,T,d2⟩:=Q.bP;have hinv:=hM.iy ab (f.take o.length) (λj l=>K j (List.mem_of_mem_take l));have m:dX (iy M (f.take o.length)) (N+16):=hinv.mono (by rw[ep];omega);have y:∀q,A=some q->q.g≠g:=λq d=>by
   obtain⟨b,a,v⟩:=d2 q d;have:=J7 b a;omega
  have i:=K _ (eg k);obtain⟨x,l⟩:=aq (f[o.length]);rw[l]at j1 j2 L C p i;obtain⟨j,b⟩:=aq (iy M (f.take o.length));rw[b]at T m;rw[j1,j2,L];by_cases hk:x.1.kind=0
  .have r:(x.1.kind==0)=true:=(by rw[hk];rfl);have R:=C.cf Q.cf fA;rw[L]at p;refine(Vh g A j x.1 x.2.1 x.2.2 x.2.2.length S c W T y (m.bin hN) m.aF.sorted (aE rfl) R ad p i.now m.aA m.times (Bb m _ _) r).mono ?_;rintro e w' ⟨v',rfl,F⟩;obtain⟨a,c',hs⟩:=F.shape;obtain⟨p',o1,o2⟩:=F.o;obtain⟨U,V,X⟩:=F.bP;subst hs;have v:Kq j x=(((dG j x.2.1 x.2.2).1,0),(dG j x.2.1 x.2.2).2):=(by unfold Kq;rw[dT hk]);refine⟨a,_,c',0,rfl,Q.snoc k F.cf hg _ ⟨U,by rw[l,b,v];exact V,λq' d=>?_⟩ ?_,F.cf⟩
   .grind
   .rw[l,b,v];exact⟨p',⟨rfl,o1,λq d=>by have:=o2 q d;omega,λe=>absurd hk e⟩,o2⟩
  .have r:(x.1.kind==0)=false:=rl;refine(Zv g A j (N+16) x.1 x.2.1 _ W T y m.aF hN i.ae.1 i.ae.2 (by have:=i.name;omega) r).mono ?_;rintro e w' ⟨rfl,V,X⟩;have v:Kq j x=(([],(fD j.aF x.1).2),{j with aF:=(fD j.aF x.1).1}):=(by unfold Kq;rw[cZ hk]);refine⟨none,0,0,_,rfl,Q.snoc k X hg _ ⟨A,by rw[l,b,v];exact V,d2⟩ ?_,X⟩;rw[l,b,v];exact⟨none,⟨rfl,f'.nil _,λq d=>(by cases d),λ_=>rfl⟩,λq d=>by cases d⟩
section
variable {S I:Type}{C:S->I->World->Prop}{F:S->I->Nat->Prop}{B:Nat}{s s':S}{w w':World}
structure KG(C:S->I->World->Prop)(F:S->I->Nat->Prop)(B:Nat)(s:S)(w:World):Prop where
 here:∀k,C s k w
 lt:∀k b,F s k b->b<w.1.size
 base:∀k b,F s k b->B<=b
 one:∀j k b,F s j b->F s k b->j=k
 room:B<=w.1.size
def B8(C:S->I->World->Prop)(F:S->I->Nat->Prop):Prop:=∀s k w w',C s k w->(∀b,F s k b->w'.1[b]?=w.1[b]?)->C s k w'
theorem KG.acts(L:B8 C F)(h:KG C F B s w)(K:I->Prop)(d:Nat->Prop)(f:iU w w' d)(l:∀b,d b->(∃k,K k/\F s k b)\/∀j,¬ F s j b)(hc:∀k,K k->C s' k w')(hf:∀k b,K k->F s' k b->B<=b/\b<w'.1.size/\((∃j,K j/\F s j b)\/∀j,¬ F s j b))(g:∀i j b,K i->K j->F s' i b->F s' j b->i=j)(ho:∀j,¬ K j->(C s j w'->C s' j w')/\∀b,F s' j b->F s j b):KG C F B s' w':=by
 have z:=f.size
 have a:=h.room
 have hkeep:∀j,¬ K j->∀b,F s j b->w'.1[b]?=w.1[b]?:=λj hj b hb=>f.block b (h.lt j b hb) (λe=>by
  rcases l b e with⟨k,hk,e2⟩|e2
  .exact hj (by rw[h.one j k b hb e2];exact hk)
  .exact e2 j hb)
 refine⟨λj=>?_,λj b hb=>?_,λj b hb=>?_,λi j b hi hj=>?_,by omega⟩
 .exact DA
 .exact DS
 .by_cases e:K j
  .exact(hf j b e hb).1
  .exact h.base j b ((ho j e).2 b hb)
 .by_cases e:K i<;>by_cases e2:K j
  .exact g i j b e e2 hi hj
  .exact FL
  .have p:=(ho i e).2 b hi;exact Hb
  .exact h.one i j b ((ho i e).2 b hi) ((ho j e2).2 b hj)
end
theorem dE.keep{w w':World}{g o:Nat}{l:Option Pl}{d:DM}(h:dE w g o l d)(k:∀b,b=g\/Pl.blk l=some b->w'.1[b]?=w.1[b]?):dE w' g o l d:=by
 have x:w'.1[g]?=w.1[g]?:=k g (.inl rfl);have f:∀j,w'.cell? (δ g j)=w.cell? (δ g j):=(by grind [World.cell?_of_block])
 have r:∀{b n},w'.1[b]?=w.1[b]?->b' w b n->b' w' b n:=λe ⟨i,t,m,p⟩=>⟨i,t,e.trans m,p⟩
 obtain⟨v,i,e⟩:=h.aL;refine⟨r x h.live,(f _).trans h.aA,⟨v,(f _).trans i,?_⟩,⟨r x h.aF.live,λj u b=>(f _).trans (h.aF.room j u b),(f _).trans h.aF.count,h.aF.len⟩,λj u b=>(f _).trans (h.aJ j u b),(f _).trans h.count,h.few⟩;rcases e with e|⟨q,t,i,m,p,A,B⟩
 .exact .inl e
 .have y:w'.1[q.g]?=w.1[q.g]?:=k q.g (.inr (by rw[t];rfl));exact .inr ⟨q,t,i,m,p,r y A,λj u b=>(World.cell?_of_block (a:=⟨q.g,q.off+j,none⟩) y).trans (B j u b)⟩
theorem dE.lt{w:World}{g o:Nat}{f:Option Pl}{d:DM}(h:dE w g o f d){b:Nat}(a:b=g\/Pl.blk f=some b):b<w.1.size:=by
 rcases a with rfl|a
 .exact h.live.lt
 .obtain⟨v,_,j⟩:=h.aL;rcases j with⟨e,_⟩|⟨q,e,_,_,_,i,_⟩
  .rw[e]at a;cases a
  .rw[e]at a;injection a with a;rw[<-a];exact i.lt
theorem eZ.keep{w w':World}{g:Nat}{e:Option Pl}{d:DM}(h:eZ w g e d)(k:∀b,b=g\/Pl.blk e=some b->w'.1[b]?=w.1[b]?):eZ w' g e d:=by
 have p:w'.1[g]?=w.1[g]?:=k g (.inl rfl);have a:∀j,w'.cell? (δ g j)=w.cell? (δ g j):=(by grind [World.cell?_of_block])
 have f:∀{n},b' w g n->b' w' g n:=λ⟨b,t,i,l⟩=>⟨b,t,p.trans i,l⟩
 obtain⟨q,r,l,b⟩:=h.look;exact⟨h.bP.keep k,⟨q,r,⟨f l.live,λi m j u o=>(a _).trans (l.Sm i m j u o),(a _).trans l.count,(a _).trans l.next,l.len,l.nx4,l.nxl⟩,b⟩,⟨f h.pool.live,(a _).trans h.pool.c0,(a _).trans h.pool.c1⟩⟩
structure QD where
 pb:Nat
 xb:Nat
 dp:Option Pl
 yb:Nat
 rg:RG
 M:DM
 N:DM
 sv:Value
 kl:List KN
def QD.C(p:QD)(j:Nat)(w:World):Prop:=match j with
 |0=>dz w p.pb #[mA p.xb,mA p.yb,p.sv]
 |1=>eZ w p.xb p.dp p.M/\∀q,p.dp=some q->q.g≠p.xb
 |2=>RD w 0 p.yb p.N p.rg
 |3=>w.ownsRow 0 170 3 p.sv p.kl.length (nT p.kl)/\∀k∈p.kl,(w.ownsRow 0 5 1 k.box k.z.length (k.z.map U8)/\k.z.length<=1000/\k.c.length<=1048576)/\∀b,k.box.ownBlock=some b->p.sv.ownBlock≠some b
 |_=>True
def QD.F(p:QD)(j b:Nat):Prop:=match j with
 |0=>b=p.pb
 |1=>b=p.xb\/Pl.blk p.dp=some b
 |2=>p.rg.foot p.yb b
 |3=>p.sv.ownBlock=some b\/∃k∈p.kl,k.box.ownBlock=some b
 |_=>False
theorem QD.loc{p:QD}{j:Nat}{w w':World}(h:p.C j w)(k:∀b,p.F j b->w'.1[b]?=w.1[b]?):p.C j w':=by
 match j,h,k with
 |0,h,k=>exact dz.kept h (k _ rfl)
 |1,h,k=>exact⟨h.1.keep k,h.2⟩
 |2,h,k=>exact h.keep k
 |3,h,k=>exact⟨cB h.1 (λb d=>k b (.inl d)),λx a=>⟨⟨cB (h.2 x a).1.1 (λb d=>k b (.inr ⟨x,a,d⟩)),(h.2 x a).1.2⟩,(h.2 x a).2⟩⟩
 |_+4,_,_=>trivial
theorem QD.lt{p:QD}{j b:Nat}{w:World}(h:p.C j w)(k:p.F j b):b<w.1.size:=by
 match j,h,k with
 |0,h,k=>have e:b=p.pb:=k;rw[e];exact dz.lt h
 |1,h,k=>exact h.1.bP.lt k
 |2,h,k=>exact(h.lt b k).2
 |3,h,k=>
  rcases k with k|⟨x,a,k⟩
  .exact(h.1.lt b k).2
  .exact((h.2 x a).1.1.lt b k).2
theorem QD.said{p:QD}{w:World}(a:p.C 0 w)(h:p.C 3 w):SaidAt w 0 p.pb 2 p.sv p.kl:=⟨dz.cell a 2,h.1,λk b=>(h.2 k b).1⟩
theorem DB{p:Prop}(h:p:=by
 rw[List.replicate_succ,eI]
 cases k with
 |zero=>exact⟨rfl,rfl⟩
 |succ k=>
  grind):p:=h
theorem lQ.cell{w:World}{m:Value}{s:Sl}(h:lQ w m s){k:Nat}(d:k<s.2.1):∃b a,s.1=some ⟨b,a,none⟩/\w.c b (a+k*2)=some σ/\w.c b (a+(k*2+1))=some m:=by
 have e:∀(n k:Nat),k<n->(List.replicate n [Value.slice none 0 0,m]).flatten[k*2]?=some σ/\(List.replicate n [Value.slice none 0 0,m]).flatten[k*2+1]?=some m:=by
  intro n;induction n with
  |zero=>intro k d;omega
  |succ n f=>
   intro k d;exact DB
 obtain⟨b,a,i,j⟩:=h.2 _ _ (e _ k d).1;obtain⟨g,f,l,n⟩:=h.2 _ _ (e _ k d).2;grind
theorem lQ.lt{w:World}{m:Value}{s:Sl}(h:lQ w m s){b:Nat}(e:s.on b):b<w.1.size:=by
 obtain⟨f,e1,d⟩:=e;obtain⟨g,a,e3,e4,_⟩:=h.cell d;exact E3
def tM:Nat->TypeId
 |0=>57
 |1=>60
 |2=>64
 |_=>68
def ua:Nat->Value->Prop
 |0=>Xv
 |2=>Xw
 |_=>Ll
def pD:Nat->World->ic->Prop
 |3=>ic.okD
 |_=>ic.ok
theorem Fh{t:Nat}{w w':World}{x:ic}(h:pD t w x)(k:∀b,x.on b->w'.1[b]?=w.1[b]?):pD t w' x:=by
 unfold pD at *;split at h
 .exact⟨h.1.keep (λb a=>k b (.inl a)),h.2.1.keep (λb a=>k b (.inr (.inl a))),h.2.2.1.keep (λb a=>k b (.inr (.inr (.inl a)))),h.2.2.2.keep (λb a=>k b (.inr (.inr (.inr a))))⟩
 .exact ic.ok.keep h k
theorem Lk{t:Nat}{w:World}{x:ic}(h:pD t w x){b:Nat}(hb:x.on b):b<w.1.size:=by
 unfold pD at h;split at h
 .exact E9
 .exact ic.ok.lt h hb
structure BW where
 qv:Value
 qs:List QD
 lv:Nat->Value
 le:Nat->List ic
abbrev BW.cells(d:BW):Array Value:=#[σ,d.qv,d.lv 0,d.lv 1,d.lv 2,d.lv 3]
def BW.C(base wb:Nat)(d:BW)(i:Nat×Nat)(w:World):Prop:=match i with
 |(0,k)=>k=0->dz w wb d.cells
 |(1,k)=>k=0->w.ownsRow base 54 1 d.qv d.qs.length (d.qs.map λp=>mA p.pb)
 |(2,t)=>w.ownsRow base (tM t) 5 (d.lv t) (d.le t).length (gX (d.le t))
 |(3,t)=>∀x∈d.le t,pD t w x/\ua t x.mark
 |(j+4,k)=>∀p,d.qs[k]?=some p->p.C j w
def BW.F(wb:Nat)(d:BW)(i:Nat×Nat)(b:Nat):Prop:=match i with
 |(0,k)=>k=0/\b=wb
 |(1,k)=>k=0/\d.qv.ownBlock=some b
 |(2,t)=>(d.lv t).ownBlock=some b
 |(3,t)=>∃x∈d.le t,x.on b
 |(j+4,k)=>∃p,d.qs[k]?=some p/\p.F j b
theorem BW.loc(base wb:Nat):B8 (BW.C base wb) (BW.F wb):=by
 intro d k w g h a;match k,h,a with
 |(0,_),h,a=>exact λe=>dz.kept (h e) (a wb ⟨e,rfl⟩)
 |(1,_),h,a=>exact λe=>cB (h e) (λb f=>a b ⟨e,f⟩)
 |(2,t),h,a=>exact cB h a
 |(3,t),h,a=>exact λx e=>⟨Fh (h x e).1 (λb f=>a b ⟨x,e,f⟩),(h x e).2⟩
 |(j+4,k),h,a=>exact λp e=>QD.loc (h p e) (λb f=>a b ⟨p,e,f⟩)
abbrev kK(base wb:Nat)(d:BW)(w:World):Prop:=KG (BW.C base wb) (BW.F wb) base d w
def kB(wb:Nat)(d:BW)(b:Nat):Prop:=∃i,BW.F wb d i b
abbrev BW.add(d:BW)(t:Nat)(v:Value)(x:ic):BW:={d with lv:=up d.lv t v,le:=up d.le t (d.le t++[x])}
theorem BW.CQ(d:BW)(t:Nat)(v:Value)(x:ic)(s:Nat):((d.add t v x).le s).length<=(d.le s).length+1:=by
 grind [BH,qL]
variable {base wb:Nat}{d d':BW}{w w' w0:World}{U:Nat->Prop}
theorem kK.blk(h:kK base wb d w):dz w wb d.cells:=h.here (0,0) rfl
theorem kK.row(h:kK base wb d w):w.ownsRow base 54 1 d.qv d.qs.length (d.qs.map λp=>mA p.pb):=h.here (1,0) rfl
theorem kK.part(h:kK base wb d w){k:Nat}{p:QD}(a:d.qs[k]?=some p)(j:Nat):p.C j w:=h.here (j+4,k) p a
theorem kK.grown(h:kK base wb d w)(g:w.grownBy w' none):kK base wb d w':=
 KG.acts (BW.loc base wb) h (λ_=>False) (λ_=>False) (iU.lM g _) (λ_ e=>e.elim) (λ_ e=>e.elim) (λ_ _ e=>e.elim) (λ_ _ _ e=>e.elim) fA
theorem kK.low(h:kK base wb d w){b:Nat}(e:kB wb d b):base<=b/\b<w.1.size:=by
 obtain⟨i,a⟩:=e;exact⟨h.base i b a,h.lt i b a⟩
theorem kK.more{t:Nat}{gB:Option Nat}(T:t<4)(h:kK base wb d w)(S:∀g,gB=some g->base<=g/\g<w.1.size/\¬ kB wb d g)(k:rq (pD t) base wb (t+2) (tM t) (ua t) gB (d.lv t) d.cells (d.le t) w w'):
  ∃x v,kK base wb (d.add t v x) w'/\iU w w' (λb=>kB wb d b\/gB=some b)/\∀b,kB wb (d.add t v x) b->kB wb d b\/gB=some b\/w.1.size<=b:=by
 obtain⟨x,v,D,L,M,Q,A,B,R⟩:=k
 have z:=A.size
 have J:=h.room
 have m:∀b,w.1.size<=b->∀j,¬ BW.F wb d j b:=λb a j f=>by have:=h.lt j b f;omega
 have u:∀b,gB=some b->∀j,¬ BW.F wb d j b:=λb e j f=>(S b e).2.2 ⟨j,f⟩
 have U:∀b,x.on b->base<=b/\∀j,¬ BW.F wb d j b:=fA
 have F2:∀b,BW.F wb (d.add t v x) (2,t) b->v.ownBlock=some b:=λb a=>by rw[<-qL d.lv t v];exact a
 have C:∀b,BW.F wb (d.add t v x) (3,t) b->BW.F wb d (3,t) b\/x.on b:=by
  rintro b ⟨y,g,a⟩;simp only[qL,eW,ew]at g;rcases g with g|rfl
  .exact .inl ⟨y,g,a⟩
  .exact .inr a
 have P:(d.add t v x).cells=d.cells.setIfInBounds (t+2) v:=by
  match t,T with
  |0,_=>rfl
  |1,_=>rfl
  |2,_=>rfl
  |3,_=>rfl
 have r:∀j,¬ (j=(0,0)\/j=(2,t)\/j=(3,t))->(BW.C base wb d j w'->BW.C base wb (d.add t v x) j w')/\∀b,BW.F wb (d.add t v x) j b->BW.F wb d j b:=by
  intro j f;match j,f with
  |(0,k),f=>exact⟨λ_ e=>absurd (by rw[e]) (λq=>f (.inl q)),λb e=>absurd (by rw[e.1]) (λq=>f (.inl q))⟩
  |(1,k),_=>exact⟨λq=>q,λ_ q=>q⟩
  |(2,s),f=>
   grind [BH,BW.C,BW.F]
  |(3,s),f=>
   grind [BH,BW.C,BW.F]
  |(j+4,k),_=>exact⟨λq=>q,λ_ q=>q⟩
 have o:v.ownBlock≠some wb:=λe=>by
  rcases B wb e with l|l
  .have:=h.one (0,0) (2,t) wb ⟨rfl,rfl⟩ l;simp at this
  .exact m wb l (0,0) ⟨rfl,rfl⟩
 have p:∀b,BW.F wb (d.add t v x) (3,t) b->b≠wb/\v.ownBlock≠some b:=by
  intro b a;rcases C b a with e|e
  .refine⟨λq=>?_,λq=>?_⟩
   .have:=h.one (0,0) (3,t) b ⟨rfl,q⟩ e;simp at this
   .rcases B b q with l|l
    .have:=h.one (2,t) (3,t) b l e;simp at this
    .exact m b l _ e
  grind
 refine⟨x,v,KG.acts (BW.loc base wb) h (λi=>i=(0,0)\/i=(2,t)\/i=(3,t)) _ A ?_ ?_ ?_ ?_ r,A.mono (λb _ e=>?_),λb ⟨i,a⟩=>?_⟩
 .rintro b (e|e|e)
  .exact .inl ⟨(0,0),.inl rfl,rfl,e⟩
  .exact .inl ⟨(2,t),.inr (.inl rfl),e⟩
  .exact .inr (u b e)
 .rintro k (rfl|rfl|rfl)
  .exact λ_=>by rw[P];exact L
  .show w'.ownsRow base (tM t) 5 (up d.lv t v t) (up d.le t (d.le t++[x]) t).length (gX (up d.le t (d.le t++[x]) t));grind [qL]
  .intro y g;simp only[qL,eW,ew]at g;rcases g with g|rfl
   .have n:=h.here (3,t) y g;refine⟨Fh n.1 (λb a=>A.block b (h.lt (3,t) b ⟨y,g,a⟩) ?_),n.2⟩;rintro(e|e|e)
    .have:=h.one (3,t) (0,0) b ⟨y,g,a⟩ ⟨rfl,e⟩;simp at this
    .have:=h.one (3,t) (2,t) b ⟨y,g,a⟩ e;simp at this
    .exact u b e (3,t) ⟨y,g,a⟩
   .exact⟨Q,D⟩
 .rintro k b (rfl|rfl|rfl) a
  .obtain⟨_,rfl⟩:=a;exact⟨h.base (0,0) b ⟨rfl,rfl⟩,L.lt,.inl ⟨(0,0),.inl rfl,rfl,rfl⟩⟩
  .have e:=F2 b a;refine⟨(M.lt b e).1,(M.lt b e).2,?_⟩;rcases B b e with l|l
   .exact .inl ⟨(2,t),.inr (.inl rfl),l⟩
   .exact .inr (m b l)
  .rcases C b a with e|e
   .exact⟨h.base _ b e,by have:=h.lt _ b e;omega,fA⟩
   grind [Lk]
 .rintro i j b (rfl|rfl|rfl) (rfl|rfl|rfl) g f
  .rfl
  .obtain⟨_,rfl⟩:=g;exact absurd (F2 b f) o
  .exact absurd g.2 (p b f).1
  .obtain⟨_,rfl⟩:=f;exact absurd (F2 b g) o
  .rfl
  .grind
  .exact absurd f.2 (p b g).1
  .grind
  .rfl
 .rcases e with e|e|e
  .exact .inl ⟨(0,0),rfl,e⟩
  .exact .inl ⟨(2,t),e⟩
  .exact .inr e
 .by_cases e:i=(0,0)\/i=(2,t)\/i=(3,t)
  .rcases e with rfl|rfl|rfl
   .exact .inl ⟨(0,0),a⟩
   .rcases B b (F2 b a)with e|e
    .exact .inl ⟨(2,t),e⟩
    .exact .inr (.inr e)
   .rcases C b a with e|e
    .exact .inl ⟨(3,t),e⟩
    .exact .inr (R b e).2.2
  .exact .inl ⟨i,(r i e).2 b a⟩
theorem kK.put{k:Nat}{p p':QD}(h:kK base wb d w)(A:d.qs[k]?=some p)(n:p'.pb=p.pb)(J:Nat->Prop)(f:iU w w' (λb=>∃j,J j/\p.F j b))(x:∀j,J j->p'.C j w')(r:∀j b,J j->p'.F j b->(∃i,J i/\p.F i b)\/w.1.size<=b)(y:∀i j b,J i->J j->p'.F i b->p'.F j b->i=j)(B:∀j,¬ J j->(p.C j w'->p'.C j w')/\∀b,p'.F j b->p.F j b):kK base wb {d with qs:=d.qs.set k p'} w':=by
 have gO:k<d.qs.length:=fA
 have t:(d.qs.set k p')[k]?=some p':=ee gO
 have hF:∀j b,BW.F wb {d with qs:=d.qs.set k p'} (j+4,k) b->p'.F j b:=by
  rintro j b ⟨q,hq,a⟩;grind
 have u:∀{j b},p.F j b->BW.F wb d (j+4,k) b:=λa=>⟨p,A,a⟩
 have o:=h.room
 refine KG.acts (BW.loc base wb) h (λi=>∃j,J j/\i=(j+4,k)) _ f ?_ ?_ ?_ ?_ ?_
 .grind
 .rintro _ ⟨j,l,rfl⟩ q hq;grind
 .rintro _ b ⟨j,l,rfl⟩ a;have a:=hF j b a;refine⟨?_,QD.lt (x j l) a,?_⟩
  .rcases r j b l a with⟨i,_,e⟩|e
   .exact h.base _ b (u e)
   .omega
  .rcases r j b l a with⟨i,g,e⟩|e
   .grind
   .exact .inr (λi g=>by have:=h.lt i b g;omega)
 .rintro _ _ b ⟨i,g,rfl⟩ ⟨j,l,rfl⟩ v m;rw[y i j b g l (hF i b v) (hF j b m)]
 .intro i g;match i,g with
  |(0,_),_=>exact⟨λq=>q,λ_ q=>q⟩
  |(1,_),_=>
   refine⟨λq e=>?_,λ_ q=>q⟩;have m:(d.qs.set k p').map (λp=>mA p.pb)=d.qs.map λp=>mA p.pb:=by
    rw[List.map_set,n];refine List.ext_getElem? λi=>?_;grind
   show w'.ownsRow base 54 1 d.qv (d.qs.set k p').length ((d.qs.set k p').map λp=>mA p.pb);rw[m,eL];exact q e
  |(2,_),_=>exact⟨λq=>q,λ_ q=>q⟩
  |(3,_),_=>exact⟨λq=>q,λ_ q=>q⟩
  |(j+4,s),g=>
   grind [BW.C,BW.F]
structure Us(base wb:Nat)(w0:World)(U:Nat->Prop)(d:BW)(w:World):Prop where
 sep:kK base wb d w
 xL:iU w0 w U
 own:∀b,kB wb d b->U b\/w0.1.size<=b
theorem Us.start(h:kK base wb d w):Us base wb w (kB wb d) d w:=⟨h,iU.refl _ _,λ_ e=>.inl e⟩
theorem Us.far{a:Nat->Prop}(h:Us base wb w0 U d w)(f:iU w w' a)(i:∀b,a b->¬ kB wb d b/\(U b\/w0.1.size<=b)):Us base wb w0 U d w':=
 ⟨KG.acts (BW.loc base wb) h.sep (λ_=>False) a f (λb e=>.inr (λj g=>(i b e).1 ⟨j,g⟩)) (λ_ e=>e.elim) (λ_ _ e=>e.elim) (λ_ _ _ e=>e.elim) fA,h.xL.trans (by grind [iU.mono]),h.own⟩
theorem Us.grown(h:Us base wb w0 U d w)(g:w.grownBy w' none):Us base wb w0 U d w':=h.far (iU.lM g (λ_=>False)) (λ_ e=>e.elim)
theorem Us.of{a:Nat->Prop}(h:Us base wb w0 U d w)(s:kK base wb d' w')(f:iU w w' a)(g:∀b,a b->kB wb d b\/U b\/w0.1.size<=b)(e:∀b,kB wb d' b->kB wb d b\/U b\/w0.1.size<=b):Us base wb w0 U d' w':=
 ⟨s,h.xL.trans (by grind [iU.mono,Us.own]),(by grind [Us.own])⟩
theorem Us.mono{V:Nat->Prop}(h:Us base wb w0 U d w)(k:∀b,U b->V b):Us base wb w0 V d w:=⟨h.sep,h.xL.mono (λb _=>k b),λb e=>(h.own b e).imp (k b) id⟩
theorem Us.trans{V:Nat->Prop}{a:World}(f:iU w0 a U)(h:Us base wb a V d w)(k:∀b,V b->U b\/w0.1.size<=b):Us base wb w0 U d w:=
 ⟨h.sep,f.trans (h.xL.mono (λb _=>k b)),λb e=>(h.own b e).elim (k b) (λe=>.inr (by have:=f.size;omega))⟩
theorem Us.free(h:Us base wb w0 U d w){b:Nat}(f:b<w0.1.size)(a:¬ U b):¬ kB wb d b/\w.1[b]?=w0.1[b]?:=⟨λe=>(h.own b e).elim a (λq=>by omega),h.xL.block b f a⟩
theorem Us.below(h:Us base wb w0 U d w)(e:base<=w0.1.size)(a:∀b,U b->base<=b):Below base w0 w:=h.xL.below e a
theorem Us.more{t:Nat}{gB:Option Nat}(a:t<4)(h:Us base wb w0 U d w)(i:∀g,gB=some g->base<=g/\g<w0.1.size/\¬ U g)(k:rq (pD t) base wb (t+2) (tM t) (ua t) gB (d.lv t) d.cells (d.le t) w w'):
  ∃x v,Us base wb w0 (λb=>U b\/gB=some b) (d.add t v x) w':=by
 have z:=h.xL.size
 obtain⟨x,v,s,f,o⟩:=h.sep.more a (by grind [Us.free]) k
 refine⟨x,v,(h.mono (V:=λb=>U b\/gB=some b) (λ_ e=>.inl e)).of s f (λb e=>?_) (λb e=>?_)⟩
 .grind
 grind
theorem D0{p:Prop}(h:p:=by
 rw[List.getElem?_set_ne (λq=>e q.symm)]at hq
 exact .inl ⟨(j+4,s),q,hq,hb⟩):p:=h
theorem Us.put{k:Nat}{p p':QD}(h:Us base wb w0 U d w)(a:d.qs[k]?=some p)(g:p'.pb=p.pb)(J:Nat->Prop)(f:iU w w' (λb=>∃j,J j/\p.F j b))(o:∀j,J j->p'.C j w')(l:∀j b,J j->p'.F j b->(∃i,J i/\p.F i b)\/w.1.size<=b)(r:∀i j b,J i->J j->p'.F i b->p'.F j b->i=j)(n:∀j,¬ J j->(p.C j w'->p'.C j w')/\∀b,p'.F j b->p.F j b):Us base wb w0 U {d with qs:=d.qs.set k p'} w':=by
 have gO:k<d.qs.length:=fA
 have z:=h.xL.size
 refine h.of (h.sep.put a g J f o l r n) f (λb ⟨j,_,e⟩=>.inl ⟨(j+4,k),p,a,e⟩) (λb ⟨i,hb⟩=>?_)
 match i,hb with
 |(0,s),hb=>exact .inl ⟨(0,s),hb⟩
 |(1,s),hb=>exact .inl ⟨(1,s),hb⟩
 |(2,s),hb=>exact .inl ⟨(2,s),hb⟩
 |(3,s),hb=>exact .inl ⟨(3,s),hb⟩
 |(j+4,s),⟨q,hq,hb⟩=>
  by_cases e:s=k
  .subst e;have hq:(d.qs.set s p')[s]?=some q:=hq;rw[ee gO]at hq;cases hq;by_cases m:J j
   .rcases l j b m hb with⟨i,_,e⟩|e
    .exact .inl ⟨(i+4,s),p,a,e⟩
    omega
   .exact .inl ⟨(j+4,s),p,a,(n j m).2 b hb⟩
  .have hq:(d.qs.set k p')[s]?=some q:=hq;exact D0
end Go.Proofs.YtlfifnpjeangmaaGreatDoor
namespace Go.Proofs.YtlfifnpjeangmaaGreatDoor
open Go.RowKit
set_option maxRecDepth 100000
variable {zs:E}{b n:Nat}{a:Option Addr}{gB:Option Nat}{hv jv:Value}{w w' w0:World}
theorem Tq{r:Option Nat}(h:b' w b n)(k:w.grownBy w' r)(d:r≠some b):b' w' b n:=by
 obtain⟨cur,e,a,h2⟩:=h;exact zE
theorem Be(h:b' w b n)(k:w'.1[b]?=w.1[b]?):b' w' b n:=by
 obtain⟨a,e,d,f⟩:=h;exact⟨a,e,k.trans d,f⟩
theorem I7(h:b' w b n)(a)(o)(u):b' (w.setCell (δ a o) u) b n:=h.cf ((CF.refl w (λ_ _=>True)).setCell a o u (λ_=>trivial))
structure kL where
 a:mE
 now:Int
 s:E
 ask:qM
def kL.cells(t:kL):List Value:=t.a.cells.toList++([Y t.now,.string ⟨t.s.toArray⟩]++t.ask.cells)
structure kL.Ok(t:kL):Prop where
 bI:b9 t.a.bI
 aC:b9 t.a.aC
 ae:b9 t.a.ae
 name:t.a.name.length<=1048576
 now:b9 t.now
 s:t.s.length<=1048576
 ask:t.ask.Ok
def pG(w:World)(a:Option Addr)(ts:List kL):Prop:=∀i(h:i<ts.length),∃b off,a=some ⟨b,off,none⟩/\b<w.1.size/\w.rangeAt b (off+i*34) ts[i].cells
theorem pG.below{f:List kL}(h:pG w a f)(k:Below w.1.size w w'):pG w' a f:=λi l=>by
 obtain⟨b,d,e,g,r⟩:=h i l
 exact⟨b,d,e,by have:=k.size;omega,λj u m=>(World.cell?_of_block (k.block b g)).trans (r j u m)⟩
structure LJ where
 t:kL
 a:Option Addr
 c:Nat
 r:E
 g:Option Nat
def LJ.WM(x:LJ):Vj:=(x.t.a,x.t.now,.slice x.a x.r.length x.c)
def LJ.m(x:LJ):uo:=(x.t.a,x.t.now,x.r)
structure JB(w0 w:World)(ts:List kL)(xs:List LJ)(jv hv:Value):Prop where
 tk:xs.map LJ.t=ts.take xs.length
 KH:w.ownsRow w0.1.size 194 9 jv xs.length (eQ (xs.map LJ.WM))
 hrow:w.ownsRow w0.1.size 9 1 hv xs.length (xs.map λx=>.string ⟨x.r.toArray⟩)
 rU:∀x∈xs,ny w0 w x.a x.c x.r x.g/\x.r.length<=300000000
 dis:∀(i j:Nat)(x y:LJ),i<j->xs[i]?=some x->xs[j]?=some y->∀b,x.g=some b->y.g≠some b
 VP:∀x∈xs,∀b,x.g=some b->jv.ownBlock≠some b/\hv.ownBlock≠some b
 jh:∀b,jv.ownBlock=some b->hv.ownBlock≠some b
theorem ny.kept{b:Nat}(h:ny w0 w a b zs gB)(k:∀g,gB=some g->w'.1[g]?=w.1[g]?):ny w0 w' a b zs gB:=by
 rcases h with h|⟨g,e,d,f,i⟩
 .exact .inl h
 .exact .inr ⟨g,e,d,f,i.kept (k g d)⟩
theorem ny.lt2{d:Nat}(h:ny w0 w a d zs gB)(g)(b:gB=some g):w0.1.size<=g/\g<w.1.size:=by
 rcases h with⟨_,_,_,h⟩|⟨j,_,e,f,i⟩
 .rw[h]at b;cases b
 .rw[e]at b;cases b;exact⟨f,i.lt⟩
theorem ny.aks{d:World}{b:Nat}(h:ny d w a b zs gB)(k:w0.1.size<=d.1.size):ny w0 w a b zs gB:=by
 rcases h with h|⟨g,e,f,j,i⟩
 .exact .inl h
 .exact .inr ⟨g,e,f,by omega,i⟩
theorem JB.nil(w0 w)(d):JB w0 w d [] σ σ:=
 ⟨rfl,World.ownsRow_nil _ _ _ _,World.ownsRow_nil _ _ _ _,λx a=>(by cases a),fA,λx a=>(by cases a),λb e=>by cases e⟩
theorem JB.kept{f:List kL}{i:List LJ}(h:JB w0 w f i jv hv)(k:∀b,w0.1.size<=b->b<w.1.size->w'.1[b]?=w.1[b]?):JB w0 w' f i jv hv:=
 ⟨h.tk,cB h.KH (λb a=>k b (h.KH.lt b a).1 (h.KH.lt b a).2),cB h.hrow (λb a=>k b (h.hrow.lt b a).1 (h.hrow.lt b a).2),λx d=>⟨(h.rU x d).1.kept (λg e=>k g ((h.rU x d).1.lt2 g e).1 ((h.rU x d).1.lt2 g e).2),(h.rU x d).2⟩,h.dis,h.VP,h.jh⟩
theorem JB.grown{a:List kL}{b:List LJ}(h:JB w0 w a b jv hv)(k:w.grownBy w' none):JB w0 w' a b jv hv:=(by grind [World.grownBy.block,JB.kept])
theorem VQ(a)(j):eQ (a++[j])=eQ a++(gK j.1 j.2.1 j.2.2).toList:=by simp[eQ,Vj.cells]
theorem JB.push{w2 w3 v r k:World}{u:List kL}{g:List LJ}{d a:Value}{x:LJ}(h:JB w0 w u g jv hv)(L:u[g.length]?=some x.t)(K:w0.1.size<=w.1.size)(l:w.grownBy w2 none)(A:ny w w2 x.a x.c x.r x.g)(J:x.r.length<=300000000)(m:w2.grownBy w3 none)(V:v.ownsRow w0.1.size 9 1 a (g.length+1) ((g.map λx=>.string ⟨x.r.toArray⟩)++[.string ⟨x.r.toArray⟩]))(n:w3.grownBy v hv.ownBlock)(T:a.ownBlock=hv.ownBlock\/a.ownBlock=some w3.1.size)(o:v.grownBy r none)(C:k.ownsRow w0.1.size 194 9 d (g.length+1) (eQ (g.map LJ.WM)++(gK x.t.a x.t.now (.slice x.a x.r.length x.c)).toList))(p:r.grownBy k jv.ownBlock)(U:d.ownBlock=jv.ownBlock\/d.ownBlock=some r.1.size):
  JB w0 k u (g++[x]) d a/\(w0.grownBy w none->w0.grownBy k none):=by
 have s2:=l.size
 have s3:=m.size
 have s4:=n.size
 have s5:=o.size
 have s6:=p.size
 have jl:=λb e=>h.KH.lt b e
 have hl:=λb e=>h.hrow.lt b e
 have M:∀b,a.ownBlock=some b->hv.ownBlock=some b\/b=w3.1.size:=fA
 have P:∀b,d.ownBlock=some b->jv.ownBlock=some b\/b=r.1.size:=fA
 have Q:∀b,b<w2.1.size->hv.ownBlock≠some b->jv.ownBlock≠some b->k.1[b]?=w2.1[b]?:=oN
 have xg:=λb e=>A.lt2 b e
 have S:∀b,x.g=some b->jv.ownBlock≠some b/\hv.ownBlock≠some b:=fA
 have R:∀b,b<w2.1.size->(jv.ownBlock≠some b/\hv.ownBlock≠some b)->d.ownBlock≠some b/\a.ownBlock≠some b:=fA
 have B:=λy f b e=>(h.rU y f).1.lt2 b e
 refine⟨⟨?_,?_,?_,λy f=>?_,λi j y z D f hz b e=>?_,λy f b e=>?_,λb e q=>?_⟩,λt=>⟨?_,?_,?_,by omega,λb X _=>?_⟩⟩
 .rw[ef,h.tk,cD,eC,List.take_add_one,L];rfl
 .rw[cD,eC,ef,List.map_singleton,VQ];exact C
 .rw[cD,eC,ef,List.map_singleton];grind [JB.jh,World.ownsRow.lt,cB,World.grownBy.block]
 .rcases eW.1 f with f|f
  .exact⟨(h.rU y f).1.kept (by grind [World.grownBy.block,JB.VP]),(h.rU y f).2⟩
  .rw[ew.1 f];exact⟨(A.aks K).kept fA,J⟩
 .by_cases b:j<g.length
  .grind [JB.dis]
  grind
 .grind [JB.VP]
 .grind [JB.jh,World.ownsRow.lt]
 .exact((((p.os.trans o.os).trans n.os).trans m.os).trans l.os).trans t.os
 .exact((((p.tape.trans o.tape).trans n.tape).trans m.tape).trans l.tape).trans t.tape
 .exact((((p.output.trans o.output).trans n.output).trans m.output).trans l.output).trans t.output
 grind [World.grownBy.block]
section
variable {P:Program}{ops:Array Oper}{Q:Exit->Act->World->Prop}{md:Region.Mode}{S:World->Prop}
theorem wU{i t:Nat}{f:Oper}(v){e:Nat}{b:Array Bool}{d:Array Value}{g:List Deferred}{w:World}(q:ops.toList[i]?=some f)(l:f.dst=some t)(o:Region.noSelect ops=true)(m:Region.free md ops b i=true)(n:(Region.ready md ops b).contains i=true)(j:∀c a w,Q (.panic c) (a.put f.dst v) w->Q (.panic c) a w)(p:YieldsIf P ops S f v ⟨d,g⟩)(k:S w)(h:wpAnyH P md ops Q S e (b.setIfInBounds i true) ⟨d.setIfInBounds t v,g⟩ w):wpAnyH P md ops Q S (e+1) b ⟨d,g⟩ w:=by
 refine wpAnyH_take fA o m n j p k ?_
 rw[l]
 exact h
theorem jM(i:Nat)(v:Value){t:Nat}{oi:Oper}{fuel:Nat}{listed:Array Bool}{tmps:Array Value}{df:List Deferred}{w:World}{q:Prop}(k:q)(hi:ops.toList[i]?=some oi:=by exact rfl)(hd:oi.dst=some t:=by exact rfl)(hs:Region.noSelect ops=true:=by kernel_rfl)(hf:Region.free md ops listed i=true:=by kernel_rfl)(hr:(Region.ready md ops listed).contains i=true:=by kernel_rfl)(hQ:∀c a w,Q (.panic c) (a.put oi.dst v) w->Q (.panic c) a w:=by exact λ_ _ _ h=>h)(hy:YieldsIf P ops S oi v ⟨tmps,df⟩:=by exact Or.inl ⟨by rfl,λw' hSw=>by obtain⟨s1,s2⟩:=hSw;go_simp⟩)(hS:S w:=by assumption)(h:q->wpAnyH P md ops Q S fuel (listed.setIfInBounds i true) ⟨tmps.setIfInBounds t v,df⟩ w:=by intro hq;simp only[eh,ej,eJ];exact hq):wpAnyH P md ops Q S (fuel+1) listed ⟨tmps,df⟩ w:=
 wU v hi hd hs hf hr hQ hy hS (h k)
theorem rV(i:Nat)(v:Value){t:Nat}{oi:Oper}{fuel:Nat}{listed:Array Bool}{tmps:Array Value}{df:List Deferred}{w:World}{q:Prop}(k:q)(hi:ops.toList[i]?=some oi:=by exact rfl)(hd:oi.dst=some t:=by exact rfl)(hs:Region.noSelect ops=true:=by kernel_rfl)(hf:Region.free md ops listed i=true:=by kernel_rfl)(hr:(Region.ready md ops listed).contains i=true:=by kernel_rfl)(hQ:∀c a w,Q (.panic c) (a.put oi.dst v) w->Q (.panic c) a w:=by exact λ_ _ _ h=>h)(hy:YieldsIf P ops S oi v ⟨tmps,df⟩:=by exact Or.inl ⟨by rfl,λw' hSw=>by obtain⟨s1,s2,s3⟩:=hSw;go_simp⟩)(hS:S w:=by assumption)(h:q->wpAnyH P md ops Q S fuel (listed.setIfInBounds i true) ⟨tmps.setIfInBounds t v,df⟩ w:=by intro hq;simp only[eh,ej,eJ];exact hq):wpAnyH P md ops Q S (fuel+1) listed ⟨tmps,df⟩ w:=
 wU v hi hd hs hf hr hQ hy hS (h k)
theorem yN(i:Nat)(v:Value){t:Nat}{oi:Oper}{fuel:Nat}{listed:Array Bool}{tmps:Array Value}{df:List Deferred}{w:World}{q:Prop}(k:q)(hi:ops.toList[i]?=some oi:=by exact rfl)(hd:oi.dst=some t:=by exact rfl)(hs:Region.noSelect ops=true:=by kernel_rfl)(hf:Region.free md ops listed i=true:=by kernel_rfl)(hr:(Region.ready md ops listed).contains i=true:=by kernel_rfl)(hQ:∀c a w,Q (.panic c) (a.put oi.dst v) w->Q (.panic c) a w:=by exact λ_ _ _ h=>h)(hy:YieldsIf P ops S oi v ⟨tmps,df⟩:=by exact Or.inl ⟨by rfl,λw' hSw=>by obtain⟨s1,s2,s3,s4⟩:=hSw;go_simp⟩)(hS:S w:=by assumption)(h:q->wpAnyH P md ops Q S fuel (listed.setIfInBounds i true) ⟨tmps.setIfInBounds t v,df⟩ w:=by intro hq;simp only[eh,ej,eJ];exact hq):wpAnyH P md ops Q S (fuel+1) listed ⟨tmps,df⟩ w:=
 wU v hi hd hs hf hr hQ hy hS (h k)
theorem pC{i:Nat}{o:Oper}{d:Nat}{b:Array Bool}{a:Act}{w:World}(g:ops.toList[i]?=some o)(f:Region.ready md ops b=[i])(h:∀e:Act->World->Prop,Shut (∀a w,S w->(S w->wpAnyH P md ops Q S d (b.setIfInBounds i true) a w)->e a w)->if Region.wanted o (yielded ops a.tmps)=true then Oper.wp P o a w e Q else e (a.put o.dst undef) w):
  wpAnyH P md ops Q S (d+1) b a w:=
 wpAnyH_ready (rs:=[i]) f Z (by grind [AllReadyH.cons,AllReadyH.nil])
end
theorem uV{a b:World}{n:Nat}{d:Option Nat}(h:(a.drewN n).grownBy b d):a.grownBy b d:=⟨h.os,h.tape,h.output,h.size,h.block⟩
theorem Oi{P:Program}(w){o:Oper}{a:Act}{K:Act->World->Prop}{Q:Exit->Act->World->Prop}(x)(i g)(l:o.op=Op.convert i g x)(e)(u:P.underlying i=some .string)(q:P.underlying g=some (.slice e))(r:P.underlying e=some (.int .u8))(d)(v:a.eval x=.string ⟨d.toArray⟩)(y:d.length<=140737488355328)(p:∀b f k,d.length<=f->f<=maxLen->At k (some ⟨b,0,none⟩) d->w.grownBy k none->K (a.put o.dst (ς b 0 d.length f)) k):
  Oper.wp P o a w K Q:=by
 have m:(⟨d.toArray⟩:ByteArray).size=d.length:=ue
 have n:=run_bytes_of_string (P:=P) w i g e ⟨d.toArray⟩ u q r
 rw[m]at n
 have f:=grownCap_ge w d.length 0 e
 have b:=grownCap_le_maxLen w d.length 0 e kO
 unfold Oper.wp
 simp[execOp,l,v,n,Result.andThen]
 refine p _ _ _ f b ?_ ⟨rfl,rfl,rfl,by simp,λk t _=>Below.heap_alloc w.drew _ k t⟩
 exact Jx
theorem sM.jN{w j:World}{n b e g:Nat}{i:Value}{d:List KN}(h:sM (w.drewN n) j b e g i d):sM w j b e g i d:=by
 obtain⟨k,a,l,m,o,p,q,f,r⟩:=h;exact⟨k,a,l,m,o,p,q,⟨f.os,f.tape,f.output,f.size,f.block⟩,r⟩
end Go.Proofs.YtlfifnpjeangmaaGreatDoor
namespace Go.Proofs.YtlfifnpjeangmaaGreatDoor
open Go.RowKit
set_option maxRecDepth 100000
variable {base wb:Nat}
structure JX(w0 w:World)(xs:List LJ)(jb:Nat)(hv:Value):Prop where
 jr:w.rangeAt jb 0 (eQ (xs.map LJ.WM))
 j7:w.cell? (δ jb (xs.length*9+7))=some (Y 77)/\w.cell? (δ jb (xs.length*9+8))=some σ
 lv:b' w jb ((xs.length+1)*9)
 jl:w0.1.size<=jb
 hrow:w.ownsRow w0.1.size 9 1 hv xs.length (xs.map λx=>.string ⟨x.r.toArray⟩)
 hne:hv.ownBlock≠some jb
 rU:∀x∈xs,ny w0 w x.a x.c x.r x.g/\x.r.length<=300000000
 dis:∀(i j:Nat)(x y:LJ),i<j->xs[i]?=some x->xs[j]?=some y->∀b,x.g=some b->y.g≠some b
 VP:∀x∈xs,∀b,x.g=some b->b≠jb/\hv.ownBlock≠some b
theorem T'(a):(eQ a).length=a.length*9:=by
 induction a with
 |nil=>rfl
 |cons j a b=>
  have e:eQ (j::a)=j.cells++eQ a:=rfl;rw[e,cD,b,de];show 9+_=_;omega
theorem VW{w:World}{base:Nat}{e:TypeId}{g n c s:Nat}{k:List Value}(h:w.ownsRow base e s (ς g 0 n c) n k):b' w g (n*s):=by
 rcases h.2 with⟨d,_⟩|⟨l,f,a,d,m,i,j,o,b,p⟩
 .cases d
 .injection d with e1 _ e3;injection e1 with e1;injection e1 with e1 _ _;subst e1 e3;exact⟨a,e,i,by rw[b];exact Nat.mul_le_mul_right _ j⟩
abbrev Tw:List Value:=[Y 0,ε,H 0,Y 0,Y 0,Y 0,Y 0,Y 77,σ]
theorem JB.last{r w A n:World}{L:List kL}{d:List LJ}{m y:Value}{aj:Option Addr}{c:Nat}(h:JB r w L d m y)(g:w.grownBy A none)(t:n.ownsRow r.1.size 194 9 (.slice aj (d.length+1) c) (d.length+1) (eQ (d.map LJ.WM)++Tw))(o:A.grownBy n m.ownBlock)(J:(Value.slice aj (d.length+1) c).ownBlock=m.ownBlock\/(Value.slice aj (d.length+1) c).ownBlock=some A.1.size):
  ∃a,aj=some ⟨a,0,none⟩/\JX r n d a y/\(r.grownBy w none->r.grownBy n none):=by
 have M:=g.size
 have P:=o.size
 obtain⟨a,rfl⟩:∃a,aj=some ⟨a,0,none⟩:=by
  rcases t.2 with⟨_,e⟩|⟨g,f,i,y,_⟩
  .omega
  .injection y with e;exact⟨g,e⟩
 have K:=λb e=>h.KH.lt b e
 have i:m.ownBlock=some a\/a=A.1.size:=by
  rcases J with e|e
  .exact .inl e.symm
  .injection e with e;exact .inr e
 have C:(eQ (d.map LJ.WM)).length=d.length*9:=by rw[T',cR]
 have B:∀j u,(eQ (d.map LJ.WM)++Tw)[j]?=some u->n.c a j=some u:=λj u v=>by
  obtain⟨b,p,f,l⟩:=nC t j u v;injection f with f;injection f with f e3 _;subst f e3;rw[cN]at l;exact l
 have k:∀b,b<w.1.size->m.ownBlock≠some b->n.1[b]?=w.1[b]?:=λb i e=>by rw[o.block b G (λq=>e q.symm),g.block b i Z]
 have p:∀b,b<w.1.size->m.ownBlock≠some b->b≠a:=λb l f e=>i.elim (λq=>f (by rw[e];exact q)) (λq=>by omega)
 have D:=λx f b e=>(h.rU x f).1.lt2 b e
 refine⟨a,rfl,⟨λj u v=>?_,⟨?_,?_⟩,VW t,(t.lt a rfl).1,cB h.hrow (λb i=>k b (h.hrow.lt b i).2 (λe=>h.jh b e i)),λe=>?_,λx f=>⟨(h.rU x f).1.kept (λb e=>k b (D x f b e).2 (h.VP x f b e).1),(h.rU x f).2⟩,h.dis,λx f b e=>⟨p b (D x f b e).2 (h.VP x f b e).1,(h.VP x f b e).2⟩⟩,λl=>⟨?_,?_,?_,by have:=l.size;omega,λb i _=>?_⟩⟩
 .rw[cN];exact B j u (by rw[cW (cM.1 v).1];exact v)
 .exact B _ _ (by rw[cY G,C,show d.length*9+7-d.length*9=7 by omega];rfl)
 .exact B _ _ (by rw[cY G,C,show d.length*9+8-d.length*9=8 by omega];rfl)
 .exact p a (h.hrow.lt a e).2 (λq=>h.jh a q e) rfl
 .exact(o.os.trans g.os).trans l.os
 .exact(o.tape.trans g.tape).trans l.tape
 .exact(o.output.trans g.output).trans l.output
 .rw[k b (by have:=l.size;omega) (λe=>by have:=K b e;omega),l.block b i Z]
theorem JX.kept{i w p:World}{q:List LJ}{e:Nat}{n:Value}(h:JX i w q e n)(k:∀b,i.1.size<=b->b<w.1.size->p.1[b]?=w.1[b]?):JX i p q e n:=by
 have o:=k e h.jl h.lv.lt;have f:=λj=>World.cell?_of_block (a:=⟨e,j,none⟩) o;exact⟨λj u r=>(f _).trans (h.jr j u r),⟨(f _).trans h.j7.1,(f _).trans h.j7.2⟩,Be h.lv o,h.jl,cB h.hrow (λb l=>k b (h.hrow.lt b l).1 (h.hrow.lt b l).2),h.hne,λx d=>⟨(h.rU x d).1.kept (λg m=>k g ((h.rU x d).1.lt2 g m).1 ((h.rU x d).1.lt2 g m).2),(h.rU x d).2⟩,h.dis,h.VP⟩
def CW(xb:Nat)(dp:Option Pl)(M:DM)(ms:List uo)(n:Nat)(w w':World)(lv:Value)(ev:Int):Prop:=
 CF w w' (λb _=>b=xb)/\((n<=16/\ev=0/\lv = ς w.1.size 0 n n/\∃ds,b' w' w.1.size (n*2)/\ds.length=n/\QI w xb dp M ms ds w'/\w'.rangeAt w.1.size 0 (fE ds))\/(16<n/\ev=7/\lv = σ/\w.grownBy w' none))
theorem QI.jN{w W:World}{g n:Nat}{a:Option Pl}{M:DM}{d:List uo}{b:List (Value×Int)}(h:QI (w.drewN n) g a M d b W):QI w g a M d b W:=⟨h.len,h.bP,h.said,h.cf.jN⟩
theorem CW.jN{l n q:Nat}{f:Option Pl}{M:DM}{j:List uo}{w k:World}{i:Value}{g:Int}(h:CW l f M j n (w.drewN q) k i g):CW l f M j n w k i g:=by
 refine⟨h.1.jN,?_⟩;rcases h.2 with⟨a,b,d,m,e,o,p,r⟩|⟨a,b,d,e⟩
 .exact .inl ⟨a,b,d,m,e,o,p.jN,r⟩
 .exact .inr ⟨a,b,d,uV e⟩
theorem RI(D)(a)(n y f N d)(L)(m)(M)(w)(h:JX D w a y L)(C:eZ w d m M/\∀q,m=some q->q.g≠d)(r:∀b,b=d\/Pl.blk m=some b->b<D.1.size)(J:dX M N)(u:1<=N)(K:N+16<=4611686018427387904)(B:a.length=n)(v:∀x∈a,x.t.Ok):Calls Tryz.prog 75 #[π d 0,ς y 0 n f] w λe A=>∃i g,e=.returned (.tuple #[i,Y g])/\CW d m M (a.map LJ.m) n w A i g:=by
 by_cases p:16<n
 .refine(NZ d n f _ w p).mono ?_;rintro e A ⟨rfl,g⟩;exact⟨_,_,rfl,CF.bF g _,.inr ⟨p,rfl,rfl,g⟩⟩
 .have P:=r d (.inl rfl);refine(Rm d y n f N (a.map LJ.WM) (a.map LJ.m) m M w C.1 C.2 (λq e=>by have:=r q.g (.inr (by rw[e];rfl));have:=h.lv.lt;have:=h.jl;omega) J u K (by show _=_;rw[cR];exact B) G (by rw[cR];exact B) (λj l=>?_) (λi k t=>?_) h.jr h.lv.lt (by have:=h.jl;omega)).mono ?_
  .obtain⟨x,r,rfl⟩:=List.mem_map.1 l;have o:=v x r;exact⟨o.bI,o.aC,o.ae,by have:=o.name;show x.t.a.name.length<=_;omega,o.now⟩
  .rw[cR]at k;simp only[List.getElem_map];have l:=h.rU a[i] (eg k);refine⟨rfl,rfl,a[i].a,a[i].c,rfl,l.1.at,⟨a[i].a,a[i].c,rfl,l.1.cap.1,l.1.cap.2,by have:=l.2;show a[i].r.length<=_;omega,λ_ h=>h⟩,λb j e=>?_⟩;rcases l.1 with⟨j,_⟩|⟨g,k,t,b,_⟩
   .rw[j]at e;cases e
   .rw[k]at e;injection e with e;injection e with e;omega
  .rintro e A ⟨x,i,rfl,rfl,k,t,b,o,q⟩;exact⟨_,_,rfl,q,.inl ⟨by omega,rfl,rfl,i,k,t,b,o⟩⟩
structure J2(w0 w9 wr:World)(xs:List LJ)(jb j:Nat):Prop where
 f:iU w9 wr (λb=>b=jb\/∃x∈xs,x.g=some b)
 lv:b' wr jb ((xs.length+1)*9)
 jc:∀i o v,j<=i->o<9->w9.cell? (δ jb (i*9+o))=some v->wr.cell? (δ jb (i*9+o))=some v
 ln:∀i x,j<=i->xs[i]?=some x->ny w0 wr x.a x.c x.r x.g
theorem J2.start{d a:World}{e:List LJ}{b:Nat}{f:Value}(h:JX d a e b f):J2 d a a e b 0:=⟨iU.refl _ _,h.lv,λ_ _ _ _ _ h=>h,λ_ x _ g=>(h.rU x (ey g)).1⟩
theorem J2.low{d f wr:World}{i:List LJ}{g j:Nat}{k:Value}(h:J2 d f wr i g j)(a:JX d f i g k){b:Nat}(o:b<d.1.size):wr.1[b]?=f.1[b]?:=by
 have m:=a.jl;have n:=a.lv.lt;refine h.f.block b G (λe=>?_);rcases e with e|⟨x,l,e⟩
 .omega
 .have:=(a.rU x l).1.lt2 b e;omega
theorem J2.WM{g i wr:World}{d:List LJ}{b j:Nat}{m:Value}(h:J2 g i wr d b j)(k:JX g i d b m){x:LJ}(f:d[j]?=some x)(o)(v)(e:(gK x.t.a x.t.now (.slice x.a x.r.length x.c)).toList[o]?=some v):wr.cell? (δ b (j*9+o))=some v:=by
 have l:=(cM.1 f).1;have a:o<9:=(cM.1 e).1;refine h.jc j o v (cy _) a ?_
 have:=k.jr (j*9+o) v (by
  rw[xV _ j o (by rw[cR];exact l) a,List.getElem_map,(cM.1 f).2]
  exact e)
 rwa [cN]at this
theorem J2.had{t u wr:World}{l:List LJ}{o j n c:Nat}{a:Option Addr}(h:J2 t u wr l o j)(k:JX t u l o (.slice a n c))(B:l.length=n){i:Nat}{x:LJ}(C:l[i]?=some x):∃d,a=some ⟨d,0,none⟩/\wr.c d i=some (.string ⟨x.r.toArray⟩)/\d≠o/\∀y∈l,y.g≠some d:=by
 subst B
 have r:=cB k.hrow (λb d=>h.f.block b (k.hrow.lt b d).2 (λe=>by
  rcases e with e|⟨y,m,e⟩
  .exact k.hne (by rw[<-e];exact d)
  .exact(k.VP y m b e).2 d))
 obtain⟨b,p,d,q⟩:=nC r i (.string ⟨x.r.toArray⟩) (by rw[eA,C];rfl);have A:p=0:=by
  rcases r.2 with⟨f,_⟩|⟨g,v,w,f,_⟩
  .injection f with f;rw[f]at d;cases d
  .injection f with f;rw[f]at d;injection d with d;injection d with _ d;exact d.symm
 subst d A;rw[cN]at q;exact⟨b,rfl,q,λe=>k.hne (by rw[<-e];rfl),λy m e=>(k.VP y m b e).2 rfl⟩
theorem J2.next{D J wr P wc K:World}{u:List LJ}{d j:Nat}{U:Value}(h:J2 D J wr u d j)(A:JX D J u d U){x:LJ}(M:u[j]?=some x)(k:wr.grownBy P x.g)(g:P.grownBy wc none)(f:CF wc K (λb o=>b=d/\j*9<=o/\o<j*9+9)):J2 D J K u d (j+1):=by
 have r:=ey M;have W:=k.size;have X:=g.size;have s3:=f.size;have p:x.g≠some d:=λe=>(A.VP x r d e).1 rfl;have V:=(Tq h.lv k p).grown g;have t:∀b,b<wr.1.size->x.g≠some b->wc.1[b]?=wr.1[b]?:=λb n e=>by rw[g.block b G Z,k.block b n (λq=>e q.symm)]
 have m:∀b,b<wr.1.size->x.g≠some b->b≠d->K.1[b]?=wr.1[b]?:=λb n e Q=>by rw[f.block b G (λo q=>Q q.1),t b n e]
 refine⟨h.f.trans ⟨(f.os.trans g.os).trans k.os,(f.tape.trans g.tape).trans k.tape,(f.output.trans g.output).trans k.output,by omega,λb n L=>m b n (λe=>L (.inl (.inr ⟨x,r,e⟩))) (λe=>L (.inl (.inl e)))⟩,V.cf f,λi o v S T R=>?_,λi y S B=>?_⟩
 .refine f.cell ?_ (λe=>by omega);rw[World.cell?_of_block (w:=wr) (w':=wc) (a:=⟨d,i*9+o,none⟩) (t d h.lv.lt p)];exact h.jc i o v G T R
 .have l:=h.ln i y G B;have C:=ey B;exact l.kept (λb e=>m b (l.lt2 b e).2 (λq=>A.dis j i x y G M B b q e) (A.VP y C b e).1)
theorem pG.kept{base:Nat}{w g:World}{a:Option Addr}{f:List kL}(h:pG w a f)(l:∀b d,a=some ⟨b,d,none⟩->0<f.length->b<base)(p:w.1.size<=g.1.size)(k:∀b,b<base->g.1[b]?=w.1[b]?):pG g a f:=λi m=>by
 obtain⟨b,d,e,o,r⟩:=h i m
 exact⟨b,d,e,by omega,λj u n=>(World.cell?_of_block (k b (l b d e G))).trans (r j u n)⟩
theorem R'(W)(b o)(a d e f h j k l m):CF W (((((((((W.setCell (δ b o) a).setCell (δ b (o+1)) d).setCell (δ b (o+2)) e).setCell (δ b (o+3)) f).setCell (δ b (o+4)) h).setCell (δ b (o+5)) j).setCell (δ b (o+6)) k).setCell (δ b (o+7)) l).setCell (δ b (o+8)) m) (λg i=>g=b/\o<=i/\i<o+9):=
 ((((((((((CF.refl W _).setCell b o a (λ_=>⟨rfl,by omega,by omega⟩)).setCell b (o+1) d (λ_=>⟨rfl,by omega,by omega⟩)).setCell b (o+2) e (λ_=>⟨rfl,by omega,by omega⟩)).setCell b (o+3) f (λ_=>⟨rfl,by omega,by omega⟩)).setCell b (o+4) h (λ_=>⟨rfl,by omega,by omega⟩)).setCell b (o+5) j (λ_=>⟨rfl,by omega,by omega⟩)).setCell b (o+6) k (λ_=>⟨rfl,by omega,by omega⟩)).setCell b (o+7) l (λ_=>⟨rfl,by omega,by omega⟩)).setCell b (o+8) m (λ_=>⟨rfl,by omega,by omega⟩))
theorem VX{W:World}{b n o:Nat}(L:b' W b n)(h:o+9<=n):(∃d,W.c b o=some d)/\(∃d,W.c b (o+1)=some d)/\(∃d,W.c b (o+2)=some d)/\(∃d,W.c b (o+3)=some d)/\(∃d,W.c b (o+4)=some d)/\(∃d,W.c b (o+5)=some d)/\(∃d,W.c b (o+6)=some d)/\(∃d,W.c b (o+7)=some d)/\(∃d,W.c b (o+8)=some d)/\W.z b o=false/\W.z b (o+1)=false/\W.z b (o+2)=false/\W.z b (o+3)=false/\W.z b (o+4)=false/\W.z b (o+5)=false/\W.z b (o+6)=false/\W.z b (o+7)=false/\W.z b (o+8)=false:=by
 have a:=λj d=>cA.1 (L.some j d);exact⟨a _ G,a _ G,a _ G,a _ G,a _ G,a _ G,a _ G,a _ G,a _ G,L.frozen _,L.frozen _,L.frozen _,L.frozen _,L.frozen _,L.frozen _,L.frozen _,L.frozen _,L.frozen _⟩
