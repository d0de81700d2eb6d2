import Derived.Test.YticfhckmhcaigaaGreatDoorGEQPool
import Derived.Test.YticfhckmhcaigaaGreatDoorGESHandB
namespace Go.Proofs.YticfhckmhcaigaaGreatDoor
set_option maxHeartbeats 1000000
open Proofs.Tryz Go.RowKit
set_option maxRecDepth 100000
variable {M:DM}{n:Nat}
theorem Qk(g p)(n k)(i)(w)(a:List (Value×Int)->World->Prop)(x:Hid (i.length=n))(f:n<=16)(y:∀j∈i,∃b m c,j.2.2=.slice b m c)(v:w.rangeAt p 0 (eX i))(o:p<w.1.size)(m:p≠g)(u:g<w.1.size)(l:a [] w)(t:∀d W e,a d W->CF W e (λb _=>b=w.1.size)->a d e)(step:∀d W(h:d.length<i.length),w.1.size<W.1.size->a d W->Calls prog 149 #[.iface 247 (N g 0),.agg (gT (i[d.length]).1 (i[d.length]).2.1 (i[d.length]).2.2)] W λe q=>∃A C B r,e=.returned (.agg #[.slice A C B,Y r])/\a (d++[(.slice A C B,r)]) q/\CF W q (λb _=>b=g)):Calls prog 75 #[N g 0,ς p 0 n k] w λe q=>GQ w g n a e q:=by
 have HB:=aE (PZ g p n k i w a x f y v o m u l t step)
 clear x f y v o m u l t step
 go_in
 go_wp2_with fail
 refine HB.mono ?_
 rintro e q ⟨f,d,rfl,h⟩
 have b:=aE h
 clear h HB
 go_wp2
 go_ret2
 exact⟨f,d,rfl,b⟩
theorem Ql(g n a)(f)(w)(h:16<n):Calls prog 75 #[N g 0,.slice f n a] w λe b=>e=.returned (.tuple #[σ,Y 7])/\w.grownBy b none:=by
 have d:(16:Int)<(n:Int):=G
 have HB:Hid (Calls prog 118 #[.iface 247 (N g 0),.slice f n a] w λe b=>e=.returned (.tuple #[σ,Y 7])/\w.grownBy b none):=by
  show Calls _ _ _ _ _;go_in;go_wp2;go_ret2;exact⟨rfl,cC _ _⟩
 clear d h
 go_in
 go_wp2_with fail
 refine HB.mono ?_
 rintro e b ⟨rfl,h⟩
 have d:=aE h
 clear h HB
 go_wp2
 go_ret2
 exact⟨rfl,d⟩
abbrev vT:=nC×Int×E
def MK(M:DM)(j:vT):(E×Int)×DM:=
 if j.1.kind=0 then(((dF M j.2.1 j.2.2).1,0),(dF M j.2.1 j.2.2).2) else(([],(fD M.aC j.1).2),{M with aC:=(fD M.aC j.1).1})
def jo(M:DM)(js:List vT):DM:=js.foldl (λM j=>(MK M j).2) M
theorem Hf(M)(a)(j):jo M (a++[j])=(MK (jo M a) j).2:=by simp[jo]
structure vT.Ok(j:vT):Prop where
 bH:bT j.1.bH
 aD:bT j.1.aD
 ae:bT j.1.ae
 name:j.1.name.length<=140737488355328
 now:bT j.2.1
theorem dK.MK(h:dK M n)(b:1<=n){j:vT}(a:j.Ok):dK (MK M j).2 (n+1):=by
 unfold Go.Proofs.YticfhckmhcaigaaGreatDoor.MK;split
 .exact(h.answer _ _).mono G
 .exact h.adm b _ a.bH a.aD
theorem dK.jo(h:dK M n)(d:1<=n):∀(a),(∀j∈a,j.Ok)->dK (jo M a) (n+a.length):=by
 intro a;induction a generalizing M n with
 |nil=>intro _;exact h
 |cons j a e=>
  intro b;have:=e (h.MK d (b j Z)) G dT;rw[de,show n+(a.length+1)=n+1+a.length by omega];exact this
def xE(n:Nat)(W:World)(d:Value×Int)(j:vT)(r:E×Int)(p:Option Pl):Prop:=d.2=r.2/\fA W d.1 p r.1/\Pl.fresh n p/\(j.1.kind≠0->p=none)
theorem xE.cf{W a:World}{ex:Nat->Nat->Prop}{d:Value×Int}{j:vT}{r:E×Int}{p:Option Pl}(h:xE n W d j r p)(k:CF W a ex)(f:∀b y,n<=b->¬ ex b y):xE n a d j r p:=⟨h.1,h.2.1.cf k (λq e _ _=>f _ _ (h.2.2.1 q e)),h.2.2⟩
def up{α:Type}(f:Nat->α)(t:Nat)(v:α):Nat->α:=λs=>if s=t then v else f s
theorem rD{α:Type}(f:Nat->α)(t)(v:α):up f t v t=v:=dQ rfl
theorem Dj{α:Type}(f:Nat->α)(t)(v:α){s:Nat}(h:s≠t):up f t v s=f s:=b' h
def PB(w:World)(g:Nat)(v:Value)(aX:E):Prop:=∃ao cap,v=.slice ao aX.length cap/\At w ao aX/\Bs (ao,aX) v aX/\∀b off,ao=some ⟨b,off,none⟩->b≠g
structure QI(w:World)(g:Nat)(dp:Option Pl)(M:DM)(ms:List vT)(ds:List (Value×Int))(W:World):Prop where
 len:ds.length<=ms.length
 bU:∃ni,fO W g ni (jo M (ms.take ds.length))/\∀q',ni=some q'->∃q,dp=some q/\q.g=q'.g
 said:∃ps:Nat->Option Pl,(∀i(h:i<ds.length)(h':i<ms.length),xE (w.1.size+1) W ds[i] ms[i] (MK (jo M (ms.take i)) ms[i]).1 (ps i))/\∀i j q r,i<j->j<ds.length->ps i=some q->ps j=some r->q.g<r.g
 cf:CF w W (λb _=>b=g)
theorem QI.snoc{w:World}{g:Nat}{m:Option Pl}{f:List vT}{a:List (Value×Int)}{W l:World}(h:QI w g m M f a W)(y:a.length<f.length)(k:CF W l (λb _=>b=g))(J:g<w.1.size)(d)(u:∃b,fO l g b (MK (jo M (f.take a.length)) (f[a.length])).2/\∀e,b=some e->∃q,m=some q/\q.g=e.g)(A:∃p,xE (w.1.size+1) l d (f[a.length]) (MK (jo M (f.take a.length)) (f[a.length])).1 p/\Pl.fresh W.1.size p):QI w g m M f (a++[d]) l:=by
 obtain⟨C,D,L⟩:=h.said
 obtain⟨p,K,B⟩:=A
 refine⟨by grind,?_,⟨up C a.length p,λi o t=>?_,λi j q r v x b n=>?_⟩,h.cf.trans k (λ_ _ _ e=>e)⟩
 .rw[cF,eL,dy y,Hf];exact u
 .grind [xE.cf,Dj,rD]
 .rw[cF,eL]at x;rw[Dj _ _ _ G]at b;by_cases e:j=a.length
  .rw[e,rD]at n;have o:=(D i G G).2.1.Iw q b;have t:=B r n;omega
  grind [Dj]
theorem Un(g P n B N)(t)(f)(u)(M)(w)(hq:fO w g u M)(Ed:∀q,u=some q->q.g≠g)(ag:∀q,u=some q->q.g<w.1.size)(hM:dK M N)(ab:1<=N)(hN:N+16<=4611686018427387904)(hn:Hid (t.length=n))(J:n<=16)(hl:f.length=n)(K:∀j∈f,j.Ok)(D:∀i(h:i<t.length)(a:i<f.length),(t[i]).1=(f[i]).1/\(t[i]).2.1=(f[i]).2.1/\PB w g (t[i]).2.2 (f[i]).2.2)(hj:w.rangeAt P 0 (eX t))(af:P<w.1.size)(ae:P≠g):Calls prog 75 #[π g 0,ς P 0 n B] w λe w'=>GQ w g n (QI w g u M f) e w':=by
 have hg:=hq.bU.live.lt
 refine Qk g P n B t w (QI w g u M f) hn J (λj l=>?_) hj af ae hg ⟨cS _,⟨u,hq,λq' h=>⟨q',h,rfl⟩⟩,⟨λ_=>none,λi h=>(by simp at h),dT⟩,CF.refl w _⟩ (λo W a h k=>?_) (λo W h b Q=>?_)
 .obtain⟨i,a,rfl⟩:=List.getElem_of_mem l;obtain⟨_,_,S,c,L,_⟩:=D i a (by rw[hl,<-hn];exact a);exact⟨S,_,c,L⟩
 .obtain⟨A,m,p⟩:=h.bU;refine⟨h.len,⟨A,m.cf k (λy e=>by omega) (λq d y e=>?_),p⟩,(by obtain⟨a,v,i⟩:=h.said;exact⟨a,(by grind [xE.cf]),i⟩),h.cf.trans k (λb y r e=>by omega)⟩;grind
 .have k:o.length<f.length:=by rw[hl,<-hn];exact h
  obtain⟨j1,j2,S,c,L,C,p,ad⟩:=D o.length h k;obtain⟨A,T,d2⟩:=Q.bU;have hinv:=hM.jo ab (f.take o.length) (λj l=>K j (List.mem_of_mem_take l));have m:dK (jo M (f.take o.length)) (N+16):=hinv.mono (by rw[ew];omega);have y:∀q,A=some q->q.g≠g:=λq d=>by
   obtain⟨b,a,v⟩:=d2 q d;have:=Ed b a;omega
  have i:=K _ (eh k);obtain⟨x,l⟩:=aq (f[o.length]);rw[l]at j1 j2 L C p i;obtain⟨j,b⟩:=aq (jo M (f.take o.length));rw[b]at T m;rw[j1,j2,L];by_cases hk:x.1.kind=0
  .have r:(x.1.kind==0)=true:=(by rw[hk];rfl);have R:=C.cf Q.cf dT;rw[L]at p;refine(XH g A j x.1 x.2.1 x.2.2 x.2.2.length S c W T y (m.bin hN) m.aC.sorted (aE rfl) R ad p i.now m.ax m.times (yA m _ _) r).mono ?_;rintro e w' ⟨v',rfl,F⟩;obtain⟨a,c',hs⟩:=F.shape;obtain⟨p',o1,o2⟩:=F.o;obtain⟨U,V,X⟩:=F.bU;subst hs;have v:MK j x=(((dF j x.2.1 x.2.2).1,0),(dF j x.2.1 x.2.2).2):=(by unfold MK;rw[dQ hk]);refine⟨a,_,c',0,rfl,Q.snoc k F.cf hg _ ⟨U,by rw[l,b,v];exact V,λq' d=>?_⟩ ?_,F.cf⟩
   .grind
   .rw[l,b,v];exact⟨p',⟨rfl,o1,λq d=>by have:=o2 q d;omega,λe=>absurd hk e⟩,o2⟩
  .have r:(x.1.kind==0)=false:=sG;refine(abU g A j (N+16) x.1 x.2.1 _ W T y m.aC hN i.ae.1 i.ae.2 (by have:=i.name;omega) r).mono ?_;rintro e w' ⟨rfl,V,X⟩;have v:MK j x=(([],(fD j.aC x.1).2),{j with aC:=(fD j.aC x.1).1}):=(by unfold MK;rw[b' hk]);refine⟨none,0,0,_,rfl,Q.snoc k X hg _ ⟨A,by rw[l,b,v];exact V,d2⟩ ?_,X⟩;rw[l,b,v];exact⟨none,⟨rfl,fA.nil _,λq d=>(by cases d),λ_=>rfl⟩,λq d=>by cases d⟩
section
variable {S I:Type}{C:S->I->World->Prop}{F:S->I->Nat->Prop}{B:Nat}{s s':S}{w w':World}
structure M3(C:S->I->World->Prop)(F:S->I->Nat->Prop)(B:Nat)(s:S)(w:World):Prop where
 here:∀k,C s k w
 lt:∀k b,F s k b->b<w.1.size
 base:∀k b,F s k b->B<=b
 one:∀j k b,F s j b->F s k b->j=k
 room:B<=w.1.size
def DC(C:S->I->World->Prop)(F:S->I->Nat->Prop):Prop:=∀s k w w',C s k w->(∀b,F s k b->w'.1[b]?=w.1[b]?)->C s k w'
theorem M3.acts(L:DC C F)(h:M3 C F B s w)(K:I->Prop)(v:Nat->Prop)(f:iO w w' v)(A:∀b,v b->(∃k,K k/\F s k b)\/∀j,¬ F s j b)(x:∀k,K k->C s' k w')(o:∀k b,K k->F s' k b->B<=b/\b<w'.1.size/\((∃j,K j/\F s j b)\/∀j,¬ F s j b))(y:∀i j b,K i->K j->F s' i b->F s' j b->i=j)(l:∀j,¬ K j->(C s j w'->C s' j w')/\∀b,F s' j b->F s j b):M3 C F B s' w':=by
 have z:=f.size
 have u:=h.room
 have g:∀j,¬ K j->∀b,F s j b->w'.1[b]?=w.1[b]?:=λj m b d=>f.block b (h.lt j b d) (λe=>by
  rcases A b e with⟨k,n,a⟩|a
  .exact m (by rw[h.one j k b d a];exact n)
  .exact a j d)
 refine⟨λj=>?_,λj b d=>?_,λj b d=>?_,λi j b t m=>?_,by omega⟩
 .by_cases e:K j
  .exact x j e
  .exact(l j e).1 (L s j w w' (h.here j) (g j e))
 .by_cases e:K j
  .exact(o j b e d).2.1
  .have:=h.lt j b ((l j e).2 b d);omega
 .by_cases e:K j
  .exact(o j b e d).1
  .exact h.base j b ((l j e).2 b d)
 .by_cases e:K i<;>by_cases a:K j
  .exact y i j b e a t m
  .have q:=(l j a).2 b m;rcases(o i b e t).2.2 with⟨k,n,r⟩|r
   .exact absurd (by rw[h.one j k b q r];exact n) a
   .exact absurd q (r j)
  .have p:=(l i e).2 b t;rcases(o j b a m).2.2 with⟨k,n,r⟩|r
   .exact absurd (by rw[h.one i k b p r];exact n) e
   .exact absurd p (r i)
  .exact h.one i j b ((l i e).2 b t) ((l j a).2 b m)
end
theorem bX.keep{w w':World}{g o:Nat}{l:Option Pl}{d:DM}(h:bX w g o l d)(k:∀b,b=g\/Pl.blk l=some b->w'.1[b]?=w.1[b]?):bX w' g o l d:=by
 have x:=k g (.inl rfl);have f:∀j,w'.cell? (δ g j)=w.cell? (δ g j):=(by grind [World.cell?_of_block])
 have r:∀{b n},w'.1[b]?=w.1[b]?->b9 w b n->b9 w' b n:=λe ⟨i,t,m,p⟩=>⟨i,t,e.trans m,p⟩
 obtain⟨v,i,e⟩:=h.aL;refine⟨r x h.live,(f _).trans h.ax,⟨v,(f _).trans i,?_⟩,⟨r x h.aC.live,λj u b=>(f _).trans (h.aC.room j u b),(f _).trans h.aC.count,h.aC.len⟩,λj u b=>(f _).trans (h.aI j u b),(f _).trans h.count,h.few⟩;rcases e with e|⟨q,t,i,m,p,A,B⟩
 .exact .inl e
 .have y:=k q.g (.inr (by rw[t];rfl));exact .inr ⟨q,t,i,m,p,r y A,λj u b=>(World.cell?_of_block (a:=⟨q.g,q.off+j,none⟩) y).trans (B j u b)⟩
theorem bX.lt{w:World}{g o:Nat}{f:Option Pl}{d:DM}(h:bX w g o f d){b:Nat}(a:b=g\/Pl.blk f=some b):b<w.1.size:=by
 rcases a with rfl|a
 .exact h.live.lt
 .obtain⟨v,_,j⟩:=h.aL;rcases j with⟨e,_⟩|⟨q,e,_,_,_,i,_⟩
  .rw[e]at a;cases a
  .rw[e]at a;injection a with a;rw[<-a];exact i.lt
theorem fO.keep{w w':World}{g:Nat}{e:Option Pl}{d:DM}(h:fO w g e d)(k:∀b,b=g\/Pl.blk e=some b->w'.1[b]?=w.1[b]?):fO w' g e d:=by
 have p:=k g (.inl rfl);have a:∀j,w'.cell? (δ g j)=w.cell? (δ g j):=(by grind [World.cell?_of_block])
 have f:∀{n},b9 w g n->b9 w' g n:=λ⟨b,t,i,l⟩=>⟨b,t,p.trans i,l⟩
 obtain⟨q,r,l,b⟩:=h.look;exact⟨h.bU.keep k,⟨q,r,⟨f l.live,λi m j u o=>(a _).trans (l.ent i m j u o),(a _).trans l.count,(a _).trans l.next,l.len,l.nx4,l.nxl⟩,b⟩,⟨f h.pool.live,(a _).trans h.pool.c0,(a _).trans h.pool.c1⟩⟩
abbrev rf(r:Bool)(w:World)(g:Nat)(dp:Option Pl)(d:DM):Prop:=match r with
 |true=>fO w g dp d
 |false=>bX w g 0 dp d
theorem rf.dk{r:Bool}{w:World}{g:Nat}{a:Option Pl}{d:DM}(h:rf r w g a d):bX w g 0 a d:=by
 cases r
 .exact h
 .exact h.bU
theorem rf.kp{r:Bool}{w w':World}{g:Nat}{a:Option Pl}{d:DM}(h:rf r w g a d)(k:∀b,b=g\/Pl.blk a=some b->w'.1[b]?=w.1[b]?):rf r w' g a d:=by
 cases r
 .exact bX.keep h k
 .exact fO.keep h k
abbrev sd(r:Bool):TypeId:=match r with
 |true=>54
 |false=>51
abbrev yd(r:Bool):Nat:=match r with
 |true=>1
 |false=>0
structure QD where
 pb:Nat
 xb:Nat
 dp:Option Pl
 yb:Nat
 rg:RG
 M:DM
 N:DM
 sv:Value
 kl:List KN
def QD.C(r:Bool)(p:QD)(j:Nat)(w:World):Prop:=match j with
 |0=>dm w p.pb #[n8 p.xb,n8 p.yb,p.sv]
 |1=>rf r w p.xb p.dp p.M/\∀q,p.dp=some q->q.g≠p.xb
 |2=>RD w 0 p.yb p.N p.rg
 |3=>w.ownsRow 0 170 3 p.sv p.kl.length (oD p.kl)/\∀k∈p.kl,(w.ownsRow 0 5 1 k.box k.z.length (k.z.map U8)/\k.z.length<=1000/\k.c.length<=1048576)/\∀b,k.box.ownBlock=some b->p.sv.ownBlock≠some b
 |_=>True
def QD.F(p:QD)(j b:Nat):Prop:=match j with
 |0=>b=p.pb
 |1=>b=p.xb\/Pl.blk p.dp=some b
 |2=>p.rg.foot p.yb b
 |3=>p.sv.ownBlock=some b\/∃k∈p.kl,k.box.ownBlock=some b
 |_=>False
theorem QD.loc{r:Bool}{p:QD}{j:Nat}{w w':World}(h:p.C r j w)(k:∀b,p.F j b->w'.1[b]?=w.1[b]?):p.C r j w':=by
 match j,h,k with
 |0,h,k=>exact dm.kept h (k _ rfl)
 |1,h,k=>exact⟨h.1.kp k,h.2⟩
 |2,h,k=>exact h.keep k
 |3,h,k=>exact⟨dh h.1 (λb d=>k b (.inl d)),λx a=>⟨⟨dh (h.2 x a).1.1 (λb d=>k b (.inr ⟨x,a,d⟩)),(h.2 x a).1.2⟩,(h.2 x a).2⟩⟩
 |_+4,_,_=>trivial
theorem QD.lt{r:Bool}{p:QD}{j b:Nat}{w:World}(h:p.C r j w)(k:p.F j b):b<w.1.size:=by
 match j,h,k with
 |0,h,k=>have e:b=p.pb:=k;rw[e];exact dm.lt h
 |1,h,k=>exact h.1.dk.lt k
 |2,h,k=>exact(h.lt b k).2
 |3,h,k=>
  rcases k with k|⟨x,a,k⟩
  .exact(h.1.lt b k).2
  .exact((h.2 x a).1.1.lt b k).2
theorem QD.said{r:Bool}{p:QD}{w:World}(a:p.C r 0 w)(h:p.C r 3 w):SaidAt w 0 p.pb 2 p.sv p.kl:=⟨dm.cell a 2,h.1,λk b=>(h.2 k b).1⟩
theorem F6{p:Prop}(h:p:=by
 rw[List.replicate_succ,eR]
 cases k with
 |zero=>exact⟨rfl,rfl⟩
 |succ k=>
  grind):p:=h
theorem mr.cell{w:World}{m:Value}{s:Sl}(h:mr w m s){k:Nat}(d:k<s.2.1):∃b a,s.1=some ⟨b,a,none⟩/\w.c b (a+k*2)=some σ/\w.c b (a+(k*2+1))=some m:=by
 have e:∀(n k),k<n->(List.replicate n [Value.slice none 0 0,m]).flatten[k*2]?=some σ/\(List.replicate n [Value.slice none 0 0,m]).flatten[k*2+1]?=some m:=by
  intro n;induction n with
  |zero=>intro k d;omega
  |succ n f=>
   intro k d;exact F6
 obtain⟨b,a,i,j⟩:=h.2 _ _ (e _ k d).1;obtain⟨g,f,l,n⟩:=h.2 _ _ (e _ k d).2;grind
theorem mr.lt{w:World}{m:Value}{s:Sl}(h:mr w m s){b:Nat}(e:s.on b):b<w.1.size:=by
 obtain⟨f,e1,d⟩:=e;obtain⟨g,a,e3,e4,_⟩:=h.cell d;exact Iz
def uc:Nat->TypeId
 |0=>57
 |1=>60
 |2=>64
 |_=>68
def vj:Nat->Value->Prop
 |0=>xi
 |2=>xf
 |_=>WX
def p8:Nat->World->jk->Prop
 |3=>jk.okD
 |_=>jk.ok
theorem Hz{t:Nat}{w w':World}{x:jk}(h:p8 t w x)(k:∀b,x.on b->w'.1[b]?=w.1[b]?):p8 t w' x:=by
 unfold p8 at *;split at h
 .exact⟨h.1.keep (λb a=>k b (.inl a)),h.2.1.keep (λb a=>k b (.inr (.inl a))),h.2.2.1.keep (λb a=>k b (.inr (.inr (.inl a)))),h.2.2.2.keep (λb a=>k b (.inr (.inr (.inr a))))⟩
 .exact jk.ok.keep h k
theorem L'{t:Nat}{w:World}{x:jk}(h:p8 t w x){b:Nat}(hb:x.on b):b<w.1.size:=by
 unfold p8 at h;split at h
 .exact IH
 .exact jk.ok.lt h hb
structure BW(r:Bool) where
 pv:Value
 qv:Value
 qs:List QD
 lv:Nat->Value
 le:Nat->List jk
variable {r:Bool}
abbrev BW.rv(d:BW r):Value:=cond r d.qv d.pv
abbrev BW.cells(d:BW r):Array Value:=#[d.pv,d.qv,d.lv 0,d.lv 1,d.lv 2,d.lv 3]
def BW.C(base wb:Nat)(d:BW r)(i:Nat×Nat)(w:World):Prop:=match i with
 |(0,k)=>k=0->dm w wb d.cells
 |(1,k)=>k=0->w.ownsRow base (sd r) 1 d.rv d.qs.length (d.qs.map λp=>n8 p.pb)
 |(2,t)=>w.ownsRow base (uc t) 5 (d.lv t) (d.le t).length (jU (d.le t))
 |(3,t)=>∀x∈d.le t,p8 t w x/\vj t x.mark
 |(j+4,k)=>∀p,d.qs[k]?=some p->p.C r j w
def BW.F(wb:Nat)(d:BW r)(i:Nat×Nat)(b:Nat):Prop:=match i with
 |(0,k)=>k=0/\b=wb
 |(1,k)=>k=0/\d.rv.ownBlock=some b
 |(2,t)=>(d.lv t).ownBlock=some b
 |(3,t)=>∃x∈d.le t,x.on b
 |(j+4,k)=>∃p,d.qs[k]?=some p/\p.F j b
theorem BW.loc(base wb):DC (BW.C (r:=r) base wb) (BW.F wb):=by
 intro d k w g h a;match k,h,a with
 |(0,_),h,a=>exact λe=>dm.kept (h e) (a wb ⟨e,rfl⟩)
 |(1,_),h,a=>exact λe=>dh (h e) (λb f=>a b ⟨e,f⟩)
 |(2,t),h,a=>exact dh h a
 |(3,t),h,a=>exact λx e=>⟨Hz (h x e).1 (λb f=>a b ⟨x,e,f⟩),(h x e).2⟩
 |(j+4,k),h,a=>exact λp e=>QD.loc (h p e) (λb f=>a b ⟨p,e,f⟩)
abbrev jS(base wb:Nat)(d:BW r)(w:World):Prop:=M3 (BW.C base wb) (BW.F wb) base d w
def j'(wb:Nat)(d:BW r)(b:Nat):Prop:=∃i,BW.F wb d i b
abbrev BW.add(d:BW r)(t:Nat)(v:Value)(x:jk):BW r:={d with lv:=up d.lv t v,le:=up d.le t (d.le t++[x])}
abbrev BW.put(d:BW r)(k:Nat)(p:QD):BW r:={d with qs:=d.qs.set k p}
theorem BW.Ej(d:BW r)(k)(p a):(d.put k p).put k a=d.put k a:=by simp only[BW.put,List.set_set]
theorem BW.uh(d:BW r)(t)(v)(x)(s):((d.add t v x).le s).length<=(d.le s).length+1:=by
 grind [Dj,rD]
variable {base wb:Nat}{d d':BW r}{w w' w0:World}{U:Nat->Prop}
theorem jS.blk(h:jS base wb d w):dm w wb d.cells:=h.here (0,0) rfl
theorem jS.row(h:jS base wb d w):w.ownsRow base (sd r) 1 d.rv d.qs.length (d.qs.map λp=>n8 p.pb):=h.here (1,0) rfl
theorem jS.part(h:jS base wb d w){k:Nat}{p:QD}(a:d.qs[k]?=some p)(j):p.C r j w:=h.here (j+4,k) p a
theorem jS.grown(h:jS base wb d w)(g:w.grownBy w' none):jS base wb d w':=
 M3.acts (BW.loc base wb) h (λ_=>False) (λ_=>False) (iO.mY g _) (λ_ e=>e.elim) (λ_ e=>e.elim) (λ_ _ e=>e.elim) (λ_ _ _ e=>e.elim) dT
theorem jS.low(h:jS base wb d w){b:Nat}(e:j' wb d b):base<=b/\b<w.1.size:=by
 obtain⟨i,a⟩:=e;exact⟨h.base i b a,h.lt i b a⟩
theorem jS.more{t:Nat}{gB:Option Nat}(T:t<4)(h:jS base wb d w)(S:∀g,gB=some g->base<=g/\g<w.1.size/\¬ j' wb d g)(k:sM (p8 t) base wb (t+2) (uc t) (vj t) gB (d.lv t) d.cells (d.le t) w w'):
  ∃x v,jS base wb (d.add t v x) w'/\iO w w' (λb=>j' wb d b\/gB=some b)/\∀b,j' wb (d.add t v x) b->j' wb d b\/gB=some b\/w.1.size<=b:=by
 obtain⟨x,v,D,L,M,Q,A,B,R⟩:=k
 have z:=A.size
 have J:=h.room
 have m:∀b,w.1.size<=b->∀j,¬ BW.F wb d j b:=λb a j f=>by have:=h.lt j b f;omega
 have u:∀b,gB=some b->∀j,¬ BW.F wb d j b:=λb e j f=>(S b e).2.2 ⟨j,f⟩
 have U:∀b,x.on b->base<=b/\∀j,¬ BW.F wb d j b:=dT
 have F2:∀b,BW.F wb (d.add t v x) (2,t) b->v.ownBlock=some b:=λb a=>by rw[<-rD d.lv t v];exact a
 have C:∀b,BW.F wb (d.add t v x) (3,t) b->BW.F wb d (3,t) b\/x.on b:=by
  rintro b ⟨y,g,a⟩;simp only[rD,fp,eC]at g;rcases g with g|rfl
  .exact .inl ⟨y,g,a⟩
  .exact .inr a
 have P:(d.add t v x).cells=d.cells.setIfInBounds (t+2) v:=by
  match t,T with
  |0,_=>rfl
  |1,_=>rfl
  |2,_=>rfl
  |3,_=>rfl
 have r:∀j,¬ (j=(0,0)\/j=(2,t)\/j=(3,t))->(BW.C base wb d j w'->BW.C base wb (d.add t v x) j w')/\∀b,BW.F wb (d.add t v x) j b->BW.F wb d j b:=by
  intro j f;match j,f with
  |(0,k),f=>exact⟨λ_ e=>absurd (by rw[e]) (λq=>f (.inl q)),λb e=>absurd (by rw[e.1]) (λq=>f (.inl q))⟩
  |(1,k),_=>exact⟨λq=>q,λ_ q=>q⟩
  |(2,s),f=>
   grind [Dj,BW.C,BW.F]
  |(3,s),f=>
   grind [Dj,BW.C,BW.F]
  |(j+4,k),_=>exact⟨λq=>q,λ_ q=>q⟩
 have o:v.ownBlock≠some wb:=λe=>by
  rcases B wb e with l|l
  .have:=h.one (0,0) (2,t) wb ⟨rfl,rfl⟩ l;simp at this
  .exact m wb l (0,0) ⟨rfl,rfl⟩
 have p:∀b,BW.F wb (d.add t v x) (3,t) b->b≠wb/\v.ownBlock≠some b:=by
  intro b a;rcases C b a with e|e
  .refine⟨λq=>?_,λq=>?_⟩
   .have:=h.one (0,0) (3,t) b ⟨rfl,q⟩ e;simp at this
   .rcases B b q with l|l
    .have:=h.one (2,t) (3,t) b l e;simp at this
    .exact m b l _ e
  grind
 refine⟨x,v,M3.acts (BW.loc base wb) h (λi=>i=(0,0)\/i=(2,t)\/i=(3,t)) _ A ?_ ?_ ?_ ?_ r,A.mono (λb _ e=>?_),λb ⟨i,a⟩=>?_⟩
 .rintro b (e|e|e)
  .exact .inl ⟨(0,0),.inl rfl,rfl,e⟩
  .exact .inl ⟨(2,t),.inr (.inl rfl),e⟩
  .exact .inr (u b e)
 .rintro k (rfl|rfl|rfl)
  .exact λ_=>by rw[P];exact L
  .show w'.ownsRow base (uc t) 5 (up d.lv t v t) (up d.le t (d.le t++[x]) t).length (jU (up d.le t (d.le t++[x]) t));grind [rD]
  .intro y g;simp only[rD,fp,eC]at g;rcases g with g|rfl
   .have n:=h.here (3,t) y g;refine⟨Hz n.1 (λb a=>A.block b (h.lt (3,t) b ⟨y,g,a⟩) ?_),n.2⟩;rintro(e|e|e)
    .have:=h.one (3,t) (0,0) b ⟨y,g,a⟩ ⟨rfl,e⟩;simp at this
    .have:=h.one (3,t) (2,t) b ⟨y,g,a⟩ e;simp at this
    .exact u b e (3,t) ⟨y,g,a⟩
   .exact⟨Q,D⟩
 .rintro k b (rfl|rfl|rfl) a
  .obtain⟨_,rfl⟩:=a;exact⟨h.base (0,0) b ⟨rfl,rfl⟩,L.lt,.inl ⟨(0,0),.inl rfl,rfl,rfl⟩⟩
  .have e:=F2 b a;refine⟨(M.lt b e).1,(M.lt b e).2,?_⟩;rcases B b e with l|l
   .exact .inl ⟨(2,t),.inr (.inl rfl),l⟩
   .exact .inr (m b l)
  .rcases C b a with e|e
   .exact⟨h.base _ b e,by have:=h.lt _ b e;omega,dT⟩
   grind [L']
 .rintro i j b (rfl|rfl|rfl) (rfl|rfl|rfl) g f
  .rfl
  .obtain⟨_,rfl⟩:=g;exact absurd (F2 b f) o
  .exact absurd g.2 (p b f).1
  .obtain⟨_,rfl⟩:=f;exact absurd (F2 b g) o
  .rfl
  .grind
  .exact absurd f.2 (p b g).1
  .grind
  .rfl
 .rcases e with e|e|e
  .exact .inl ⟨(0,0),rfl,e⟩
  .exact .inl ⟨(2,t),e⟩
  .exact .inr e
 .by_cases e:i=(0,0)\/i=(2,t)\/i=(3,t)
  .rcases e with rfl|rfl|rfl
   .exact .inl ⟨(0,0),a⟩
   .rcases B b (F2 b a)with e|e
    .exact .inl ⟨(2,t),e⟩
    .exact .inr (.inr e)
   .rcases C b a with e|e
    .exact .inl ⟨(3,t),e⟩
    .exact .inr (R b e).2.2
  .exact .inl ⟨i,(r i e).2 b a⟩
theorem jS.put{k:Nat}{p p':QD}(h:jS base wb d w)(B:d.qs[k]?=some p)(n:p'.pb=p.pb)(J:Nat->Prop)(f:iO w w' (λb=>∃j,J j/\p.F j b))(y:∀j,J j->p'.C r j w')(t:∀j b,J j->p'.F j b->(∃i,J i/\p.F i b)\/w.1.size<=b)(A:∀i j b,J i->J j->p'.F i b->p'.F j b->i=j)(C:∀j,¬ J j->(p.C r j w'->p'.C r j w')/\∀b,p'.F j b->p.F j b):jS base wb (d.put k p') w':=by
 have gN:k<d.qs.length:=dT
 have u:(d.qs.set k p')[k]?=some p':=dj gN
 have hF:∀j b,BW.F wb (d.put k p') (j+4,k) b->p'.F j b:=by
  rintro j b ⟨q,hq,a⟩;grind
 have v:∀{j b},p.F j b->BW.F wb d (j+4,k) b:=λa=>⟨p,B,a⟩
 have o:=h.room
 refine M3.acts (BW.loc base wb) h (λi=>∃j,J j/\i=(j+4,k)) _ f ?_ ?_ ?_ ?_ ?_
 .grind
 .rintro _ ⟨j,l,rfl⟩ q hq;grind
 .rintro _ b ⟨j,l,rfl⟩ a;have a:=hF j b a;refine⟨?_,QD.lt (y j l) a,?_⟩
  .rcases t j b l a with⟨i,_,e⟩|e
   .exact h.base _ b (v e)
   .omega
  .rcases t j b l a with⟨i,g,e⟩|e
   .grind
   .exact .inr (λi g=>by have:=h.lt i b g;omega)
 .rintro _ _ b ⟨i,g,rfl⟩ ⟨j,l,rfl⟩ x m;rw[A i j b g l (hF i b x) (hF j b m)]
 .intro i g;match i,g with
  |(0,_),_=>exact⟨λq=>q,λ_ q=>q⟩
  |(1,_),_=>
   refine⟨λq e=>?_,λ_ q=>q⟩;have m:(d.qs.set k p').map (λp=>n8 p.pb)=d.qs.map λp=>n8 p.pb:=by
    rw[List.map_set,n];refine List.ext_getElem? λi=>?_;grind
   show w'.ownsRow base (sd r) 1 d.rv (d.qs.set k p').length ((d.qs.set k p').map λp=>n8 p.pb);rw[m,eA];exact q e
  |(2,_),_=>exact⟨λq=>q,λ_ q=>q⟩
  |(3,_),_=>exact⟨λq=>q,λ_ q=>q⟩
  |(j+4,s),g=>
   grind [BW.C,BW.F]
structure Us(base wb:Nat)(w0:World)(U:Nat->Prop)(d:BW r)(w:World):Prop where
 sep:jS base wb d w
 uE:iO w0 w U
 own:∀b,j' wb d b->U b\/w0.1.size<=b
theorem Us.start(h:jS base wb d w):Us base wb w (j' wb d) d w:=⟨h,iO.refl _ _,λ_ e=>.inl e⟩
theorem Us.far{a:Nat->Prop}(h:Us base wb w0 U d w)(f:iO w w' a)(i:∀b,a b->¬ j' wb d b/\(U b\/w0.1.size<=b)):Us base wb w0 U d w':=
 ⟨M3.acts (BW.loc base wb) h.sep (λ_=>False) a f (λb e=>.inr (λj g=>(i b e).1 ⟨j,g⟩)) (λ_ e=>e.elim) (λ_ _ e=>e.elim) (λ_ _ _ e=>e.elim) dT,h.uE.trans (by grind [iO.mono]),h.own⟩
theorem Us.grown(h:Us base wb w0 U d w)(g:w.grownBy w' none):Us base wb w0 U d w':=h.far (iO.mY g (λ_=>False)) (λ_ e=>e.elim)
theorem Us.of{a:Nat->Prop}(h:Us base wb w0 U d w)(s:jS base wb d' w')(f:iO w w' a)(g:∀b,a b->j' wb d b\/U b\/w0.1.size<=b)(e:∀b,j' wb d' b->j' wb d b\/U b\/w0.1.size<=b):Us base wb w0 U d' w':=
 ⟨s,h.uE.trans (by grind [iO.mono,Us.own]),(by grind [Us.own])⟩
theorem Us.mono{V:Nat->Prop}(h:Us base wb w0 U d w)(k:∀b,U b->V b):Us base wb w0 V d w:=⟨h.sep,h.uE.mono (λb _=>k b),λb e=>(h.own b e).imp (k b) id⟩
theorem Us.trans{V:Nat->Prop}{a:World}(f:iO w0 a U)(h:Us base wb a V d w)(k:∀b,V b->U b\/w0.1.size<=b):Us base wb w0 U d w:=
 ⟨h.sep,f.trans (h.uE.mono (λb _=>k b)),λb e=>(h.own b e).elim (k b) (λe=>.inr (by have:=f.size;omega))⟩
theorem Us.free(h:Us base wb w0 U d w){b:Nat}(f:b<w0.1.size)(a:¬ U b):¬ j' wb d b/\w.1[b]?=w0.1[b]?:=⟨λe=>(h.own b e).elim a (λq=>by omega),h.uE.block b f a⟩
theorem Us.below(h:Us base wb w0 U d w)(e:base<=w0.1.size)(a:∀b,U b->base<=b):Below base w0 w:=h.uE.below e a
theorem Us.more{t:Nat}{gB:Option Nat}(a:t<4)(h:Us base wb w0 U d w)(i:∀g,gB=some g->base<=g/\g<w0.1.size/\¬ U g)(k:sM (p8 t) base wb (t+2) (uc t) (vj t) gB (d.lv t) d.cells (d.le t) w w'):
  ∃x v,Us base wb w0 (λb=>U b\/gB=some b) (d.add t v x) w':=by
 have z:=h.uE.size
 obtain⟨x,v,s,f,o⟩:=h.sep.more a (by grind [Us.free]) k
 refine⟨x,v,(h.mono (V:=λb=>U b\/gB=some b) (λ_ e=>.inl e)).of s f (λb e=>?_) (λb e=>?_)⟩
 .grind
 grind
theorem Us.put{k:Nat}{p p':QD}(h:Us base wb w0 U d w)(g:d.qs[k]?=some p)(l:p'.pb=p.pb)(J:Nat->Prop)(f:iO w w' (λb=>∃j,J j/\p.F j b))(t:∀j,J j->p'.C r j w')(m:∀j b,J j->p'.F j b->(∃i,J i/\p.F i b)\/w.1.size<=b)(u:∀i j b,J i->J j->p'.F i b->p'.F j b->i=j)(o:∀j,¬ J j->(p.C r j w'->p'.C r j w')/\∀b,p'.F j b->p.F j b):Us base wb w0 U (d.put k p') w':=by
 have gN:k<d.qs.length:=dT
 have z:=h.uE.size
 refine h.of (h.sep.put g l J f t m u o) f (λb ⟨j,_,e⟩=>.inl ⟨(j+4,k),p,g,e⟩) (λb ⟨i,a⟩=>?_)
 match i,a with
 |(0,s),a=>exact .inl ⟨(0,s),a⟩
 |(1,s),a=>exact .inl ⟨(1,s),a⟩
 |(2,s),a=>exact .inl ⟨(2,s),a⟩
 |(3,s),a=>exact .inl ⟨(3,s),a⟩
 |(j+4,s),⟨q,hq,a⟩=>
  by_cases e:s=k
  .subst e;have hq:(d.qs.set s p')[s]?=some q:=hq;rw[dj gN]at hq;cases hq;by_cases n:J j
   .rcases m j b n a with⟨i,_,e⟩|e
    .exact .inl ⟨(i+4,s),p,g,e⟩
    omega
   .exact .inl ⟨(j+4,s),p,g,(o j n).2 b a⟩
  .have hq:(d.qs.set k p')[s]?=some q:=hq;rw[fg (λq=>e q.symm)]at hq;exact .inl ⟨(j+4,s),q,hq,a⟩
end Go.Proofs.YticfhckmhcaigaaGreatDoor
namespace Go.Proofs.YticfhckmhcaigaaGreatDoor
open Go.RowKit
set_option maxRecDepth 100000
variable {zs:E}{b n:Nat}{a:Option Addr}{gB:Option Nat}{hv jv:Value}{w w' w0:World}
theorem VC{r:Option Nat}(h:b9 w b n)(k:w.grownBy w' r)(d:r≠some b):b9 w' b n:=by
 obtain⟨cur,e,a,h2⟩:=h;exact AG
theorem Co(h:b9 w b n)(k:w'.1[b]?=w.1[b]?):b9 w' b n:=by
 obtain⟨a,e,d,f⟩:=h;exact⟨a,e,k.trans d,f⟩
theorem KC(h:b9 w b n)(a)(o)(u):b9 (w.setCell (δ a o) u) b n:=h.cf ((CF.refl w (λ_ _=>True)).setCell a o u (λ_=>trivial))
structure lD where
 a:nC
 now:Int
 s:E
 ask:qH
def lD.cells(t:lD):List Value:=t.a.cells.toList++([Y t.now,.string ⟨t.s.toArray⟩]++t.ask.cells)
structure lD.Ok(t:lD):Prop where
 bH:bT t.a.bH
 aD:bT t.a.aD
 ae:bT t.a.ae
 name:t.a.name.length<=1048576
 now:bT t.now
 s:t.s.length<=1048576
 ask:t.ask.Ok
def qh(w:World)(a:Option Addr)(ts:List lD):Prop:=∀i(h:i<ts.length),∃b off,a=some ⟨b,off,none⟩/\b<w.1.size/\w.rangeAt b (off+i*34) ts[i].cells
theorem qh.below{f:List lD}(h:qh w a f)(k:Below w.1.size w w'):qh w' a f:=λi l=>by
 obtain⟨b,d,e,g,r⟩:=h i l
 exact⟨b,d,e,by have:=k.size;omega,λj u m=>(World.cell?_of_block (k.block b g)).trans (r j u m)⟩
structure LJ where
 t:lD
 a:Option Addr
 c:Nat
 r:E
 g:Option Nat
def LJ.Y8(x:LJ):XL:=(x.t.a,x.t.now,.slice x.a x.r.length x.c)
def LJ.m(x:LJ):vT:=(x.t.a,x.t.now,x.r)
structure JB(w0 w:World)(ts:List lD)(xs:List LJ)(jv hv:Value):Prop where
 tk:xs.map LJ.t=ts.take xs.length
 M4:w.ownsRow w0.1.size 194 9 jv xs.length (eX (xs.map LJ.Y8))
 hrow:w.ownsRow w0.1.size 9 1 hv xs.length (xs.map λx=>.string ⟨x.r.toArray⟩)
 tq:∀x∈xs,lI w0 w x.a x.c x.r x.g/\x.r.length<=300000000
 dis:∀(i j:Nat)(x y:LJ),i<j->xs[i]?=some x->xs[j]?=some y->∀b,x.g=some b->y.g≠some b
 Yn:∀x∈xs,∀b,x.g=some b->jv.ownBlock≠some b/\hv.ownBlock≠some b
 jh:∀b,jv.ownBlock=some b->hv.ownBlock≠some b
theorem lI.kept{b:Nat}(h:lI w0 w a b zs gB)(k:∀g,gB=some g->w'.1[g]?=w.1[g]?):lI w0 w' a b zs gB:=by
 rcases h with h|⟨g,e,d,f,i⟩
 .exact .inl h
 .exact .inr ⟨g,e,d,f,i.kept (k g d)⟩
theorem lI.Yo{d:Nat}(h:lI w0 w a d zs gB)(g)(b:gB=some g):w0.1.size<=g/\g<w.1.size:=by
 rcases h with⟨_,_,_,h⟩|⟨j,_,e,f,i⟩
 .rw[h]at b;cases b
 .rw[e]at b;cases b;exact⟨f,i.lt⟩
theorem lI.anm{d:World}{b:Nat}(h:lI d w a b zs gB)(k:w0.1.size<=d.1.size):lI w0 w a b zs gB:=by
 rcases h with h|⟨g,e,f,j,i⟩
 .exact .inl h
 .exact .inr ⟨g,e,f,by omega,i⟩
theorem JB.nil(w0 w)(d):JB w0 w d [] σ σ:=
 ⟨rfl,World.ownsRow_nil _ _ _ _,World.ownsRow_nil _ _ _ _,λx a=>(by cases a),dT,λx a=>(by cases a),λb e=>by cases e⟩
theorem JB.kept{f:List lD}{i:List LJ}(h:JB w0 w f i jv hv)(k:∀b,w0.1.size<=b->b<w.1.size->w'.1[b]?=w.1[b]?):JB w0 w' f i jv hv:=
 ⟨h.tk,dh h.M4 (λb a=>k b (h.M4.lt b a).1 (h.M4.lt b a).2),dh h.hrow (λb a=>k b (h.hrow.lt b a).1 (h.hrow.lt b a).2),λx d=>⟨(h.tq x d).1.kept (λg e=>k g ((h.tq x d).1.Yo g e).1 ((h.tq x d).1.Yo g e).2),(h.tq x d).2⟩,h.dis,h.Yn,h.jh⟩
theorem JB.grown{a:List lD}{b:List LJ}(h:JB w0 w a b jv hv)(k:w.grownBy w' none):JB w0 w' a b jv hv:=(by grind [World.grownBy.block,JB.kept])
theorem Yp(a)(j):eX (a++[j])=eX a++(gT j.1 j.2.1 j.2.2).toList:=by simp[eX,XL.cells]
theorem JB.push{w2 w3 v r k:World}{u:List lD}{g:List LJ}{d a:Value}{x:LJ}(h:JB w0 w u g jv hv)(L:u[g.length]?=some x.t)(K:w0.1.size<=w.1.size)(l:w.grownBy w2 none)(A:lI w w2 x.a x.c x.r x.g)(J:x.r.length<=300000000)(m:w2.grownBy w3 none)(V:v.ownsRow w0.1.size 9 1 a (g.length+1) ((g.map λx=>.string ⟨x.r.toArray⟩)++[.string ⟨x.r.toArray⟩]))(n:w3.grownBy v hv.ownBlock)(T:a.ownBlock=hv.ownBlock\/a.ownBlock=some w3.1.size)(o:v.grownBy r none)(C:k.ownsRow w0.1.size 194 9 d (g.length+1) (eX (g.map LJ.Y8)++(gT x.t.a x.t.now (.slice x.a x.r.length x.c)).toList))(p:r.grownBy k jv.ownBlock)(U:d.ownBlock=jv.ownBlock\/d.ownBlock=some r.1.size):
  JB w0 k u (g++[x]) d a/\(w0.grownBy w none->w0.grownBy k none):=by
 have s2:=l.size
 have s3:=m.size
 have s4:=n.size
 have s5:=o.size
 have s6:=p.size
 have jl:=λb e=>h.M4.lt b e
 have hl:=λb e=>h.hrow.lt b e
 have M:∀b,a.ownBlock=some b->hv.ownBlock=some b\/b=w3.1.size:=dT
 have P:∀b,d.ownBlock=some b->jv.ownBlock=some b\/b=r.1.size:=dT
 have Q:∀b,b<w2.1.size->hv.ownBlock≠some b->jv.ownBlock≠some b->k.1[b]?=w2.1[b]?:=n9
 have xg:=λb e=>A.Yo b e
 have S:∀b,x.g=some b->jv.ownBlock≠some b/\hv.ownBlock≠some b:=dT
 have R:∀b,b<w2.1.size->(jv.ownBlock≠some b/\hv.ownBlock≠some b)->d.ownBlock≠some b/\a.ownBlock≠some b:=dT
 have B:=λy f b e=>(h.tq y f).1.Yo b e
 refine⟨⟨?_,?_,?_,λy f=>?_,λi j y z D f hz b e=>?_,λy f b e=>?_,λb e q=>?_⟩,λt=>⟨?_,?_,?_,by omega,λb X _=>?_⟩⟩
 .rw[ej,h.tk,cF,eL,List.take_add_one,L];rfl
 .rw[cF,eL,ej,List.map_singleton,Yp];exact C
 .rw[cF,eL,ej,List.map_singleton];grind [JB.jh,World.ownsRow.lt,dh,World.grownBy.block]
 .rcases fp.1 f with f|f
  .exact⟨(h.tq y f).1.kept (by grind [World.grownBy.block,JB.Yn]),(h.tq y f).2⟩
  .rw[eC.1 f];exact⟨(A.anm K).kept dT,J⟩
 .by_cases b:j<g.length
  .grind [JB.dis]
  grind
 .grind [JB.Yn]
 .grind [JB.jh,World.ownsRow.lt]
 .exact((((p.os.trans o.os).trans n.os).trans m.os).trans l.os).trans t.os
 .exact((((p.tape.trans o.tape).trans n.tape).trans m.tape).trans l.tape).trans t.tape
 .exact((((p.output.trans o.output).trans n.output).trans m.output).trans l.output).trans t.output
 grind [World.grownBy.block]
section
variable {P:Program}{ops:Array Oper}{Q:Exit->Act->World->Prop}{md:Region.Mode}{S:World->Prop}
theorem ya{i t:Nat}{f:Oper}(v){e:Nat}{b:Array Bool}{d:Array Value}{g:List Deferred}{w:World}(q:ops.toList[i]?=some f)(l:f.dst=some t)(o:Region.noSelect ops=true)(m:Region.free md ops b i=true)(n:(Region.ready md ops b).contains i=true)(j:∀c a w,Q (.panic c) (a.put f.dst v) w->Q (.panic c) a w)(p:YieldsIf P ops S f v ⟨d,g⟩)(k:S w)(h:wpAnyH P md ops Q S e (b.setIfInBounds i true) ⟨d.setIfInBounds t v,g⟩ w):wpAnyH P md ops Q S (e+1) b ⟨d,g⟩ w:=by
 refine wpAnyH_take dT o m n j p k ?_
 rw[l]
 exact h
theorem eH(i:Nat)(v:Value){t:Nat}{oi:Oper}{fuel:Nat}{listed:Array Bool}{tmps:Array Value}{df:List Deferred}{w:World}{q:Prop}(k:q)(hi:ops.toList[i]?=some oi:=by exact rfl)(hd:oi.dst=some t:=by exact rfl)(hs:Region.noSelect ops=true:=by kernel_rfl)(hf:Region.free md ops listed i=true:=by kernel_rfl)(hr:(Region.ready md ops listed).contains i=true:=by kernel_rfl)(hQ:∀c a w,Q (.panic c) (a.put oi.dst v) w->Q (.panic c) a w:=by exact λ_ _ _ h=>h)(hy:YieldsIf P ops S oi v ⟨tmps,df⟩:=by exact Or.inl ⟨by rfl,λw' hSw=>by obtain⟨s1,s2⟩:=hSw;go_simp⟩)(hS:S w:=by assumption)(h:q->wpAnyH P md ops Q S fuel (listed.setIfInBounds i true) ⟨tmps.setIfInBounds t v,df⟩ w:=by intro hq;simp only[ei,eo,eM];exact hq):wpAnyH P md ops Q S (fuel+1) listed ⟨tmps,df⟩ w:=
 ya v hi hd hs hf hr hQ hy hS (h k)
theorem mM(i:Nat)(v:Value){t:Nat}{oi:Oper}{fuel:Nat}{listed:Array Bool}{tmps:Array Value}{df:List Deferred}{w:World}{q:Prop}(k:q)(hi:ops.toList[i]?=some oi:=by exact rfl)(hd:oi.dst=some t:=by exact rfl)(hs:Region.noSelect ops=true:=by kernel_rfl)(hf:Region.free md ops listed i=true:=by kernel_rfl)(hr:(Region.ready md ops listed).contains i=true:=by kernel_rfl)(hQ:∀c a w,Q (.panic c) (a.put oi.dst v) w->Q (.panic c) a w:=by exact λ_ _ _ h=>h)(hy:YieldsIf P ops S oi v ⟨tmps,df⟩:=by exact Or.inl ⟨by rfl,λw' hSw=>by obtain⟨s1,s2,s3⟩:=hSw;go_simp⟩)(hS:S w:=by assumption)(h:q->wpAnyH P md ops Q S fuel (listed.setIfInBounds i true) ⟨tmps.setIfInBounds t v,df⟩ w:=by intro hq;simp only[ei,eo,eM];exact hq):wpAnyH P md ops Q S (fuel+1) listed ⟨tmps,df⟩ w:=
 ya v hi hd hs hf hr hQ hy hS (h k)
theorem xK(i:Nat)(v:Value){t:Nat}{oi:Oper}{fuel:Nat}{listed:Array Bool}{tmps:Array Value}{df:List Deferred}{w:World}{q:Prop}(k:q)(hi:ops.toList[i]?=some oi:=by exact rfl)(hd:oi.dst=some t:=by exact rfl)(hs:Region.noSelect ops=true:=by kernel_rfl)(hf:Region.free md ops listed i=true:=by kernel_rfl)(hr:(Region.ready md ops listed).contains i=true:=by kernel_rfl)(hQ:∀c a w,Q (.panic c) (a.put oi.dst v) w->Q (.panic c) a w:=by exact λ_ _ _ h=>h)(hy:YieldsIf P ops S oi v ⟨tmps,df⟩:=by exact Or.inl ⟨by rfl,λw' hSw=>by obtain⟨s1,s2,s3,s4⟩:=hSw;go_simp⟩)(hS:S w:=by assumption)(h:q->wpAnyH P md ops Q S fuel (listed.setIfInBounds i true) ⟨tmps.setIfInBounds t v,df⟩ w:=by intro hq;simp only[ei,eo,eM];exact hq):wpAnyH P md ops Q S (fuel+1) listed ⟨tmps,df⟩ w:=
 ya v hi hd hs hf hr hQ hy hS (h k)
theorem mT{i:Nat}{o:Oper}{d:Nat}{b:Array Bool}{a:Act}{w:World}(g:ops.toList[i]?=some o)(f:Region.ready md ops b=[i])(h:∀e:Act->World->Prop,Shut (∀a w,S w->(S w->wpAnyH P md ops Q S d (b.setIfInBounds i true) a w)->e a w)->if Region.wanted o (yielded ops a.tmps)=true then Oper.wp P o a w e Q else e (a.put o.dst undef) w):
  wpAnyH P md ops Q S (d+1) b a w:=
 wpAnyH_ready (rs:=[i]) f Z (by grind [AllReadyH.cons,AllReadyH.nil])
end
theorem pR{a b:World}{n:Nat}{d:Option Nat}(h:(a.drewN n).grownBy b d):a.grownBy b d:=⟨h.os,h.tape,h.output,h.size,h.block⟩
theorem Dm{P:Program}(w){o:Oper}{a:Act}{K:Act->World->Prop}{Q:Exit->Act->World->Prop}(x)(i g)(l:o.op=Op.convert i g x)(e)(u:P.underlying i=some .string)(q:P.underlying g=some (.slice e))(r:P.underlying e=some (.int .u8))(d)(v:a.eval x=.string ⟨d.toArray⟩)(y:d.length<=140737488355328)(p:∀b f k,d.length<=f->f<=maxLen->At k (some ⟨b,0,none⟩) d->w.grownBy k none->K (a.put o.dst (ς b 0 d.length f)) k):
  Oper.wp P o a w K Q:=by
 have m:(⟨d.toArray⟩:ByteArray).size=d.length:=tD
 have n:=run_bytes_of_string (P:=P) w i g e ⟨d.toArray⟩ u q r
 rw[m]at n
 have f:=grownCap_ge w d.length 0 e
 have b:=grownCap_le_maxLen w d.length 0 e lA
 unfold Oper.wp
 simp[execOp,l,v,n,Result.andThen]
 refine p _ _ _ f b ?_ ⟨rfl,rfl,rfl,by simp,λk t _=>Below.heap_alloc w.drew _ k t⟩
 exact Lw
theorem qf.iE{w j:World}{n b e g:Nat}{i:Value}{d:List KN}(h:qf (w.drewN n) j b e g i d):qf w j b e g i d:=by
 obtain⟨k,a,l,m,o,p,q,f,r⟩:=h;exact⟨k,a,l,m,o,p,q,⟨f.os,f.tape,f.output,f.size,f.block⟩,r⟩
end Go.Proofs.YticfhckmhcaigaaGreatDoor
namespace Go.Proofs.YticfhckmhcaigaaGreatDoor
open Go.RowKit
set_option maxRecDepth 100000
variable {r:Bool}{base wb:Nat}{w0:World}{U:Nat->Prop}
theorem El{w:World}{base:Nat}{e:TypeId}{g n:Nat}{b:List Value}(h:w.ownsRow base e 1 (ς g 0 n n) n b):dm w g b.toArray/\base<=g:=by
 rcases h.2 with⟨a,_⟩|⟨m,d,f,a,i,j,_,_,k,l⟩
 .cases a
 .injection a with e1 _ e3;injection e1 with e1;injection e1 with e1 _ _;subst e1 e3;refine⟨⟨e,?_⟩,i⟩;rw[j,<-l,fY,cW dT,Array.toArray_toList]
theorem Dv{w:World}{j k:Nat}{e f:TypeId}{g h n m p o v x:Nat}{y A:List Value}(t:w.ownsRow j e v (ς g 0 n p) n y)(u:w.ownsRow k f x (ς h 0 m o) m A)(r:e≠f):g≠h:=by
 rcases t.2 with⟨i,_⟩|⟨B,l,q,i,_,D,_⟩
 .cases i
 .rcases u.2 with⟨d,_⟩|⟨C,a,b,d,_,J,_⟩
  .cases d
  grind
theorem dm.four{w:World}{g:Nat}{a b c d:Value}(h:dm w g #[a,b,c,d]):w.cell? (δ g 0)=some a/\w.cell? (δ g 1)=some b/\w.cell? (δ g 2)=some c/\w.cell? (δ g 3)=some d:=⟨h.cell 0,h.cell 1,h.cell 2,h.cell 3⟩
theorem Us.list{d:BW r}{w:World}{g n t:Nat}{j:List Value}(h:Us base wb w0 U d w)(i:dm w0 g j.toArray)(k:¬ U g):∃e,Hid ((n=0/\e=none)\/∃a,e=some a/\(some ⟨g,0,none⟩:Option Addr)=some ⟨a,0,none⟩/\0<n/\dm w a j.toArray/\a≠wb/\(d.lv t).ownBlock≠some a)/\∀b,e=some b->b=g:=by
 have f:=h.free i.lt k;by_cases e:n=0
 .exact⟨none,.inl ⟨e,rfl⟩,λb h=>by cases h⟩
 .exact⟨some g,.inr ⟨g,rfl,rfl,by omega,i.kept f.2,λe=>f.1 ⟨(0,0),rfl,e⟩,λe=>f.1 ⟨(2,t),e⟩⟩,dT⟩
theorem jS.vne{d:BW r}{w:World}(h:jS base wb d w)(t):(d.lv t).ownBlock≠some wb:=λe=>by have:=h.one (0,0) (2,t) wb ⟨rfl,rfl⟩ e;simp at this
theorem L8(d:BW r)(g n)(m:List Value)(w)(h:Us base wb w0 U d w)(A:Hid (m.length=n))(l:n<=100000)(o:dm w0 g m.toArray)(a:base<=g)(p:¬ U g)(j:((d.le 1).length+1)*112<=140737488355328):Calls Tryz.prog 39 #[N wb 2,ς g 0 n n] w λe q=>e=.returned (.tuple #[])/\∃x v,Us base wb w0 (λb=>U b\/b=g) (d.add 1 v x) q:=by
 obtain⟨u,f,i⟩:=h.list (n:=n) (t:=1) o p
 refine(Q2 base wb n (some ⟨g,0,none⟩) m (d.le 1) (d.lv 1) d.cells u w h.sep.blk rfl (h.sep.here (2,1)) (h.sep.vne 1) h.sep.room A l (aE (λe=>by cases e)) f j).mono ?_
 rintro e q ⟨rfl,y⟩
 obtain⟨x,v,k⟩:=h.more (t:=1) G (λb e=>by rw[i b e];exact⟨a,o.lt,p⟩) y
 grind [Us.mono]
theorem L7(d:BW r)(g n)(m:List Value)(w)(h:Us base wb w0 U d w)(A:Hid (m.length=n))(l:n<=100000)(o:dm w0 g m.toArray)(a:base<=g)(p:¬ U g)(j:((d.le 2).length+1)*112<=140737488355328):Calls Tryz.prog 38 #[N wb 2,ς g 0 n n] w λe q=>e=.returned (.tuple #[])/\∃x v,Us base wb w0 (λb=>U b\/b=g) (d.add 2 v x) q:=by
 obtain⟨u,f,i⟩:=h.list (n:=n) (t:=2) o p
 refine(Q1 base wb n (some ⟨g,0,none⟩) m (d.le 2) (d.lv 2) d.cells u w h.sep.blk rfl (h.sep.here (2,2)) (h.sep.vne 2) h.sep.room A l (aE (λe=>by cases e)) f j).mono ?_
 rintro e q ⟨rfl,y⟩
 obtain⟨x,v,k⟩:=h.more (t:=2) G (λb e=>by rw[i b e];exact⟨a,o.lt,p⟩) y
 grind [Us.mono]
theorem Qz(d:BW r)(v)(p)(a)(n)(w)(h:Us base wb w0 U d w)(o:fA w v p a)(y:Hid (a.length=n))(k:n<=100000)(i:∀q,p=some q->base<=q.g/\q.g<w0.1.size/\¬ U q.g)(j:((d.le 0).length+1)*112<=140737488355328):Calls Tryz.prog 21 #[N wb 2,v] w λe l=>e=.returned (.tuple #[])/\(∃x u,Us base wb w0 (λb=>U b\/Pl.blk p=some b) (d.add 0 u x) l)/\iO w l (λb=>b=wb\/(d.lv 0).ownBlock=some b\/Pl.blk p=some b):=by
 have b:∀g,Pl.blk p=some g->base<=g/\g<w0.1.size/\¬ U g:=λg e=>by
  cases p with
  |none=>cases e
  |some q=>injection e with e;rw[<-e];exact i q rfl
 have m:=λg e=>(h.free (b g e).2.1 (b g e).2.2).1
 refine(X2 base wb n v p a (d.le 0) (d.lv 0) d.cells w h.sep.blk rfl (h.sep.here (2,0)) (h.sep.vne 0) h.sep.room y k o (λg e=>⟨λq=>m g e ⟨(0,0),rfl,q⟩,λq=>m g e ⟨(2,0),q⟩⟩) j).mono ?_
 rintro e l ⟨rfl,g⟩
 obtain⟨_,_,_,_,_,_,f,_⟩:=id g
 exact⟨rfl,h.more (t:=0) G b g,f⟩
theorem M5(d:BW r)(v)(p)(a)(n)(w)(h:Us base wb w0 U d w)(j:fA w v p a)(k:Hid (a.length=n))(i:n<=100000)(f:∀q,p=some q->base<=q.g/\q.g<w0.1.size/\¬ U q.g)(g:((d.le 0).length+1)*112<=140737488355328):Calls Tryz.prog 21 #[N wb 2,v] w λe l=>e=.returned (.tuple #[])/\∃x u,Us base wb w0 (λb=>U b\/Pl.blk p=some b) (d.add 0 u x) l:=
 (Qz d v p a n w h j k i f g).mono λ_ _ h=>⟨h.1,h.2.1⟩
theorem QA{α:Type}(l:List α)(h:(l.length+2)*112<=140737488355328)(e:α):((l++[e]).length+1)*112<=140737488355328:=by
 grind
theorem Yq(b:List RE)(a)(h:b.map RE.be=a):b.map wR=a.map (λx=>Value.string ⟨x.name.toArray⟩)/\b.map ET=a.map (λx=>Value.int .i64 x.aH):=by
 subst h;exact⟨by rw[List.map_map];rfl,by rw[List.map_map];rfl⟩
theorem Yr(w)(f)(M)(g)(h:RD w 0 f M g)(m:M.aC.length<=20):Calls Tryz.prog 36 #[N f 0] w λe a=>∃b i d j,e=.returned (.agg #[.slice b M.aC.length i,.slice d M.aC.length j,Y (M.aI.length:Int),Y (M.aL.length:Int)])/\qR a b (M.aC.map λx=>Value.string ⟨x.name.toArray⟩)/\qR a d (M.aC.map λx=>Value.int .i64 x.aH)/\w.grownBy a none:=by
 obtain⟨k,r,l,b⟩:=g
 have i:=h.bU
 have j:=h.aI
 simp only at i j
 obtain⟨n,o,d⟩:=bA j
 subst d
 have e:b.map RE.be=M.aC:=h.aC
 have a:b.length=M.aC.length:=by rw[<-e,cU]
 obtain⟨p,q⟩:=Yq b M.aC e
 refine(Sc 0 f M.ax k l n M.aI.length o b M.aL M.aC.length M.aL.length w i (aE a) G (aE rfl)).mono ?_
 grind [bA,nP]
def oJ{r:Bool}(base wb n:Nat)(d:BW r)(w:World)(e:Ending)(w':World)(PN:List QD->Prop):Prop:=
 e=.returned (.bool true)/\∃d':BW r,Us base wb w (j' wb d) d' w'/\(d'.pv=d.pv/\d'.qv=d.qv)/\PN d'.qs/\∀t,(d'.le t).length<=(d.le t).length+n
set_option maxHeartbeats 2000000
open Proofs.Tryz
variable {w W W':World}{cs:Array Value}
def rh(cs:Array Value)(kind A B C:Int)(K D:UInt64)(zs:E):Prop:=
 cs[0]?=some (Y kind)/\cs[1]?=some (Y A)/\cs[2]?=some (Y B)/\cs[3]?=some (Y C)/\cs[4]?=some (O (K.toNat:Int))/\cs[5]?=some (O (D.toNat:Int))/\cs[7]?=some (.string ⟨zs.toArray⟩)
structure FC(w:World)(cs:Array Value)(W:World):Prop where
 gb:w.grownBy W none
 bk:dm W w.1.size cs
theorem FC.start(w)(cs):FC w cs (w.alloc (.cells cs 48)):=⟨cy w _ none,dm.new w cs _⟩
theorem FC.grown(h:FC w cs W)(g:W.grownBy W' none):FC w cs W':=⟨aa h.gb g,h.bk.grown g Z⟩
theorem FC.back{a:Option Addr}{d:Nat}{k:E}{i:Option Nat}{V:World}(h:FC w cs W)(L:lI (w.alloc (.cells cs 48)) V a d k i)(g:W.grownBy W' i):FC w cs W':=by
 have b:=λj f=>by have:=L.old j f;simpa using this
 exact⟨Zy h.gb g (λj f=>by have:=b j f;omega),h.bk.grown g (λe=>by have:=b _ e;omega)⟩
theorem FC.k{a A B C:Int}{K D:UInt64}{b:E}(h:FC w cs W)(o:rh cs a A B C K D b):
  W.cell? (δ w.1.size 0)=some (Y a)/\W.cell? (δ w.1.size 1)=some (Y A)/\W.cell? (δ w.1.size 2)=some (Y B)/\W.cell? (δ w.1.size 3)=some (Y C)/\W.cell? (δ w.1.size 4)=some (O (K.toNat:Int))/\W.cell? (δ w.1.size 5)=some (O (D.toNat:Int))/\W.cell? (δ w.1.size 7)=some (.string ⟨b.toArray⟩):=by
 obtain⟨d,e,f,g,i,j,k⟩:=o
 exact⟨(h.bk.cell 0).trans d,(h.bk.cell 1).trans e,(h.bk.cell 2).trans f,(h.bk.cell 3).trans g,(h.bk.cell 4).trans i,(h.bk.cell 5).trans j,(h.bk.cell 7).trans k⟩
theorem YB{d A B C:Int}{K D:UInt64}{b:E}(r:rh cs d A B C K D b)(L:(d==1)=true)(x:b.length<=140737488351232):Calls prog 7 #[N wb 0,.agg cs] w λe t=>e=.returned (.bool true)/\w.grownBy t none:=by
 have f:b.length<=140737488355328:=G
 have p:=FC.start w cs
 obtain⟨i,j,k,l,m,n,o⟩:=p.k r
 go_in
 go_wp2_with fail
 refine(rT b _ _ x).mono ?_
 rintro e M ⟨a,g,y,rfl,h,u⟩
 have q:=p.grown u
 clear i j k l m n o
 obtain⟨i,j,k,l,m,n,o⟩:=q.k r
 go_wp2_with fail
 refine(VW b b.length a g _ (aE rfl) f h.at).mono ?_
 rintro e t ⟨rfl,rfl⟩
 go_wp2_with fail
 refine(rU b b.length a g y _ _ (aE rfl) x h).mono ?_
 rintro e P ⟨rfl,v⟩
 have F2:=q.back h v
 clear i j k l m n o u v h p q
 obtain⟨i,j,k,l,m,n,o⟩:=F2.k r
 go_wp2_with (first|(refine jw _ rfl _ 9 37 rfl 5 underlying9 underlying37 underlying5 b rfl f ?_;intro J h w3 u p v q)|(go_at_call 18;refine(Bw b b.length _ _ _ (aE rfl) f v).mono ?_;rintro e t ⟨rfl,rfl⟩))
 go_ret
 exact⟨rfl,(F2.grown q).gb⟩
theorem YC{f A B C:Int}{K D:UInt64}{b:E}(x:rh cs f A B C K D b)(U:f=4)(P:b.length<=140737488351232)(d:lZ w):Calls prog 7 #[N wb 0,.agg cs] w λe a=>e=.returned (.bool true)/\w.grownBy a none:=by
 subst U
 have u:b.length<=140737488355328:=G
 obtain⟨st,L,o⟩:∃(st:ByteArray) (L:Int),Hid (jB b=.tuple #[.string st,Y L]):=by
  cases h:mW b with
  |none=>exact⟨_,_,l9 h⟩
  |some t=>exact⟨_,_,Ai h⟩
 have g:=FC.start w cs
 obtain⟨h,i,j,k,l,m,n⟩:=g.k x
 go_in
 go_wp2_with fail
 refine(rT b _ _ P).mono ?_
 rintro e W ⟨a,p,T,rfl,v,y⟩
 have t:=g.grown y
 obtain⟨q,r⟩:=v.cap
 clear h i j k l m n y g
 obtain⟨h,i,j,k,l,m,n⟩:=t.k x
 go_wp2_with fail
 refine(Wj b b.length a p _ (aE rfl) q r v.at (nI d t.gb)).mono ?_
 rintro e X ⟨rfl,J⟩
 have y:=Cx J
 have g:=v.grown y
 have F2:=t.grown y
 rw[o]
 clear h i j k l m n v y J t
 obtain⟨h,i,j,k,l,m,n⟩:=F2.k x
 go_wp2_with fail
 refine(rU b b.length a p T _ _ (aE rfl) P g).mono ?_
 rintro e w4 ⟨rfl,t⟩
 have y:=F2.back g t
 clear h i j k l m n t g F2
 obtain⟨h,i,j,k,l,m,n⟩:=y.k x
 go_wp2_with (first|(refine jw _ rfl _ 9 37 rfl 5 underlying9 underlying37 underlying5 b rfl u ?_;intro V g w5 R v Q J))
 have t:=y.grown J
 refine(Wq b b.length _ g _ (aE rfl) u R (by unfold maxLen at v;exact v) Q (nI d t.gb)).mono ?_
 rintro e w6 ⟨rfl,M⟩
 have S:=t.grown M
 rw[o]
 clear h i j k l m n J M Q t
 go_wp2
 go_ret
 exact⟨rfl,S.gb⟩
theorem RK(d:BW r)(C D)(i j)(S)(n)(f w)(v:jS base wb d f)(G:f.grownBy w none)(M:fA w C i S)(P:fA w D j S)(K:Hid (S.length=n))(J:n<=100000)(l:Pl.fresh f.1.size i)(m:Pl.fresh f.1.size j)(A:∀k a,i=some k->j=some a->k.g≠a.g)(Q:((d.le 0).length+2)*112<=140737488355328):Calls prog 21 #[N wb 2,C] w λe a=>e=.returned (.tuple #[])/\
   Calls prog 21 #[N wb 2,D] a λe a=>e=.returned (.tuple #[])/\oJ base wb 16 d f (.returned (.bool true)) a (λb=>b=d.qs):=by
 have g:∀b,f.1.size<=b->¬ j' wb d b:=λb a h=>by have:=(v.low h).2;omega
 have B:=v.room
 have o:∀{p:Option Pl}{b},Pl.blk p=some b->∃q,p=some q/\q.g=b:=λ{p b} e=>by
  cases p with
  |none=>cases e
  |some q=>exact⟨q,rfl,by injection e⟩
 refine(M5 d C i S n w (Us.start (v.grown G)) M K J (λq a=>⟨by have:=l q a;omega,M.Iw q a,g _ (l q a)⟩) aZ).mono ?_
 rintro e R ⟨rfl,x,u,p⟩
 refine⟨rfl,?_⟩
 have L:∀q,j=some q->¬ (j' wb d q.g\/Pl.blk i=some q.g):=λq a e=>by
  rcases e with e|e
  .exact g _ (m q a) e
  .obtain⟨k,h,t⟩:=o e;exact A k q h a t
 refine(M5 _ D j S n R p (P.uE p.uE L) K J (λq a=>⟨by have:=m q a;omega,P.Iw q a,L q a⟩) (by have:=BW.uh d 0 u x 0;omega)).mono ?_
 rintro e k ⟨rfl,y,z,a⟩
 refine⟨rfl,rfl,_,Us.trans (iO.mY G _) a (λb e=>?_),⟨rfl,rfl⟩,rfl,λt=>?_⟩
 .rcases e with(e|e)|e
  .exact .inl e
  .obtain⟨q,h,rfl⟩:=o e;exact .inr (l q h)
  .obtain⟨q,h,rfl⟩:=o e;exact .inr (m q h)
 .have:=BW.uh (d.add 0 u x) 0 z y t;have:=BW.uh d 0 u x t;omega
theorem YD(d:BW r){f A B C U:Int}{K D:UInt64}{n S:E}(x:rh cs f A B C K D n)(hk:Hid (f=2/\KT K D B n S U\/f=3/\KU K B n S U))(hS:S.length<=100000)(hl:n.length<=140737488351232)(g:jS base wb d w)(a:((d.le 0).length+2)*112<=140737488355328):Calls prog 7 #[N wb 0,.agg cs] w λe h=>oJ base wb 16 d w e h (λb=>b=d.qs):=by
 have ad:n.length<=140737488355328:=G
 have F0:=FC.start w cs
 obtain⟨M,b⟩:=aq S.length
 have p:=aE b
 rw[b]at hS
 clear b
 have HI:=aE (cZ g a)
 clear g a
 have ah:=λ(w:World)=>Lib.run_eql_slice_nil (P:=prog) w 37 5 none 0 0 0 0 underlying37
 rcases hk.o with⟨rfl,v,T⟩|⟨rfl,v,T⟩
 all_goals
  clear hk
  have v:=aE v
  have T:=aE T
  obtain⟨g,h,i,j,k,l,m⟩:=F0.k x
  go_in
  go_wp2_with fail
  refine(rT n _ _ hl).mono ?_
  rintro e w1 ⟨a,ab,gB,rfl,u,b⟩
  have Q:=F0.grown b
  obtain⟨o,ag⟩:=u.cap
  clear g h i j k l m b F0
  obtain⟨g,h,i,j,k,l,m⟩:=Q.k x
  go_wp2_with fail
  refine(v _ _ _ u.at o).mono ?_
  rintro e w2 ⟨v1,p1,rfl,o1,f1,V,n1⟩
  obtain⟨a1,c1,ae,_,_,_,_⟩:=o1.open p
  subst ae
  have b:=u.grown V
  have F2:=Q.grown V
  clear g h i j k l m
  obtain⟨g,h,i,j,k,l,m⟩:=F2.k x
  go_wp2_with fail
  refine(v _ _ _ b.at o).mono ?_
  rintro e w3 ⟨v2,p2,rfl,o2,R,W,n2⟩
  obtain⟨a2,c2,af,_,_,_,_⟩:=o2.open p
  subst af
  have t:=b.grown W
  have F3:=F2.grown W
  have y:∀q J,p1=some q->p2=some J->q.g≠J.g:=λq J L X=>by have:=o1.Iw q L;have:=R J X;omega
  clear g h i j k l m
  obtain⟨g,h,i,j,k,l,m⟩:=F3.k x
  go_wp2_with fail
  refine(rU n n.length a ab gB _ _ (aE rfl) hl t).mono ?_
  rintro e w4 ⟨rfl,X⟩
  have F4:=F3.back t X
  have s1:=Q.gb.size
  have s2:=V.size
  have J:=(o1.grown W).uE (iO.bD X) (λq hq e=>by have:=u.lt q.g e.symm;have:=f1 q hq;omega)
  have L:=o2.uE (iO.bD X) (λq hq e=>by have:=u.lt q.g e.symm;have:=R q hq;omega)
  have q:=aE (cZ (cZ J L) (cZ (cZ (kK f1 s1) (kK R (cE s1 s2))) (cZ y (cZ n1 n2))))
  clear g h i j k l m V W X u b t o1 o2 J L f1 R y n1 n2 Q F2 F3 s1 s2
  obtain⟨g,h,i,j,k,l,m⟩:=F4.k x
  go_wp2_with (first|(refine jw _ rfl _ 9 37 rfl 5 underlying9 underlying37 underlying5 n rfl ad ?_;intro b5 W w5 Bv V ql X))
  refine(T _ _ _ ql Bv (by unfold maxLen at V;exact V)).mono ?_
  rintro e y ⟨a6,c6,rfl,t,g6⟩
  have b:=aa X g6
  have R:=F4.grown b
  have J:=q.1.1.grown b
  have L:=q.1.2.grown b
  have r1:=ek (P:=prog) y 37 9 5 underlying37 underlying5 underlying9 a1 c1 S (J.at' p)
  have r2:=ek (P:=prog) y 37 9 5 underlying37 underlying5 underlying9 a2 c2 S (L.at' p)
  have r3:=ek (P:=prog) y 37 9 5 underlying37 underlying5 underlying9 a6 c6 S t
  have Q:=RK d _ _ p1 p2 S M w y HI.1 R.gb J L p hS q.2.1.1 q.2.1.2 q.2.2.1 HI.2
  rw[p]at r1 r2 r3
  rw[p]
  have u:=aE q.2.2.2
  clear g h i j k l m X g6 b F4 R ql t J L q
  go_wp2_with fail
  refine Q.mono ?_
  rintro e j ⟨rfl,b⟩
  clear r1 r2 r3 Q
  go_wp2_with fail
  refine b.mono ?_
  rintro e k ⟨rfl,R⟩
  clear b
  by_cases b:U=0
  .subst b;clear u;go_wp2;go_ret;exact R
  .have i:(U==0)=false:=(by simpa using b);have g:=u.1 b;have h:=u.2 b;injection g with i1 i2 i3;injection h with i4 i5 i6;subst i1 i2 i3 i4 i6;clear u b i5;go_wp2;go_ret;exact R
abbrev RJ(g:Nat)(b y:Nat):Prop:=¬ (b=g/\2<=y/\y<163)
theorem ac1(w)(g)(f)(M)(k:bX w g 0 f M)(m:Pl.blk f≠some g)(i:∀e∈M.aC,e.In)(d:M.aC.Pairwise (λx y=>Op.bytesLess x.name y.name=true)):
  HS (w.1.size+1) g (w.1.size+2) 210 (N g 0) (N g 0) none none f (λW=>bN W g 2 M.aC) (λ_ _=>False) (RJ g) M.aC:=by
 have r:=k.lt (.inl rfl)
 have a:∀b y,¬ Pl.has none b y:=λb y h=>by obtain⟨q,e,_⟩:=h;cases e
 refine⟨SN g,OD g M.aC d,λ_ h=>h,λ_ _ _ h=>h,λb y o h=>by have:=h.1;omega,λb y h=>absurd h (a b y),λb y h=>absurd h (a b y),λh=>by omega,λy n _ h=>by omega,(λq h=>by cases h),(λq h=>by cases h),λj _=>a _ _,λj _=>a _ _,λ_ _ h=>h,by omega,λp l=>?_,by omega,by omega,i,d⟩
 have n:p.g<w.1.size:=k.lt (.inr (by rw[l];rfl))
 exact⟨λe=>m (by rw[l,<-e];rfl),by omega,by omega,λy=>⟨λh=>h,a _ _,a _ _⟩⟩
theorem Ii(g)(i)(M)(a)(S)(f)(n)(p)(d)(w)(o:bX w g 0 i M)(r:Pl.blk i≠some g)(k:∀e∈M.aC,e.In)(m:M.aC.Pairwise (λx y=>Op.bytesLess x.name y.name=true))(A:Hid (f.length=n))(B:At w S.1 S.2)(x:Bs S (.slice p n d) f)(v:bT a)(l:bT M.ax)(C:∀y∈M.aI,bT y.time):Calls prog 64 #[N g 0,Y a,.slice p n d] w λe y=>∃t,e=.returned t/\Fin w y g none none i (λ_ _=>False) t (dF M a f):=by
 have u:=aE (A9 g 210 (N g 0) (N g 0) σ σ none none i _ _ _ M a S f n p d w (ac1 w g i M o r k m) o o.aC (fA.nil w) (fA.nil w) A B x (λb D _ j _=>⟨λh=>(by obtain⟨q,e,_⟩:=h;cases e),λh=>h⟩) v l C)
 obtain⟨R,b⟩:=aq (dF M a f)
 rw[b]at u⊢
 clear b o r k m A B x v l C
 go_in
 go_wp2_with (go_at_call 95;refine u.mono ?_;rintro e y ⟨t,rfl,r,_⟩)
 go_ret
 exact⟨_,rfl,r⟩
theorem DT(g)(j)(M)(a)(S)(d)(n)(k)(b)(w)(t:bX w g 0 j M)(o:Pl.blk j≠some g)(f:∀e∈M.aC,e.In)(i:M.aC.Pairwise (λx y=>Op.bytesLess x.name y.name=true))(u:Hid (d.length=n))(v:At w S.1 S.2)(r:Bs S (.slice k n b) d)(p:bT a)(h:bT M.ax)(A:∀y∈M.aI,bT y.time):Calls prog 32 #[N g 0,Y a,.slice k n b] w λe x=>∃l,e=.returned l/\Fin w x g none none j (λ_ _=>False) l (dF M a d):=by
 have m:=aE (Ii g j M a S d n k b w t o f i u v r p h A)
 obtain⟨R,q⟩:=aq (dF M a d)
 rw[q]at m⊢
 clear q t o f i u v r p h A
 go_in
 go_wp2_with (go_at_call 64;refine m.mono ?_;rintro e x ⟨l,rfl,r⟩)
 go_ret
 exact⟨_,rfl,r⟩
theorem xO:∀(a)(i)(b:i<a.length),(fG a)[i*2]?=some (a[i]).1/\(fG a)[i*2+1]?=some (Y (a[i]).2):=by
 intro a;induction a with
 |nil=>intro i b;simp at b
 |cons x a d=>
  intro i b;cases i with
  |zero=>exact⟨rfl,rfl⟩
  |succ i=>
   grind [fG]
theorem yG(n)(g)(a)(m)(w)(b:mr w (Y m) (g,n,a)):Calls prog 14 #[.slice g n a,Y m] w λe d=>e=.returned (.bool true)/\w=d:=by
 have q:n<=9223372036854775807:=b.1
 have f:=aE b
 clear b
 go_in
 go_wp2
 go_loop [5] (λi=>∃k:Nat,k<=n/\i = Y k) (λi=>n-(intOf i).toNat)
 case atStart=>exact⟨0,cS _,rfl⟩
 case round=>
  obtain⟨k,p,rfl⟩:=hrel;by_cases h:k<n
  .have l:(k:Int)<(n:Int):=G;have j:(0:Int)<=(k:Int):=G;obtain⟨b,d,e,o,i⟩:=f.cell h;have e:g=some ⟨b,d,none⟩:=e;subst e;have i:w.c b (d+k*2+1)=some (Y m):=i;clear f;exact tW
  .have l:¬ (k:Int)<(n:Int):=G;clear f;exact lR
def rE(n:Nat)(m:Int):List Value:=(List.replicate n [σ,Y m]).flatten
theorem Ij(n)(m):(rE n m).length=n*2:=by
 induction n with
 |zero=>rfl
 |succ n a=>unfold rE at a⊢;grind
theorem QP(n k)(m):rE n m++rE k m=rE (n+k) m:=by
 unfold rE;rw[<-List.flatten_append,List.replicate_append_replicate]
theorem ac2(n k)(m)(b:k<n):(rE n m)[k*2]?=some σ/\(rE n m)[k*2+1]?=some (Y m):=by
 induction n generalizing k with
 |zero=>omega
 |succ n a=>
  unfold rE at a⊢;exact F6
theorem QQ(n)(m):∀u∈rE n m,u.oneCell'=true:=by
 intro u b;obtain⟨l,a,h⟩:=List.mem_flatten.1 b;rw[List.eq_of_mem_replicate a]at h;simp at h;rcases h with rfl|rfl<;>rfl
theorem Tryz.agc:(prog.info? 110).map (λi=>(i.zero,i.size,i.bytes))=some (some (.agg #[σ,Y 0]),2,32):=by kernel_rfl
theorem Tryz.ac3:(prog.info? 68).map (λi=>(i.zero,i.size,i.bytes))=some (some (.agg #[σ,σ,σ,σ,Y 0]),5,104):=by kernel_rfl
theorem xP{w:World}{base:Nat}{e:TypeId}{v:Value}{n:Nat}{m:Int}(h:w.ownsRow base e 2 v n (rE n m))(d:n<=9223372036854775807):
  ∃p c,v=.slice p n c/\mr w (Y m) (p,n,c)/\∀b,Sl.on (p,n,c) b->v.ownBlock=some b/\base<=b:=by
 obtain⟨ao,a,f⟩:=bA h
 subst f
 refine⟨ao,a,rfl,⟨d,nP h⟩,?_⟩
 exact FG
theorem Cp(W:World)(m)(e):qR (W.alloc (.cells #[σ,Y m] e)) (some ⟨W.1.size,0,none⟩) (rE 1 m):=p9 W #[σ,Y m] e
theorem Pu(W:World)(m)(e):qR (W.alloc (.cells #[σ,Y m,σ,Y m] e)) (some ⟨W.1.size,0,none⟩) (rE 2 m):=p9 W #[σ,Y m,σ,Y m] e
theorem vW{P:Program}(w){f:Array Oper}{d:List Oper}{o:Oper}{a:Act}{Q:Exit->Act->World->Prop}(q:o.guard=none)(s x)(t)(r:o.op=Op.call {callee:=Callee.builtin Builtin.append,args:=#[s,x],argTypes:=#[t,t]})(e)(i)(z)(y:P.underlying t=some (.slice e))(A:P.info? e=some i)(B:i.zero=some z)(C:i.size=2)(D:i.bytes=32)(J:z.cells.size=2)(g n)(m)(R:a.eval s = ς g 0 n n)(L:qR w (some ⟨g,0,none⟩) (rE n m))(b k c)(S:a.eval x = ς b 0 k c)(V:0<k)(T:qR w (some ⟨b,0,none⟩) (rE k m))(U:n+k<=1000000)(K:∀p l,l.ownsRow w.1.size e 2 p (n+k) (rE (n+k) m)->w.grownBy l none->wpList P f Q d (a.put o.dst p) l):
  wpList P f Q (o::d) a w:=by
 have v:∀(ad)(zs),qR w (some ad) zs->∀j u,zs[j]?=some u->w.cell? (ad.add j)=some u:=by
  exact E3
 refine wpList_append_grows w q s x t r e i z 2 32 y A B C D J H (some ⟨g,0,none⟩) n n (rE n m) R (λh=>by cases h) (Ij n m) dT ⟨b,0,none⟩ k c (rE k m) S (Ij k m) (v _ _ T) (QQ k m) G lA G (λp l M q=>K p l (by rw[<-QP];exact M) q)
set_option maxHeartbeats 4000000
theorem jS.entry{d:BW r}{w:World}(h:jS base wb d w){t k L:Nat}{a:Option Addr}{c:Nat}(C:d.lv t=.slice a L c/\(d.le t).length=L)(M:k<L):
  ∃e,a=some ⟨e,0,none⟩/\∃A u n v o i x p l y q m f,w.c e (k*5)=some (.slice A u n)/\w.c e (k*5+1)=some (.slice v o i)/\w.c e (k*5+2)=some (.slice x p l)/\w.c e (k*5+3)=some (.slice y q m)/\w.c e (k*5+4)=some f/\vj t f/\p8 t w ⟨(A,u,n),(v,o,i),(x,p,l),(y,q,m),f⟩:=by
 have B:w.ownsRow base (uc t) 5 (d.lv t) (d.le t).length (jU (d.le t)):=h.here (2,t)
 rw[C.1,C.2]at B
 have gN:k<(d.le t).length:=by rw[C.2];exact M
 have D:=h.here (3,t) (d.le t)[k] (eh gN)
 obtain⟨e,rfl⟩:∃e,a=some ⟨e,0,none⟩:=by
  rcases B.2 with⟨h,P⟩|⟨g,J,K,h,_⟩
  .omega
  grind
 have b:∀j,j<5->w.cell? (δ e (k*5+j))=((d.le t)[k]).cells[j]?:=by
  intro j J;rw[B.cellAt (k*5+j) G];grind [OY]
 obtain⟨X,g⟩:=aq ((d.le t)[k])
 rw[g]at D b
 obtain⟨⟨A,u,n⟩,⟨v,o,i⟩,⟨x,p,l⟩,⟨y,q,m⟩,f⟩:=X
 exact⟨e,rfl,A,u,n,v,o,i,x,p,l,y,q,m,f,b 0 G,b 1 G,b 2 G,b 3 G,b 4 G,D.2,D.1⟩
theorem xl{p:Prop}(h:p:=by
 go_roundw
 case rel=>exact⟨k+1,by omega,by go_num,rfl,aa hgr (K _)⟩
 case measure=>simp[intOf];omega):p:=h
theorem RC(d:BW r)(w)(h:jS base wb d w)(l:∀t,(d.le t).length<=140737488355328):Calls Tryz.prog 6 #[N wb 2] w λe b=>e=.returned (.bool true)/\w.grownBy b none:=by
 have f:∀t,∃a L c,(d.lv t=.slice a L c/\(d.le t).length=L)/\L<=140737488355328:=λt=>by
  obtain⟨a,c,e⟩:=bA (h.here (2,t));exact⟨a,_,c,⟨e,rfl⟩,l t⟩
 obtain⟨a0,P,b0,g,l0⟩:=f 0
 obtain⟨a1,Q,b1,a,l1⟩:=f 1
 obtain⟨a2,R,b2,i,l2⟩:=f 2
 obtain⟨a3,L3,b3,j,l3⟩:=f 3
 have U:Hid (w.cell? (δ wb 2)=some (.slice a0 P b0)/\w.cell? (δ wb 3)=some (.slice a1 Q b1)/\w.cell? (δ wb 4)=some (.slice a2 R b2)/\w.cell? (δ wb 5)=some (.slice a3 L3 b3)):=by
  rw[<-g.1,<-a.1,<-i.1,<-j.1];exact⟨h.blk.cell 2,h.blk.cell 3,h.blk.cell 4,h.blk.cell 5⟩
 have V:=aE (cZ g (cZ a (cZ i j)))
 have HS:=aE h
 have G:w.grownBy w none:=cC _ _
 clear g a i j f l h
 go_enter Tryz.func6,Tryz.ntmps6
 go_wp2
 go_loopw [3,4,5,6,7,8,9] (λo i _ _ _ _ _ wr=>∃k:Nat,k<=P/\i = Y k/\o=.bool true/\w.grownBy wr none) (λ_ i _ _ _ _ _ _=>P-(intOf i).toNat)
 case atStart=>exact⟨0,cS _,rfl,rfl,G⟩
 case round=>
  obtain⟨k,T,rfl,rfl,hgr⟩:=hrel;have S:=bP hgr (U.1);by_cases a:k<P
  .have t:(k:Int)<(P:Int):=aZ;have B:(0:Int)<=(k:Int):=aZ;obtain⟨g0,A,j,M,y,f,D,u,g,J,v,h,L,x,mk,q0,q1,q2,q3,q4,⟨m,C⟩,l,n,p,q⟩:=(HS.grown hgr).entry V.1 a;subst A C;have K:=λo=>cy wr o none;go_wp2_with (first|(go_at_call_of 11 j;refine(yH M j y m _ l.1 (l.2.below (K _))).mono ?_;rintro e b ⟨rfl,rfl⟩)|(go_at_call_of 11 f;refine(yH D f u m _ n.1 (n.2.below (K _))).mono ?_;rintro e b ⟨rfl,rfl⟩)|(go_at_call_of 11 g;refine(yH J g v m _ p.1 (p.2.below (K _))).mono ?_;rintro e b ⟨rfl,rfl⟩)|(go_at_call_of 11 h;refine(yH L h x m _ q.1 (q.2.below (K _))).mono ?_;rintro e b ⟨rfl,rfl⟩))
   exact xl
  .have t:¬ (k:Int)<(P:Int):=aZ;go_wp2;clear S t a T;obtain⟨ad,X⟩:∃b,b=wr:=⟨wr,rfl⟩
   subst X;go_loopw [3,10,11,12,13,14,15] (λo i _ _ _ _ _ wr=>∃k:Nat,k<=Q/\i = Y k/\o=.bool true/\w.grownBy wr none) (λ_ i _ _ _ _ _ _=>Q-(intOf i).toNat)
   case atStart=>exact⟨0,cS _,rfl,rfl,hgr⟩
   case round=>
    clear hgr;obtain⟨k,T,rfl,rfl,hgr⟩:=hrel;have S:=bP hgr (U.2.1);by_cases a:k<Q
    .have t:(k:Int)<(Q:Int):=aZ;have B:(0:Int)<=(k:Int):=aZ;obtain⟨g0,A,j,M,y,f,D,u,g,J,v,h,L,x,mk,q0,q1,q2,q3,q4,⟨m,C⟩,l,n,p,q⟩:=(HS.grown hgr).entry V.2.1 a;subst A C;have K:=λo=>cy wr o none;go_wp2_with (first|(go_at_call_of 12 j;refine(Bp M j y m _ l.1 (l.2.below (K _))).mono ?_;rintro e b ⟨rfl,rfl⟩)|(go_at_call_of 12 f;refine(Bp D f u m _ n.1 (n.2.below (K _))).mono ?_;rintro e b ⟨rfl,rfl⟩)|(go_at_call_of 12 g;refine(Bp J g v m _ p.1 (p.2.below (K _))).mono ?_;rintro e b ⟨rfl,rfl⟩)|(go_at_call_of 12 h;refine(Bp L h x m _ q.1 (q.2.below (K _))).mono ?_;rintro e b ⟨rfl,rfl⟩))
     exact xl
    .have t:¬ (k:Int)<(Q:Int):=aZ;go_wp2;clear S t a T;obtain⟨ae,ab⟩:∃b,b=wr:=⟨wr,rfl⟩
     subst ab;go_loopw [3,16,17,18,19,20,21] (λo i _ _ _ _ _ wr=>∃k:Nat,k<=R/\i = Y k/\o=.bool true/\w.grownBy wr none) (λ_ i _ _ _ _ _ _=>R-(intOf i).toNat)
     case atStart=>exact⟨0,cS _,rfl,rfl,hgr⟩
     case round=>
      clear hgr;obtain⟨k,T,rfl,rfl,hgr⟩:=hrel;have S:=bP hgr (U.2.2.1);by_cases a:k<R
      .have t:(k:Int)<(R:Int):=aZ;have B:(0:Int)<=(k:Int):=aZ;obtain⟨g0,A,j,M,y,f,D,u,g,J,v,h,L,x,mk,q0,q1,q2,q3,q4,⟨m,C⟩,l,n,p,q⟩:=(HS.grown hgr).entry V.2.2.1 a;subst A C;have K:=λo=>cy wr o none;go_wp2_with (first|(go_at_call_of 13 j;refine(Bq M j y m _ l.1 (l.2.below (K _))).mono ?_;rintro e b ⟨rfl,rfl⟩)|(go_at_call_of 13 f;refine(Bq D f u m _ n.1 (n.2.below (K _))).mono ?_;rintro e b ⟨rfl,rfl⟩)|(go_at_call_of 13 g;refine(Bq J g v m _ p.1 (p.2.below (K _))).mono ?_;rintro e b ⟨rfl,rfl⟩)|(go_at_call_of 13 h;refine(Bq L h x m _ q.1 (q.2.below (K _))).mono ?_;rintro e b ⟨rfl,rfl⟩))
       exact xl
      .have t:¬ (k:Int)<(R:Int):=aZ;go_wp2;clear S t a T;obtain⟨af,W⟩:∃b,b=wr:=⟨wr,rfl⟩
       subst W;go_loopw [3,22,23,24,25,26,27] (λo i _ _ _ _ _ wr=>∃k:Nat,k<=L3/\i = Y k/\o=.bool true/\w.grownBy wr none) (λ_ i _ _ _ _ _ _=>L3-(intOf i).toNat)
       case atStart=>exact⟨0,cS _,rfl,rfl,hgr⟩
       case round=>
        clear hgr;obtain⟨k,T,rfl,rfl,hgr⟩:=hrel;have S:=bP hgr (U.2.2.2);by_cases a:k<L3
        .have t:(k:Int)<(L3:Int):=aZ;have B:(0:Int)<=(k:Int):=aZ;obtain⟨g0,A,j,M,y,f,D,u,g,J,v,h,L,x,mk,q0,q1,q2,q3,q4,⟨m,C⟩,l,n,p,q⟩:=(HS.grown hgr).entry V.2.2.2 a;subst A C;have K:=λo=>cy wr o none;go_wp2_with (first|(go_at_call_of 14 j;refine(yG M j y m _ ⟨l.1,l.2.below (K _)⟩).mono ?_;rintro e b ⟨rfl,rfl⟩)|(go_at_call_of 14 f;refine(yG D f u m _ ⟨n.1,n.2.below (K _)⟩).mono ?_;rintro e b ⟨rfl,rfl⟩)|(go_at_call_of 14 g;refine(yG J g v m _ ⟨p.1,p.2.below (K _)⟩).mono ?_;rintro e b ⟨rfl,rfl⟩)|(go_at_call_of 14 h;refine(yG L h x m _ ⟨q.1,q.2.below (K _)⟩).mono ?_;rintro e b ⟨rfl,rfl⟩))
         exact xl
        .have t:¬ (k:Int)<(L3:Int):=aZ;go_wp2;go_ret;exact⟨rfl,hgr⟩
abbrev BW.pc(_:BW r)(p:QD):Nat->World->Prop:=p.C r
abbrev BW.push(d:BW r)(v:Value)(p:QD):BW r:=match r,d with
 |true,d=>{d with qv:=v,qs:=d.qs++[p]}
 |false,d=>{d with pv:=v,qs:=d.qs++[p]}
theorem jS.pushed{d:BW r}{w u l:World}{p:QD}{v:Value}(n:jS base wb d w)(x:w.grownBy u none)(P:∀j,p.C r j u)(C:∀j b,p.F j b->w.1.size<=b)(ab:∀i j b,p.F i b->p.F j b->i=j)(g:u.grownBy l d.rv.ownBlock)(t:l.ownsRow base (sd r) 1 v (d.qs.length+1) ((d.qs.map λp=>n8 p.pb)++[n8 p.pb]))(U:v.ownBlock=d.rv.ownBlock\/v.ownBlock=some u.1.size):
  Us base wb w (j' wb d) (d.push v p) (l.setCell (δ wb (yd r)) v):=by
 obtain⟨m,e⟩:=aw (l.setCell (δ wb (yd r)) v)
 have h8:∀b,b≠wb->m.1[b]?=l.1[b]?:=λb a=>by rw[e];exact Below.heap_setCell _ _ _ _ a
 have s8:m.1.size=l.1.size:=by rw[e];exact World.size_setCell _ _ _
 have J:m.os=l.os/\m.tape=l.tape/\m.output=l.output:=by rw[e];exact⟨rfl,rfl,rfl⟩
 have k8:∀f,dm l wb f->dm m wb (f.setIfInBounds (yd r) v):=λf h=>by rw[e];exact h.set _ v
 rw[<-e]
 clear e
 cases r
 all_goals
  have s1:=x.size
  have s2:=g.size
  have S:=n.room
  have ae:=n.lt (0,0) wb ⟨rfl,rfl⟩
  have ad:∀b,d.rv.ownBlock=some b->b<w.1.size:=λb e=>n.lt (1,0) b ⟨rfl,e⟩
  have A:∀b,w.1.size<=b->∀j,¬ BW.F wb d j b:=λb a j f=>by have:=n.lt j b f;omega
  have y:d.rv.ownBlock≠some wb:=λe=>by have:=n.one (0,0) (1,0) wb ⟨rfl,rfl⟩ ⟨rfl,e⟩;simp at this
  have X:∀b,v.ownBlock=some b->d.rv.ownBlock=some b\/b=u.1.size:=dT
  have B:v.ownBlock≠some wb:=dT
  have K:dm l wb d.cells:=(n.blk.grown x Z).grown g (λe=>y e.symm)
  have L:∀b,b<u.1.size->w.1.size<=b->m.1[b]?=u.1[b]?:=n9
  have Q:∀j,p.C _ j m:=λj=>QD.loc (P j) (λb a=>L b (QD.lt (P j) a) (C j b a))
  have M:(d.qs++[p])[d.qs.length]?=some p:=Z
  have hF:∀j b,BW.F wb (BW.push d v p) (j+4,d.qs.length) b->p.F j b:=by
   rintro j b ⟨q,hq,a⟩;grind
  have D:∀j b,p.F j b->v.ownBlock≠some b:=λj b a e=>by
   have k:=QD.lt (P j) a;grind
  have T:iO w m (λb=>b=wb\/d.rv.ownBlock=some b):=⟨(J.1.trans g.os).trans x.os,(J.2.1.trans g.tape).trans x.tape,(J.2.2.trans g.output).trans x.output,by omega,n9⟩
  have V:∀j,¬ (j=(0,0)\/j=(1,0)\/∃i,j=(i+4,d.qs.length))->(BW.C base wb d j m->BW.C base wb (BW.push d v p) j m)/\∀b,BW.F wb (BW.push d v p) j b->BW.F wb d j b:=by
   intro j f;match j,f with
   |(0,k),f=>exact⟨λ_ e=>absurd (by rw[e]) (λq=>f (.inl q)),λb e=>absurd (by rw[e.1]) (λq=>f (.inl q))⟩
   |(1,k),f=>exact⟨λ_ e=>absurd (by rw[e]) (λq=>f (.inr (.inl q))),λb e=>absurd (by rw[e.1]) (λq=>f (.inr (.inl q)))⟩
   |(2,_),_=>exact⟨λq=>q,λ_ q=>q⟩
   |(3,_),_=>exact⟨λq=>q,λ_ q=>q⟩
   |(j+4,k),f=>
    have y:k≠d.qs.length:=dT;have o:∀q,(d.qs++[p])[k]?=some q->d.qs[k]?=some q:=dT;exact⟨λq r R=>q r (o r R),λb ⟨r,R,a⟩=>⟨r,o r R,a⟩⟩
  refine⟨M3.acts (BW.loc base wb) n (λj=>j=(0,0)\/j=(1,0)\/∃i,j=(i+4,d.qs.length)) _ T ?_ ?_ ?_ ?_ V,T.mono (λb _ e=>?_),λb ⟨i,a⟩=>?_⟩
  .rintro b (e|e)
   .exact .inl ⟨(0,0),.inl rfl,rfl,e⟩
   .exact .inl ⟨(1,0),.inr (.inl rfl),rfl,e⟩
  .rintro _ (rfl|rfl|⟨j,rfl⟩)
   .exact λ_=>k8 _ K
   .intro _;grind [dh]
   .intro q hq;grind
  .rintro _ b (rfl|rfl|⟨j,rfl⟩) a
   .obtain⟨_,rfl⟩:=a;exact⟨n.base (0,0) b ⟨rfl,rfl⟩,by omega,.inl ⟨(0,0),.inl rfl,rfl,rfl⟩⟩
   .have e:v.ownBlock=some b:=a.2;refine⟨(t.lt b e).1,by rw[s8];exact(t.lt b e).2,?_⟩;rcases X b e with k|k
    .exact .inl ⟨(1,0),.inr (.inl rfl),rfl,k⟩
    grind
   .have q:=C j b (hF j b a);exact⟨by omega,QD.lt (Q j) (hF j b a),.inr (A b q)⟩
  .rintro _ _ b (rfl|rfl|⟨i,rfl⟩) (rfl|rfl|⟨j,rfl⟩) k f
   .rfl
   .obtain⟨_,rfl⟩:=k;exact absurd f.2 B
   .obtain⟨_,rfl⟩:=k;grind
   .obtain⟨_,rfl⟩:=f;exact absurd k.2 B
   .rfl
   .exact absurd k.2 (D j b (hF j b f))
   .obtain⟨_,rfl⟩:=f;grind
   .exact absurd f.2 (D i b (hF i b k))
   grind
  .rcases e with e|e
   .exact⟨(0,0),rfl,e⟩
   .exact⟨(1,0),rfl,e⟩
  .by_cases e:i=(0,0)\/i=(1,0)\/∃j,i=(j+4,d.qs.length)
   .rcases e with rfl|rfl|⟨j,rfl⟩
    .exact .inl ⟨(0,0),a⟩
    .rcases X b a.2 with e|e
     .exact .inl ⟨(1,0),rfl,e⟩
     .exact .inr G
    grind
   .exact .inl ⟨i,(V i e).2 b a⟩
theorem RD.new{w:World}{b e:Nat}{a:Int}{d:Value}{f:E}(h:iW w b e a σ σ d [] f):RD w b e ⟨a,[],[],f⟩ ⟨σ,σ,d,[]⟩:=
 ⟨h,rfl,World.ownsRow_nil _ _ _ _,by simp[Value.ownBlock],.inl rfl,.inl rfl⟩
def Fk(base wb:Nat)(d:BW r)(M:DM)(w w':World):Prop:=∃v p,Us base wb w (j' wb d) (d.push v p) w'/\p.M=M/\p.N=p.M/\p.kl=[]/\0<=M.ax/\M.ax<=300
