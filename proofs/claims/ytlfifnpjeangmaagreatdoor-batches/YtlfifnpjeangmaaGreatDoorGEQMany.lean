import Derived.Test.YtlfifnpjeangmaaGreatDoorGEQPool
import Derived.Test.YtlfifnpjeangmaaGreatDoorGESHandB
namespace Go.Proofs.YtlfifnpjeangmaaGreatDoor
set_option maxHeartbeats 1000000
open Proofs.Tryz Go.RowKit
set_option maxRecDepth 100000
variable {M:DM}{n:Nat}
theorem NR(g i:Nat)(n cap)(a)(w)(I:List (Value×Int)->World->Prop)(hn:Hid (a.length=n))(d:n<=16)(q:∀j∈a,∃y m c,j.2.2=.slice y m c)(p:w.rangeAt i 0 (eH a))(f:i<w.heap.size)(k:i≠g)(x:g<w.heap.size)(l:I [] w)(v:∀ds W W',I ds W->CF W W' (λb _=>b=w.heap.size)->I ds W')(step:∀ds W(h:ds.length<a.length),w.heap.size<W.heap.size->I ds W->Calls prog 149 #[.iface 247 (.pointer (some (g,0))),.agg (gI (a[ds.length]).1 (a[ds.length]).2.1 (a[ds.length]).2.2)] W λe w'=>∃t u s r,e=.returned (.agg #[.slice t u s,ι r])/\I (ds++[(.slice t u s,r)]) w'/\CF W w' (λb _=>b=g)):
  Calls prog 75 #[(g,0),.slice (some (i,0)) n cap] w λe w'=>EO w g n I e w':=by
 have HB:=hid (Nv g i n cap a w I hn d q p f k x l v step)
 clear hn d q p f k x l v step
 go_enter func75,ntmps75
 go_wp2_with fail
 refine HB.o.mono ?_
 rintro e w' ⟨A,ds,rfl,h⟩
 have z:=hid h
 clear h HB
 go_wp2
 go_ret2
 exact⟨A,ds,rfl,z.o⟩
theorem NS(g n cap:Nat)(b)(w)(hn:16<n):
  Calls prog 75 #[(g,0),.slice b n cap] w λe w'=>e=.returned (.tuple #[.slice none 0 0,ι 7])/\w.grownBy w' none:=by
 have a:(16:Int)<(n:Int):=agE
 have HB:Hid (Calls prog 118 #[.iface 247 (.pointer (some (g,0))),.slice b n cap] w λe w'=>e=.returned (.tuple #[.slice none 0 0,ι 7])/\w.grownBy w' none):=by
  show Calls _ _ _ _ _;go_enter func118,ntmps118;go_wp2;go_ret2;exact⟨rfl,cC _ _⟩
 clear a hn
 go_enter func75,ntmps75
 go_wp2_with fail
 refine HB.o.mono ?_
 rintro e w' ⟨rfl,h⟩
 have c:=hid h
 clear h HB
 go_wp2
 go_ret2
 exact⟨rfl,c.o⟩
abbrev uQ:=mW×Int×List UInt8
def Kl(M:DM)(j:uQ):(List UInt8×Int)×DM:=
 if j.1.kind=0 then(((dG M j.2.1 j.2.2).1,0),(dG M j.2.1 j.2.2).2) else(([],(fB M.aG j.1).2),{M with aG:=(fB M.aG j.1).1})
def iq(M:DM)(js:List uQ):DM:=js.foldl (λM j=>(Kl M j).2) M
theorem EZ(M)(a)(j):iq M (a++[j])=(Kl (iq M a) j).2:=by simp[iq]
structure uQ.Ok(j:uQ):Prop where
 bI:In64 j.1.bI
 aC:In64 j.1.aC
 ae:In64 j.1.ae
 name:j.1.name.length<=140737488355328
 now:In64 j.2.1
theorem dX.Kl(h:dX M n)(hn:1<=n){j:uQ}(a:j.Ok):dX (Kl M j).2 (n+1):=by
 unfold Go.Proofs.YtlfifnpjeangmaaGreatDoor.Kl;split
 ·exact(h.answer _ _).mono agE
 ·exact h.adm hn _ a.bI a.aC
theorem dX.iq(h:dX M n)(hn:1<=n):∀(a),(∀j∈a,j.Ok)->dX (iq M a) (n+a.length):=by
 intro a;induction a generalizing M n with
 |nil=>intro _;exact h
 |cons j a c=>
  intro b;have:=c (h.Kl hn (b j agI)) agE agM;rw[de,show n+(a.length+1)=n+1+a.length by omega];exact this
def wm(n:Nat)(W:World)(d:Value×Int)(j:uQ)(r:List UInt8×Int)(p:Option Pl):Prop:=d.2=r.2/\Out W d.1 p r.1/\Pl.fresh n p/\(j.1.kind≠0->p=none)
theorem wm.cf{W W':World}{ex:Nat->Nat->Prop}{d:Value×Int}{j:uQ}{r:List UInt8×Int}{p:Option Pl}(h:wm n W d j r p)(k:CF W W' ex)(a:∀b y,n<=b->¬ ex b y):wm n W' d j r p:=⟨h.1,h.2.1.cf k (λq c _ _=>a _ _ (h.2.2.1 q c)),h.2.2⟩
def up{α:Type}(f:Nat->α)(t:Nat)(v:α):Nat->α:=λs=>if s=t then v else f s
theorem qI{α:Type}(f:Nat->α)(t)(v:α):up f t v t=v:=if_pos rfl
theorem BB{α:Type}(f:Nat->α)(t)(v:α){s:Nat}(h:s≠t):up f t v s=f s:=if_neg h
def ajC(w:World)(g:Nat)(v:Value)(aX:List UInt8):Prop:=∃ao cap,v=.slice ao aX.length cap/\At w ao aX/\Bs (ao,aX) v aX/\∀b off,ao=some ⟨b,off,none⟩->b≠g
structure QI(w:World)(g:Nat)(dp:Option Pl)(M:DM)(ms:List uQ)(ds:List (Value×Int))(W:World):Prop where
 len:ds.length<=ms.length
 bP:∃pV,eX W g pV (iq M (ms.take ds.length))/\∀q',pV=some q'->∃q,dp=some q/\q.g=q'.g
 said:∃ps:Nat->Option Pl,(∀i(h:i<ds.length)(h':i<ms.length),wm (w.heap.size+1) W ds[i] ms[i] (Kl (iq M (ms.take i)) ms[i]).1 (ps i))/\∀i j q r,i<j->j<ds.length->ps i=some q->ps j=some r->q.g<r.g
 cf:CF w W (λb _=>b=g)
theorem QI.snoc{w:World}{g:Nat}{dp:Option Pl}{a:List uQ}{ds:List (Value×Int)}{W w':World}(h:QI w g dp M a ds W)(t:ds.length<a.length)(k:CF W w' (λb _=>b=g))(D:g<w.heap.size)(d)(A:∃f,eX w' g f (Kl (iq M (a.take ds.length)) (a[ds.length])).2/\∀c,f=some c->∃q,dp=some q/\q.g=c.g)(y:∃p,wm (w.heap.size+1) w' d (a[ds.length]) (Kl (iq M (a.take ds.length)) (a[ds.length])).1 p/\Pl.fresh W.heap.size p):QI w g dp M a (ds++[d]) w':=by
 obtain⟨ps,x,C⟩:=h.said
 obtain⟨p,B,u⟩:=y
 refine⟨by grind,?_,⟨up ps ds.length p,λi s v=>?_,λi j q r z o m l=>?_⟩,h.cf.trans k (λ_ _ _ e=>e)⟩
 ·rw[cD,eC,dy t,EZ];exact A
 ·grind [wm.cf,BB,qI]
 ·rw[cD,eC]at o;rw[BB _ _ _ agE]at m;by_cases e:j=ds.length
  ·rw[e,qI]at l;have s:=(x i agE agE).2.1.KU q m;have v:=u r l;omega
  grind [BB]
theorem Ra(g C n cap N:Nat)(v)(f)(dp)(M)(w)(hq:eX w g dp M)(J3:∀q,dp=some q->q.g≠g)(aa:∀q,dp=some q->q.g<w.heap.size)(hM:dX M N)(P:1<=N)(hN:N+16<=4611686018427387904)(hn:Hid (v.length=n))(E:n<=16)(hl:f.length=n)(J:∀j∈f,j.Ok)(H:∀i(h:i<v.length)(h':i<f.length),(v[i]).1=(f[i]).1/\(v[i]).2.1=(f[i]).2.1/\ajC w g (v[i]).2.2 (f[i]).2.2)(hj:w.rangeAt C 0 (eH v))(U:C<w.heap.size)(O:C≠g):
  Calls prog 75 #[(g,0),.slice (some (C,0)) n cap] w λe w'=>EO w g n (QI w g dp M f) e w':=by
 have X:=hq.bP.live.lt
 refine NR g C n cap v w (QI w g dp M f) hn E (λj s=>?_) hj U O X ⟨cS _,⟨dp,hq,λZ h=>⟨Z,h,rfl⟩⟩,⟨λ_=>none,λi h=>(by simp at h),agM⟩,CF.refl w _⟩ (λds W W' h k=>?_) (λds W h hW K=>?_)
 ·obtain⟨i,hi,rfl⟩:=List.getElem_of_mem s;obtain⟨_,_,S,c,I,_⟩:=H i hi (by rw[hl,<-hn.o];exact hi);exact⟨S,_,c,I⟩
 ·obtain⟨A,h1,h2⟩:=h.bP;refine⟨h.len,⟨A,h1.cf k (λy e=>by omega) (λq d y e=>?_),h2⟩,(by obtain⟨ps,s1,s2⟩:=h.said;exact⟨ps,(by grind [wm.cf]),s2⟩),h.cf.trans k (λb y hb e=>by omega)⟩;grind
 ·have p:ds.length<f.length:=by rw[hl,<-hn.o];exact h
  obtain⟨j1,j2,S,c,I,G,z,Y⟩:=H ds.length h p;obtain⟨A,L,d2⟩:=K.bP;have hinv:=hM.iq P (f.take ds.length) (λj s=>J j (List.mem_of_mem_take s));have u:dX (iq M (f.take ds.length)) (N+16):=hinv.mono (by rw[ep];omega);have D:∀q,A=some q->q.g≠g:=λq d=>by
   obtain⟨q0,e0,B⟩:=d2 q d;have:=J3 q0 e0;omega
  have l:=J _ (ef p);obtain⟨x,s⟩:=aq (f[ds.length]);rw[s]at j1 j2 I G z l;obtain⟨r,m⟩:=aq (iq M (f.take ds.length));rw[m]at L u;rw[j1,j2,I];by_cases hk:x.1.kind=0
  ·have t:(x.1.kind==0)=true:=(by rw[hk];rfl);have R:=G.cf K.cf agM;rw[I]at z;refine(U4 g A r x.1 x.2.1 x.2.2 x.2.2.length S c W L D (u.bin hN) u.aG.sorted (hid rfl) R Y z l.now u.aA u.times (A7 u _ _) t).mono ?_;rintro e w' ⟨v',rfl,F⟩;obtain⟨a,c',hs⟩:=F.shape;obtain⟨p',o1,o2⟩:=F.o;obtain⟨V,T,Q⟩:=F.bP;subst hs;have B:Kl r x=(((dG r x.2.1 x.2.2).1,0),(dG r x.2.1 x.2.2).2):=(by unfold Kl;rw[if_pos hk]);refine⟨a,_,c',0,rfl,K.snoc p F.cf X _ ⟨V,by rw[s,m,B];exact T,λZ d=>?_⟩ ?_,F.cf⟩
   ·grind
   ·rw[s,m,B];exact⟨p',⟨rfl,o1,λq d=>by have:=o2 q d;omega,λe=>absurd hk e⟩,o2⟩
  ·have t:(x.1.kind==0)=false:=ahA;refine(Za g A r (N+16) x.1 x.2.1 _ W L D u.aG hN l.ae.1 l.ae.2 (by have:=l.name;omega) t).mono ?_;rintro e w' ⟨rfl,T,Q⟩;have B:Kl r x=(([],(fB r.aG x.1).2),{r with aG:=(fB r.aG x.1).1}):=(by unfold Kl;rw[if_neg hk]);refine⟨none,0,0,_,rfl,K.snoc p Q X _ ⟨A,by rw[s,m,B];exact T,d2⟩ ?_,Q⟩;rw[s,m,B];exact⟨none,⟨rfl,Out.nil _,λq d=>(by cases d),λ_=>rfl⟩,λq d=>by cases d⟩
section
variable {S I:Type}{C:S->I->World->Prop}{F:S->I->Nat->Prop}{B:Nat}{s s':S}{w w':World}
structure KC(C:S->I->World->Prop)(F:S->I->Nat->Prop)(B:Nat)(s:S)(w:World):Prop where
 here:∀k,C s k w
 lt:∀k b,F s k b->b<w.heap.size
 base:∀k b,F s k b->B<=b
 one:∀j k b,F s j b->F s k b->j=k
 room:B<=w.heap.size
def akh(C:S->I->World->Prop)(F:S->I->Nat->Prop):Prop:=∀s k w w',C s k w->(∀b,F s k b->w'.heap[b]?=w.heap[b]?)->C s k w'
theorem KC.acts(L:akh C F)(h:KC C F B s w)(K:I->Prop)(ex:Nat->Prop)(f:iZ w w' ex)(v:∀b,ex b->(∃k,K k/\F s k b)\/∀j,¬ F s j b)(x:∀k,K k->C s' k w')(o:∀k b,K k->F s' k b->B<=b/\b<w'.heap.size/\((∃j,K j/\F s j b)\/∀j,¬ F s j b))(y:∀i j b,K i->K j->F s' i b->F s' j b->i=j)(g:∀j,¬ K j->(C s j w'->C s' j w')/\∀b,F s' j b->F s j b):KC C F B s' w':=by
 have z:=f.size
 have u:=h.room
 have l:∀j,¬ K j->∀b,F s j b->w'.heap[b]?=w.heap[b]?:=λj m b c=>f.block b (h.lt j b c) (λe=>by
  rcases v b e with⟨k,n,a⟩|a
  ·exact m (by rw[h.one j k b c a];exact n)
  ·exact a j c)
 refine⟨λj=>?_,λj b c=>?_,λj b c=>?_,λi j b t m=>?_,by omega⟩
 ·by_cases e:K j
  ·exact x j e
  ·exact(g j e).1 (L s j w w' (h.here j) (l j e))
 ·by_cases e:K j
  ·exact(o j b e c).2.1
  ·have:=h.lt j b ((g j e).2 b c);omega
 ·by_cases e:K j
  ·exact(o j b e c).1
  ·exact h.base j b ((g j e).2 b c)
 ·by_cases e:K i<;>by_cases a:K j
  ·exact y i j b e a t m
  ·have q:=(g j a).2 b m;rcases(o i b e t).2.2 with⟨k,n,r⟩|r
   ·exact absurd (by rw[h.one j k b q r];exact n) a
   ·exact absurd q (r j)
  ·have p:=(g i e).2 b t;rcases(o j b a m).2.2 with⟨k,n,r⟩|r
   ·exact absurd (by rw[h.one i k b p r];exact n) e
   ·exact absurd p (r i)
  ·exact h.one i j b ((g i e).2 b t) ((g j a).2 b m)
end
theorem dE.keep{w w':World}{g o:Nat}{dp:Option Pl}{d:DM}(h:dE w g o dp d)(k:∀b,b=g\/Pl.blk dp=some b->w'.heap[b]?=w.heap[b]?):dE w' g o dp d:=by
 have x:=k g (.inl rfl);have c:∀j,w'.cell? ⟨g,j,none⟩=w.cell? ⟨g,j,none⟩:=(by grind [World.cell?_of_block])
 have kl:∀{b n},w'.heap[b]?=w.heap[b]?->Live w b n->Live w' b n:=λe ⟨l,t,i,m⟩=>⟨l,t,e.trans i,m⟩
 obtain⟨v,p,r⟩:=h.aL;refine⟨kl x h.live,(c _).trans h.aA,⟨v,(c _).trans p,?_⟩,⟨kl x h.aG.live,λj u f=>(c _).trans (h.aG.room j u f),(c _).trans h.aG.count,h.aG.len⟩,λj u f=>(c _).trans (h.aJ j u f),(c _).trans h.count,h.few⟩;rcases r with r|⟨q,z,p,i,m,A,D⟩
 ·exact .inl r
 ·have y:=k q.g (.inr (by rw[z];rfl));exact .inr ⟨q,z,p,i,m,kl y A,λj u f=>(World.cell?_of_block (a:=⟨q.g,q.off+j,none⟩) y).trans (D j u f)⟩
theorem dE.lt{w:World}{g o:Nat}{dp:Option Pl}{d:DM}(h:dE w g o dp d){b:Nat}(a:b=g\/Pl.blk dp=some b):b<w.heap.size:=by
 rcases a with rfl|a
 ·exact h.live.lt
 ·obtain⟨v,_,f⟩:=h.aL;rcases f with⟨c,_⟩|⟨q,c,_,_,_,e,_⟩
  ·rw[c]at a;cases a
  ·rw[c]at a;injection a with a;rw[<-a];exact e.lt
theorem eX.keep{w w':World}{g:Nat}{dp:Option Pl}{d:DM}(h:eX w g dp d)(k:∀b,b=g\/Pl.blk dp=some b->w'.heap[b]?=w.heap[b]?):eX w' g dp d:=by
 have e:=k g (.inl rfl);have a:∀j,w'.cell? ⟨g,j,none⟩=w.cell? ⟨g,j,none⟩:=(by grind [World.cell?_of_block])
 have kl:∀{n},Live w g n->Live w' g n:=λ⟨c,t,f,r⟩=>⟨c,t,e.trans f,r⟩
 obtain⟨v,o,l,m⟩:=h.look;exact⟨h.bP.keep k,⟨v,o,⟨kl l.live,λi q j u p=>(a _).trans (l.R9 i q j u p),(a _).trans l.count,(a _).trans l.next,l.len,l.nx4,l.nxl⟩,m⟩,⟨kl h.pool.live,(a _).trans h.pool.c0,(a _).trans h.pool.c1⟩⟩
structure QD where
 pb:Nat
 xb:Nat
 dp:Option Pl
 yb:Nat
 rg:RG
 M:DM
 N:DM
 sv:Value
 kl:List KN
def QD.C(p:QD)(j:Nat)(w:World):Prop:=match j with
 |0=>dB w p.pb #[ptrTo p.xb,ptrTo p.yb,p.sv]
 |1=>eX w p.xb p.dp p.M/\∀q,p.dp=some q->q.g≠p.xb
 |2=>RD w 0 p.yb p.N p.rg
 |3=>w.ownsRow 0 170 3 p.sv p.kl.length (nS p.kl)/\∀k∈p.kl,(w.ownsRow 0 5 1 k.box k.z.length (k.z.map U8)/\k.z.length<=1000/\k.c.length<=1048576)/\∀b,k.box.ownBlock=some b->p.sv.ownBlock≠some b
 |_=>True
def QD.F(p:QD)(j b:Nat):Prop:=match j with
 |0=>b=p.pb
 |1=>b=p.xb\/Pl.blk p.dp=some b
 |2=>p.rg.foot p.yb b
 |3=>p.sv.ownBlock=some b\/∃k∈p.kl,k.box.ownBlock=some b
 |_=>False
theorem QD.loc{p:QD}{j:Nat}{w w':World}(h:p.C j w)(k:∀b,p.F j b->w'.heap[b]?=w.heap[b]?):p.C j w':=by
 match j,h,k with
 |0,h,k=>exact dB.kept h (k _ rfl)
 |1,h,k=>exact⟨h.1.keep k,h.2⟩
 |2,h,k=>exact h.keep k
 |3,h,k=>exact⟨bZ h.1 (λb c=>k b (.inl c)),λx a=>⟨⟨bZ (h.2 x a).1.1 (λb c=>k b (.inr ⟨x,a,c⟩)),(h.2 x a).1.2⟩,(h.2 x a).2⟩⟩
 |_+4,_,_=>trivial
theorem QD.lt{p:QD}{j b:Nat}{w:World}(h:p.C j w)(k:p.F j b):b<w.heap.size:=by
 match j,h,k with
 |0,h,k=>have e:b=p.pb:=k;rw[e];exact dB.lt h
 |1,h,k=>exact h.1.bP.lt k
 |2,h,k=>exact(h.lt b k).2
 |3,h,k=>
  rcases k with k|⟨x,a,k⟩
  ·exact(h.1.lt b k).2
  ·exact((h.2 x a).1.1.lt b k).2
theorem QD.said{p:QD}{w:World}(b:p.C 0 w)(h:p.C 3 w):SaidAt w 0 p.pb 2 p.sv p.kl:=⟨dB.cell b 2,h.1,λk a=>(h.2 k a).1⟩
theorem afP{p:Prop}(h:p:=by
 rw[List.replicate_succ,eI]
 cases k with
 |zero=>exact⟨rfl,rfl⟩
 |succ k=>
  grind):p:=h
theorem lQ.cell{w:World}{m:Value}{s:Sl}(h:lQ w m s){k:Nat}(a:k<s.2.1):∃b off,s.1=some ⟨b,off,none⟩/\w.cell? ⟨b,off+k*2,none⟩=some (.slice none 0 0)/\w.cell? ⟨b,off+(k*2+1),none⟩=some m:=by
 have e:∀(n k),k<n->(List.replicate n [Value.slice none 0 0,m]).flatten[k*2]?=some (.slice none 0 0)/\(List.replicate n [Value.slice none 0 0,m]).flatten[k*2+1]?=some m:=by
  intro n;induction n with
  |zero=>intro k a;omega
  |succ n o=>
   intro k a;exact afP
 obtain⟨b,off,f,g⟩:=h.2 _ _ (e _ k a).1;obtain⟨l,c,j,i⟩:=h.2 _ _ (e _ k a).2;grind
theorem lQ.lt{w:World}{m:Value}{s:Sl}(h:lQ w m s){b:Nat}(c:s.on b):b<w.heap.size:=by
 obtain⟨off,e1,e⟩:=c;obtain⟨f,a,e3,e4,_⟩:=h.cell e;exact aeZ
def ZX:Nat->TypeId
 |0=>57
 |1=>60
 |2=>64
 |_=>68
def isM:Nat->Value->Prop
 |0=>Xa
 |2=>Xb
 |_=>Ld
def okT:Nat->World->iw->Prop
 |3=>iw.okD
 |_=>iw.ok
theorem Ff{t:Nat}{w w':World}{x:iw}(h:okT t w x)(k:∀b,x.on b->w'.heap[b]?=w.heap[b]?):okT t w' x:=by
 unfold okT at *;split at h
 ·exact⟨h.1.keep (λb a=>k b (.inl a)),h.2.1.keep (λb a=>k b (.inr (.inl a))),h.2.2.1.keep (λb a=>k b (.inr (.inr (.inl a)))),h.2.2.2.keep (λb a=>k b (.inr (.inr (.inr a))))⟩
 ·exact iw.ok.keep h k
theorem ZY{t:Nat}{w:World}{x:iw}(h:okT t w x){b:Nat}(hb:x.on b):b<w.heap.size:=by
 unfold okT at h;split at h
 ·exact aeN
 ·exact iw.ok.lt h hb
structure BW where
 qv:Value
 qs:List QD
 lv:Nat->Value
 le:Nat->List iw
abbrev BW.cells(d:BW):Array Value:=#[.slice none 0 0,d.qv,d.lv 0,d.lv 1,d.lv 2,d.lv 3]
def BW.C(base wb:Nat)(d:BW)(i:Nat×Nat)(w:World):Prop:=match i with
 |(0,k)=>k=0->dB w wb d.cells
 |(1,k)=>k=0->w.ownsRow base 54 1 d.qv d.qs.length (d.qs.map λp=>ptrTo p.pb)
 |(2,t)=>w.ownsRow base (ZX t) 5 (d.lv t) (d.le t).length (ig (d.le t))
 |(3,t)=>∀x∈d.le t,okT t w x/\isM t x.mark
 |(j+4,k)=>∀p,d.qs[k]?=some p->p.C j w
def BW.F(wb:Nat)(d:BW)(i:Nat×Nat)(b:Nat):Prop:=match i with
 |(0,k)=>k=0/\b=wb
 |(1,k)=>k=0/\d.qv.ownBlock=some b
 |(2,t)=>(d.lv t).ownBlock=some b
 |(3,t)=>∃x∈d.le t,x.on b
 |(j+4,k)=>∃p,d.qs[k]?=some p/\p.F j b
theorem BW.loc(base wb):akh (BW.C base wb) (BW.F wb):=by
 intro d k w w' h a;match k,h,a with
 |(0,_),h,a=>exact λe=>dB.kept (h e) (a wb ⟨e,rfl⟩)
 |(1,_),h,a=>exact λe=>bZ (h e) (λb c=>a b ⟨e,c⟩)
 |(2,t),h,a=>exact bZ h a
 |(3,t),h,a=>exact λx f=>⟨Ff (h x f).1 (λb c=>a b ⟨x,f,c⟩),(h x f).2⟩
 |(j+4,k),h,a=>exact λp g=>QD.loc (h p g) (λb c=>a b ⟨p,g,c⟩)
abbrev kJ(base wb:Nat)(d:BW)(w:World):Prop:=KC (BW.C base wb) (BW.F wb) base d w
def Held(wb:Nat)(d:BW)(b:Nat):Prop:=∃i,BW.F wb d i b
abbrev BW.add(d:BW)(t:Nat)(v:Value)(x:iw):BW:={d with lv:=up d.lv t v,le:=up d.le t (d.le t++[x])}
theorem BW.Cy(d:BW)(t)(v)(x)(s):((d.add t v x).le s).length<=(d.le s).length+1:=by
 grind [BB,qI]
variable {base wb:Nat}{d d':BW}{w w' w0:World}{U:Nat->Prop}
theorem kJ.blk(h:kJ base wb d w):dB w wb d.cells:=h.here (0,0) rfl
theorem kJ.row(h:kJ base wb d w):w.ownsRow base 54 1 d.qv d.qs.length (d.qs.map λp=>ptrTo p.pb):=h.here (1,0) rfl
theorem kJ.part(h:kJ base wb d w){k:Nat}{p:QD}(a:d.qs[k]?=some p)(j):p.C j w:=h.here (j+4,k) p a
theorem kJ.grown(h:kJ base wb d w)(g:w.grownBy w' none):kJ base wb d w':=
 KC.acts (BW.loc base wb) h (λ_=>False) (λ_=>False) (iZ.lM g _) (λ_ e=>e.elim) (λ_ e=>e.elim) (λ_ _ e=>e.elim) (λ_ _ _ e=>e.elim) agM
theorem kJ.low(h:kJ base wb d w){b:Nat}(c:Held wb d b):base<=b/\b<w.heap.size:=by
 obtain⟨i,a⟩:=c;exact⟨h.base i b a,h.lt i b a⟩
theorem kJ.more{t:Nat}{gB:Option Nat}(O:t<4)(h:kJ base wb d w)(R:∀g,gB=some g->base<=g/\g<w.heap.size/\¬ Held wb d g)(k:qX (okT t) base wb (t+2) (ZX t) (isM t) gB (d.lv t) d.cells (d.le t) w w'):
  ∃x v,kJ base wb (d.add t v x) w'/\iZ w w' (λb=>Held wb d b\/gB=some b)/\∀b,Held wb (d.add t v x) b->Held wb d b\/gB=some b\/w.heap.size<=b:=by
 obtain⟨x,v,H,L,J,Q,D,u,N⟩:=k
 have z:=D.size
 have G:=h.room
 have l:∀b,w.heap.size<=b->∀j,¬ BW.F wb d j b:=λb a j c=>by have:=h.lt j b c;omega
 have o:∀b,gB=some b->∀j,¬ BW.F wb d j b:=λb e j c=>(R b e).2.2 ⟨j,c⟩
 have M:∀b,x.on b->base<=b/\∀j,¬ BW.F wb d j b:=agM
 have F2:∀b,BW.F wb (d.add t v x) (2,t) b->v.ownBlock=some b:=λb a=>by rw[<-qI d.lv t v];exact a
 have E:∀b,BW.F wb (d.add t v x) (3,t) b->BW.F wb d (3,t) b\/x.on b:=by
  rintro b ⟨y,hy,a⟩;simp only[qI,eW,ew]at hy;rcases hy with hy|rfl
  ·exact .inl ⟨y,hy,a⟩
  ·exact .inr a
 have P:(d.add t v x).cells=d.cells.setIfInBounds (t+2) v:=by
  match t,O with
  |0,_=>rfl
  |1,_=>rfl
  |2,_=>rfl
  |3,_=>rfl
 have n:∀j,¬ (j=(0,0)\/j=(2,t)\/j=(3,t))->(BW.C base wb d j w'->BW.C base wb (d.add t v x) j w')/\∀b,BW.F wb (d.add t v x) j b->BW.F wb d j b:=by
  intro j c;match j,c with
  |(0,k),c=>exact⟨λ_ e=>absurd (by rw[e]) (λq=>c (.inl q)),λb e=>absurd (by rw[e.1]) (λq=>c (.inl q))⟩
  |(1,k),_=>exact⟨λq=>q,λ_ q=>q⟩
  |(2,s),c=>
   grind [BB,BW.C,BW.F]
  |(3,s),c=>
   grind [BB,BW.C,BW.F]
  |(j+4,k),_=>exact⟨λq=>q,λ_ q=>q⟩
 have r:v.ownBlock≠some wb:=λe=>by
  rcases u wb e with f|f
  ·have:=h.one (0,0) (2,t) wb ⟨rfl,rfl⟩ f;simp at this
  ·exact l wb f (0,0) ⟨rfl,rfl⟩
 have p:∀b,BW.F wb (d.add t v x) (3,t) b->b≠wb/\v.ownBlock≠some b:=by
  intro b a;rcases E b a with e|e
  ·refine⟨λq=>?_,λq=>?_⟩
   ·have:=h.one (0,0) (3,t) b ⟨rfl,q⟩ e;simp at this
   ·rcases u b q with f|f
    ·have:=h.one (2,t) (3,t) b f e;simp at this
    ·exact l b f _ e
  grind
 refine⟨x,v,KC.acts (BW.loc base wb) h (λi=>i=(0,0)\/i=(2,t)\/i=(3,t)) _ D ?_ ?_ ?_ ?_ n,D.mono (λb _ e=>?_),λb ⟨i,a⟩=>?_⟩
 ·rintro b (e|e|e)
  ·exact .inl ⟨(0,0),.inl rfl,rfl,e⟩
  ·exact .inl ⟨(2,t),.inr (.inl rfl),e⟩
  ·exact .inr (o b e)
 ·rintro k (rfl|rfl|rfl)
  ·exact λ_=>by rw[P];exact L
  ·show w'.ownsRow base (ZX t) 5 (up d.lv t v t) (up d.le t (d.le t++[x]) t).length (ig (up d.le t (d.le t++[x]) t));grind [qI]
  ·intro y hy;simp only[qI,eW,ew]at hy;rcases hy with hy|rfl
   ·have m:=h.here (3,t) y hy;refine⟨Ff m.1 (λb a=>D.block b (h.lt (3,t) b ⟨y,hy,a⟩) ?_),m.2⟩;rintro(e|e|e)
    ·have:=h.one (3,t) (0,0) b ⟨y,hy,a⟩ ⟨rfl,e⟩;simp at this
    ·have:=h.one (3,t) (2,t) b ⟨y,hy,a⟩ e;simp at this
    ·exact o b e (3,t) ⟨y,hy,a⟩
   ·exact⟨Q,H⟩
 ·rintro k b (rfl|rfl|rfl) a
  ·obtain⟨_,rfl⟩:=a;exact⟨h.base (0,0) b ⟨rfl,rfl⟩,L.lt,.inl ⟨(0,0),.inl rfl,rfl,rfl⟩⟩
  ·have e:=F2 b a;refine⟨(J.lt b e).1,(J.lt b e).2,?_⟩;rcases u b e with f|f
   ·exact .inl ⟨(2,t),.inr (.inl rfl),f⟩
   ·exact .inr (l b f)
  ·rcases E b a with e|e
   ·exact⟨h.base _ b e,by have:=h.lt _ b e;omega,agM⟩
   grind [ZY]
 ·rintro i j b (rfl|rfl|rfl) (rfl|rfl|rfl) A c
  ·rfl
  ·obtain⟨_,rfl⟩:=A;exact absurd (F2 b c) r
  ·exact absurd A.2 (p b c).1
  ·obtain⟨_,rfl⟩:=c;exact absurd (F2 b A) r
  ·rfl
  ·grind
  ·exact absurd c.2 (p b A).1
  ·grind
  ·rfl
 ·rcases e with e|e|e
  ·exact .inl ⟨(0,0),rfl,e⟩
  ·exact .inl ⟨(2,t),e⟩
  ·exact .inr e
 ·by_cases e:i=(0,0)\/i=(2,t)\/i=(3,t)
  ·rcases e with rfl|rfl|rfl
   ·exact .inl ⟨(0,0),a⟩
   ·rcases u b (F2 b a)with e|e
    ·exact .inl ⟨(2,t),e⟩
    ·exact .inr (.inr e)
   ·rcases E b a with e|e
    ·exact .inl ⟨(3,t),e⟩
    ·exact .inr (N b e).2.2
  ·exact .inl ⟨i,(n i e).2 b a⟩
theorem kJ.put{k:Nat}{p p':QD}(h:kJ base wb d w)(v:d.qs[k]?=some p)(n:p'.pb=p.pb)(J:Nat->Prop)(f:iZ w w' (λb=>∃j,J j/\p.F j b))(x:∀j,J j->p'.C j w')(o:∀j b,J j->p'.F j b->(∃i,J i/\p.F i b)\/w.heap.size<=b)(y:∀i j b,J i->J j->p'.F i b->p'.F j b->i=j)(z:∀j,¬ J j->(p.C j w'->p'.C j w')/\∀b,p'.F j b->p.F j b):kJ base wb {d with qs:=d.qs.set k p'} w':=by
 have hkl:k<d.qs.length:=agM
 have r:(d.qs.set k p')[k]?=some p':=ee hkl
 have hF:∀j b,BW.F wb {d with qs:=d.qs.set k p'} (j+4,k) b->p'.F j b:=by
  rintro j b ⟨q,hq,a⟩;grind
 have t:∀{j b},p.F j b->BW.F wb d (j+4,k) b:=λa=>⟨p,v,a⟩
 have l:=h.room
 refine KC.acts (BW.loc base wb) h (λi=>∃j,J j/\i=(j+4,k)) _ f ?_ ?_ ?_ ?_ ?_
 ·grind
 ·rintro _ ⟨j,g,rfl⟩ q hq;grind
 ·rintro _ b ⟨j,g,rfl⟩ a;have a:=hF j b a;refine⟨?_,QD.lt (x j g) a,?_⟩
  ·rcases o j b g a with⟨i,_,e⟩|e
   ·exact h.base _ b (t e)
   ·omega
  ·rcases o j b g a with⟨i,c,e⟩|e
   ·grind
   ·exact .inr (λi c=>by have:=h.lt i b c;omega)
 ·rintro _ _ b ⟨i,c,rfl⟩ ⟨j,g,rfl⟩ u m;rw[y i j b c g (hF i b u) (hF j b m)]
 ·intro i c;match i,c with
  |(0,_),_=>exact⟨λq=>q,λ_ q=>q⟩
  |(1,_),_=>
   refine⟨λq e=>?_,λ_ q=>q⟩;have m:(d.qs.set k p').map (λp=>ptrTo p.pb)=d.qs.map λp=>ptrTo p.pb:=by
    rw[List.map_set,n];refine List.ext_getElem? λi=>?_;grind
   show w'.ownsRow base 54 1 d.qv (d.qs.set k p').length ((d.qs.set k p').map λp=>ptrTo p.pb);rw[m,eL];exact q e
  |(2,_),_=>exact⟨λq=>q,λ_ q=>q⟩
  |(3,_),_=>exact⟨λq=>q,λ_ q=>q⟩
  |(j+4,s),c=>
   grind [BW.C,BW.F]
structure Us(base wb:Nat)(w0:World)(U:Nat->Prop)(d:BW)(w:World):Prop where
 sep:kJ base wb d w
 xI:iZ w0 w U
 own:∀b,Held wb d b->U b\/w0.heap.size<=b
theorem Us.start(h:kJ base wb d w):Us base wb w (Held wb d) d w:=⟨h,iZ.refl _ _,λ_ e=>.inl e⟩
theorem Us.far{ex:Nat->Prop}(h:Us base wb w0 U d w)(f:iZ w w' ex)(c:∀b,ex b->¬ Held wb d b/\(U b\/w0.heap.size<=b)):Us base wb w0 U d w':=
 ⟨KC.acts (BW.loc base wb) h.sep (λ_=>False) ex f (λb e=>.inr (λj a=>(c b e).1 ⟨j,a⟩)) (λ_ e=>e.elim) (λ_ _ e=>e.elim) (λ_ _ _ e=>e.elim) agM,h.xI.trans (by grind [iZ.mono]),h.own⟩
theorem Us.grown(h:Us base wb w0 U d w)(g:w.grownBy w' none):Us base wb w0 U d w':=h.far (iZ.lM g (λ_=>False)) (λ_ e=>e.elim)
theorem Us.of{ex:Nat->Prop}(h:Us base wb w0 U d w)(s:kJ base wb d' w')(f:iZ w w' ex)(c:∀b,ex b->Held wb d b\/U b\/w0.heap.size<=b)(a:∀b,Held wb d' b->Held wb d b\/U b\/w0.heap.size<=b):Us base wb w0 U d' w':=
 ⟨s,h.xI.trans (by grind [iZ.mono,Us.own]),(by grind [Us.own])⟩
theorem Us.mono{V:Nat->Prop}(h:Us base wb w0 U d w)(k:∀b,U b->V b):Us base wb w0 V d w:=⟨h.sep,h.xI.mono (λb _=>k b),λb e=>(h.own b e).imp (k b) id⟩
theorem Us.trans{V:Nat->Prop}{a:World}(f:iZ w0 a U)(h:Us base wb a V d w)(k:∀b,V b->U b\/w0.heap.size<=b):Us base wb w0 U d w:=
 ⟨h.sep,f.trans (h.xI.mono (λb _=>k b)),λb e=>(h.own b e).elim (k b) (λe=>.inr (by have:=f.size;omega))⟩
theorem Us.free(h:Us base wb w0 U d w){b:Nat}(c:b<w0.heap.size)(a:¬ U b):¬ Held wb d b/\w.heap[b]?=w0.heap[b]?:=⟨λe=>(h.own b e).elim a (λq=>by omega),h.xI.block b c a⟩
theorem Us.below(h:Us base wb w0 U d w)(a:base<=w0.heap.size)(c:∀b,U b->base<=b):Below base w0 w:=h.xI.below a c
theorem Us.more{t:Nat}{gB:Option Nat}(a:t<4)(h:Us base wb w0 U d w)(c:∀g,gB=some g->base<=g/\g<w0.heap.size/\¬ U g)(k:qX (okT t) base wb (t+2) (ZX t) (isM t) gB (d.lv t) d.cells (d.le t) w w'):
  ∃x v,Us base wb w0 (λb=>U b\/gB=some b) (d.add t v x) w':=by
 have z:=h.xI.size
 obtain⟨x,v,s,f,o⟩:=h.sep.more a (by grind [Us.free]) k
 refine⟨x,v,(h.mono (V:=λb=>U b\/gB=some b) (λ_ e=>.inl e)).of s f (λb e=>?_) (λb e=>?_)⟩
 ·grind
 grind
theorem af6{p:Prop}(h:p:=by
 rw[List.getElem?_set_ne (λq=>e q.symm)]at hq
 exact .inl ⟨(j+4,s),q,hq,hb⟩):p:=h
theorem Us.put{k:Nat}{p p':QD}(h:Us base wb w0 U d w)(a:d.qs[k]?=some p)(c:p'.pb=p.pb)(J:Nat->Prop)(f:iZ w w' (λb=>∃j,J j/\p.F j b))(n:∀j,J j->p'.C j w')(l:∀j b,J j->p'.F j b->(∃i,J i/\p.F i b)\/w.heap.size<=b)(o:∀i j b,J i->J j->p'.F i b->p'.F j b->i=j)(m:∀j,¬ J j->(p.C j w'->p'.C j w')/\∀b,p'.F j b->p.F j b):Us base wb w0 U {d with qs:=d.qs.set k p'} w':=by
 have hkl:k<d.qs.length:=agM
 have z:=h.xI.size
 refine h.of (h.sep.put a c J f n l o m) f (λb ⟨j,_,e⟩=>.inl ⟨(j+4,k),p,a,e⟩) (λb ⟨i,hb⟩=>?_)
 match i,hb with
 |(0,s),hb=>exact .inl ⟨(0,s),hb⟩
 |(1,s),hb=>exact .inl ⟨(1,s),hb⟩
 |(2,s),hb=>exact .inl ⟨(2,s),hb⟩
 |(3,s),hb=>exact .inl ⟨(3,s),hb⟩
 |(j+4,s),⟨q,hq,hb⟩=>
  by_cases e:s=k
  ·subst e;have hq:(d.qs.set s p')[s]?=some q:=hq;rw[ee hkl]at hq;cases hq;by_cases g:J j
   ·rcases l j b g hb with⟨i,_,e⟩|e
    ·exact .inl ⟨(i+4,s),p,a,e⟩
    omega
   ·exact .inl ⟨(j+4,s),p,a,(m j g).2 b hb⟩
  ·have hq:(d.qs.set k p')[s]?=some q:=hq;exact af6
end Go.Proofs.YtlfifnpjeangmaaGreatDoor
namespace Go.Proofs.YtlfifnpjeangmaaGreatDoor
open Go.RowKit
set_option maxRecDepth 100000
variable {zs:List UInt8}{b n:Nat}{a:Option Addr}{gB:Option Nat}{hv jv:Value}{w w' w0:World}
theorem Te{r:Option Nat}(h:Live w b n)(k:w.grownBy w' r)(d:r≠some b):Live w' b n:=by
 obtain⟨cur,e,c,h2⟩:=h;exact afe
theorem Ba(h:Live w b n)(k:w'.heap[b]?=w.heap[b]?):Live w' b n:=by
 obtain⟨c,e,d,f⟩:=h;exact⟨c,e,k.trans d,f⟩
theorem I4(h:Live w b n)(a:Nat)(o:Nat)(u):Live (w.setCell (a,o) u) b n:=h.cf ((CF.refl w (λ_ _=>True)).setCell a o u (λ_=>trivial))
structure kV where
 a:mW
 now:Int
 s:List UInt8
 ask:qJ
def kV.cells(t:kV):List Value:=t.a.cells.toList++([ι t.now,.string t.s]++t.ask.cells)
structure kV.Ok(t:kV):Prop where
 bI:In64 t.a.bI
 aC:In64 t.a.aC
 ae:In64 t.a.ae
 name:t.a.name.length<=1048576
 now:In64 t.now
 s:t.s.length<=1048576
 ask:t.ask.Ok
def pE(w:World)(a:Option Addr)(ts:List kV):Prop:=∀i(h:i<ts.length),∃b off,a=some ⟨b,off,none⟩/\b<w.heap.size/\w.rangeAt b (off+i*34) ts[i].cells
theorem pE.below{c:List kV}(h:pE w a c)(k:Below w.heap.size w w'):pE w' a c:=λi d=>by
 obtain⟨b,off,e,f,r⟩:=h i d
 exact⟨b,off,e,by have:=k.size;omega,λj u g=>(World.cell?_of_block (k.block b f)).trans (r j u g)⟩
structure LJ where
 t:kV
 a:Option Addr
 c:Nat
 r:List UInt8
 g:Option Nat
def LJ.Wu(x:LJ):U6:=(x.t.a,x.t.now,.slice x.a x.r.length x.c)
def LJ.m(x:LJ):uQ:=(x.t.a,x.t.now,x.r)
structure JB(w0 w:World)(ts:List kV)(xs:List LJ)(jv hv:Value):Prop where
 tk:xs.map LJ.t=ts.take xs.length
 KD:w.ownsRow w0.heap.size 194 9 jv xs.length (eH (xs.map LJ.Wu))
 hrow:w.ownsRow w0.heap.size 9 1 hv xs.length (xs.map λx=>.string x.r)
 rR:∀x∈xs,nk w0 w x.a x.c x.r x.g/\x.r.length<=300000000
 dis:∀(i j:Nat)(x y:LJ),i<j->xs[i]?=some x->xs[j]?=some y->∀b,x.g=some b->y.g≠some b
 VE:∀x∈xs,∀b,x.g=some b->jv.ownBlock≠some b/\hv.ownBlock≠some b
 jh:∀b,jv.ownBlock=some b->hv.ownBlock≠some b
theorem nk.kept{cap:Nat}(h:nk w0 w a cap zs gB)(k:∀g,gB=some g->w'.heap[g]?=w.heap[g]?):nk w0 w' a cap zs gB:=by
 rcases h with h|⟨g,d,c,e,f⟩
 ·exact .inl h
 ·exact .inr ⟨g,d,c,e,f.kept (k g c)⟩
theorem nk.ZZ{cap:Nat}(h:nk w0 w a cap zs gB)(g)(c:gB=some g):w0.heap.size<=g/\g<w.heap.size:=by
 rcases h with⟨_,_,_,h⟩|⟨i,_,d,e,f⟩
 ·rw[h]at c;cases c
 ·rw[d]at c;cases c;exact⟨e,f.lt⟩
theorem nk.aki{c:World}{cap:Nat}(h:nk c w a cap zs gB)(k:w0.heap.size<=c.heap.size):nk w0 w a cap zs gB:=by
 rcases h with h|⟨g,d,e,i,f⟩
 ·exact .inl h
 ·exact .inr ⟨g,d,e,by omega,f⟩
theorem JB.nil(w0 w)(d):JB w0 w d [] (.slice none 0 0) (.slice none 0 0):=
 ⟨rfl,World.ownsRow_nil _ _ _ _,World.ownsRow_nil _ _ _ _,λx c=>(by cases c),agM,λx c=>(by cases c),λb e=>by cases e⟩
theorem JB.kept{e:List kV}{f:List LJ}(h:JB w0 w e f jv hv)(k:∀b,w0.heap.size<=b->b<w.heap.size->w'.heap[b]?=w.heap[b]?):JB w0 w' e f jv hv:=
 ⟨h.tk,bZ h.KD (λb c=>k b (h.KD.lt b c).1 (h.KD.lt b c).2),bZ h.hrow (λb c=>k b (h.hrow.lt b c).1 (h.hrow.lt b c).2),λx d=>⟨(h.rR x d).1.kept (λg i=>k g ((h.rR x d).1.ZZ g i).1 ((h.rR x d).1.ZZ g i).2),(h.rR x d).2⟩,h.dis,h.VE,h.jh⟩
theorem JB.grown{c:List kV}{d:List LJ}(h:JB w0 w c d jv hv)(k:w.grownBy w' none):JB w0 w' c d jv hv:=(by grind [World.grownBy.block,JB.kept])
theorem VF(c)(j):eH (c++[j])=eH c++(gI j.1 j.2.1 j.2.2).toList:=by simp[eH,U6.cells]
theorem JB.push{w2 w3 C s l:World}{A:List kV}{k:List LJ}{d f:Value}{x:LJ}(h:JB w0 w A k jv hv)(I:A[k.length]?=some x.t)(L:w0.heap.size<=w.heap.size)(p:w.grownBy w2 none)(D:nk w w2 x.a x.c x.r x.g)(E:x.r.length<=300000000)(u:w2.grownBy w3 none)(V:C.ownsRow w0.heap.size 9 1 f (k.length+1) ((k.map λx=>.string x.r)++[.string x.r]))(m:w3.grownBy C hv.ownBlock)(Q:f.ownBlock=hv.ownBlock\/f.ownBlock=some w3.heap.size)(o:C.grownBy s none)(H:l.ownsRow w0.heap.size 194 9 d (k.length+1) (eH (k.map LJ.Wu)++(gI x.t.a x.t.now (.slice x.a x.r.length x.c)).toList))(v:s.grownBy l jv.ownBlock)(T:d.ownBlock=jv.ownBlock\/d.ownBlock=some s.heap.size):
  JB w0 l A (k++[x]) d f/\(w0.grownBy w none->w0.grownBy l none):=by
 have R:=p.size
 have s3:=u.size
 have s4:=m.size
 have s5:=o.size
 have s6:=v.size
 have P:=λb e=>h.KD.lt b e
 have S:=λb e=>h.hrow.lt b e
 have K:∀b,f.ownBlock=some b->hv.ownBlock=some b\/b=w3.heap.size:=agM
 have M:∀b,d.ownBlock=some b->jv.ownBlock=some b\/b=s.heap.size:=agM
 have key:∀b,b<w2.heap.size->hv.ownBlock≠some b->jv.ownBlock≠some b->l.heap[b]?=w2.heap[b]?:=ag8
 have Y:=λb e=>D.ZZ b e
 have G:∀b,x.g=some b->jv.ownBlock≠some b/\hv.ownBlock≠some b:=agM
 have J:∀b,b<w2.heap.size->(jv.ownBlock≠some b/\hv.ownBlock≠some b)->d.ownBlock≠some b/\f.ownBlock≠some b:=agM
 have N:=λy hy b e=>(h.rR y hy).1.ZZ b e
 refine⟨⟨?_,?_,?_,λy hy=>?_,λi j y z F hy U b e=>?_,λy hy b e=>?_,λb e q=>?_⟩,λB=>⟨?_,?_,?_,by omega,λb X _=>?_⟩⟩
 ·rw[eg,h.tk,cD,eC,List.take_add_one,I];rfl
 ·rw[cD,eC,eg,List.map_singleton,VF];exact H
 ·rw[cD,eC,eg,List.map_singleton];grind [JB.jh,World.ownsRow.lt,bZ,World.grownBy.block]
 ·rcases eW.1 hy with hy|hy
  ·exact⟨(h.rR y hy).1.kept (by grind [World.grownBy.block,JB.VE]),(h.rR y hy).2⟩
  ·rw[ew.1 hy];exact⟨(D.aki L).kept agM,E⟩
 ·by_cases O:j<k.length
  ·grind [JB.dis]
  grind
 ·grind [JB.VE]
 ·grind [JB.jh,World.ownsRow.lt]
 ·exact((((v.os.trans o.os).trans m.os).trans u.os).trans p.os).trans B.os
 ·exact((((v.tape.trans o.tape).trans m.tape).trans u.tape).trans p.tape).trans B.tape
 ·exact((((v.output.trans o.output).trans m.output).trans u.output).trans p.output).trans B.output
 grind [World.grownBy.block]
section
variable {P:Program}{ops:Array Oper}{Q:Exit->Act->World->Prop}{md:Region.Mode}{S:World->Prop}
theorem take_at{i t:Nat}{f:Oper}(v){e:Nat}{b:Array Bool}{d:Array Value}{g:List Deferred}{w:World}(o:ops.toList[i]?=some f)(m:f.dst=some t)(l:Region.noSelect ops=true)(j:Region.free md ops b i=true)(k:(Region.ready md ops b).contains i=true)(n:∀c a w,Q (.panic c) (a.put f.dst v) w->Q (.panic c) a w)(hy:YieldsIf P ops S f v ⟨d,g⟩)(hS:S w)(h:wpAnyH P md ops Q S e (b.setIfInBounds i true) ⟨d.setIfInBounds t v,g⟩ w):wpAnyH P md ops Q S (e+1) b ⟨d,g⟩ w:=by
 refine wpAnyH_take agM l j k n hy hS ?_
 rw[m]
 exact h
theorem jL(i:Nat)(v:Value){t:Nat}{oi:Oper}{fuel:Nat}{listed:Array Bool}{tmps:Array Value}{df:List Deferred}{w:World}{q:Prop}(k:q)(hi:ops.toList[i]?=some oi:=by exact rfl)(hd:oi.dst=some t:=by exact rfl)(hs:Region.noSelect ops=true:=by kernel_rfl)(hf:Region.free md ops listed i=true:=by kernel_rfl)(hr:(Region.ready md ops listed).contains i=true:=by kernel_rfl)(hQ:∀c a w,Q (.panic c) (a.put oi.dst v) w->Q (.panic c) a w:=by exact λ_ _ _ h=>h)(hy:YieldsIf P ops S oi v ⟨tmps,df⟩:=by exact Or.inl ⟨by rfl,λw' hSw=>by obtain⟨s1,s2⟩:=hSw;go_simp⟩)(hS:S w:=by assumption)(h:q->wpAnyH P md ops Q S fuel (listed.setIfInBounds i true) ⟨tmps.setIfInBounds t v,df⟩ w:=by intro hq;simp only[eh,ej,eJ];exact hq):wpAnyH P md ops Q S (fuel+1) listed ⟨tmps,df⟩ w:=
 take_at v hi hd hs hf hr hQ hy hS (h k)
theorem rT(i:Nat)(v:Value){t:Nat}{oi:Oper}{fuel:Nat}{listed:Array Bool}{tmps:Array Value}{df:List Deferred}{w:World}{q:Prop}(k:q)(hi:ops.toList[i]?=some oi:=by exact rfl)(hd:oi.dst=some t:=by exact rfl)(hs:Region.noSelect ops=true:=by kernel_rfl)(hf:Region.free md ops listed i=true:=by kernel_rfl)(hr:(Region.ready md ops listed).contains i=true:=by kernel_rfl)(hQ:∀c a w,Q (.panic c) (a.put oi.dst v) w->Q (.panic c) a w:=by exact λ_ _ _ h=>h)(hy:YieldsIf P ops S oi v ⟨tmps,df⟩:=by exact Or.inl ⟨by rfl,λw' hSw=>by obtain⟨s1,s2,s3⟩:=hSw;go_simp⟩)(hS:S w:=by assumption)(h:q->wpAnyH P md ops Q S fuel (listed.setIfInBounds i true) ⟨tmps.setIfInBounds t v,df⟩ w:=by intro hq;simp only[eh,ej,eJ];exact hq):wpAnyH P md ops Q S (fuel+1) listed ⟨tmps,df⟩ w:=
 take_at v hi hd hs hf hr hQ hy hS (h k)
theorem yK(i:Nat)(v:Value){t:Nat}{oi:Oper}{fuel:Nat}{listed:Array Bool}{tmps:Array Value}{df:List Deferred}{w:World}{q:Prop}(k:q)(hi:ops.toList[i]?=some oi:=by exact rfl)(hd:oi.dst=some t:=by exact rfl)(hs:Region.noSelect ops=true:=by kernel_rfl)(hf:Region.free md ops listed i=true:=by kernel_rfl)(hr:(Region.ready md ops listed).contains i=true:=by kernel_rfl)(hQ:∀c a w,Q (.panic c) (a.put oi.dst v) w->Q (.panic c) a w:=by exact λ_ _ _ h=>h)(hy:YieldsIf P ops S oi v ⟨tmps,df⟩:=by exact Or.inl ⟨by rfl,λw' hSw=>by obtain⟨s1,s2,s3,s4⟩:=hSw;go_simp⟩)(hS:S w:=by assumption)(h:q->wpAnyH P md ops Q S fuel (listed.setIfInBounds i true) ⟨tmps.setIfInBounds t v,df⟩ w:=by intro hq;simp only[eh,ej,eJ];exact hq):wpAnyH P md ops Q S (fuel+1) listed ⟨tmps,df⟩ w:=
 take_at v hi hd hs hf hr hQ hy hS (h k)
theorem ready_one{i:Nat}{o:Oper}{c:Nat}{b:Array Bool}{a:Act}{w:World}(f:ops.toList[i]?=some o)(e:Region.ready md ops b=[i])(h:∀d:Act->World->Prop,Shut (∀a w,S w->(S w->wpAnyH P md ops Q S c (b.setIfInBounds i true) a w)->d a w)->if Region.wanted o (yielded ops a.tmps)=true then Oper.wp P o a w d Q else d (a.put o.dst undef) w):
  wpAnyH P md ops Q S (c+1) b a w:=
 wpAnyH_ready (rs:=[i]) e agI (by grind [AllReadyH.cons,AllReadyH.nil])
end
theorem uS{a b:World}{n:Nat}{row:Option Nat}(h:(a.drewN n).grownBy b row):a.grownBy b row:=⟨h.os,h.tape,h.output,h.size,h.block⟩
theorem Ob{P:Program}(w){o:Oper}{a:Act}{K:Act->World->Prop}{Q:Exit->Act->World->Prop}(x)(d c)(l:o.op=Op.convert d c x)(e)(r:P.underlying d=some .string)(s:P.underlying c=some (.slice e))(p:P.underlying e=some (.int .u8))(zs)(n:a.eval x=.string ⟨zs.toArray⟩)(u:zs.length<=140737488355328)(t:∀b cap w',zs.length<=cap->cap<=maxLen->At w' (some ⟨b,0,none⟩) zs->w.grownBy w' none->K (a.put o.dst (.slice (some ⟨b,0,none⟩) zs.length cap)) w'):
  Oper.wp P o a w K Q:=by
 have i:(⟨zs.toArray⟩:ByteArray).size=zs.length:=aii
 have m:=run_bytes_of_string (P:=P) w d c e ⟨zs.toArray⟩ r s p
 rw[i]at m
 have f:=grownCap_ge w zs.length 0 e
 have g:=grownCap_le_maxLen w zs.length 0 e ag1
 unfold Oper.wp
 simp[execOp,l,n,m,Result.andThen]
 refine t _ _ _ f g ?_ ⟨rfl,rfl,rfl,by simp,λk q _=>Below.heap_alloc w.drew _ k q⟩
 exact ab9
theorem sJ.jM{w w':World}{n b d c:Nat}{sv:Value}{kl:List KN}(h:sJ (w.drewN n) w' b d c sv kl):sJ w w' b d c sv kl:=by
 obtain⟨g,a,e,j,l,m,i,f,k⟩:=h;exact⟨g,a,e,j,l,m,i,⟨f.os,f.tape,f.output,f.size,f.block⟩,k⟩
end Go.Proofs.YtlfifnpjeangmaaGreatDoor
namespace Go.Proofs.YtlfifnpjeangmaaGreatDoor
open Go.RowKit
set_option maxRecDepth 100000
variable {base wb:Nat}
structure JX(w0 w:World)(xs:List LJ)(jb:Nat)(hv:Value):Prop where
 jr:w.rangeAt jb 0 (eH (xs.map LJ.Wu))
 j7:w.cell? (jb,xs.length*9+7)=some (ι 77)/\w.cell? (jb,xs.length*9+8)=some (.slice none 0 0)
 lv:Live w jb ((xs.length+1)*9)
 jl:w0.heap.size<=jb
 hrow:w.ownsRow w0.heap.size 9 1 hv xs.length (xs.map λx=>.string x.r)
 hne:hv.ownBlock≠some jb
 rR:∀x∈xs,nk w0 w x.a x.c x.r x.g/\x.r.length<=300000000
 dis:∀(i j:Nat)(x y:LJ),i<j->xs[i]?=some x->xs[j]?=some y->∀b,x.g=some b->y.g≠some b
 VE:∀x∈xs,∀b,x.g=some b->b≠jb/\hv.ownBlock≠some b
theorem Z9(a):(eH a).length=a.length*9:=by
 induction a with
 |nil=>rfl
 |cons j a b=>
  have e:eH (j::a)=j.cells++eH a:=rfl;rw[e,cD,b,de];show 9+_=_;omega
theorem VO{w:World}{base:Nat}{e:TypeId}{g n c s:Nat}{f:List Value}(h:w.ownsRow base e s (.slice (some (g,0)) n c) n f):Live w g (n*s):=by
 rcases h.2 with⟨b,_⟩|⟨k,cap,a,b,l,i,hn,m,d,j⟩
 ·cases b
 ·injection b with e1 _ e3;injection e1 with e1;injection e1 with e1 _ _;subst e1 e3;exact⟨a,e,i,by rw[d];exact Nat.mul_le_mul_right _ hn⟩
abbrev Tg:List Value:=[ι 0,.string ⟨#[]⟩,υ 0,ι 0,ι 0,ι 0,ι 0,ι 77,.slice none 0 0]
theorem JB.last{p w y k:World}{E:List kV}{d:List LJ}{l t:Value}{aj:Option Addr}{c:Nat}(h:JB p w E d l t)(g:w.grownBy y none)(v:k.ownsRow p.heap.size 194 9 (.slice aj (d.length+1) c) (d.length+1) (eH (d.map LJ.Wu)++Tg))(n:y.grownBy k l.ownBlock)(G:(Value.slice aj (d.length+1) c).ownBlock=l.ownBlock\/(Value.slice aj (d.length+1) c).ownBlock=some y.heap.size):
  ∃a,aj=some ⟨a,0,none⟩/\JX p k d a t/\(p.grownBy w none->p.grownBy k none):=by
 have H:=g.size
 have I:=n.size
 obtain⟨a,rfl⟩:∃a,aj=some ⟨a,0,none⟩:=by
  rcases v.2 with⟨_,e⟩|⟨g,cap,C,t,_⟩
  ·omega
  ·injection t with e;exact⟨g,e⟩
 have D:=λb e=>h.KD.lt b e
 have i:l.ownBlock=some a\/a=y.heap.size:=by
  rcases G with e|e
  ·exact .inl e.symm
  ·injection e with e;exact .inr e
 have B:(eH (d.map LJ.Wu)).length=d.length*9:=by rw[Z9,cR]
 have z:∀j u,(eH (d.map LJ.Wu)++Tg)[j]?=some u->k.cell? ⟨a,j,none⟩=some u:=λj u s=>by
  obtain⟨b,off,o,A⟩:=nA v j u s;injection o with o;injection o with o e3 _;subst o e3;rw[cN]at A;exact A
 have key:∀b,b<w.heap.size->l.ownBlock≠some b->k.heap[b]?=w.heap[b]?:=λb i e=>by rw[n.block b agE (λq=>e q.symm),g.block b i agI]
 have r:∀b,b<w.heap.size->l.ownBlock≠some b->b≠a:=λb J F e=>i.elim (λq=>F (by rw[e];exact q)) (λq=>by omega)
 have lt:=λx f b e=>(h.rR x f).1.ZZ b e
 refine⟨a,rfl,⟨λj u s=>?_,⟨?_,?_⟩,VO v,(v.lt a rfl).1,bZ h.hrow (λb i=>key b (h.hrow.lt b i).2 (λe=>h.jh b e i)),λe=>?_,λx f=>⟨(h.rR x f).1.kept (λb e=>key b (lt x f b e).2 (h.VE x f b e).1),(h.rR x f).2⟩,h.dis,λx f b e=>⟨r b (lt x f b e).2 (h.VE x f b e).1,(h.VE x f b e).2⟩⟩,λm=>⟨?_,?_,?_,by have:=m.size;omega,λb i _=>?_⟩⟩
 ·rw[cN];exact z j u (by rw[cW (cM.1 s).1];exact s)
 ·exact z _ _ (by rw[cY agE,B,show d.length*9+7-d.length*9=7 by omega];rfl)
 ·exact z _ _ (by rw[cY agE,B,show d.length*9+8-d.length*9=8 by omega];rfl)
 ·exact r a (h.hrow.lt a e).2 (λq=>h.jh a q e) rfl
 ·exact(n.os.trans g.os).trans m.os
 ·exact(n.tape.trans g.tape).trans m.tape
 ·exact(n.output.trans g.output).trans m.output
 ·rw[key b (by have:=m.size;omega) (λe=>by have:=D b e;omega),m.block b i agI]
theorem JX.kept{f w w':World}{m:List LJ}{d:Nat}{n:Value}(h:JX f w m d n)(k:∀b,f.heap.size<=b->b<w.heap.size->w'.heap[b]?=w.heap[b]?):JX f w' m d n:=by
 have i:=k d h.jl h.lv.lt;have e:=λj=>World.cell?_of_block (a:=⟨d,j,none⟩) i;exact⟨λj u p=>(e _).trans (h.jr j u p),⟨(e _).trans h.j7.1,(e _).trans h.j7.2⟩,Ba h.lv i,h.jl,bZ h.hrow (λb l=>k b (h.hrow.lt b l).1 (h.hrow.lt b l).2),h.hne,λx c=>⟨(h.rR x c).1.kept (λg o=>k g ((h.rR x c).1.ZZ g o).1 ((h.rR x c).1.ZZ g o).2),(h.rR x c).2⟩,h.dis,h.VE⟩
def CE(xb:Nat)(dp:Option Pl)(M:DM)(ms:List uQ)(n:Nat)(w w':World)(lv:Value)(ev:Int):Prop:=
 CF w w' (λb _=>b=xb)/\((n<=16/\ev=0/\lv=.slice (some (w,0)) n n/\∃ds,Live w' w.heap.size (n*2)/\ds.length=n/\QI w xb dp M ms ds w'/\w'.rangeAt w.heap.size 0 (fC ds))\/(16<n/\ev=7/\lv=.slice none 0 0/\w.grownBy w' none))
theorem QI.jM{w W:World}{g n:Nat}{dp:Option Pl}{M:DM}{a:List uQ}{ds:List (Value×Int)}(h:QI (w.drewN n) g dp M a ds W):QI w g dp M a ds W:=⟨h.len,h.bP,h.said,h.cf.jM⟩
theorem CE.jM{e n q:Nat}{dp:Option Pl}{M:DM}{f:List uQ}{w w':World}{lv:Value}{g:Int}(h:CE e dp M f n (w.drewN q) w' lv g):CE e dp M f n w w' lv g:=by
 refine⟨h.1.jM,?_⟩;rcases h.2 with⟨a,b,c,ds,d,k,j,i⟩|⟨a,b,c,d⟩
 ·exact .inl ⟨a,b,c,ds,d,k,j.jM,i⟩
 ·exact .inr ⟨a,b,c,uS d⟩
theorem Ru(B)(d)(n u cap N f:Nat)(H)(dp)(M)(w)(h:JX B w d u H)(A:eX w f dp M/\∀q,dp=some q->q.g≠f)(s:∀b,b=f\/Pl.blk dp=some b->b<B.heap.size)(I:dX M N)(z:1<=N)(L:N+16<=4611686018427387904)(hn:d.length=n)(y:∀x∈d,x.t.Ok):
  Calls Tryz.prog 75 #[(f,0),.slice (some (u,0)) n cap] w λe w'=>∃lv C,e=.returned (.tuple #[lv,ι C])/\CE f dp M (d.map LJ.m) n w w' lv C:=by
 by_cases p:16<n
 ·refine(NS f n cap _ w p).mono ?_;rintro e w' ⟨rfl,g⟩;exact⟨_,_,rfl,CF.bF g _,.inr ⟨p,rfl,rfl,g⟩⟩
 ·have K:=s f (.inl rfl);refine(Ra f u n cap N (d.map LJ.Wu) (d.map LJ.m) dp M w A.1 A.2 (λq e=>by have:=s q.g (.inr (by rw[e];rfl));have:=h.lv.lt;have:=h.jl;omega) I z L (by show _=_;rw[cR];exact hn) agE (by rw[cR];exact hn) (λj E=>?_) (λi k v=>?_) h.jr h.lv.lt (by have:=h.jl;omega)).mono ?_
  ·obtain⟨x,s,rfl⟩:=List.mem_map.1 E;have o:=y x s;exact⟨o.bI,o.aC,o.ae,by have:=o.name;show x.t.a.name.length<=_;omega,o.now⟩
  ·rw[cR]at k;simp only[List.getElem_map];have l:=h.rR d[i] (ef k);refine⟨rfl,rfl,d[i].a,d[i].c,rfl,l.1.at,⟨d[i].a,d[i].c,rfl,l.1.cap.1,l.1.cap.2,by have:=l.2;show d[i].r.length<=_;omega,λ_ h=>h⟩,λb off e=>?_⟩;rcases l.1 with⟨G,_⟩|⟨g,k,v,D,_⟩
   ·rw[G]at e;cases e
   ·rw[k]at e;injection e with e;injection e with e;omega
  ·rintro e w' ⟨O,ds,rfl,rfl,k,v,D,J,F⟩;exact⟨_,_,rfl,F,.inl ⟨by omega,rfl,rfl,ds,k,v,D,J⟩⟩
structure J2(w0 w9 wr:World)(xs:List LJ)(jb j:Nat):Prop where
 f:iZ w9 wr (λb=>b=jb\/∃x∈xs,x.g=some b)
 lv:Live wr jb ((xs.length+1)*9)
 jc:∀i o v,j<=i->o<9->w9.cell? (jb,i*9+o)=some v->wr.cell? (jb,i*9+o)=some v
 ln:∀i x,j<=i->xs[i]?=some x->nk w0 wr x.a x.c x.r x.g
theorem J2.start{d a:World}{b:List LJ}{c:Nat}{f:Value}(h:JX d a b c f):J2 d a a b c 0:=⟨iZ.refl _ _,h.lv,λ_ _ _ _ _ h=>h,λ_ x _ e=>(h.rR x (ey e)).1⟩
theorem J2.low{d a wr:World}{g:List LJ}{i j:Nat}{l:Value}(h:J2 d a wr g i j)(c:JX d a g i l){b:Nat}(n:b<d.heap.size):wr.heap[b]?=a.heap[b]?:=by
 have m:=c.jl;have o:=c.lv.lt;refine h.f.block b agE (λe=>?_);rcases e with e|⟨x,k,e⟩
 ·omega
 ·have:=(c.rR x k).1.ZZ b e;omega
theorem J2.Wu{k g wr:World}{d:List LJ}{e j:Nat}{m:Value}(h:J2 k g wr d e j)(n:JX k g d e m){x:LJ}(f:d[j]?=some x)(o)(v)(i:(gI x.t.a x.t.now (.slice x.a x.r.length x.c)).toList[o]?=some v):wr.cell? (e,j*9+o)=some v:=by
 have l:=(cM.1 f).1;have b:o<9:=(cM.1 i).1;refine h.jc j o v (cy _) b ?_
 have:=n.jr (j*9+o) v (by
  rw[xR _ j o (by rw[cR];exact l) b,List.getElem_map,(cM.1 f).2]
  exact i)
 rwa [cN]at this
theorem J2.had{u t wr:World}{o:List LJ}{p j n c:Nat}{a:Option Addr}(h:J2 u t wr o p j)(m:JX u t o p (.slice a n c))(hn:o.length=n){i:Nat}{x:LJ}(w:o[i]?=some x):∃k,a=some ⟨k,0,none⟩/\wr.cell? ⟨k,i,none⟩=some (.string x.r)/\k≠p/\∀y∈o,y.g≠some k:=by
 subst hn
 have s:=bZ m.hrow (λb k=>h.f.block b (m.hrow.lt b k).2 (λe=>by
  rcases e with e|⟨y,hy,e⟩
  ·exact m.hne (by rw[<-e];exact k)
  ·exact(m.VE y hy b e).2 k))
 obtain⟨b,off,d,q⟩:=nA s i (.string x.r) (by rw[eA,w];rfl);have z:off=0:=by
  rcases s.2 with⟨l,_⟩|⟨g,cap,v,l,_⟩
  ·injection l with l;rw[l]at d;cases d
  ·injection l with l;rw[l]at d;injection d with d;injection d with _ d;exact d.symm
 subst d z;rw[cN]at q;exact⟨b,rfl,q,λe=>m.hne (by rw[<-e];rfl),λy hy e=>(m.VE y hy b e).2 rfl⟩
theorem J2.next{A u wr C wc t:World}{r:List LJ}{c j:Nat}{H:Value}(h:J2 A u wr r c j)(z:JX A u r c H){x:LJ}(B:r[j]?=some x)(gb:wr.grownBy C x.g)(d:C.grownBy wc none)(cf:CF wc t (λb o=>b=c/\j*9<=o/\o<j*9+9)):J2 A u t r c (j+1):=by
 have n:=ey B;have J:=gb.size;have K:=d.size;have s3:=cf.size;have m:x.g≠some c:=λe=>(z.VE x n c e).1 rfl;have E:=(Te h.lv gb m).grown d;have key:∀b,b<wr.heap.size->x.g≠some b->wc.heap[b]?=wr.heap[b]?:=λb p e=>by rw[d.block b agE agI,gb.block b p (λq=>e q.symm)]
 have k:∀b,b<wr.heap.size->x.g≠some b->b≠c->t.heap[b]?=wr.heap[b]?:=λb p e D=>by rw[cf.block b agE (λo q=>D q.1),key b p e]
 refine⟨h.f.trans ⟨(cf.os.trans d.os).trans gb.os,(cf.tape.trans d.tape).trans gb.tape,(cf.output.trans d.output).trans gb.output,by omega,λb p hn=>k b p (λe=>hn (.inl (.inr ⟨x,n,e⟩))) (λe=>hn (.inl (.inl e)))⟩,E.cf cf,λi o v G I F=>?_,λi y G hy=>?_⟩
 ·refine cf.cell ?_ (λe=>by omega);rw[World.cell?_of_block (w:=wr) (w':=wc) (a:=⟨c,i*9+o,none⟩) (key c h.lv.lt m)];exact h.jc i o v agE I F
 ·have l:=h.ln i y agE hy;have s:=ey hy;exact l.kept (λb e=>k b (l.ZZ b e).2 (λq=>z.dis j i x y agE B hy b q e) (z.VE y s b e).1)
theorem pE.kept{base:Nat}{w w':World}{a:Option Addr}{c:List kV}(h:pE w a c)(d:∀b off,a=some ⟨b,off,none⟩->0<c.length->b<base)(m:w.heap.size<=w'.heap.size)(k:∀b,b<base->w'.heap[b]?=w.heap[b]?):pE w' a c:=λi g=>by
 obtain⟨b,off,e,l,r⟩:=h i g
 exact⟨b,off,e,by omega,λj u f=>(World.cell?_of_block (k b (d b off e agE))).trans (r j u f)⟩
theorem ado(W)(b o:Nat)(v0 v1 v2 v3 v4 v5 v6 v7 a):CF W (((((((((W.setCell (b,o) v0).setCell (b,o+1) v1).setCell (b,o+2) v2).setCell (b,o+3) v3).setCell (b,o+4) v4).setCell (b,o+5) v5).setCell (b,o+6) v6).setCell (b,o+7) v7).setCell (b,o+8) a) (λg i=>g=b/\o<=i/\i<o+9):=
 ((((((((((CF.refl W _).setCell b o v0 (λ_=>⟨rfl,by omega,by omega⟩)).setCell b (o+1) v1 (λ_=>⟨rfl,by omega,by omega⟩)).setCell b (o+2) v2 (λ_=>⟨rfl,by omega,by omega⟩)).setCell b (o+3) v3 (λ_=>⟨rfl,by omega,by omega⟩)).setCell b (o+4) v4 (λ_=>⟨rfl,by omega,by omega⟩)).setCell b (o+5) v5 (λ_=>⟨rfl,by omega,by omega⟩)).setCell b (o+6) v6 (λ_=>⟨rfl,by omega,by omega⟩)).setCell b (o+7) v7 (λ_=>⟨rfl,by omega,by omega⟩)).setCell b (o+8) a (λ_=>⟨rfl,by omega,by omega⟩))
theorem VP{W:World}{b n o:Nat}(L:Live W b n)(h:o+9<=n):(∃d,W.cell? (b,o)=some d)/\(∃d,W.cell? (b,o+1)=some d)/\(∃d,W.cell? (b,o+2)=some d)/\(∃d,W.cell? (b,o+3)=some d)/\(∃d,W.cell? (b,o+4)=some d)/\(∃d,W.cell? (b,o+5)=some d)/\(∃d,W.cell? (b,o+6)=some d)/\(∃d,W.cell? (b,o+7)=some d)/\(∃d,W.cell? (b,o+8)=some d)/\W.frozen? (b,o)=false/\W.frozen? (b,o+1)=false/\W.frozen? (b,o+2)=false/\W.frozen? (b,o+3)=false/\W.frozen? (b,o+4)=false/\W.frozen? (b,o+5)=false/\W.frozen? (b,o+6)=false/\W.frozen? (b,o+7)=false/\W.frozen? (b,o+8)=false:=by
 have a:=λj c=>cA.1 (L.some j c);exact⟨a _ agE,a _ agE,a _ agE,a _ agE,a _ agE,a _ agE,a _ agE,a _ agE,a _ agE,L.frozen _,L.frozen _,L.frozen _,L.frozen _,L.frozen _,L.frozen _,L.frozen _,L.frozen _,L.frozen _⟩
end Go.Proofs.YtlfifnpjeangmaaGreatDoor
