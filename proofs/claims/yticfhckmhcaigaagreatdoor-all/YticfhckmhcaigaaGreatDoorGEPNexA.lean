import Derived.Test.YticfhckmhcaigaaGreatDoorGEPAdmB
namespace Go.Proofs.YticfhckmhcaigaaGreatDoor
open Go.RowKit
set_option maxRecDepth 100000
variable {e:BE}{M:DM}{now:Int}{q:NQ}{p:Prop}
theorem To(now)(q)(d)(x s):Mh now q d x s=iJ now q.dM d x s:=by
 unfold Mh iJ gU;generalize kB q.dM=a;generalize aW now x.bH=b;generalize aW now s.bH=c;(repeat' split)<;>omega
theorem Tl(now)(q)(d)(x s):TA now q d x s=fE q.aR d.ae x s now (gU (kB q.bY) d.aD):=by
 unfold TA fE;rw[(Gm q.aR d x s).2];have e:(aJ q.aR 4&&aJ d.ae 4&&(x.has 2&&s.has 2))=true↔(aJ q.aR 4=true/\aJ d.ae 4=true/\x.has 2=true/\s.has 2=true):=by
  grind
 by_cases h:(aJ q.aR 4&&aJ d.ae 4&&(x.has 2&&s.has 2))=true
 .rw[dQ h,dQ (e.1 h)];unfold gU;generalize kB q.bY=a;generalize aW now x.aD=b;generalize aW now s.aD=c;(repeat' split)<;>omega
 grind
theorem Xx{o f:Int}(h:kL o f=true):wS o<=1:=by
 grind [kL]
theorem MT{o:Int}(h:wS o<=1):Ja o=32↔aJ o 32=true:=by
 grind [Ja,wS]
theorem MD{o:Int}(h:wS o<=1):Ja o=16↔aJ o 16=true:=by
 grind [wS,Ja]
theorem GD{b:TK}{x s:BE}(h:kL q.aR b.ae=true):
  (∃c,pF now q b x s=.error c/\fresh now b x s q.dM q.bY q.aR=.error c)\/∃t d,pF now q b x s=.ok t/\fresh now b x s q.dM q.bY q.aR=.ok d/\∀a,{t with aO:=a}={d with aO:=a}:=by
 have hw:=Xx h
 unfold pF fresh
 by_cases e:aJ q.aR 32=true
 .rw[dQ ((MT hw).2 e),dQ e];unfold zH;by_cases a:now<b.start
  .rw[dQ a];exact .inl ⟨_,rfl,rfl⟩
  .rw[b' a];grind
 .rw[b' (by grind [MT]),b' e];by_cases d:aJ q.aR 16=true
  .rw[dQ ((MD hw).2 d),dQ d];unfold zI;by_cases a:b.aD<=now
   .rw[dQ a];exact .inl ⟨_,rfl,rfl⟩
   .rw[b' a];grind
  .rw[b' (by grind [MD]),b' d];unfold TC;rw[To,Tl,(Gm q.aR b x s).1];by_cases a:iJ now q.dM b x s<=now
   .rw[dQ a,dQ a];exact .inl ⟨_,rfl,rfl⟩
   .rw[b' a,b' a];grind
theorem TU{a:TK}(h:aJ a.ae 16=true/\aJ q.aR 32=false\/aW now M.ax<a.start):dD M now (eF M now q a)=(aY now 33,M):=by
 unfold eF;rw[dQ h];rfl
theorem Xy{a:TK}(h:¬ (aJ a.ae 16=true/\aJ q.aR 32=false\/aW now M.ax<a.start))(b:a.fin<now):dD M now (eF M now q a)=(aY now 32,M):=by
 unfold eF;rw[b' h,dQ b];rfl
theorem Xz{a:TK}{y x:Option BE}(h:¬ (aJ a.ae 16=true/\aJ q.aR 32=false\/aW now M.ax<a.start))(b:¬ a.fin<now)(g:BE.find M.aC q.aV=y)(f:BE.find M.aC a.az=x)(d:dV y x now 7 6 2 1≠0):dD M now (eF M now q a)=(aY now (dV y x now 7 6 2 1),M):=by
 unfold eF;rw[b' h,b' b,g,f];cases y with
 |none=>rfl
 |some s=>
  cases x with
  |none=>rfl
  |some e=>
   simp only[];rw[dQ d];rfl
theorem XA{a:TK}{s:BE}(h:¬ (aJ a.ae 16=true/\aJ q.aR 32=false\/aW now M.ax<a.start))(b:¬ a.fin<now)(i:BE.find M.aC q.aV=some s)(g:BE.find M.aC a.az=some e)(d:dV (some s) (some e) now 7 6 2 1=0)(f:kL q.aR a.ae=false):dD M now (eF M now q a)=(aY now 13,M):=by
 unfold eF;rw[b' h,b' b,i,g];simp only[];rw[b' (λn=>n d),dQ f];rfl
theorem abK{c:Int}{a:TK}{s:BE}(h:¬ (aJ a.ae 16=true/\aJ q.aR 32=false\/aW now M.ax<a.start))(g:¬ a.fin<now)(l:BE.find M.aC q.aV=some s)(k:BE.find M.aC a.az=some e)(j:dV (some s) (some e) now 7 6 2 1=0)(f:kL q.aR a.ae=true)(d:pF now q a e s=.error c):dD M now (eF M now q a)=(aY now c,M):=by
 unfold eF;rw[b' h,b' g,l,k];simp only[];rw[b' (λn=>n j),b' (by rw[f];decide)];rcases GD (now:=now) (x:=e) (s:=s) f with⟨m,b,i⟩|⟨t,n,b,_,_⟩
 .rw[d]at b;injection b with b;subst b;rw[i];rfl
 .rw[d]at b;cases b
theorem Th{a t:TK}{s:BE}(h:¬ (aJ a.ae 16=true/\aJ q.aR 32=false\/aW now M.ax<a.start))(g:¬ a.fin<now)(m:BE.find M.aC q.aV=some s)(l:BE.find M.aC a.az=some e)(k:dV (some s) (some e) now 7 6 2 1=0)(f:kL q.aR a.ae=true)(d:pF now q a e s=.ok t):dD M now (eF M now q a)=if M.aL.length<24 then(aY now 60,M) else(mg 13 {t with aO:=eP M.aL 0} s q.bW 0 a.aO 5 (eP M.aL 1) (eP M.aL 2),{M with aL:=M.aL.drop 24}):=by
 unfold eF;rw[b' h,b' g,m,l];simp only[];rw[b' (λn=>n k),b' (by rw[f];decide)];rcases GD (now:=now) (x:=e) (s:=s) f with⟨n,b,_⟩|⟨p,o,b,i,j⟩
 .rw[d]at b;cases b
 .rw[d]at b;injection b with b;subst b;rw[i,j];rfl
variable {es:List BE}{T g hb:Nat}{dS uo:Nat->Nat->Prop}{dp po pr:Option Pl}{t:TK}{fv:Value}{W W' w:World}{J:World->Prop}
def tt(g:Nat)(po:Option Pl)(dS:Nat->Nat->Prop)(b y:Nat):Prop:=qt po dS b y\/b=g/\163<=y/\y<188
structure NX(w W:World)(hb g T:Nat)(fv ro rr:Value)(po pr dp:Option Pl)(dS:Nat->Nat->Prop)(M:DM)(now:Int)(ask old:List Value):Prop where
 hear:zJ W hb g T fv ro rr now
 bU:bX W g 0 dp M
 oq:fA W ro po []
 r:fA W rr pr []
 ask:W.rangeAt w.1.size 0 ask
 old:W.rangeAt (w.1.size+1) 0 old
 made:b9 W (w.1.size+2) 7
 big:w.1.size<=W.1.size
 cf:CF w W (tt g po dS)
theorem NX.step{a:Nat}{r m n:Value}{d f:List Value}(h:NX w W hb g T fv m n po pr dp dS M now d f)(S:HS hb g a T fv r po pr dp J dS uo es)(k:CF W W' (λb y=>qt po dS b y\/w.1.size+1<b))(l:a<=w.1.size)(hpo:∀b y,Pl.has po b y->b<w.1.size):NX w W' hb g T fv m n po pr dp dS M now d f:=by
 have b:=S.hbb;have p:=S.gb;refine⟨h.hear.cf k ?_,h.bU.cf k ?_ ?_,h.oq.cf k dT,h.r.cf k dT,k.range h.ask ?_,k.range h.old ?_,h.made.cf k,?_,?_⟩
 .rintro y ((e|e)|e)
  .exact S.hbF y e
  .exact qa S.poH y e
  .omega
 .exact E7
 .exact Hh
 .exact By
 .exact By
 .exact cE h.big k.size
 .exact h.cf.trans k (λi o t e=>by rcases e with e|e;exact .inl e;omega)
structure Ng(J:World->Prop)(w W:World)(hb g T:Nat)(fv ro rr:Value)(po pr dp:Option Pl)(dS:Nat->Nat->Prop)(M:DM)(now:Int)(ask old:List Value):Prop extends NX w W hb g T fv ro rr po pr dp dS M now ask old where
 j:J W
theorem Ng.step{a:Nat}{n l m:Value}{f i:List Value}(h:Ng J w W hb g T fv l m po pr dp dS M now f i)(S:HS hb g a T fv n po pr dp J dS uo es)(k:CF W W' (λb y=>Pl.has po b y\/w.1.size+1<b))(d:a<=w.1.size)(j:∀b y,Pl.has po b y->b<w.1.size):Ng J w W' hb g T fv l m po pr dp dS M now f i:=
 ⟨h.toNX.step S (k.mono (λ_ _ _ e=>e.elim (λe=>.inl (.inr e)) .inr)) d j,S.finds.stay _ _ h.j (k.mono (λb y _ e=>e.elim (S.poJ b y) (λe=>S.BV b y G)))⟩
theorem PH{b:Nat}{r k:Value}{a:Int}(m:bX W g 0 dp M)(i:w.1.size<=W.1.size)(d:CF w W (tt g po dS))(h:aU W W' k pr (aY now a))(S:HS hb g b T fv r po pr dp J dS uo es)(n:J W):Fin w W' g po pr dp dS k (aY now a,M)/\J W':=by
 obtain⟨p,l,f,t,_⟩:=h;refine⟨?_,S.finds.stay _ _ n (by grind [HS.prJ,CF.mono])⟩;refine⟨⟨p,l,(by grind [kK])⟩,⟨dp,m.cf f (by grind [HS.prG]) (λq o j _ e=>((S.Po q o).2.2.2 _).2.2 e),dT⟩,?_⟩;exact(d.mono (λ_ _ _ e=>by rcases e with e|e;exact .inr (.inl e);omega)).trans f dT
theorem Cb{c:Int}{q:NQ}(h:(iM M now q).1=.error c):c=36\/c=7\/c=44\/c=31\/c=37\/c=34\/c=60:=by
 unfold iM jg at h;grind [wy]
theorem TV{s:BE}{e:E}{f:Int}{d a b c:UInt64}{g:RP}(i:g=⟨t,e,s.aH,s.key,0,f,0,d,0⟩)(h:s.name=e):[]++(g.drawn a b c).wu 13 5=mg 13 {t with aO:=a} s f 0 d 5 b c:=by
 rw[<-RP.Ff,i,<-h];rfl
theorem Lq(h:p:=by
 injection h with h
 subst h
 refine⟨⟨ho.ae,ho.dY,cO,?_,ho.aD⟩,rfl⟩
 show bT (gU old.aD (aW now (gD old.fin old.start)))
 have i1:=ho.aD
 have i2:bT (aW now (gD old.fin old.start)):=BU _
 grind [gU]):p:=h
theorem IT(h:p:=by
 injection h with h
 subst h
 refine⟨⟨?_,ho.dY,ho.start,ho.fin,ho.aD⟩,rfl⟩
 have e:=AO old.ae ho.ae
 have i:=rJ old.ae 16
 rw[e]at i
 exact i):p:=h
theorem abL{q:NQ}{old:TK}{x s:BE}(ho:old.In)(cO:bT now)(f:bT q.dM)(g:bT q.bY)(h:pF now q old x s=.ok t):t.In/\t.az=old.az:=by
 unfold pF at h;by_cases d:Ja q.aR=32
 .rw[dQ d]at h;unfold zH at h;by_cases a:now<old.start
  .rw[dQ a]at h;cases h
  .rw[b' a]at h;exact IT
 .rw[b' d]at h;by_cases b:Ja q.aR=16
  .rw[dQ b]at h;unfold zI at h;by_cases a:old.aD<=now
   .rw[dQ a]at h;cases h
   .rw[b' a]at h;exact Lq
  .rw[b' b]at h;unfold TC at h;by_cases a:Mh now q old x s<=now
   .rw[dQ a]at h;cases h
   .rw[b' a]at h;injection h with h;subst h;refine⟨⟨?_,ho.dY,cO,?_,?_⟩,rfl⟩
    .show bT (xw q.aR old x s);rw[(Gm q.aR old x s).1];unfold iR iy bT;(repeat' split)<;>omega
    .show bT (Mh now q old x s);have i1:=ho.fin;have i2:bT (gU (kB q.dM) (gU (aW now x.bH) (aW now s.bH))):=lU f;grind [Mh]
    .show bT (TA now q old x s);have i1:=ho.aD;have i2:bT (gU (kB q.bY) (gU (aW now x.aD) (aW now s.aD))):=lU g;grind [TA,bT]
theorem XB{s:BE}{d:E}{g:Int}{f a b c:UInt64}{h:RP}(n:h=⟨t,d,s.aH,s.key,0,g,0,f,0⟩)(e:t.In)(k:bT g)(l:s.In)(m:s.name=d)(j:t.az.length<=1000):(h.drawn a b c).Fits:=by
 subst n;have i:=l.aH;refine⟨e.ae,e.dY,e.start,e.fin,e.aD,?_,k,(show bT 0 from⟨by decide,by decide⟩),j,?_⟩
 .show bT s.aH;unfold bT;omega
 .show d.length<=1000;grind [BE.In.name]
set_option maxHeartbeats 2000000
open Proofs.Tryz
variable {b:Nat}
theorem Tryz.ab0:(prog.info? 233).map (·.size)=some 3:=by kernel_rfl
theorem Kr(h:b9 w b 3):(∃d,w.c b 0=some d)/\(∃d,w.c b 1=some d)/\(∃d,w.c b 2=some d)/\w.z b 0=false/\w.z b 1=false/\w.z b 2=false:=by
 have a:=λj d=>cD.1 (h.some j d);exact⟨a 0 H,a 1 H,a 2 H,h.frozen 0,h.frozen 1,h.frozen 2⟩
theorem fH(h:b9 w b 3)(x y z):(((w.s b 0 x).s b 1 y).s b 2 z).rangeAt b 0 [x,y,z]:=jQ [x,y,z] 0 w b 3 h (cA 3)
theorem sO{x y z:Value}(h:w.rangeAt b 0 [x,y,z]):(loadVar 233 ⟨b,0,none⟩).run prog w=.ok (.agg #[x,y,z]) w:=eO h 233 _ underlying233 rfl Tryz.ab0
abbrev Bc:Array Value:=#[ε,Y 0,σ]
def GY(w:World)(o:Option (E×Int×E))(s:E)(n:Int)(z:Value):Prop:=∀q,o=some q->s=q.1/\n=q.2.1/\xA w z q.2.2/\q.2.2.length<=100000
theorem uw(w)(s)(n)(z):GY w none s n z:=λ_ h=>by cases h
theorem xT(h:p:=by
 go_wp2_with fail
 go_region
 go_wp2
 (try simp only[Exit.inBlock,Exit.then])
 refine bodyPost_ret (aG results108 _ _ _ (w.1.size+1) rfl _ (sO (fH vZ _ _ _))) rfl ?_
 have GF:=λx y z=>bg (aB (g:=w.1.size+1) (j:=2) (u:=z) (aB (g:=w.1.size+1) (j:=1) (u:=y) (aB (g:=w.1.size+1) (j:=0) (u:=x) lh G) G) G)
 exact⟨p0.ins,v,_,by rw[wO];rfl,P7.1,rfl,HFin _ (GF _ _ _),GF _ _ _⟩):p:=h
theorem CM(h:p:=by
 go_wp2
 refine bodyPost_ret (aG results108 _ _ _ (w.1.size+1) rfl _ (sO (fH sU _ _ _))) rfl ?_
 exact⟨[],0,_,by rw[HO];rfl,gY,rfl,by rw[HO];exact uw _ _ _ _,aB (aB (aB ku G) G) G⟩):p:=h
theorem Bd(p:Pc)(w)(h:At w p.ad p.ins)(b:p.ins.length<=p.cap)(k:p.cap<=maxLen)(f:p.ins.length<=100000):Calls prog 108 #[.agg #[.int .u8 (p.tag.toNat:Int),.slice p.ad p.ins.length p.cap]] w λe a=>∃s n z,e=.returned (.tuple #[.agg #[.string ⟨s.toArray⟩,Y n,z],.bool (ik p.pair).isSome])/\bT n/\z.oneCell'=true/\GY a (ik p.pair) s n z/\w.grownBy a none:=by
 have i:Hid (ik p.pair=(if p.tag.toNat=48 then Box.dG p.ins else none).bind rA):=rfl
 obtain⟨O,a⟩:=aq (ik p.pair)
 rw[a]at i⊢
 clear a
 have a:=aM (cy w (.cells #[.int .u8 (p.tag.toNat:Int),.slice p.ad p.ins.length p.cap] 117) none) (.cells Bc 233)
 have d:=I (rM p.ins (.slice p.ad p.ins.length p.cap) _ ⟨p.ad,p.cap,rfl,b,k,h.below a⟩ f)
 have HB:=I ((dm.new w #[.int .u8 (p.tag.toNat:Int),.slice p.ad p.ins.length p.cap] 117).alloc (.cells Bc 233))
 have l:Hid (b9 ((w.alloc (.cells #[.int .u8 (p.tag.toNat:Int),.slice p.ad p.ins.length p.cap] 117)).alloc (.cells Bc 233)) (w.1.size+1) 3):=by
  have h:=b9.new (w.alloc (.cells #[.int .u8 (p.tag.toNat:Int),.slice p.ad p.ins.length p.cap] 117)) Bc 233;rw[cG]at h;exact h
 have m:=I a
 have X:=I f
 have R:Hid (xA w (.slice p.ad p.ins.length p.cap) p.ins):=⟨p.ad,p.cap,rfl,b,k,h⟩
 clear a h b k f
 obtain⟨cl,a⟩:=aq (Box.dG p.ins)
 rw[a]at i d
 have LC:=I a
 clear a
 go_in
 go_wp2_with fail
 refine d.mono ?_
 rintro e U ⟨x,rfl,S,k,b⟩
 clear d
 have ku:=I (aa m b)
 have a:=HB.grown b Z
 have sU:=I (l.grown b)
 have t0:=a.cell 0
 simp only[cI,cH]at t0
 obtain⟨⟨e0,k0⟩,⟨e1,k1⟩,⟨e2,k2⟩,f0,f1,f2⟩:=Kr sU.o
 clear m HB b l a
 cases cl with
 |none=>
  have HO:Hid (O=none):=by
   show _=_;rw[i];split<;>rfl
  obtain rfl:=k rfl;clear S k i;simp only[Option.isSome_none];exact CM
 |some ps=>
  obtain⟨l,B,h,f,_⟩:=S ps rfl;clear S k;simp only[du];by_cases K:p.tag.toNat=48
  .have hb:((p.tag.toNat:Int) != 48)=false:=tM;rw[dQ K]at i;clear K;by_cases k:l.length=3
   .obtain⟨p0,t,a,rfl⟩:=GV k;have HO:Hid (O=(dz p0.pair).bind λs=>(bG t.pair).bind λn=>(jD a.pair).bind λz=>some (s,n,z)):=by
     show _=_;rw[i,<-h];rfl
    obtain⟨g,c,rfl,d⟩:=B.some Z;have A:U.c g 0=some (.int .u8 (p0.tag.toNat:Int)):=d.tag 0 Z;have J:U.c g 1=some (.slice p0.ad p0.ins.length p0.cap):=d.ins 0 Z;have r:=I d;have HZ:Hid (∀W,w.grownBy W none->xA W (.slice a.ad a.ins.length a.cap) a.ins):=λW T=>f a Z W (R.grown T);clear f;have b:=LC.o;rw[<-h]at b;have L:Hid (p0.ins.length<=100000):=cE (Box.mq b (p0.tag,p0.ins) (by simp[Pc.pair])) X.o;have P:Hid (a.ins.length<=100000):=cE (Box.mq b (a.tag,a.ins) (by simp[Pc.pair])) X.o;have q:=I (rO p0 U (d.2 p0 Z).1 (cE L H));obtain⟨N,m⟩:=aq (dz p0.pair);have D:Hid (∀y,N=some y->y=p0.ins):=by
     intro y C;rw[C]at m;unfold dz at m;split at m
     .injection m with m;exact m.symm
     .cases m
    rw[m]at q HO;clear i h k B d m b;simp only[de,List.length_nil];go_wp2_with (go_at_call 96;refine q.mono ?_;clear q;rintro e V ⟨rfl,m⟩;have d:=r.grown m;have c2:V.c g 2=some (.int .u8 (t.tag.toNat:Int)):=d.tag 1 Z;have c3:V.c g 3=some (.slice t.ad t.ins.length t.cap):=d.ins 1 Z;have C:=I (aa ku m);have yI:=I (sU.grown m);have HV:=I (uR t V (d.2 t Z).1);have XR:=I d;clear r d m ku sU t0 k0 k1 k2 f0 f1 f2 A J)
    refine HV.mono ?_;rintro e w3 ⟨v,rfl,B,r⟩;have d:=XR.grown r;have d2:w3.c g 4=some (.int .u8 (a.tag.toNat:Int)):=d.tag 2 Z;have d3:w3.c g 5=some (.slice a.ad a.ins.length a.cap):=d.ins 2 Z;have lh:=I (aa C r);have vZ:=I (yI.grown r);obtain⟨⟨e0,k0⟩,⟨e1,k1⟩,⟨e2,k2⟩,f0,f1,f2⟩:=Kr vZ.o;have P7:Hid (bT v/\∀y,bG t.pair=some y->v=y):=B;obtain⟨M,hM⟩:=aq (bG t.pair);rw[hM]at P7 HO⊢;obtain⟨J,A⟩:=aq a.tag.toNat;have Q:Hid (O.isSome=(N.isSome&&M.isSome&&decide (J=4))/\∀q,O=some q->p0.ins=q.1/\v=q.2.1/\a.ins=q.2.2):=by
     show _/\_;rw[HO];show _=_/\_;cases N with
     |none=>exact⟨rfl,λq b=>by cases b⟩
     |some s=>
      cases M with
      |none=>exact⟨rfl,λq b=>by cases b⟩
      |some y=>
       show(Option.bind (if a.tag.toNat=4 then some a.ins else none) _).isSome=_/\∀q,(Option.bind (if a.tag.toNat=4 then some a.ins else none) _)=_->_;rw[A];by_cases m:J=4
       .rw[dQ m];refine⟨by simp[m],λq b=>?_⟩;injection b with b;subst b;exact⟨(D s rfl).symm,P7.2 y rfl,rfl⟩
       .rw[b' m];exact⟨by simp[m],λq b=>by cases b⟩
    rw[A]at d2;clear HV XR d r B C yI c2 c3 hM A HO D;have HFin:Hid (∀W,w.grownBy W none->GY W O p0.ins v (.slice a.ad a.ins.length a.cap)):=by
     intro W T q b;obtain⟨A,C,r⟩:=Q.2 q b;exact⟨A,C,by rw[<-r];exact HZ W T,by rw[<-r];exact P⟩
    have d:=I Q.1;clear Q HZ;obtain⟨C,r⟩:=aq N.isSome;obtain⟨A,q⟩:=aq M.isSome;rw[r,q]at d;rw[r,q];clear r q;cases C with
    |false=>
     have wO:Hid (O.isSome=false):=d.o;clear d;exact xT
    |true=>
     cases A with
     |false=>
      have wO:Hid (O.isSome=false):=d.o;clear d;exact xT
     |true=>
      by_cases m:J=4
      .have q:((J:Int)==4)=true:=oU;have wO:Hid (O.isSome=true):=(by show _=_;rw[d];simp[m]);clear d m;exact xT
      .have q:((J:Int)==4)=false:=mC;have wO:Hid (O.isSome=false):=(by show _=_;rw[d];simp[m]);clear d m;exact xT
   .have HO:Hid (O=none):=by
     show _=_;rw[i,<-h];exact Jl _ (by rw[cU];exact k)
    obtain⟨b,c,rfl,_⟩:=B;obtain⟨n,a⟩:=aq l.length;rw[a]at k⊢;have d:((n:Int) != 3)=true:=pC;clear i h k a f;exact CM
  .have hb:((p.tag.toNat:Int) != 48)=true:=pC;have HO:Hid (O=none):=by
    show _=_;rw[i,b' K];rfl
   obtain⟨b,c,rfl,_⟩:=B;clear i h K f;exact CM
