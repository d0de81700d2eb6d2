import Derived.Test.YtlfifnpjeangmaaGreatDoorGEPAdmB
namespace Go.Proofs.YtlfifnpjeangmaaGreatDoor
set_option maxHeartbeats 1000000
open Proofs.Tryz Go.RowKit
set_option maxRecDepth 100000
variable {ls:List BE}{p:Prop}
theorem Sx{a b:E}{S T:ByteArray}(d:S=⟨a.toArray⟩)(e:T=⟨b.toArray⟩):(S.toList==T.toList)=(a==b):=by
 subst d e;rw[ByteArray.toList_mk,ByteArray.toList_mk]
structure jG(w:World)(g o:Nat)(ls:List BE)(nx:Nat):Prop where
 live:b' w g (o+34)
 Sm:∀k(hk:k<ls.length),w.rangeAt g (o+k*8) ls[k].bE
 count:w.cell? (F g (o+32))=some (Y ls.length)
 next:w.cell? (F g (o+33))=some (Y nx)
 len:ls.length<=4
 nx4:nx<4
 nxl:ls.length<4->nx=ls.length
theorem jG.cf{w d:World}{ex:Nat->Nat->Prop}{g o:Nat}{b:Nat}(h:jG w g o ls b)(k:CF w d ex)(f:∀j,o<=j->j<o+34->¬ ex g j):jG d g o ls b:=
 ⟨h.live.cf k,λi e=>k.range (h.Sm i e) (λj a=>f _ G (by have:=h.len;have a:j<8:=a;omega)),(by grind [CF.cell,jG.count]),(by grind [CF.cell,jG.next]),h.len,h.nx4,h.nxl⟩
theorem jG.grown{w b:World}{g o:Nat}{a:Nat}(h:jG w g o ls a)(k:w.grownBy b none):jG b g o ls a:=h.cf (CF.bF k (λ_ _=>False)) (λ_ _ _ e=>e)
theorem uG(e:BE):∃a b d f g h i j,e.bE=[.string a,Y b,H d,H f,Y g,Y h,Y i,Y j]/\a=⟨e.name.toArray⟩:=⟨_,_,_,_,_,_,_,_,rfl,rfl⟩
theorem JM{l:E}(h:∀j(b:j<ls.length),ls[j].name≠l):BE.find ls l=none:=by
 unfold BE.find;rw[List.find?_eq_none];intro e a d;obtain⟨j,b,rfl⟩:=List.getElem_of_mem a;grind
theorem JN{l:E}{k:Nat}(b:k<ls.length)(d:ls[k].name=l)(h:∀j(a:j<ls.length),j<k->ls[j].name≠l):BE.find ls l=some ls[k]:=by
 unfold BE.find;rw[List.find?_eq_some_iff_getElem];grind
theorem Qk(g o)(ls)(a)(w)(h:jG w g o ls a):Calls prog 120 #[π g o] w λe b=>e=.returned (Y ls.length)/\b=w:=by
 have b:=h.count
 clear h
 go_in
 exact lO
theorem IA(g o)(ls)(nx)(l)(w)(h:jG w g o ls nx):Calls prog 286 #[π g o,.string ⟨l.toArray⟩] w λe a=>e=.returned (nN (BE.find ls l))/\w.grownBy a none:=by
 obtain⟨f,a⟩:=aw (w.alloc (.cells lB 126))
 have L:Hid (w.grownBy f none):=by show World.grownBy _ _ _;grind [cx]
 have n:Hid (b' f w.1.size 8):=by show b' _ _ _;rw[a];exact b'.new w lB _
 obtain⟨m,d⟩:=N ls.length
 have T:=L.cell h.count Z
 rw[d]at T
 have X:m<=4:=by rw[<-d];exact h.len
 have M:Hid (∀k(r),f.rangeAt g (o+k*8) ls[k].bE):=λk r=>gZ (h.Sm k r) L.o
 obtain⟨S,i⟩:∃S:ByteArray,S=⟨l.toArray⟩:=⟨_,rfl⟩
 rw[<-i]
 obtain⟨⟨d0,x⟩,⟨d1,y⟩,⟨d2,A⟩,⟨d3,B⟩,⟨d4,C⟩,⟨d5,D⟩,⟨d6,J⟩,⟨d7,K⟩,f0,f1,f2,f3,f4,f5,f6,f7⟩:=gI n.o
 have b:g≠w.1.size:=λe=>by have:=h.live.lt;omega
 have HS:=I i
 have P:=I d
 have p:=I a
 have Q:=I b
 clear i d a h b
 go_in
 go_wp2_with (first|(rw[<-p];fail_if_success done)|fail)
 go_loopw [6,11] (λ_ i wr=>∃k:Nat,k<=m/\i = Y k/\wr=f/\Hid (∀j(v:j<ls.length),j<k->ls[j].name≠l)) (λ_ i _=>m-(intOf i).toNat)
 case atStart=>exact⟨0,cS _,rfl,rfl,λj _ v=>by omega⟩
 case round=>
  obtain⟨k,r,rfl,rfl,U⟩:=hrel;by_cases t:k<m
  .have mW:(k:Int)<(m:Int):=G;have W:(k:Int)<4:=G;have V:(0:Int)<=(k:Int):=G;have b:k<ls.length:=(by rw[P];exact t);obtain⟨e,q⟩:=N (ls[k]);have a:=M k b;rw[q]at a;obtain⟨h,v1,v2,v3,v4,v5,v6,v7,u,d⟩:=uG e;have R:=I u;rw[u]at a;have x0:wr.c g (o+k*8)=some (.string h):=a 0 _ rfl;have x1:=a 1 _ rfl;have x2:=a 2 _ rfl;have x3:=a 3 _ rfl;have x4:=a 4 _ rfl;have x5:=a 5 _ rfl;have x6:=a 6 _ rfl;have x7:=a 7 _ rfl;have HEq:Hid ((h.toList==S.toList)=(e.name==l)):=Sx d HS.o;have i:=I q;clear a u q d;by_cases d:(h.toList==S.toList)=true
   .go_wp2_with fail;have a:ls[k].name=l:=kA;have q:=JN b a U.o;rw[i]at q;rw[q];refine bodyPost_ret (aG results286 _ _ _ w.1.size rfl _ (eP (jw _ w.1.size _ _ _ _ _ _ _ _ x y A B C D J K) 126 _ underlying126 rfl Tryz.iT)) rfl ⟨by simp only[nN,rG];rw[R];rfl,?_⟩;grind [az,Hid.o]
   .have u:(h.toList==S.toList)=false:=(by simpa using d);clear d;go_wp2;go_roundw
    case rel=>
     refine⟨k+1,by omega,by go_num,by first|rfl|trivial,λj v a=>?_⟩;grind [Hid.o]
    case measure=>simp[intOf];omega
  .have a:k=m:=G;subst a;go_wp2;rw[JM kA];refine bodyPost_ret (aG results286 _ _ _ w.1.size rfl _ (eP (jw _ w.1.size _ _ _ _ _ _ _ _ x y A B C D J K) 126 _ underlying126 rfl Tryz.iT)) rfl ⟨rfl,?_⟩;grind [Hid.o,az]
variable {e:BE}{M:DM}{now:Int}{q:NQ}
theorem SR(now)(q)(d)(x s):JZ now q d x s=iE now q.dI d x s:=by
 unfold JZ iE gS;generalize j9 q.dI=a;generalize aW now x.bI=b;generalize aW now s.bI=c;(repeat' split)<;>omega
theorem SP(now)(q)(d)(x s):QH now q d x s=fB q.aO d.ae x s now (gS (j9 q.bX) d.aC):=by
 unfold QH fB;rw[(Ez q.aO d x s).2];have e:(aI q.aO 4&&aI d.ae 4&&(x.has 2&&s.has 2))=true↔(aI q.aO 4=true/\aI d.ae 4=true/\x.has 2=true/\s.has 2=true):=by
  grind
 by_cases h:(aI q.aO 4&&aI d.ae 4&&(x.has 2&&s.has 2))=true
 .rw[dT h,dT (e.1 h)];unfold gS;generalize j9 q.bX=a;generalize aW now x.aC=b;generalize aW now s.aC=c;(repeat' split)<;>omega
 grind
theorem U5{o f:Int}(h:ku o f=true):vM o<=1:=by
 grind [ku]
theorem Zi{o:Int}(h:vM o<=1):Gv o=32↔aI o 32=true:=by
 grind [Gv,vM]
theorem Zj{o:Int}(h:vM o<=1):Gv o=16↔aI o 16=true:=by
 grind [vM,Gv]
theorem EJ{b:TK}{x s:BE}(h:ku q.aO b.ae=true):
  (∃c,oJ now q b x s=.error c/\fresh now b x s q.dI q.bX q.aO=.error c)\/∃t d,oJ now q b x s=.ok t/\fresh now b x s q.dI q.bX q.aO=.ok d/\∀a,{t with aN:=a}={d with aN:=a}:=by
 have hw:=U5 h
 unfold oJ fresh
 by_cases e:aI q.aO 32=true
 .rw[dT ((Zi hw).2 e),dT e];unfold yC;by_cases a:now<b.start
  .rw[dT a];exact .inl ⟨_,rfl,rfl⟩
  .rw[cZ a];grind
 .rw[cZ (by grind [Zi]),cZ e];by_cases d:aI q.aO 16=true
  .rw[dT ((Zj hw).2 d),dT d];unfold yD;by_cases a:b.aC<=now
   .rw[dT a];exact .inl ⟨_,rfl,rfl⟩
   .rw[cZ a];grind
  .rw[cZ (by grind [Zj]),cZ d];unfold QL;rw[SR,SP,(Ez q.aO b x s).1];by_cases a:iE now q.dI b x s<=now
   .rw[dT a,dT a];exact .inl ⟨_,rfl,rfl⟩
   .rw[cZ a,cZ a];grind
theorem Q3{a:TK}(h:aI a.ae 16=true/\aI q.aO 32=false\/aW now M.aA<a.start):dA M now (eu M now q a)=(aY now 33,M):=by
 unfold eu;rw[dT h];rfl
theorem U6{a:TK}(h:¬ (aI a.ae 16=true/\aI q.aO 32=false\/aW now M.aA<a.start))(b:a.fin<now):dA M now (eu M now q a)=(aY now 32,M):=by
 unfold eu;rw[cZ h,dT b];rfl
theorem U7{a:TK}{y x:Option BE}(h:¬ (aI a.ae 16=true/\aI q.aO 32=false\/aW now M.aA<a.start))(b:¬ a.fin<now)(g:BE.find M.aF q.aV=y)(f:BE.find M.aF a.ay=x)(d:dS y x now 7 6 2 1≠0):dA M now (eu M now q a)=(aY now (dS y x now 7 6 2 1),M):=by
 unfold eu;rw[cZ h,cZ b,g,f];cases y with
 |none=>rfl
 |some s=>
  cases x with
  |none=>rfl
  |some e=>
   simp only[];rw[dT d];rfl
theorem U9{a:TK}{s:BE}(h:¬ (aI a.ae 16=true/\aI q.aO 32=false\/aW now M.aA<a.start))(b:¬ a.fin<now)(i:BE.find M.aF q.aV=some s)(g:BE.find M.aF a.ay=some e)(d:dS (some s) (some e) now 7 6 2 1=0)(f:ku q.aO a.ae=false):dA M now (eu M now q a)=(aY now 13,M):=by
 unfold eu;rw[cZ h,cZ b,i,g];simp only[];rw[cZ (λn=>n d),dT f];rfl
theorem Zk{c:Int}{a:TK}{s:BE}(h:¬ (aI a.ae 16=true/\aI q.aO 32=false\/aW now M.aA<a.start))(g:¬ a.fin<now)(l:BE.find M.aF q.aV=some s)(k:BE.find M.aF a.ay=some e)(j:dS (some s) (some e) now 7 6 2 1=0)(f:ku q.aO a.ae=true)(d:oJ now q a e s=.error c):dA M now (eu M now q a)=(aY now c,M):=by
 unfold eu;rw[cZ h,cZ g,l,k];simp only[];rw[cZ (λn=>n j),cZ (by rw[f];decide)];rcases EJ (now:=now) (x:=e) (s:=s) f with⟨m,b,i⟩|⟨t,n,b,_,_⟩
 .rw[d]at b;injection b with b;subst b;rw[i];rfl
 .rw[d]at b;cases b
theorem SO{a t:TK}{s:BE}(h:¬ (aI a.ae 16=true/\aI q.aO 32=false\/aW now M.aA<a.start))(g:¬ a.fin<now)(m:BE.find M.aF q.aV=some s)(l:BE.find M.aF a.ay=some e)(k:dS (some s) (some e) now 7 6 2 1=0)(f:ku q.aO a.ae=true)(d:oJ now q a e s=.ok t):dA M now (eu M now q a)=if M.aL.length<24 then(aY now 60,M) else(lU 13 {t with aN:=eF M.aL 0} s q.bV 0 a.aN 5 (eF M.aL 1) (eF M.aL 2),{M with aL:=M.aL.drop 24}):=by
 unfold eu;rw[cZ h,cZ g,m,l];simp only[];rw[cZ (λn=>n k),cZ (by rw[f];decide)];rcases EJ (now:=now) (x:=e) (s:=s) f with⟨n,b,_⟩|⟨p,o,b,i,j⟩
 .rw[d]at b;cases b
 .rw[d]at b;injection b with b;subst b;rw[i,j];rfl
variable {es:List BE}{T g hb:Nat}{dQ sW:Nat->Nat->Prop}{dp po pr:Option Pl}{t:TK}{fv rv:Value}{W W' w:World}{J:World->Prop}
def th(g:Nat)(po:Option Pl)(dQ:Nat->Nat->Prop)(b y:Nat):Prop:=pL po dQ b y\/b=g/\163<=y/\y<188
structure NX(w W:World)(hb g T:Nat)(fv ro rr:Value)(po pr dp:Option Pl)(dQ:Nat->Nat->Prop)(M:DM)(now:Int)(ask old:List Value):Prop where
 hear:yE W hb g T fv ro rr now
 bP:dE W g 0 dp M
 oq:f' W ro po []
 r:f' W rr pr []
 ask:W.rangeAt w.1.size 0 ask
 old:W.rangeAt (w.1.size+1) 0 old
 made:b' W (w.1.size+2) 7
 big:w.1.size<=W.1.size
 cf:CF w W (th g po dQ)
theorem NX.step{a:Nat}{m n:Value}{d f:List Value}(h:NX w W hb g T fv m n po pr dp dQ M now d f)(S:HS hb g a T fv rv po pr dp J dQ sW es)(k:CF W W' (λb y=>pL po dQ b y\/w.1.size+1<b))(l:a<=w.1.size)(hpo:∀b y,Pl.has po b y->b<w.1.size):NX w W' hb g T fv m n po pr dp dQ M now d f:=by
 have b:=S.hbb;have p:=S.gb;refine⟨h.hear.cf k ?_,h.bP.cf k ?_ ?_,h.oq.cf k fA,h.r.cf k fA,k.range h.ask ?_,k.range h.old ?_,h.made.cf k,?_,?_⟩
 .rintro y ((e|e)|e)
  .exact S.hbF y e
  .exact pE S.poH y e
  .omega
 .exact Fk
 .exact Hi
 .exact AD
 .exact AD
 .exact cE h.big k.size
 .exact h.cf.trans k (λi o r e=>by rcases e with e|e;exact .inl e;omega)
structure KV(J:World->Prop)(w W:World)(hb g T:Nat)(fv ro rr:Value)(po pr dp:Option Pl)(dQ:Nat->Nat->Prop)(M:DM)(now:Int)(ask old:List Value):Prop extends NX w W hb g T fv ro rr po pr dp dQ M now ask old where
 j:J W
theorem KV.step{a:Nat}{l m:Value}{f i:List Value}(h:KV J w W hb g T fv l m po pr dp dQ M now f i)(S:HS hb g a T fv rv po pr dp J dQ sW es)(k:CF W W' (λb y=>Pl.has po b y\/w.1.size+1<b))(d:a<=w.1.size)(j:∀b y,Pl.has po b y->b<w.1.size):KV J w W' hb g T fv l m po pr dp dQ M now f i:=
 ⟨h.toNX.step S (k.mono (λ_ _ _ e=>e.elim (λe=>.inl (.inr e)) .inr)) d j,S.finds.stay _ _ h.j (k.mono (λb y _ e=>e.elim (S.poJ b y) (λe=>S.AO b y G)))⟩
theorem Nn{b:Nat}{k:Value}{a:Int}(m:dE W g 0 dp M)(i:w.1.size<=W.1.size)(d:CF w W (th g po dQ))(h:aU W W' k pr (aY now a))(S:HS hb g b T fv rv po pr dp J dQ sW es)(n:J W):Fin w W' g po pr dp dQ k (aY now a,M)/\J W':=by
 obtain⟨p,l,f,r,_⟩:=h;refine⟨?_,S.finds.stay _ _ n (by grind [HS.prJ,CF.mono])⟩;refine⟨⟨p,l,(by grind [mJ])⟩,⟨dp,m.cf f (by grind [HS.prG]) (λq o j _ e=>((S.M6 q o).2.2.2 _).2.2 e),fA⟩,?_⟩;exact(d.mono (λ_ _ _ e=>by rcases e with e|e;exact .inr (.inl e);omega)).trans f fA
theorem AU{c:Int}{q:NQ}(h:(iH M now q).1=.error c):c=36\/c=7\/c=44\/c=31\/c=37\/c=34\/c=60:=by
 unfold iH iW at h;grind [ve]
theorem Q4{s:BE}{e:E}{f:Int}{d a b c:UInt64}{g:RP}(i:g=⟨t,e,s.aH,s.key,0,f,0,d,0⟩)(h:s.name=e):[]++(g.drawn a b c).uZ 13 5=lU 13 {t with aN:=a} s f 0 d 5 b c:=by
 rw[<-RP.DV,i,<-h];rfl
theorem I'(h:p:=by
 injection h with h
 subst h
 refine⟨⟨ho.ae,ho.dV,dB,?_,ho.aC⟩,rfl⟩
 show b9 (gS old.aC (aW now (gq old.fin old.start)))
 have i1:=ho.aC
 have i2:b9 (aW now (gq old.fin old.start)):=AL _
 grind [gS]):p:=h
theorem FK(h:p:=by
 injection h with h
 subst h
 refine⟨⟨?_,ho.dV,ho.start,ho.fin,ho.aC⟩,rfl⟩
 have e:=zK old.ae ho.ae
 have i:=qQ old.ae 16
 rw[e]at i
 exact i):p:=h
theorem Zl{q:NQ}{old:TK}{x s:BE}(ho:old.In)(dB:b9 now)(f:b9 q.dI)(g:b9 q.bX)(h:oJ now q old x s=.ok t):t.In/\t.ay=old.ay:=by
 unfold oJ at h;by_cases d:Gv q.aO=32
 .rw[dT d]at h;unfold yC at h;by_cases a:now<old.start
  .rw[dT a]at h;cases h
  .rw[cZ a]at h;exact FK
 .rw[cZ d]at h;by_cases b:Gv q.aO=16
  .rw[dT b]at h;unfold yD at h;by_cases a:old.aC<=now
   .rw[dT a]at h;cases h
   .rw[cZ a]at h;exact I'
  .rw[cZ b]at h;unfold QL at h;by_cases a:JZ now q old x s<=now
   .rw[dT a]at h;cases h
   .rw[cZ a]at h;injection h with h;subst h;refine⟨⟨?_,ho.dV,dB,?_,?_⟩,rfl⟩
    .show b9 (vX q.aO old x s);rw[(Ez q.aO old x s).1];unfold iL ig b9;(repeat' split)<;>omega
    .show b9 (JZ now q old x s);have i1:=ho.fin;have i2:b9 (gS (j9 q.dI) (gS (aW now x.bI) (aW now s.bI))):=lH f;grind [JZ]
    .show b9 (QH now q old x s);have i1:=ho.aC;have i2:b9 (gS (j9 q.bX) (gS (aW now x.aC) (aW now s.aC))):=lH g;grind [QH,b9]
theorem Va{s:BE}{d:E}{g:Int}{f a b c:UInt64}{h:RP}(n:h=⟨t,d,s.aH,s.key,0,g,0,f,0⟩)(e:t.In)(k:b9 g)(l:s.In)(m:s.name=d)(j:t.ay.length<=1000):(h.drawn a b c).Fits:=by
 subst n;have i:=l.aH;refine⟨e.ae,e.dV,e.start,e.fin,e.aC,?_,k,(show b9 0 from⟨by decide,by decide⟩),j,?_⟩
 .show b9 s.aH;unfold b9;omega
 .show d.length<=1000;grind [BE.In.name]
set_option maxHeartbeats 2000000
variable {b:Nat}
theorem Tryz.ZC:(prog.info? 233).map (·.size)=some 3:=by kernel_rfl
theorem IV(h:b' w b 3):(∃d,w.c b 0=some d)/\(∃d,w.c b 1=some d)/\(∃d,w.c b 2=some d)/\w.z b 0=false/\w.z b 1=false/\w.z b 2=false:=by
 have a:=λj d=>cA.1 (h.some j d);exact⟨a 0 O,a 1 O,a 2 O,h.frozen 0,h.frozen 1,h.frozen 2⟩
theorem fF(h:b' w b 3)(x y z):(((w.s b 0 x).s b 1 y).s b 2 z).rangeAt b 0 [x,y,z]:=jI [x,y,z] 0 w b 3 h (cy 3)
theorem rM{x y z:Value}(h:w.rangeAt b 0 [x,y,z]):(loadVar 233 ⟨b,0,none⟩).run prog w=.ok (.agg #[x,y,z]) w:=eP h 233 _ underlying233 rfl Tryz.ZC
abbrev zV:Array Value:=#[ε,Y 0,σ]
def ET(w:World)(o:Option (E×Int×E))(s:E)(n:Int)(z:Value):Prop:=∀q,o=some q->s=q.1/\n=q.2.1/\wm w z q.2.2/\q.2.2.length<=100000
theorem tu(w)(s)(n)(z):ET w none s n z:=λ_ h=>by cases h
theorem wq(h:p:=by
 go_wp2_with fail
 go_region
 go_wp2
 (try simp only[Exit.inBlock,Exit.then])
 refine bodyPost_ret (aG results108 _ _ _ (w.1.size+1) rfl _ (rM (fF yj _ _ _))) rfl ?_
 have GF:=λx y z=>bg (az (g:=w.1.size+1) (j:=2) (u:=z) (az (g:=w.1.size+1) (j:=1) (u:=y) (az (g:=w.1.size+1) (j:=0) (u:=x) kS G) G) G)
 exact⟨p0.ins,v,_,by rw[vI];rfl,NI.1,rfl,HFin _ (GF _ _ _),GF _ _ _⟩):p:=h
theorem A3(h:p:=by
 go_wp2
 refine bodyPost_ret (aG results108 _ _ _ (w.1.size+1) rfl _ (rM (fF sQ _ _ _))) rfl ?_
 exact⟨[],0,_,by rw[HO];rfl,gP,rfl,by rw[HO];exact tu _ _ _ _,az (az (az kG G) G) G⟩):p:=h
theorem zW(p:Pc)(w)(h:At w p.ad p.ins)(b:p.ins.length<=p.cap)(k:p.cap<=maxLen)(f:p.ins.length<=100000):Calls prog 108 #[.agg #[.int .u8 (p.tag.toNat:Int),.slice p.ad p.ins.length p.cap]] w λe a=>∃s n z,e=.returned (.tuple #[.agg #[.string ⟨s.toArray⟩,Y n,z],.bool (gY p.pair).isSome])/\b9 n/\z.oneCell'=true/\ET a (gY p.pair) s n z/\w.grownBy a none:=by
 have i:Hid (gY p.pair=(if p.tag.toNat=48 then Box.dF p.ins else none).bind qI):=rfl
 obtain⟨O,a⟩:=aq (gY p.pair)
 rw[a]at i⊢
 clear a
 have a:=aM (cx w (.cells #[.int .u8 (p.tag.toNat:Int),.slice p.ad p.ins.length p.cap] 117) none) (.cells zV 233)
 have d:=I (qR p.ins (.slice p.ad p.ins.length p.cap) _ ⟨p.ad,p.cap,rfl,b,k,h.below a⟩ f)
 have HB:=I ((dz.new w #[.int .u8 (p.tag.toNat:Int),.slice p.ad p.ins.length p.cap] 117).alloc (.cells zV 233))
 have l:Hid (b' ((w.alloc (.cells #[.int .u8 (p.tag.toNat:Int),.slice p.ad p.ins.length p.cap] 117)).alloc (.cells zV 233)) (w.1.size+1) 3):=by
  have h:=b'.new (w.alloc (.cells #[.int .u8 (p.tag.toNat:Int),.slice p.ad p.ins.length p.cap] 117)) zV 233;rw[cF]at h;exact h
 have m:=I a
 have X:=I f
 have R:Hid (wm w (.slice p.ad p.ins.length p.cap) p.ins):=⟨p.ad,p.cap,rfl,b,k,h⟩
 clear a h b k f
 obtain⟨cl,a⟩:=aq (Box.dF p.ins)
 rw[a]at i d
 have JD:=I a
 clear a
 go_in
 go_wp2_with fail
 refine d.mono ?_
 rintro e U ⟨x,rfl,S,k,b⟩
 clear d
 have kG:=I (aa m b)
 have a:=HB.grown b Z
 have sQ:=I (l.grown b)
 have t0:=a.cell 0
 simp only[cH,cG]at t0
 obtain⟨⟨e0,k0⟩,⟨e1,k1⟩,⟨e2,k2⟩,f0,f1,f2⟩:=IV sQ.o
 clear m HB b l a
 cases cl with
 |none=>
  have HO:Hid (O=none):=by
   show _=_;rw[i];split<;>rfl
  obtain rfl:=k rfl;clear S k i;simp only[Option.isSome_none];exact A3
 |some ps=>
  obtain⟨l,B,h,f,_⟩:=S ps rfl;clear S k;simp only[dj];by_cases K:p.tag.toNat=48
  .have hb:((p.tag.toNat:Int) != 48)=false:=tx;rw[dT K]at i;clear K;by_cases k:l.length=3
   .obtain⟨p0,t,a,rfl⟩:=ES k;have HO:Hid (O=(dm p0.pair).bind λs=>(bG t.pair).bind λn=>(jq a.pair).bind λz=>some (s,n,z)):=by
     show _=_;rw[i,<-h];rfl
    obtain⟨g,c,rfl,d⟩:=B.some Z;have A:U.c g 0=some (.int .u8 (p0.tag.toNat:Int)):=d.tag 0 Z;have J:U.c g 1=some (.slice p0.ad p0.ins.length p0.cap):=d.ins 0 Z;have r:=I d;have HZ:Hid (∀W,w.grownBy W none->wm W (.slice a.ad a.ins.length a.cap) a.ins):=λW T=>f a Z W (R.grown T);clear f;have b:=JD.o;rw[<-h]at b;have L:Hid (p0.ins.length<=100000):=cE (Box.lX b (p0.tag,p0.ins) (by simp[Pc.pair])) X.o;have P:Hid (a.ins.length<=100000):=cE (Box.lX b (a.tag,a.ins) (by simp[Pc.pair])) X.o;have q:=I (qU p0 U (d.2 p0 Z).1 (cE L a7));obtain⟨N,m⟩:=aq (dm p0.pair);have D:Hid (∀y,N=some y->y=p0.ins):=by
     intro y C;rw[C]at m;unfold dm at m;split at m
     .injection m with m;exact m.symm
     .cases m
    rw[m]at q HO;clear i h k B d m b;simp only[de,List.length_nil];go_wp2_with (go_at_call 96;refine q.mono ?_;clear q;rintro e V ⟨rfl,m⟩;have d:=r.grown m;have c2:V.c g 2=some (.int .u8 (t.tag.toNat:Int)):=d.tag 1 Z;have c3:V.c g 3=some (.slice t.ad t.ins.length t.cap):=d.ins 1 Z;have C:=I (aa kG m);have yO:=I (sQ.grown m);have HV:=I (uj t V (d.2 t Z).1);have Vp:=I d;clear r d m kG sQ t0 k0 k1 k2 f0 f1 f2 A J)
    refine HV.mono ?_;rintro e w3 ⟨v,rfl,B,r⟩;have d:=Vp.grown r;have d2:w3.c g 4=some (.int .u8 (a.tag.toNat:Int)):=d.tag 2 Z;have d3:w3.c g 5=some (.slice a.ad a.ins.length a.cap):=d.ins 2 Z;have kS:=I (aa C r);have yj:=I (yO.grown r);obtain⟨⟨e0,k0⟩,⟨e1,k1⟩,⟨e2,k2⟩,f0,f1,f2⟩:=IV yj.o;have NI:Hid (b9 v/\∀y,bG t.pair=some y->v=y):=B;obtain⟨M,hM⟩:=aq (bG t.pair);rw[hM]at NI HO⊢;obtain⟨J,A⟩:=aq a.tag.toNat;have Q:Hid (O.isSome=(N.isSome&&M.isSome&&decide (J=4))/\∀q,O=some q->p0.ins=q.1/\v=q.2.1/\a.ins=q.2.2):=by
     show _/\_;rw[HO];show _=_/\_;cases N with
     |none=>exact⟨rfl,λq b=>by cases b⟩
     |some s=>
      cases M with
      |none=>exact⟨rfl,λq b=>by cases b⟩
      |some y=>
       show(Option.bind (if a.tag.toNat=4 then some a.ins else none) _).isSome=_/\∀q,(Option.bind (if a.tag.toNat=4 then some a.ins else none) _)=_->_;rw[A];by_cases m:J=4
       .rw[dT m];refine⟨by simp[m],λq b=>?_⟩;injection b with b;subst b;exact⟨(D s rfl).symm,NI.2 y rfl,rfl⟩
       .rw[cZ m];exact⟨by simp[m],λq b=>by cases b⟩
    rw[A]at d2;clear HV Vp d r B C yO c2 c3 hM A HO D;have HFin:Hid (∀W,w.grownBy W none->ET W O p0.ins v (.slice a.ad a.ins.length a.cap)):=by
     intro W T q b;obtain⟨A,C,r⟩:=Q.2 q b;exact⟨A,C,by rw[<-r];exact HZ W T,by rw[<-r];exact P⟩
    have d:=I Q.1;clear Q HZ;obtain⟨C,r⟩:=aq N.isSome;obtain⟨A,q⟩:=aq M.isSome;rw[r,q]at d;rw[r,q];clear r q;cases C with
    |false=>
     have vI:Hid (O.isSome=false):=d.o;clear d;exact wq
    |true=>
     cases A with
     |false=>
      have vI:Hid (O.isSome=false):=d.o;clear d;exact wq
     |true=>
      by_cases m:J=4
      .have q:((J:Int)==4)=true:=pS;have vI:Hid (O.isSome=true):=(by show _=_;rw[d];simp[m]);clear d m;exact wq
      .have q:((J:Int)==4)=false:=mN;have vI:Hid (O.isSome=false):=(by show _=_;rw[d];simp[m]);clear d m;exact wq
   .have HO:Hid (O=none):=by
     show _=_;rw[i,<-h];exact GQ _ (by rw[cR];exact k)
    obtain⟨b,c,rfl,_⟩:=B;obtain⟨n,a⟩:=aq l.length;rw[a]at k⊢;have d:((n:Int) != 3)=true:=oS;clear i h k a f;exact A3
  .have hb:((p.tag.toNat:Int) != 48)=true:=oS;have HO:Hid (O=none):=by
    show _=_;rw[i,cZ K];rfl
   obtain⟨b,c,rfl,_⟩:=B;clear i h K f;exact A3
