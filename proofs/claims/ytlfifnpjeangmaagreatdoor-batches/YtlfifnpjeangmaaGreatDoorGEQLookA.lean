import Derived.Test.YtlfifnpjeangmaaGreatDoorGEPAdmB
namespace Go.Proofs.YtlfifnpjeangmaaGreatDoor
set_option maxHeartbeats 1000000
open Proofs.Tryz Go.RowKit
set_option maxRecDepth 100000
variable {ls:List BE}{p:Prop}
theorem ab0{a b:List UInt8}{S T:ByteArray}(hS:S=⟨a.toArray⟩)(c:T=⟨b.toArray⟩):(S.toList==T.toList)=(a==b):=by
 subst hS c;rw[ByteArray.toList_mk,ByteArray.toList_mk]
structure jF(w:World)(g o:Nat)(ls:List BE)(nx:Nat):Prop where
 live:Live w g (o+34)
 R9:∀k(hk:k<ls.length),w.rangeAt g (o+k*8) ls[k].bE
 count:w.cell? (g,o+32)=some (ι ls.length)
 next:w.cell? (g,o+33)=some (ι nx)
 len:ls.length<=4
 nx4:nx<4
 nxl:ls.length<4->nx=ls.length
theorem jF.cf{w w':World}{ex:Nat->Nat->Prop}{g o:Nat}{b:Nat}(h:jF w g o ls b)(k:CF w w' ex)(d:∀j,o<=j->j<o+34->¬ ex g j):jF w' g o ls b:=
 ⟨h.live.cf k,λi c=>k.range (h.R9 i c) (λj a=>d _ agE (by have:=h.len;have a:j<8:=a;omega)),(by grind [CF.cell,jF.count]),(by grind [CF.cell,jF.next]),h.len,h.nx4,h.nxl⟩
theorem jF.grown{w w':World}{g o:Nat}{a:Nat}(h:jF w g o ls a)(k:w.grownBy w' none):jF w' g o ls a:=h.cf (CF.bF k (λ_ _=>False)) (λ_ _ _ e=>e)
theorem uC(e:BE):∃v0 v1 v2 v3 v4 v5 v6 v7,e.bE=[.string v0,ι v1,υ v2,υ v3,ι v4,ι v5,ι v6,ι v7]/\v0=⟨e.name.toArray⟩:=⟨_,_,_,_,_,_,_,_,rfl,rfl⟩
theorem JI{l:List UInt8}(h:∀j(a:j<ls.length),ls[j].name≠l):BE.find ls l=none:=by
 unfold BE.find;rw[List.find?_eq_none];intro e b hn;obtain⟨j,a,rfl⟩:=List.getElem_of_mem b;grind
theorem JJ{l:List UInt8}{k:Nat}(a:k<ls.length)(hn:ls[k].name=l)(h:∀j(b:j<ls.length),j<k->ls[j].name≠l):BE.find ls l=some ls[k]:=by
 unfold BE.find;rw[List.find?_eq_some_iff_getElem];grind
theorem Qa(g o:Nat)(ls)(a)(w)(h:jF w g o ls a):
  Calls prog 120 #[(g,o)] w λe w'=>e=.returned (ι ls.length)/\w'=w:=by
 have b:=h.count
 clear h
 go_enter func120,ntmps120
 exact aaE
theorem Iw(g o:Nat)(ls)(N)(l)(w)(h:jF w g o ls N):
  Calls prog 286 #[(g,o),.string ⟨l.toArray⟩] w λe w'=>e=.returned (nM (BE.find ls l))/\w.grownBy w' none:=by
 obtain⟨p,c⟩:=aw (w.alloc (.cells noEntry 126))
 have A:Hid (w.grownBy p none):=by show World.grownBy _ _ _;grind [cx]
 have u:Hid (Live p w.heap.size 8):=by show Live _ _ _;rw[c];exact Live.new w noEntry _
 obtain⟨m,n⟩:=aq ls.length
 have M:=A.o.cell h.count agI
 rw[n]at M
 have U:m<=4:=by rw[<-n];exact h.len
 have L:Hid (∀k(q),p.rangeAt g (o+k*8) ls[k].bE):=λk q=>gX (h.R9 k q) A.o
 obtain⟨S,hS⟩:∃S:ByteArray,S=⟨l.toArray⟩:=⟨_,rfl⟩
 rw[<-hS]
 obtain⟨⟨d0,G⟩,⟨d1,F⟩,⟨d2,C⟩,⟨d3,I⟩,⟨d4,J⟩,⟨d5,H⟩,⟨d6,K⟩,⟨d7,B⟩,f0,f1,f2,f3,Z,f5,f6,f7⟩:=gG u.o
 have f:g≠w.heap.size:=λe=>by have:=h.live.lt;omega
 have HS:=hid hS
 have P:=hid n
 have x:=hid c
 have W:=hid f
 clear hS n c h f
 go_enter func286,ntmps286
 go_wp2_with (first|(rw[<-x.o];fail_if_success done)|fail)
 go_loopw [6,11] (λ_ i wr=>∃k:Nat,k<=m/\i = ι k/\wr=p/\Hid (∀j(z:j<ls.length),j<k->ls[j].name≠l)) (λ_ i _=>m-(intOf i).toNat)
 case atStart=>exact⟨0,cS _,rfl,rfl,λj _ z=>by omega⟩
 case round=>
  obtain⟨k,q,rfl,rfl,Y⟩:=hrel;by_cases t:k<m
  ·have mU:(k:Int)<(m:Int):=agE;have Q:(k:Int)<4:=agE;have O:(0:Int)<=(k:Int):=agE;have b:k<ls.length:=(by rw[P.o];exact t);obtain⟨e,y⟩:=aq (ls[k]);have a:=L.o k b;rw[y]at a;obtain⟨v0,v1,v2,v3,v4,v5,v6,v7,v,d⟩:=uC e;have R:=hid v;rw[v]at a;have x0:wr.cell? (g,o+k*8)=some (.string v0):=a 0 _ rfl;have x1:=a 1 _ rfl;have x2:=a 2 _ rfl;have x3:=a 3 _ rfl;have x4:=a 4 _ rfl;have x5:=a 5 _ rfl;have x6:=a 6 _ rfl;have x7:=a 7 _ rfl;have HEq:Hid ((v0.toList==S.toList)=(e.name==l)):=ab0 d HS.o;have r:=hid y;clear a v y d;by_cases D:(v0.toList==S.toList)=true
   ·go_wp2_with fail;have s:ls[k].name=l:=agR;have E:=JJ b s Y.o;rw[r.o]at E;rw[E];refine bodyPost_ret (aF results286 _ _ _ w.heap.size rfl _ (eG (jo _ w.heap.size _ _ _ _ _ _ _ _ G F C I J H K B) 126 _ underlying126 rfl Tryz.iT)) rfl ⟨by simp only[nM,rE];rw[R.o];rfl,?_⟩;grind [az,RowKit.Hid.o]
   ·have T:(v0.toList==S.toList)=false:=(by simpa using D);clear D;go_wp2;go_roundw
    case rel=>
     refine⟨k+1,by omega,by go_num,by first|rfl|trivial,λj z X=>?_⟩;grind [RowKit.Hid.o]
    case measure=>simp[intOf];omega
  ·have V:k=m:=agE;subst V;go_wp2;rw[JI agR];refine bodyPost_ret (aF results286 _ _ _ w.heap.size rfl _ (eG (jo _ w.heap.size _ _ _ _ _ _ _ _ G F C I J H K B) 126 _ underlying126 rfl Tryz.iT)) rfl ⟨rfl,?_⟩;grind [RowKit.Hid.o,az]
variable {e:BE}{M:DM}{now:Int}{q:NQ}
theorem acF(now)(q)(old)(x s):JU now q old x s=iD now q.dI old x s:=by
 unfold JU iD lesser;generalize asked q.dI=a;generalize aW now x.bI=b;generalize aW now s.bI=c;(repeat' split)<;>omega
theorem acG(now)(q)(old)(x s):Qw now q old x s=fu q.aO old.ae x s now (lesser (asked q.bW) old.aC):=by
 unfold Qw fu;rw[(Ex q.aO old x s).2];have e:(aI q.aO 4&&aI old.ae 4&&(x.has 2&&s.has 2))=true↔(aI q.aO 4=true/\aI old.ae 4=true/\x.has 2=true/\s.has 2=true):=by
  grind
 by_cases h:(aI q.aO 4&&aI old.ae 4&&(x.has 2&&s.has 2))=true
 ·rw[if_pos h,if_pos (e.1 h)];unfold lesser;generalize asked q.bW=a;generalize aW now x.aC=b;generalize aW now s.aC=c;(repeat' split)<;>omega
 grind
theorem UO{o f:Int}(h:jZ o f=true):vI o<=1:=by
 grind [jZ]
theorem YY{o:Int}(h:vI o<=1):Gt o=32↔aI o 32=true:=by
 grind [Gt,vI]
theorem YZ{o:Int}(h:vI o<=1):Gt o=16↔aI o 16=true:=by
 grind [vI,Gt]
theorem EH{old:TK}{x s:BE}(h:jZ q.aO old.ae=true):
  (∃c,oH now q old x s=.error c/\fresh now old x s q.dI q.bW q.aO=.error c)\/∃t i,oH now q old x s=.ok t/\fresh now old x s q.dI q.bW q.aO=.ok i/\∀a,{t with aN:=a}={i with aN:=a}:=by
 have hw:=UO h
 unfold oH fresh
 by_cases f:aI q.aO 32=true
 ·rw[if_pos ((YY hw).2 f),if_pos f];unfold yz;by_cases g:now<old.start
  ·rw[if_pos g];exact .inl ⟨_,rfl,rfl⟩
  ·rw[if_neg g];grind
 ·rw[if_neg (by grind [YY]),if_neg f];by_cases d:aI q.aO 16=true
  ·rw[if_pos ((YZ hw).2 d),if_pos d];unfold yA;by_cases b:old.aC<=now
   ·rw[if_pos b];exact .inl ⟨_,rfl,rfl⟩
   ·rw[if_neg b];grind
  ·rw[if_neg (by grind [YZ]),if_neg d];unfold Qx;rw[acF,acG,(Ex q.aO old x s).1];by_cases b:iD now q.dI old x s<=now
   ·rw[if_pos b,if_pos b];exact .inl ⟨_,rfl,rfl⟩
   ·rw[if_neg b,if_neg b];grind
theorem QR{old:TK}(h:aI old.ae 16=true/\aI q.aO 32=false\/aW now M.aA<old.start):dz M now (ek M now q old)=(aY now 33,M):=by
 unfold ek;rw[if_pos h];rfl
theorem UQ{old:TK}(h:¬ (aI old.ae 16=true/\aI q.aO 32=false\/aW now M.aA<old.start))(a:old.fin<now):dz M now (ek M now q old)=(aY now 32,M):=by
 unfold ek;rw[if_neg h,if_pos a];rfl
theorem UR{old:TK}{y x:Option BE}(h:¬ (aI old.ae 16=true/\aI q.aO 32=false\/aW now M.aA<old.start))(a:¬ old.fin<now)(hy:BE.find M.aG q.aV=y)(c:BE.find M.aG old.ay=x)(b:dS y x now 7 6 2 1≠0):dz M now (ek M now q old)=(aY now (dS y x now 7 6 2 1),M):=by
 unfold ek;rw[if_neg h,if_neg a,hy,c];cases y with
 |none=>rfl
 |some s=>
  cases x with
  |none=>rfl
  |some e=>
   simp only[];rw[if_pos b];rfl
theorem UT{old:TK}{s:BE}(h:¬ (aI old.ae 16=true/\aI q.aO 32=false\/aW now M.aA<old.start))(a:¬ old.fin<now)(hy:BE.find M.aG q.aV=some s)(d:BE.find M.aG old.ay=some e)(b:dS (some s) (some e) now 7 6 2 1=0)(c:jZ q.aO old.ae=false):dz M now (ek M now q old)=(aY now 13,M):=by
 unfold ek;rw[if_neg h,if_neg a,hy,d];simp only[];rw[if_neg (λn=>n b),if_pos c];rfl
theorem Y0{c:Int}{old:TK}{s:BE}(h:¬ (aI old.ae 16=true/\aI q.aO 32=false\/aW now M.aA<old.start))(g:¬ old.fin<now)(hy:BE.find M.aG q.aV=some s)(f:BE.find M.aG old.ay=some e)(i:dS (some s) (some e) now 7 6 2 1=0)(b:jZ q.aO old.ae=true)(d:oH now q old e s=.error c):dz M now (ek M now q old)=(aY now c,M):=by
 unfold ek;rw[if_neg h,if_neg g,hy,f];simp only[];rw[if_neg (λn=>n i),if_neg (by rw[b];decide)];rcases EH (now:=now) (x:=e) (s:=s) b with⟨k,a,j⟩|⟨t,l,a,_,_⟩
 ·rw[d]at a;injection a with a;subst a;rw[j];rfl
 ·rw[d]at a;cases a
theorem acH{old t:TK}{s:BE}(h:¬ (aI old.ae 16=true/\aI q.aO 32=false\/aW now M.aA<old.start))(g:¬ old.fin<now)(hy:BE.find M.aG q.aV=some s)(d:BE.find M.aG old.ay=some e)(i:dS (some s) (some e) now 7 6 2 1=0)(b:jZ q.aO old.ae=true)(c:oH now q old e s=.ok t):dz M now (ek M now q old)=if M.aL.length<24 then(aY now 60,M) else(lU 13 {t with aN:=eB M.aL 0} s q.bU 0 old.aN 5 (eB M.aL 1) (eB M.aL 2),{M with aL:=M.aL.drop 24}):=by
 unfold ek;rw[if_neg h,if_neg g,hy,d];simp only[];rw[if_neg (λn=>n i),if_neg (by rw[b];decide)];rcases EH (now:=now) (x:=e) (s:=s) b with⟨k,a,_⟩|⟨m,l,a,j,f⟩
 ·rw[c]at a;cases a
 ·rw[c]at a;injection a with a;subst a;rw[j,f];rfl
variable {es:List BE}{T g hb:Nat}{dQ sU:Nat->Nat->Prop}{dp po pr:Option Pl}{t:TK}{fv rv:Value}{W W' w:World}{J:World->Prop}
def exA(g:Nat)(po:Option Pl)(dQ:Nat->Nat->Prop)(b y:Nat):Prop:=exX po dQ b y\/b=g/\163<=y/\y<188
structure NX(w W:World)(hb g T:Nat)(fv ro rr:Value)(po pr dp:Option Pl)(dQ:Nat->Nat->Prop)(M:DM)(now:Int)(ask old:List Value):Prop where
 hear:yB W hb g T fv ro rr now
 bP:dE W g 0 dp M
 o:Out W ro po []
 r:Out W rr pr []
 ask:W.rangeAt w.heap.size 0 ask
 old:W.rangeAt (w.heap.size+1) 0 old
 made:Live W (w.heap.size+2) 7
 big:w.heap.size<=W.heap.size
 cf:CF w W (exA g po dQ)
theorem NX.step{base:Nat}{d f:Value}{a old:List Value}(h:NX w W hb g T fv d f po pr dp dQ M now a old)(S:HS hb g base T fv rv po pr dp J dQ sU es)(k:CF W W' (λb y=>exX po dQ b y\/w.heap.size+1<b))(c:base<=w.heap.size)(hpo:∀b y,Pl.has po b y->b<w.heap.size):NX w W' hb g T fv d f po pr dp dQ M now a old:=by
 have l:=S.hbb;have m:=S.gb;refine⟨h.hear.cf k ?_,h.bP.cf k ?_ ?_,h.o.cf k agM,h.r.cf k agM,k.range h.ask ?_,k.range h.old ?_,h.made.cf k,?_,?_⟩
 ·rintro y ((e|e)|e)
  ·exact S.hbF y e
  ·exact pg S.poH y e
  ·omega
 ·exact afj
 ·exact aei
 ·exact adZ
 ·exact adZ
 ·exact cE h.big k.size
 ·exact h.cf.trans k (λi o n e=>by rcases e with e|e;exact .inl e;omega)
structure KP(J:World->Prop)(w W:World)(hb g T:Nat)(fv ro rr:Value)(po pr dp:Option Pl)(dQ:Nat->Nat->Prop)(M:DM)(now:Int)(ask old:List Value):Prop extends NX w W hb g T fv ro rr po pr dp dQ M now ask old where
 j:J W
theorem KP.step{base:Nat}{f i:Value}{c old:List Value}(h:KP J w W hb g T fv f i po pr dp dQ M now c old)(S:HS hb g base T fv rv po pr dp J dQ sU es)(k:CF W W' (λb y=>Pl.has po b y\/w.heap.size+1<b))(a:base<=w.heap.size)(d:∀b y,Pl.has po b y->b<w.heap.size):KP J w W' hb g T fv f i po pr dp dQ M now c old:=
 ⟨h.toNX.step S (k.mono (λ_ _ _ e=>e.elim (λe=>.inl (.inr e)) .inr)) a d,S.finds.stay _ _ h.j (k.mono (λb y _ e=>e.elim (S.poJ b y) (λe=>S.AA b y agE)))⟩
theorem Ng{base:Nat}{c:Value}{a:Int}(m:dE W g 0 dp M)(f:w.heap.size<=W.heap.size)(b:CF w W (exA g po dQ))(h:aU W W' c pr (aY now a))(S:HS hb g base T fv rv po pr dp J dQ sU es)(i:J W):Fin w W' g po pr dp dQ c (aY now a,M)/\J W':=by
 obtain⟨p',k,d,n,_⟩:=h;refine⟨?_,S.finds.stay _ _ i (by grind [HS.prJ,CF.mono])⟩;refine⟨⟨p',k,(by grind [mI])⟩,⟨dp,m.cf d (by grind [HS.prG]) (λq l j _ e=>((S.MX q l).2.2.2 _).2.2 e),agM⟩,?_⟩;exact(b.mono (λ_ _ _ e=>by rcases e with e|e;exact .inr (.inl e);omega)).trans d agM
theorem AL{c:Int}{q:NQ}(h:(iH M now q).1=.error c):c=36\/c=7\/c=44\/c=31\/c=37\/c=34\/c=60:=by
 unfold iH iV at h;grind [uX]
theorem QS{s:BE}{d:List UInt8}{e:Int}{key a b c:UInt64}{rp:RP}(h:rp=⟨t,d,s.aH,s.key,0,e,0,key,0⟩)(f:s.name=d):[]++(rp.drawn a b c).uW 13 5=lU 13 {t with aN:=a} s e 0 key 5 b c:=by
 rw[<-RP.DT,h,<-f];rfl
theorem aci(h:p:=by
 injection h with h
 subst h
 refine⟨⟨ho.ae,ho.dV,dA,?_,ho.aC⟩,rfl⟩
 show In64 (lesser old.aC (aW now (fV old.fin old.start)))
 have i1:=ho.aC
 have i2:In64 (aW now (fV old.fin old.start)):=Az _
 grind [lesser]):p:=h
theorem ad6(h:p:=by
 injection h with h
 subst h
 refine⟨⟨?_,ho.dV,ho.start,ho.fin,ho.aC⟩,rfl⟩
 have e:=zI old.ae ho.ae
 have i:=qN old.ae 16
 rw[e]at i
 exact i):p:=h
theorem Y1{q:NQ}{old:TK}{x s:BE}(ho:old.In)(dA:In64 now)(j:In64 q.dI)(f:In64 q.bW)(h:oH now q old x s=.ok t):t.In/\t.ay=old.ay:=by
 unfold oH at h;by_cases d:Gt q.aO=32
 ·rw[if_pos d]at h;unfold yz at h;by_cases c:now<old.start
  ·rw[if_pos c]at h;cases h
  ·rw[if_neg c]at h;exact ad6
 ·rw[if_neg d]at h;by_cases b:Gt q.aO=16
  ·rw[if_pos b]at h;unfold yA at h;by_cases a:old.aC<=now
   ·rw[if_pos a]at h;cases h
   ·rw[if_neg a]at h;exact aci
  ·rw[if_neg b]at h;unfold Qx at h;by_cases a:JU now q old x s<=now
   ·rw[if_pos a]at h;cases h
   ·rw[if_neg a]at h;injection h with h;subst h;refine⟨⟨?_,ho.dV,dA,?_,?_⟩,rfl⟩
    ·show In64 (vT q.aO old x s);rw[(Ex q.aO old x s).1];unfold iL gY In64;(repeat' split)<;>omega
    ·show In64 (JU now q old x s);have i1:=ho.fin;have i2:In64 (lesser (asked q.dI) (lesser (aW now x.bI) (aW now s.bI))):=lG j;grind [JU]
    ·show In64 (Qw now q old x s);have i1:=ho.aC;have i2:In64 (lesser (asked q.bW) (lesser (aW now x.aC) (aW now s.aC))):=lG f;grind [Qw,In64]
theorem UU{s:BE}{d:List UInt8}{f:Int}{key a b c:UInt64}{rp:RP}(h:rp=⟨t,d,s.aH,s.key,0,f,0,key,0⟩)(e:t.In)(hn:In64 f)(j:s.In)(l:s.name=d)(k:t.ay.length<=1000):(rp.drawn a b c).Fits:=by
 subst h;have i:=j.aH;refine⟨e.ae,e.dV,e.start,e.fin,e.aC,?_,hn,(show In64 0 from⟨by decide,by decide⟩),k,?_⟩
 ·show In64 s.aH;unfold In64;omega
 ·show d.length<=1000;grind [BE.In.name]
set_option maxHeartbeats 2000000
variable {b:Nat}
theorem Tryz.Zh:(prog.info? 233).map (·.size)=some 3:=by kernel_rfl
theorem IP(h:Live w b 3):(∃d,w.cell? (b,0)=some d)/\(∃d,w.cell? (b,1)=some d)/\(∃d,w.cell? (b,2)=some d)/\w.frozen? (b,0)=false/\w.frozen? (b,1)=false/\w.frozen? (b,2)=false:=by
 have a:=λj c=>cA.1 (h.some j c);exact⟨a 0 agF,a 1 agF,a 2 agF,h.frozen 0,h.frozen 1,h.frozen 2⟩
theorem fD(h:Live w b 3)(x y z):(((w.setCell (b,0) x).setCell (b,1) y).setCell (b,2) z).rangeAt b 0 [x,y,z]:=jH [x,y,z] 0 w b 3 h (cy 3)
theorem rH{x y z:Value}(h:w.rangeAt b 0 [x,y,z]):(loadVar 233 ⟨b,0,none⟩).run prog w=.ok (.agg #[x,y,z]) w:=eG h 233 _ underlying233 rfl Tryz.Zh
abbrev zT:Array Value:=#[.string ⟨#[]⟩,ι 0,.slice none 0 0]
def ER(w:World)(o:Option (List UInt8×Int×List UInt8))(s:List UInt8)(n:Int)(z:Value):Prop:=∀q,o=some q->s=q.1/\n=q.2.1/\vX w z q.2.2/\q.2.2.length<=100000
theorem sZ(w)(s)(n)(z):ER w none s n z:=λ_ h=>by cases h
theorem aac(h:p:=by
 go_wp2_with fail
 go_region
 go_wp2
 (try simp only[Exit.inBlock,Exit.then])
 refine bodyPost_ret (aF results108 _ _ _ (w.heap.size+1) rfl _ (rH (fD yf.o _ _ _))) rfl ?_
 have GF:=λx y z=>bg (az (g:=w.heap.size+1) (j:=2) (u:=z) (az (g:=w.heap.size+1) (j:=1) (u:=y) (az (g:=w.heap.size+1) (j:=0) (u:=x) kR.o agE) agE) agE)
 exact⟨p0.ins,v,_,by rw[vE.o];rfl,Nz.o.1,rfl,HFin.o _ (GF _ _ _),GF _ _ _⟩):p:=h
theorem aaT(h:p:=by
 go_wp2
 refine bodyPost_ret (aF results108 _ _ _ (w.heap.size+1) rfl _ (rH (fD sO.o _ _ _))) rfl ?_
 exact⟨[],0,_,by rw[HO.o];rfl,gL,rfl,by rw[HO.o];exact sZ _ _ _ _,az (az (az kF.o agE) agE) agE⟩):p:=h
theorem zU(p:Pc)(w)(h:At w p.ad p.ins)(hc:p.ins.length<=p.cap)(U:p.cap<=maxLen)(V:p.ins.length<=100000):
  Calls prog 108 #[.agg #[.int .u8 p.tag.toNat,.slice p.ad p.ins.length p.cap]] w λe w'=>∃s n z,e=.returned (.tuple #[.agg #[.string ⟨s.toArray⟩,ι n,z],.bool (gT p.pair).isSome])/\In64 n/\z.oneCell'=true/\ER w' (gT p.pair) s n z/\w.grownBy w' none:=by
 have m:Hid (gT p.pair=(if p.tag.toNat=48 then Box.dF p.ins else none).bind qG):=rfl
 obtain⟨O,hO⟩:=aq (gT p.pair)
 rw[hO]at m⊢
 clear hO
 have Y:=aM (cx w (.cells #[.int .u8 p.tag.toNat,.slice p.ad p.ins.length p.cap] 117) none) (.cells zT 233)
 have HP:=hid (qO p.ins (.slice p.ad p.ins.length p.cap) _ ⟨p.ad,p.cap,rfl,hc,U,h.below Y⟩ V)
 have HB:=hid ((dB.new w #[.int .u8 p.tag.toNat,.slice p.ad p.ins.length p.cap] 117).alloc (.cells zT 233))
 have HC:Hid (Live ((w.alloc (.cells #[.int .u8 p.tag.toNat,.slice p.ad p.ins.length p.cap] 117)).alloc (.cells zT 233)) (w.heap.size+1) 3):=by
  have h:=Live.new (w.alloc (.cells #[.int .u8 p.tag.toNat,.slice p.ad p.ins.length p.cap] 117)) zT 233;rw[cF]at h;exact h
 have HG:=hid Y
 have HL:=hid V
 have X:Hid (vX w (.slice p.ad p.ins.length p.cap) p.ins):=⟨p.ad,p.cap,rfl,hc,U,h⟩
 clear Y h hc U V
 obtain⟨cl,I⟩:=aq (Box.dF p.ins)
 rw[I]at m HP
 have Jy:=hid I
 clear I
 go_enter func108,ntmps108
 go_wp2_with fail
 refine HP.o.mono ?_
 rintro e w1 ⟨x,rfl,h1,r,S⟩
 clear HP
 have kF:=hid (aa HG.o S)
 have P:=HB.o.grown S agI
 have sO:=hid (HC.o.grown S)
 have t0:=P.cell 0
 simp only[cH,cG]at t0
 obtain⟨⟨e0,k0⟩,⟨e1,k1⟩,⟨e2,k2⟩,f0,f1,f2⟩:=IP sO.o
 clear HG HB S HC P
 cases cl with
 |none=>
  have HO:Hid (O=none):=by
   show _=_;rw[m.o];split<;>rfl
  obtain rfl:=r rfl;clear h1 r m;simp only[Option.isSome_none];exact aaT
 |some ps=>
  obtain⟨l,H,k,i,_⟩:=h1 ps rfl;clear h1 r;simp only[dj];by_cases R:p.tag.toNat=48
  ·have hb:((p.tag.toNat:Int) != 48)=false:=ahv;rw[if_pos R]at m;clear R;by_cases r:l.length=3
   ·obtain⟨p0,A,a,rfl⟩:=EP r;have HO:Hid (O=(dh p0.pair).bind λs=>(bG A.pair).bind λn=>(jm a.pair).bind λz=>some (s,n,z)):=by
     show _=_;rw[m.o,<-k];rfl
    obtain⟨g,c,rfl,f⟩:=H.some agI;have c0:w1.cell? (g,0)=some (.int .u8 p0.tag.toNat):=f.tag 0 agI;have c1:w1.cell? (g,1)=some (.slice p0.ad p0.ins.length p0.cap):=f.ins 0 agI;have BZ:=hid f;have HZ:Hid (∀W,w.grownBy W none->vX W (.slice a.ad a.ins.length a.cap) a.ins):=λW hW=>i a agI W (X.o.grown hW);clear i;have d:=Jy.o;rw[<-k]at d;have T:Hid (p0.ins.length<=100000):=cE (Box.lX d (p0.tag,p0.ins) (by simp[Pc.pair])) HL.o;have ae:Hid (a.ins.length<=100000):=cE (Box.lX d (a.tag,a.ins) (by simp[Pc.pair])) HL.o;have Z:=hid (qQ p0 w1 (f.2 p0 agI).1 (cE T.o agF));obtain⟨N,E⟩:=aq (dh p0.pair);have L:Hid (∀y,N=some y->y=p0.ins):=by
     intro y hy;rw[hy]at E;unfold dh at E;split at E
     ·injection E with E;exact E.symm
     ·cases E
    rw[E]at Z HO;clear m k r H f E d;simp only[de,List.length_nil];go_wp2_with (go_at_call 96;refine Z.o.mono ?_;clear Z;rintro e w2 ⟨rfl,C⟩;have f:=BZ.o.grown C;have c2:w2.cell? (g,2)=some (.int .u8 A.tag.toNat):=f.tag 1 agI;have c3:w2.cell? (g,3)=some (.slice A.ad A.ins.length A.cap):=f.ins 1 agI;have K:=hid (aa kF.o C);have yL:=hid (sO.o.grown C);have HV:=hid (uh A w2 (f.2 A agI).1);have Ve:=hid f;clear BZ f C kF sO t0 k0 k1 k2 f0 f1 f2 c0 c1)
    refine HV.o.mono ?_;rintro e w3 ⟨v,rfl,H,t⟩;have f:=Ve.o.grown t;have d2:w3.cell? (g,4)=some (.int .u8 a.tag.toNat):=f.tag 2 agI;have d3:w3.cell? (g,5)=some (.slice a.ad a.ins.length a.cap):=f.ins 2 agI;have kR:=hid (aa K.o t);have yf:=hid (yL.o.grown t);obtain⟨⟨e0,k0⟩,⟨e1,k1⟩,⟨e2,k2⟩,f0,f1,f2⟩:=IP yf.o;have Nz:Hid (In64 v/\∀y,bG A.pair=some y->v=y):=H;obtain⟨M,hM⟩:=aq (bG A.pair);rw[hM]at Nz HO⊢;obtain⟨Q,G⟩:=aq a.tag.toNat;have HX:Hid (O.isSome=(N.isSome&&M.isSome&&decide (Q=4))/\∀q,O=some q->p0.ins=q.1/\v=q.2.1/\a.ins=q.2.2):=by
     show _/\_;rw[HO.o];show _=_/\_;cases N with
     |none=>exact⟨rfl,λq d=>by cases d⟩
     |some s=>
      cases M with
      |none=>exact⟨rfl,λq d=>by cases d⟩
      |some y=>
       show(Option.bind (if a.tag.toNat=4 then some a.ins else none) _).isSome=_/\∀q,(Option.bind (if a.tag.toNat=4 then some a.ins else none) _)=_->_;rw[G];by_cases D:Q=4
       ·rw[if_pos D];refine⟨by simp[D],λq d=>?_⟩;injection d with d;subst d;exact⟨(L.o s rfl).symm,Nz.o.2 y rfl,rfl⟩
       ·rw[if_neg D];exact⟨by simp[D],λq d=>by cases d⟩
    rw[G]at d2;clear HV Ve f t H K yL c2 c3 hM G HO L;have HFin:Hid (∀W,w.grownBy W none->ER W O p0.ins v (.slice a.ad a.ins.length a.cap)):=by
     intro W hW q d;obtain⟨q1,q2,q3⟩:=HX.o.2 q d;exact⟨q1,q2,by rw[<-q3];exact HZ.o W hW,by rw[<-q3];exact ae.o⟩
    have B:=hid HX.o.1;clear HX HZ;obtain⟨bn,J⟩:=aq N.isSome;obtain⟨bm,F⟩:=aq M.isSome;rw[J,F]at B;rw[J,F];clear J F;cases bn with
    |false=>
     have vE:Hid (O.isSome=false):=B.o;clear B;exact aac
    |true=>
     cases bm with
     |false=>
      have vE:Hid (O.isSome=false):=B.o;clear B;exact aac
     |true=>
      by_cases D:Q=4
      ·have ab:((Q:Int)==4)=true:=aht;have vE:Hid (O.isSome=true):=(by show _=_;rw[B.o];simp[D]);clear B D;exact aac
      ·have ab:((Q:Int)==4)=false:=ahd;have vE:Hid (O.isSome=false):=(by show _=_;rw[B.o];simp[D]);clear B D;exact aac
   ·have HO:Hid (O=none):=by
     show _=_;rw[m.o,<-k];exact GL _ (by rw[cR];exact r)
    obtain⟨ao,c,rfl,_⟩:=H;obtain⟨n,hn⟩:=aq l.length;rw[hn]at r⊢;have b2:((n:Int) != 3)=true:=ahg;clear m k r hn i;exact aaT
  ·have hb:((p.tag.toNat:Int) != 48)=true:=ahg;have HO:Hid (O=none):=by
    show _=_;rw[m.o,if_neg R];rfl
   obtain⟨ao,c,rfl,_⟩:=H;clear m k R i;exact aaT
end Go.Proofs.YtlfifnpjeangmaaGreatDoor
