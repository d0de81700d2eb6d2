import Derived.Test.YtlfifnpjeangmaaGreatDoorGERBoxH
import Derived.Test.YtlfifnpjeangmaaGreatDoorGEPBookA
namespace Go.Proofs.YtlfifnpjeangmaaGreatDoor
set_option maxHeartbeats 1000000
open Proofs.Tryz Go.RowKit
set_option maxRecDepth 100000
variable {f:Bool}{l:List UInt8}{g:Nat}{w w':World}{p:Prop}
abbrev Source:Type:=Option Addr×List UInt8
def Rd(w:World)(S:Source)(g:Nat)(l:List UInt8)(f:Bool):Prop:=
 ∃ao cap,dB w g #[.slice ao l.length cap,.bool f]/\l.length<=cap/\cap<=9223372036854775807/\l.length<=140737488355328/\(∀w0,At w0 S.1 S.2->At w0 ao l)/\(f=true->l=[])
def Bs(S:Source)(v:Value)(l:List UInt8):Prop:=∃ao cap,v=.slice ao l.length cap/\l.length<=cap/\cap<=9223372036854775807/\l.length<=140737488355328/\∀w0,At w0 S.1 S.2->At w0 ao l
theorem Bs.nil(S):Bs S (.slice none 0 0) []:=⟨none,0,rfl,by simp,by decide,by simp,λa _=>At.nil a none⟩
theorem Rd.keep{S:Source}(h:Rd w S g l f)(b:w'.heap[g]?=w.heap[g]?):Rd w' S g l f:=by
 obtain⟨c,cap,a,d⟩:=h;exact⟨c,cap,a.kept b,d⟩
theorem Rd.lt{S:Source}(h:Rd w S g l f):g<w.heap.size:=by
 obtain⟨_,_,a,_⟩:=h;exact a.lt
theorem Rd.bad{S:Source}(h:Rd w S g l f):f=true->l=[]:=by
 obtain⟨_,_,_,_,_,_,_,h⟩:=h;exact h
theorem Rd.xI{ex:Nat->Prop}{S:Source}(h:Rd w S g l f)(k:iZ w w' ex)(a:¬ ex g):Rd w' S g l f:=h.keep (k.block g h.lt a)
def iR(S:Source)(g:Nat):Prop:=0<S.2.length->∀b off,S.1=some ⟨b,off,none⟩->b≠g
theorem iR.new{S:Source}(h:At w S.1 S.2)(c:w.heap.size<=g):iR S g:=by
 intro a b off e q;grind [At.addr]
theorem iR.at{S:Source}{ex:Nat->Prop}(h:At w S.1 S.2)(f:iZ w w' ex)(n:∀g,ex g->iR S g):At w' S.1 S.2:=by
 intro j i;obtain⟨b,off,c,d⟩:=h j i;refine⟨b,off,c,?_⟩;rw[World.cell?_of_block (w:=w) (w':=w') (a:=⟨b,off+j,none⟩) (f.block b (World.block_lt_of_cell? w _ d) (λe=>n b e agE b off c rfl))];exact d
def JL(g b _j:Nat):Prop:=b=g
theorem CF.yu(h:CF w w' (JL g)):iZ w w' (λb=>b=g):=⟨h.os,h.tape,h.output,h.size,λb a c=>h.block b a (λ_ e=>c e)⟩
def bC(due:Nat)(l:List UInt8)(f:Bool):List UInt8×List UInt8×Bool:=
 match Box.cut l with
 |some (t,i,r)=>if t.toNat=due then(i,r,f) else([],[],true)
 |none=>([],[],true)
theorem tY(S)(g:Nat)(l)(f ok)(w)(h:Rd w S g l f):
  Calls prog 205 #[(g,0),.bool ok] w λe w'=>e=.returned (.tuple #[])/\Rd w' S g (if ok=true then l else []) (if ok=true then f else true)/\CF w w' (JL g):=by
 cases ok
 ·obtain⟨q,cap,a,j,m,p,i,d⟩:=h;have k:=a.cell 0;have c:=a.cell 1;simp only[cH,cG,cI]at k c;have t:=a.frozen 0;have r:=a.frozen 1;have b:Hid (Rd ((w.setCell (g,0) (.slice none 0 0)).setCell (g,1) (.bool true)) S g [] true):=by
   exact⟨none,0,(a.set 0 _).set 1 _,by simp,by decide,by simp,λn _=>At.nil n none,λ_=>rfl⟩
  have s:Hid (CF w ((w.setCell (g,0) (.slice none 0 0)).setCell (g,1) (.bool true)) (JL g)):=((CF.refl w (JL g)).setCell g 0 _ (λ_=>rfl)).setCell g 1 _ (λ_=>rfl);clear a j m p i d;go_enter func205,ntmps205;go_wp2;go_end0;grind [RowKit.Hid.o]
 ·have b:=hid h;clear h;go_enter func205,ntmps205;go_wp2;go_end0;exact⟨rfl,b.o,CF.refl _ _⟩
theorem Rd.drewN{S:Source}(h:Rd w S g l f)(n):Rd (w.drewN n) S g l f:=h.keep rfl
theorem Eh(a:Nat)(S)(g:Nat)(l)(f)(w)(A:At w S.1 S.2)(h:Rd w S g l f):
  Calls prog 206 #[(g,0),.int .u8 a] w λe w'=>∃v,e=.returned v/\Bs S v (bC a l f).1/\Rd w' S g (bC a l f).2.1 (bC a l f).2.2/\CF w w' (JL g):=by
 have L:=hid (λm=>tY S g l f false (w.drewN m) (h.drewN m))
 obtain⟨O,cap,k,z,y,x,p,B⟩:=h
 have P:=k.cell 0
 simp only[cH,cG]at P
 have T:=k.frozen 0
 have hcut:=hid (abq l l.length O cap w (hid rfl) x z y (p w A))
 cases b:Box.cut l with
 |none=>
  have n:Hid (bC a l f=([],[],true)):=by show _=_;rw[bC,b]
  have s:=hid b;clear k z y x p B b A;go_enter func206,ntmps206;go_wp2_with (first|(go_at_call 126;refine hcut.o.mono ?_;rintro e w' ⟨_,Q,m,rfl⟩;obtain rfl:=Q s.o)|(go_at_call 205;refine(L.o m).mono ?_;rintro e w2 ⟨rfl,c,j⟩))
  go_ret;rw[n.o];exact⟨_,rfl,Bs.nil _,c,j.jM⟩
 |some q=>
  obtain⟨t,i,r⟩:=q;by_cases e:t.toNat=a
  ·have hq:((t.toNat:Int)==(a:Int))=true:=agM;have n:Hid (bC a l f=(i,r,f)):=(by show _=_;grind [bC]);have s:=hid b;have HB:=hid k;have d:=hid (And.intro y (And.intro x (And.intro p B)));have D:Hid (i.length<=l.length/\r.length<=l.length/\(l=[]->False)):=by
    have:=Box.mM b;exact⟨by omega,by omega,agM⟩
   clear k z y x p B b A e;go_enter func206,ntmps206;go_wp2_with (first|(go_at_call 126;refine hcut.o.mono ?_;rintro e w' ⟨C,_,m,rfl⟩;obtain⟨G,H,F,E,rfl,J,I,R,K,M,N⟩:=C _ _ _ s.o))
   go_ret;rw[n.o];have fr:CF w ((w.drewN m).setCell (g,0) (.slice F r.length E)) (JL g):=((CF.refl w (JL g)).drewN m).setCell g 0 _ (λ_=>rfl);refine⟨_,rfl,⟨G,H,rfl,I,by have:=d.o.1;omega,by have:=d.o.2.1;have:=D.o.1;show i.length<=_;omega,λu q=>J u (d.o.2.2.1 u q)⟩,⟨F,E,(HB.o.drewN m).set 0 _,M,by have:=d.o.1;omega,by have:=d.o.2.1;have:=D.o.2.1;show r.length<=_;omega,λu q=>K u (d.o.2.2.1 u q),λe=>absurd (d.o.2.2.2 e) D.o.2.2⟩,fr⟩
  ·have hq:((t.toNat:Int)==(a:Int))=false:=ahd;have n:Hid (bC a l f=([],[],true)):=(by show _=_;grind [bC]);have s:=hid b;clear k z y x p B b A e;go_enter func206,ntmps206;go_wp2_with (first|(go_at_call 126;refine hcut.o.mono ?_;rintro e w' ⟨C,_,m,rfl⟩;obtain⟨G,H,F,E,rfl,J,I,R,K,M,N⟩:=C _ _ _ s.o)|(go_at_call 205;refine(L.o m).mono ?_;rintro e w2 ⟨rfl,c,j⟩))
   go_ret;rw[n.o];exact⟨_,rfl,Bs.nil _,c,j.jM⟩
theorem zJ(S)(g:Nat)(l)(f)(w)(a:At w S.1 S.2)(h:Rd w S g l f):
  Calls prog 182 #[(g,0)] w λe w'=>∃v,e=.returned v/\Bs S v (bC 4 l f).1/\Rd w' S g (bC 4 l f).2.1 (bC 4 l f).2.2/\CF w w' (JL g):=by
 have i:=hid (Eh 4 S g l f w a h)
 clear h a
 go_enter func182,ntmps182
 go_wp2_with (first|(go_at_call 206;refine i.o.mono ?_;rintro e w2 ⟨v,rfl,c,j,d⟩;obtain⟨b,cap,rfl,q⟩:=c))
 go_ret
 exact⟨_,rfl,⟨b,cap,rfl,q⟩,j,d⟩
theorem Tryz.Qh:(prog.info? 314).map (·.size)=some 2:=by kernel_rfl
theorem dB.two{a b:Value}(h:dB w g #[a,b]):w.cell? (g,0)=some a/\w.cell? (g,1)=some b:=⟨h.cell 0,h.cell 1⟩
theorem zK{x y:Value}(h:dB w g #[x,y]):(loadVar 314 ⟨g,0,none⟩).run prog w=.ok (.agg #[x,y]) w:=h.load 314 _ underlying314 rfl Tryz.Qh
theorem Mr(a)(n cap)(w):
  Calls prog 234 #[.slice a n cap] w λe w'=>e=.returned (.agg #[.slice a n cap,.bool false])/\w.grownBy w' none:=by
 have b:=hid (cx w (.cells #[.slice a n cap,.bool false] 314) none)
 have HB:=hid (dB.new w #[.slice a n cap,.bool false] 314)
 go_enter func234,ntmps234
 go_wp2
 exact bodyPost_ret (jD results234 _ _ _ w.heap.size rfl _ (zK HB.o)) rfl ⟨rfl,b.o⟩
theorem Iy(S)(g:Nat)(l)(f)(w)(h:Rd w S g l f):
  Calls prog 168 #[(g,0)] w λe w'=>e=.returned (.bool (decide (l=[])))/\w'=w:=by
 obtain⟨d,cap,a,_⟩:=h
 obtain⟨c,i⟩:=a.two
 clear a
 cases l with
 |nil=>
  go_enter func168,ntmps168;exact aaE
 |cons x l=>
  have b:(((x::l).length:Int)==0)=false:=agM;obtain⟨n,hn⟩:=aq ((x::l).length);rw[hn]at b c;clear hn;go_enter func168,ntmps168;go_wp2;go_ret;exact⟨by simp,rfl⟩
theorem jQ(S)(g:Nat)(l)(f)(w)(h:Rd w S g l f):
  Calls prog 170 #[(g,0)] w λe w'=>e=.returned (.bool (!f&&decide (l=[])))/\w'=w:=by
 have b:=hid (Iy S g l f w h)
 obtain⟨c,cap,a,_⟩:=h
 obtain⟨i,d⟩:=a.two
 clear a
 cases f
 ·go_enter func170,ntmps170;go_wp2_with (first|(go_at_call 168;refine b.o.mono ?_;rintro e w2 ⟨rfl,rfl⟩))
  go_ret;exact⟨by simp,rfl⟩
 ·go_enter func170,ntmps170;go_wp2;go_ret;exact⟨by simp,rfl⟩
theorem Ei(S)(g:Nat)(l)(f)(w)(C:At w S.1 S.2)(h:Rd w S g l f):
  Calls prog 167 #[(g,0)] w λe w'=>∃v,e=.returned (.agg #[v,.bool (bC 48 l f).2.2])/\Bs S v (bC 48 l f).1/\Rd w' S g (bC 48 l f).2.1 (bC 48 l f).2.2/\CF w w' (JL g):=by
 have r:=hid (cx w (.cells #[.slice none 0 0,.bool false] 314) none)
 have m:=h.lt
 have d:=hid (dB.new w #[.slice none 0 0,.bool false] 314)
 have A:=h.keep (r.o.block g m agI)
 have G:=hid (Eh 48 S g l f _ (C.below r.o) A)
 have i:w.heap.size≠g:=agE
 clear h A C
 go_enter func167,ntmps167
 go_wp2_with fail
 refine G.o.mono ?_
 rintro e w2 ⟨v,rfl,k,z,j⟩
 have x:=z
 have n:=k
 obtain⟨u,cap,rfl,q⟩:=n
 obtain⟨H,B,c,D⟩:=x
 obtain⟨N,J⟩:=c.two
 have a:=d.o.kept (j.yu.block _ d.o.lt i)
 obtain⟨L,K⟩:=a.two
 have M:=a.frozen 0
 have I:=a.frozen 1
 have HS:=hid a
 clear c a q D
 have FX:iZ w2 ((w2.setCell (w,0) (.slice u (bC 48 l f).1.length cap)).setCell (w,1) (.bool (bC 48 l f).2.2)) (λb=>b=w.heap.size):=(by grind [iZ.set,iZ.refl])
 have t:=j.size
 have F:(w.alloc (.cells #[.slice none 0 0,.bool false] 314)).heap.size=w.heap.size+1:=cF _ _
 have p:=hid (z.xI FX (λe=>i e.symm))
 have y:=hid k
 have s:Hid (CF w ((w2.setCell (w,0) (.slice u (bC 48 l f).1.length cap)).setCell (w,1) (.bool (bC 48 l f).2.2)) (JL g)):=((CF.before r.o j).setCell w.heap.size 0 _ (λq=>absurd q (gC _))).setCell w.heap.size 1 _ (λq=>absurd q (gC _))
 have E:=hid (zK ((HS.o.set 0 (.slice u (bC 48 l f).1.length cap)).set 1 (.bool (bC 48 l f).2.2)))
 clear FX z k j t F
 go_wp2
 exact bodyPost_ret (jD results167 _ _ _ w.heap.size rfl _ E.o) rfl ⟨_,rfl,y.o,p.o,s.o⟩
def bO(zs:List UInt8):List UInt8×Bool:=
 if (bC 48 zs false).2.2=false/\(bC 48 zs false).2.1=[] then((bC 48 zs false).1,false) else([],true)
theorem Rd.new{w:World}{S:Source}{b:Option Addr}{l:List UInt8}{cap:Nat}{f:Bool}(h:Bs S (.slice b l.length cap) l)(g:f=true->l=[])(t):Rd (w.alloc (.cells #[.slice b l.length cap,.bool f] t)) S w.heap.size l f:=by
 obtain⟨a,c,e,d,i,j,k⟩:=h;injection e with e1 _ e3;subst e1 e3;exact⟨b,cap,dB.new w _ t,d,i,j,k,g⟩
theorem oD(a)(l)(f)(b:f=true->l=[]):(bC a l f).2.2=true->(bC a l f).1=[]/\(bC a l f).2.1=[]:=by
 grind [Box.cut,bC]
theorem uD{a w w':World}{g:Nat}(h:a.grownBy w none)(f:iZ w w' (λb=>b=g))(d:a.heap.size<=g):a.grownBy w' none:=
 ⟨f.os.trans h.os,f.tape.trans h.tape,f.output.trans h.output,cE h.size f.size,λb c _=>by
  have:=h.size
  rw[f.block b agE (λe=>by omega),h.block b c agI]⟩
theorem uE(S)(zs)(n)(l)(cap)(w)(hn:Hid (zs.length=n))(V:At w S.1 S.2)(h:Bs S (.slice l n cap) zs):
  Calls Tryz.prog 204 #[.slice l n cap] w λe w'=>∃v,e=.returned (.agg #[v,.bool (bO zs).2])/\Bs S v (bO zs).1/\w.grownBy w' none:=by
 obtain rfl:=hn.o
 have F:=cx w (.cells #[.slice none 0 0,.bool false] 314) none
 have u:=hid (dB.new w #[.slice none 0 0,.bool false] 314)
 have s0:(w.alloc (.cells #[.slice none 0 0,.bool false] 314)).heap.size=w.heap.size+1:=cF _ _
 have U:=hid h
 have O:=hid F
 have Y:=hid (V.below F)
 clear h F V
 go_enter Tryz.func204,Tryz.ntmps204
 go_wp2_with fail
 refine(Mr l zs.length cap _).mono ?_
 rintro e j ⟨rfl,k⟩
 have Z:=k.size
 have N:=Rd.new (w:=j) U.o (f:=false) (λe=>by cases e) 314
 have C:=cx j (.cells #[.slice l zs.length cap,.bool false] 314) none
 have sa:(j.alloc (.cells #[.slice l zs.length cap,.bool false] 314)).heap.size=j.heap.size+1:=cF _ _
 have d:Hid (dB (j.alloc (.cells #[.slice l zs.length cap,.bool false] 314)) w.heap.size #[.slice none 0 0,.bool false]):=(u.o.grown k agI).grown C agI
 have t:=hid (aa O.o (aa k C))
 have x:=(Y.o.below k).below C
 have T:=hid (Ei S j.heap.size zs false _ x N)
 clear N k C U u O x Y
 go_wp2_with fail
 refine T.o.mono ?_
 rintro e w2 ⟨v,rfl,D,X,z⟩
 obtain⟨K,I,rfl,_⟩:=id D
 have s2:=z.size
 have p:=oD 48 zs false (λe=>by cases e)
 have c:=cx w2 (.cells #[.slice K (bC 48 zs false).1.length I,.bool (bC 48 zs false).2.2] 314) none
 have sb:(w2.alloc (.cells #[.slice K (bC 48 zs false).1.length I,.bool (bC 48 zs false).2.2] 314)).heap.size=w2.heap.size+1:=cF _ _
 have rb:=Rd.new (w:=w2) D (λe=>(p e).1) 314
 have s:=X.keep (c.block _ agE agI)
 have P:=hid (jQ S j.heap.size _ _ _ s)
 have G:=hid (tY S w2.heap.size _ _ (!(bC 48 zs false).2.2&&decide ((bC 48 zs false).2.1=[])) _ rb)
 have m:Hid (dB (w2.alloc (.cells #[.slice K (bC 48 zs false).1.length I,.bool (bC 48 zs false).2.2] 314)) w.heap.size #[.slice none 0 0,.bool false]):=(d.o.kept (z.yu.block _ d.o.lt agE)).grown c agI
 have H:=hid (aa (uD t.o z.yu agE) c)
 have L:w.heap.size≠w2.heap.size:=agE
 have i:Hid ((if (!(bC 48 zs false).2.2&&decide ((bC 48 zs false).2.1=[]))=true then(bC 48 zs false).1 else [])=(bO zs).1/\(if (!(bC 48 zs false).2.2&&decide ((bC 48 zs false).2.1=[]))=true then(bC 48 zs false).2.2 else true)=(bO zs).2):=by
  unfold bO;by_cases e:(bC 48 zs false).2.2=false/\(bC 48 zs false).2.1=[]
  ·rw[if_pos e,if_pos (by simp[e.1,e.2]),if_pos (by simp[e.1,e.2])];exact⟨rfl,e.1⟩
  ·rw[if_neg e,if_neg (λq=>e (by simpa using q)),if_neg (λq=>e (by simpa using q))];exact⟨rfl,rfl⟩
 rw[i.o.1,i.o.2]at G
 clear D X z p c rb s T d t
 go_wp2_with fail
 refine P.o.mono ?_
 rintro e w3 ⟨rfl,rfl⟩
 go_wp2_with fail
 refine G.o.mono ?_
 rintro e J ⟨rfl,r4,y⟩
 have s4:=y.size
 obtain⟨B,A,r,Q,M,W,R,p6⟩:=r4
 obtain⟨c0,c1⟩:=r.two
 have a:=m.o.kept (y.yu.block _ m.o.lt L)
 obtain⟨d0,d1⟩:=a.two
 have g0:=a.frozen 0
 have k:=a.frozen 1
 have HS:=hid (zK ((a.set 0 (.slice B (bO zs).1.length A)).set 1 (.bool (bO zs).2)))
 have FX:iZ J ((J.setCell (w,0) (.slice B (bO zs).1.length A)).setCell (w,1) (.bool (bO zs).2)) (λb=>b=w.heap.size):=((iZ.refl J (λb=>b=w.heap.size)).set (g:=w.heap.size) rfl 0 _).set (g:=w.heap.size) rfl 1 _
 have FH:=hid (uD (uD H.o y.yu agE) FX (cy _))
 have E:Hid (Bs S (.slice B (bO zs).1.length A) (bO zs).1):=⟨B,A,rfl,Q,M,W,R⟩
 clear r a Q M W R p6 FX y G P i s0 Z s2 s4 sa sb
 go_wp2
 exact bodyPost_ret (jD Tryz.results204 _ _ _ w.heap.size rfl _ HS.o) rfl ⟨_,rfl,E.o,FH.o⟩
def bM(s:List UInt8×Bool):Int×(List UInt8×Bool):=
 match Box.num (bC 2 s.1 s.2).1 with
 |some v=>(v,(bC 2 s.1 s.2).2)
 |none=>(0,([],true))
def iO(s:List UInt8×Bool):Nat->List UInt8×Bool
 |0=>s
 |k+1=>(bM (iO s k)).2
structure Ej(w:World)(g pb:Nat)(ps:List (Nat×Nat)):Prop where
 ptrs:dB w pb (ps.map λp=>Value.pointer (some (p.1,p.2))).toArray
 live:∀p∈ps,Live w p.1 (p.2+1)
 ne:∀p∈ps,p.1≠g/\p.1≠pb
 gpb:g≠pb
 nd:ps.Nodup
def exN(g:Nat)(ps:List (Nat×Nat))(b j:Nat):Prop:=b=g\/(b,j)∈ps
set_option maxHeartbeats 2000000
theorem Bs.at{S:Source}{b:Option Addr}{n cap:Nat}{l:List UInt8}(h:Bs S (.slice b n cap) l)(f:At w S.1 S.2):l.length=n/\n<=cap/\cap<=9223372036854775807/\n<=140737488355328/\At w b l:=by
 obtain⟨a,c,e,d,g,i,j⟩:=h;grind
def xN(w:World)(S:Source)(g:Nat)(ps:List (Nat×Nat)):Prop:=∀w',CF w w' (exN g ps)->At w' S.1 S.2
theorem xN.of{S:Source}{g:Nat}{ps:List (Nat×Nat)}(h:At w S.1 S.2)(a:iR S g)(d:∀p∈ps,iR S p.1):xN w S g ps:=by
 intro w' c;refine h.cf c (λb off e j f q=>?_);rcases q with q|q
 ·exact a agE b off e q
 ·exact d _ q agE b off e rfl
theorem Ms(s):bM s=((Box.num (bC 2 s.1 s.2).1).getD 0,if (Box.num (bC 2 s.1 s.2).1).isSome=true then(bC 2 s.1 s.2).2 else([],true)):=by
 unfold bM;cases Box.num (bC 2 s.1 s.2).1<;>rfl
theorem El(zs)(n)(b)(cap)(w)(hn:Hid (zs.length=n))(d:n<=140737488355328)(a:n<=cap)(c:At w b zs):
  Calls Tryz.prog 154 #[.slice b n cap] w λe w'=>e=.returned (.tuple #[ι ((Box.num zs).getD 0),.bool (Box.num zs).isSome])/\∃m,w'=w.drewN m:=by
 refine(Dt zs n b cap w hn d a c).mono ?_
 grind [Box.num]
theorem Um{b o:Nat}(h:Live w b (o+1)):∃v,w.cell? (b,o)=some v:=cA.1 (h.some o agE)
theorem qi(S)(g J:Nat)(ps)(n)(l)(f)(w)(hn:Hid (ps.length=n))(aa:n<=100)(Y:xN w S g ps)(h:Rd w S g l f)(W:Ej w g J ps):
  Calls Tryz.prog 166 #[(g,0),.slice (some (J,0)) n n] w λe w'=>e=.returned (.tuple #[])/\Rd w' S g (iO (l,f) n).1 (iO (l,f) n).2/\(∀j p,ps[j]?=some p->w'.cell? (p.1,p.2)=some (ι (bM (iO (l,f) j)).1))/\CF w w' (exN g ps):=by
 have HH:=hid h
 have x:=hid W
 have B:=hid Y
 clear h W Y
 go_enter Tryz.func166,Tryz.ntmps166
 go_wp2
 go_loopw [10] (λi wr=>∃k:Nat,k<=n/\i = ι k/\Rd wr S g (iO (l,f) k).1 (iO (l,f) k).2/\(∀j p,j<k->ps[j]?=some p->wr.cell? ⟨p.1,p.2,none⟩=some (ι (bM (iO (l,f) j)).1))/\CF w wr (exN g ps)) (λi _=>n-(intOf i).toNat)
 case atStart=>exact⟨0,cS _,rfl,HH.o,λj p u=>by omega,CF.refl _ _⟩
 case round=>
  obtain⟨k,hk,rfl,t,c,d⟩:=hrel;by_cases hlt:k<n
  ·have mU:(k:Int)<(n:Int):=agE;have ab:(0:Int)<=(k:Int):=agE;have hkl:k<ps.length:=ag4;obtain⟨p,z⟩:∃p,ps[k]?=some p:=⟨_,cL hkl⟩
   have r:=ey z;have Q:=x.o.ne p r;have ad:wr.cell? (J,k)=some (.pointer (some (p.1,p.2))):=by
    refine d.cell ?_ (λe=>?_)
    ·rw[x.o.ptrs.cell k,cH,eA,z];rfl
    ·rcases e with e|e
     ·exact x.o.gpb e.symm
     ·exact(x.o.ne _ e).2 rfl
   have D:=(x.o.live p r).cf d;have X:=hid (Eh 2 S g _ _ wr (B.o _ d) t);obtain⟨s,HS⟩:∃s,Hid (iO (l,f) k=s):=⟨_,hid rfl⟩
   rw[HS.o]at X;have HD:=hid c;have U:=hid d;clear t c d;go_wp2_with (go_at_call 206;refine X.o.mono ?_;rintro e w2 ⟨v,rfl,K,r2,N⟩;obtain⟨a2,c2,rfl,_⟩:=id K)
   have F:=K.at (w:=w2) (B.o _ (U.o.trans (N.mono (λb o _ e=>.inl e)) (λ_ _ _ e=>e)));have P:=hid (El (bC 2 s.1 s.2).1 (bC 2 s.1 s.2).1.length a2 c2 w2 (hid rfl) F.2.2.2.1 F.2.1 F.2.2.2.2);have Z:=hid (Ms s);obtain⟨A,HV⟩:∃A,Hid ((Box.num (bC 2 s.1 s.2).1).getD 0=A):=⟨_,hid rfl⟩
   obtain⟨ok,HK⟩:∃ok,Hid ((Box.num (bC 2 s.1 s.2).1).isSome=ok):=⟨_,hid rfl⟩
   rw[HV.o,HK.o]at P Z;have V:=hid (λm=>tY S g _ _ ok (w2.drewN m) (r2.drewN m));have p9:=hid N;clear F K r2 N;refine P.o.mono ?_;rintro e w3 ⟨rfl,m,rfl⟩;go_wp2_with fail;refine(V.o m).mono ?_;rintro e C ⟨rfl,r4,R⟩;have G:=p9.o.trans R.jM (λ_ _ _ e=>e);have y:=D.cf G;obtain⟨x0,ae⟩:=Um y;have fz:=y.frozen p.2;have FW:CF wr (C.setCell (p.1,p.2) (ι A)) (exN g ps):=(G.mono (λb o _ e=>.inl e)).setCell p.1 p.2 _ (λ_=>.inr r);have M:=hid (U.o.trans FW (λ_ _ _ e=>e));have T:iZ C (C.setCell (p.1,p.2) (ι A)) (λb=>b=p.1):=(iZ.refl C (λb=>b=p.1)).set (g:=p.1) rfl p.2 _;have O:=hid (r4.xI T (λe=>Q.1 e.symm));have L:Hid (∀j q,j<k+1->ps[j]?=some q->(C.setCell (p.1,p.2) (ι A)).cell? (q.1,q.2)=some (ι (bM (iO (l,f) j)).1)):=by
    intro j q u hq;by_cases e:j=k
    ·grind [di,RowKit.Hid.o]
    ·have ah:q≠p:=λI=>by
      subst I;have:=(List.getElem?_inj hkl x.o.nd).1 (z.trans hq.symm);omega
     have E:=HD.o j q agE hq;have af:=G.cell E (λI=>(x.o.ne q (ey hq)).1 I);grind [ax,RowKit.Below.heap_setCell,World.cell?_of_block]
   have Mt:Hid (iO (l,f) (k+1)=(bM s).2):=(by show _=_;rw[iO,HS.o]);rw[Z.o]at Mt;clear G FW T r4 R y D V P;go_wp2;go_roundw
   case rel=>
    refine⟨k+1,by omega,by go_num,?_,L.o,M.o⟩;rw[Mt.o];have:=O.o;cases ok
    ·exact this
    ·exact this
   case measure=>simp[intOf];omega
  ·obtain rfl:k=n:=by omega
   have H:=hid (And.intro t (And.intro c d));have ag:¬ (k:Int)<(k:Int):=agE;clear t c d;go_wp2;go_end0;exact⟨rfl,H.o.1,by first|exact(λj p u=>H.o.2.1 j p (by rw[<-hn.o];exact(cM.1 u).1) u)|exact(λj a b u=>H.o.2.1 j (a,b) (by rw[<-hn.o];exact(cM.1 u).1) u),H.o.2.2⟩
def fH(s:List UInt8×Bool):List UInt8×(List UInt8×Bool):=
 ((bC 4 s.1 s.2).1,if cO (bC 4 s.1 s.2).1=true then(bC 4 s.1 s.2).2 else([],true))
theorem JM(S)(g:Nat)(l)(f)(w)(i:At w S.1 S.2)(q:iR S g)(h:Rd w S g l f):
  Calls prog 165 #[(g,0)] w λe w'=>e=.returned (.string ⟨(fH (l,f)).1.toArray⟩)/\Rd w' S g (fH (l,f)).2.1 (fH (l,f)).2.2/\CF w w' (JL g):=by
 have n:=hid (zJ S g l f w i h)
 have HS:=hid (And.intro i q)
 clear h i q
 go_enter func165,ntmps165
 go_wp2_with fail
 refine n.o.mono ?_
 rintro e w2 ⟨v,rfl,b,p,d⟩
 obtain⟨z,x,rfl,_⟩:=id b
 have c:=b.at (w:=w2) (iR.at HS.o.1 d.yu (λ_ e=>e▸HS.o.2))
 have A:=ic (P:=prog) w2 37 9 5 underlying37 underlying5 underlying9 z x (bC 4 l f).1 c.2.2.2.2
 have k:=hid (DV (bC 4 l f).1 (bC 4 l f).1.length ⟨(bC 4 l f).1.toArray⟩ w2 (hid rfl) (hid rfl) (by have:=c.2.2.2.1;omega))
 have m:=hid (tY S g _ _ (cO (bC 4 l f).1) w2 p)
 have s:=hid d
 clear n b p d c
 go_wp2_with fail
 refine k.o.mono ?_
 rintro e w3 ⟨rfl,rfl⟩
 go_wp2_with fail
 refine m.o.mono ?_
 rintro e y ⟨rfl,a,j⟩
 have t:=hid (s.o.trans j (λ_ _ _ e=>e))
 have u:Hid (Rd y S g (fH (l,f)).2.1 (fH (l,f)).2.2):=by
  unfold fH;cases r:cO (bC 4 l f).1
  ·rw[r]at a;simp only[fL,if_false]at a⊢;exact a
  ·rw[r]at a;simp only[if_true]at a⊢;exact a
 clear a j m k
 go_wp2
 go_ret
 exact⟨rfl,u.o,t.o⟩
def jw(s:List UInt8×Bool):(Int×List UInt8)×(List UInt8×Bool):=
 (((bM s).1,(bC 4 (bM s).2.1 (bM s).2.2).1),(bC 4 (bM s).2.1 (bM s).2.2).2)
theorem Tryz.Qj:(prog.info? 267).map (·.size)=some 2:=by kernel_rfl
theorem afv{w:World}{g a:Nat}{d c:Value}(f:w.cell? (g,a)=some d)(e:w.cell? (g,a+1)=some c):w.rangeAt g a [d,c]:=by
 intro j u b;match j,b with
 |0,b=>injection b with b;subst b;exact f
 |1,b=>injection b with b;subst b;exact e
 |j+2,b=>simp at b
theorem Mv{w:World}{g:Nat}{x y:Value}(b:w.cell? (g,0)=some x)(a:w.cell? (g,1)=some y):(loadVar 267 ⟨g,0,none⟩).run prog w=.ok (.agg #[x,y]) w:=eG (afv b a) 267 _ underlying267 rfl Tryz.Qj
theorem Em(S)(g:Nat)(l)(f)(w)(W:At w S.1 S.2)(X:iR S g)(h:Rd w S g l f):
  Calls prog 169 #[(g,0)] w λe w'=>∃v,e=.returned (.agg #[ι (jw (l,f)).1.1,v])/\Bs S v (jw (l,f)).1.2/\Rd w' S g (jw (l,f)).2.1 (jw (l,f)).2.2/\CF w w' (JL g):=by
 have p:=h.lt
 have y:w.grownBy ((w.alloc (.cells #[ι 0,.slice none 0 0] 267)).alloc (.cells #[(w,0)] 319)) none:=aM (cx w _ none) _
 have B:=h.keep (y.block g p agI)
 have E:(w.alloc (.cells #[ι 0,.slice none 0 0] 267)).heap.size=w.heap.size+1:=cF _ _
 have n:=(dB.new w #[ι 0,.slice none 0 0] 267).alloc (.cells #[(w,0)] 319)
 have i:=dB.new (w.alloc (.cells #[ι 0,.slice none 0 0] 267)) #[(w,0)] 319
 rw[E]at i
 have z:Live ((w.alloc (.cells #[ι 0,.slice none 0 0] 267)).alloc (.cells #[(w,0)] 319)) w.heap.size 2:=(Live.new w _ _).alloc _
 have C:Ej ((w.alloc (.cells #[ι 0,.slice none 0 0] 267)).alloc (.cells #[(w,0)] 319)) g (w.heap.size+1) [(w.heap.size,0)]:=⟨i,(by grind [Live.mono]),agM,by omega,by simp⟩
 have a:xN ((w.alloc (.cells #[ι 0,.slice none 0 0] 267)).alloc (.cells #[(w,0)] 319)) S g [(w.heap.size,0)]:=(by grind [At.below,iR.new,xN.of])
 have G:=hid (qi S g (w.heap.size+1) [(w.heap.size,0)] 1 l f _ (hid rfl) agE a B C)
 have s:=hid a
 have I:=hid (And.intro z n)
 have R:=hid y
 clear h B C i n z y E a W X
 go_enter func169,ntmps169
 go_wp2_with fail
 refine G.o.mono ?_
 rintro e w2 ⟨rfl,K,J,m⟩
 have Q:w2.cell? (w,0)=some (ι (bM (l,f)).1):=J 0 (w.heap.size,0) rfl
 have N:w2.cell? (w,1)=some (.slice none 0 0):=m.cell (I.o.2.cell 1) (λe=>by
  rcases e with e|e
  ·omega
  ·simp at e)
 have H:=hid (zJ S g _ _ w2 (s.o _ m) K)
 have F:=hid (CF.before R.o m)
 have P:=hid (I.o.1.cf m)
 clear K J m G
 go_wp2_with fail
 refine H.o.mono ?_
 rintro e w3 ⟨v,rfl,x,L,k⟩
 obtain⟨d,c,rfl,_⟩:=id x
 have j:w.heap.size≠g:=agE
 have V:=k.cell Q j
 have T:=k.cell N j
 have L3:=P.o.cf k
 have Z:=L3.frozen 0
 have Y:=L3.frozen 1
 have O:=F.o.size
 have s3:=k.size
 have A:CF w w2 (JL g):=F.o.mono (λb o hb e=>by
  rcases e with e|e
  ·exact e
  ·have M:=ew.1 e;have e3:b=w.heap.size:=congrArg Prod.fst M
   omega)
 have u:Hid (CF w (((w3.setCell (w,1) (.slice d (bC 4 (iO (l,f) 1).1 (iO (l,f) 1).2).1.length c)).setCell (w,0) (ι (bM (l,f)).1)).setCell (w,1) (.slice d (bC 4 (iO (l,f) 1).1 (iO (l,f) 1).2).1.length c)) (JL g)):=(((A.trans k (λ_ _ _ e=>e)).setCell w.heap.size 1 _ (λq=>absurd q (gC _))).setCell w.heap.size 0 _ (λq=>absurd q (gC _))).setCell w.heap.size 1 _ (λq=>absurd q (gC _))
 have D:iZ w3 (((w3.setCell (w,1) (.slice d (bC 4 (iO (l,f) 1).1 (iO (l,f) 1).2).1.length c)).setCell (w,0) (ι (bM (l,f)).1)).setCell (w,1) (.slice d (bC 4 (iO (l,f) 1).1 (iO (l,f) 1).2).1.length c)) (λb=>b=w.heap.size):=(((iZ.refl w3 (λb=>b=w.heap.size)).set (g:=w.heap.size) rfl 1 _).set (g:=w.heap.size) rfl 0 _).set (g:=w.heap.size) rfl 1 _
 have U:=hid (L.xI D (λe=>j e.symm))
 have r:=hid x
 have t:=hid (Mv (ax (.slice d (bC 4 (iO (l,f) 1).1 (iO (l,f) 1).2).1.length c) (di (ι (bM (l,f)).1) (ax (.slice d (bC 4 (iO (l,f) 1).1 (iO (l,f) 1).2).1.length c) V agF)) agF) (di (.slice d (bC 4 (iO (l,f) 1).1 (iO (l,f) 1).2).1.length c) (ax (ι (bM (l,f)).1) (di (.slice d (bC 4 (iO (l,f) 1).1 (iO (l,f) 1).2).1.length c) T) agF)))
 clear D A L x k L3 O s3 H
 go_wp2
 exact bodyPost_ret (jD results169 _ _ _ w.heap.size rfl _ t.o) rfl ⟨_,rfl,r.o,U.o,u.o⟩
def jd(aX:List UInt8)(due:Int):List UInt8×Bool:=
 if (bM (bO aX)).1=due/\aX.length<=300 then(bM (bO aX)).2 else([],true)
theorem mo(zs):(bO zs).2=true->(bO zs).1=[]:=by
 grind [bO]
theorem Iz(S)(l)(n)(X)(cap)(d)(w)(hn:Hid (l.length=n))(V:At w S.1 S.2)(h:Bs S (.slice X n cap) l):
  Calls Tryz.prog 164 #[.slice X n cap,ι d] w λe w'=>∃v,e=.returned (.agg #[v,.bool (jd l d).2])/\Bs S v (jd l d).1/\w.grownBy w' none:=by
 have K:=cx w (.cells #[.slice none 0 0,.bool false] 314) none
 have C:=hid (dB.new w #[.slice none 0 0,.bool false] 314)
 have s0:(w.alloc (.cells #[.slice none 0 0,.bool false] 314)).heap.size=w.heap.size+1:=cF _ _
 have HL:=hid (uE S l n X cap _ hn (V.below K) h)
 have sP:=hid K
 obtain⟨r,HK⟩:∃r,Hid ((bM (bO l)).1=r):=⟨_,hid rfl⟩
 obtain⟨ok,H,F⟩:∃ok:Bool,(ok=true↔r=d/\n<=300)/\True:=⟨decide (r=d/\n<=300),by simp,trivial⟩
 have N:Hid (jd l d=if ok=true then(bM (bO l)).2 else([],true)):=by
  grind [RowKit.Hid.o,jd]
 have dY:=hid (V.below K)
 clear h K F V
 go_enter Tryz.func164,Tryz.ntmps164
 go_wp2_with fail
 refine HL.o.mono ?_
 rintro e a ⟨v,rfl,L,z⟩
 obtain⟨j,g,rfl,_⟩:=id L
 have s1:=z.size
 obtain⟨c,y⟩:∃c,Hid (bO l=c):=⟨_,hid rfl⟩
 rw[y.o]at L HK N
 have i:=mo l
 rw[y.o]at i⊢
 have P:(a.alloc (.cells #[.slice j c.1.length g,.bool c.2] 314)).heap.size=a.heap.size+1:=cF _ _
 have Q:((a.alloc (.cells #[.slice j c.1.length g,.bool c.2] 314)).alloc (.cells #[ι 0] 2)).heap.size=a.heap.size+1+1:=by rw[cF,P]
 have M:=cx a (.cells #[.slice j c.1.length g,.bool c.2] 314) none
 have A:(a.alloc (.cells #[.slice j c.1.length g,.bool c.2] 314)).grownBy (((a.alloc (.cells #[.slice j c.1.length g,.bool c.2] 314)).alloc (.cells #[ι 0] 2)).alloc (.cells #[(a.heap.size+1,0)] 319)) none:=aM (cx _ _ none) _
 have r1:=Rd.new (w:=a) L i 314
 have R1:=r1.keep (A.block _ agE agI)
 have hI:=(dB.new (a.alloc (.cells #[.slice j c.1.length g,.bool c.2] 314)) #[ι 0] 2).alloc (.cells #[(a.heap.size+1,0)] 319)
 rw[P]at hI
 have Y:=dB.new ((a.alloc (.cells #[.slice j c.1.length g,.bool c.2] 314)).alloc (.cells #[ι 0] 2)) #[(a.heap.size+1,0)] 319
 rw[Q]at Y
 have LI:Live (((a.alloc (.cells #[.slice j c.1.length g,.bool c.2] 314)).alloc (.cells #[ι 0] 2)).alloc (.cells #[(a.heap.size+1,0)] 319)) (a.heap.size+1) 1:=by
  grind [Live.alloc,Live.new]
 have pl:Ej (((a.alloc (.cells #[.slice j c.1.length g,.bool c.2] 314)).alloc (.cells #[ι 0] 2)).alloc (.cells #[(a.heap.size+1,0)] 319)) a.heap.size (a.heap.size+1+1) [(a.heap.size+1,0)]:=⟨Y,agM,agM,by omega,by simp⟩
 have m:=dY.o.below z
 have s:=xN.of (ps:=[(a.heap.size+1,0)]) ((m.below M).below A) (iR.new m (cy a.heap.size)) (λp hp=>by rw[ew.1 hp];exact iR.new m (fg _))
 have HT:=hid (qi S a.heap.size (a.heap.size+1+1) [(a.heap.size+1,0)] 1 c.1 c.2 _ (hid rfl) agE s R1 pl)
 have u:Hid (dB (((a.alloc (.cells #[.slice j c.1.length g,.bool c.2] 314)).alloc (.cells #[ι 0] 2)).alloc (.cells #[(a.heap.size+1,0)] 319)) w.heap.size #[.slice none 0 0,.bool false]):=((C.o.grown z agI).grown M agI).grown A agI
 have f:=hid (aa sP.o (aa z (aa M A)))
 have T:=hid LI
 have zw:(((a.alloc (.cells #[.slice j c.1.length g,.bool c.2] 314)).alloc (.cells #[ι 0] 2)).alloc (.cells #[(a.heap.size+1,0)] 319)).heap.size=a.heap.size+1+1+1:=by rw[cF,Q]
 clear M A r1 R1 hI Y LI pl sP C z L HL m s dY
 go_wp2_with fail
 refine HT.o.mono ?_
 rintro e w2 ⟨rfl,r2,c2,q⟩
 have d0:w2.cell? (a.heap.size+1,0)=some (ι r):=by rw[<-HK.o];exact c2 0 (a.heap.size+1,0) rfl
 have G:=u.o.kept (q.block _ u.o.lt (λo e=>by
  rcases e with e|e
  ·omega
  ·have e2:=congrArg Prod.fst (ew.1 e);have e3:w.heap.size=a.heap.size+1:=e2;omega))
 have E:w.grownBy w2 none:=⟨q.os.trans f.o.os,q.tape.trans f.o.tape,q.output.trans f.o.output,cE f.o.size q.size,λb hb _=>by
  rw[q.block b agE (λo e=>by
   rcases e with e|e
   ·omega
   grind),f.o.block b hb agI]⟩
 have s2:=q.size
 have W:=hid (tY S a.heap.size _ _ ok w2 r2)
 have I:=hid (And.intro G E)
 clear r2 c2 q G E HT
 have t:(ok=true/\(r==d)=true/\(n:Int)<=300)\/(ok=false/\(r==d)=true/\decide ((n:Int)<=300)=false)\/(ok=false/\(r==d)=false/\True):=by
  grind
 have U:w.heap.size≠a.heap.size:=agE
 have R:w.heap.size<=a.heap.size/\a.heap.size<w2.heap.size:=agE
 clear H i s0 s1 P Q zw s2 u f T y
 have D:iO (c.1,c.2) 1=(bM c).2:=rfl
 rw[D]at W
 clear D
 rcases t with⟨rfl,hq,O⟩|⟨rfl,hq,O⟩|⟨rfl,hq,_⟩
 all_goals
  go_wp2_with fail
  refine W.o.mono ?_
  rintro e w4 ⟨rfl,r4,J⟩
  simp only[fL,if_false,if_true]at r4 N
  obtain⟨a4,c4,x,p1,Z,p3,p4,p6⟩:=r4
  obtain⟨c0,g⟩:=x.two
  have k:=I.o.1.kept (J.yu.block _ I.o.1.lt U)
  obtain⟨d2,d1⟩:=k.two
  have g0:=k.frozen 0
  have z:=k.frozen 1
  have FH:=hid (uD I.o.2 J.yu R.1)
  have B:=hid (And.intro x (And.intro k (And.intro p1 (And.intro Z (And.intro p3 p4)))))
  have s4:=J.size
  clear x k p1 Z p3 p4 p6 J W I d0
  go_wp2
  refine bodyPost_ret (jD Tryz.results164 _ _ _ w.heap.size rfl _ (zK ((B.o.2.1.set 0 _).set 1 _))) rfl ⟨_,by rw[N.o],?_,?_⟩
  ·rw[N.o];exact⟨a4,c4,rfl,B.o.2.2.1,B.o.2.2.2.1,B.o.2.2.2.2.1,B.o.2.2.2.2.2⟩
  grind [az,RowKit.Hid.o]
theorem ahi(h:p:=by show _=_;rw[Yc.o,hq1,hq2];rfl):p:=h
theorem dB.cf{w w':World}{ex:Nat->Nat->Prop}{g:Nat}{cs a:Array Value}(h:dB w g cs)(k:CF w w' ex)(i:a.size=cs.size)(m:∀j,j<cs.size->w'.cell? ⟨g,j,none⟩=a[j]?):dB w' g a:=by
 obtain⟨e,d⟩:=h;obtain⟨b,c,l,_⟩:=k.cells g cs e (0,0) d;refine⟨e,?_⟩;have f:dB w' g b:=⟨e,c⟩
 have:b=a:=Array.ext_getElem? (by grind [dB.cell]);rw[<-this];exact c
structure RS(w W:World)(ex:Nat->Nat->Prop)(S:Source)(g:Nat)(s:List UInt8×Bool)(fb:Nat)(cs:Array Value):Prop where
 rd:Rd W S g s.1 s.2
 blk:dB W fb cs
 cf:CF w W ex
 src:At W S.1 S.2
 ng:iR S g
 nf:iR S fb
 hf:w.heap.size<=fb
 hg:w.heap.size<=g
 ne:fb≠g
variable {W W':World}{ex:Nat->Nat->Prop}{S:Source}{fb:Nat}{s s':List UInt8×Bool}{cs:Array Value}
theorem RS.read(h:RS w W ex S g s fb cs)(c:CF W W' (JL g))(r:Rd W' S g s'.1 s'.2):RS w W' ex S g s' fb cs:=
 ⟨r,h.blk.kept (c.yu.block fb h.blk.lt h.ne),h.cf.trans c (λi _ a e=>by have e:i=g:=e;have:=h.hg;omega),iR.at h.src c.yu (λ_ e=>e▸h.ng),h.ng,h.nf,h.hf,h.hg,h.ne⟩
theorem RS.store(h:RS w W ex S g s fb cs)(j:Nat)(v):RS w (W.setCell (fb,j) v) ex S g s fb (cs.setIfInBounds j v):=by
 have f:iZ W (W.setCell (fb,j) v) (λb=>b=fb):=(by grind [iZ.refl,iZ.set])
 exact⟨h.rd.xI f (λe=>h.ne e.symm),h.blk.set j v,h.cf.setCell fb j v (λq=>by have:=h.hf;omega),iR.at h.src f (λ_ e=>e▸h.nf),h.ng,h.nf,h.hf,h.hg,h.ne⟩
theorem RS.grown(h:RS w W ex S g s fb cs)(k:W.grownBy W' none):RS w W' ex S g s fb cs:=
 ⟨h.rd.keep (k.block g h.rd.lt agI),h.blk.grown k agI,h.cf.grown k,h.src.below k,h.ng,h.nf,h.hf,h.hg,h.ne⟩
theorem RS.alloc(h:RS w W ex S g s fb cs)(o):RS w (W.alloc o) ex S g s fb cs:=h.grown (cx W o none)
theorem RS.nums{ps:List (Nat×Nat)}{a:Array Value}(h:RS w W ex S g s fb cs)(c:CF W W' (exN g ps))(r:Rd W' S g s'.1 s'.2)(f:∀p∈ps,p.1=fb)(b:a.size=cs.size)(d:∀j,j<cs.size->W'.cell? ⟨fb,j,none⟩=a[j]?):RS w W' ex S g s' fb a:=by
 refine⟨r,h.blk.cf c b d,h.cf.trans c (λi o l e=>?_),xN.of h.src h.ng (by grind [RS.nf]) W' c,h.ng,h.nf,h.hf,h.hg,h.ne⟩;rcases e with e|e
 ·have:=h.hg;omega
 ·have k:i=fb:=f _ e;have:=h.hf;omega
theorem RS.size(h:RS w W ex S g s fb cs):w.heap.size<=W.heap.size/\fb<W.heap.size/\g<W.heap.size:=⟨h.cf.size,h.blk.lt,h.rd.lt⟩
theorem RS.places(h:RS w W ex S g s fb cs)(a:List Nat)(f:∀j∈a,j<cs.size)(d:a.Nodup)(t):Ej (W.alloc (.cells ((a.map λj=>(fb,j)).map λp=>Value.pointer (some (p.1,p.2))).toArray t)) g W.heap.size (a.map λj=>(fb,j)):=by
 obtain⟨k,i,l⟩:=h.size;have L:Live W fb cs.size:=by obtain⟨e,b⟩:=h.blk;exact⟨cs,e,b,cy _⟩
 refine⟨dB.new W _ t,λp c=>?_,λp c=>?_,by omega,?_⟩
 ·grind [Live.mono,Live.alloc]
 ·grind [RS.ne]
 grind
theorem RS.stays(h:RS w W ex S g s fb cs)(a:List Nat):xN W S g (a.map λj=>(fb,j)):=(by grind [RS.ng,RS.src,RS.nf,xN.of])
theorem RS.other{a:Nat}(h:RS w W ex S g s fb cs)(c:CF W W' (JL a))(d:iR S a)(b:a≠g)(f:a≠fb)(k:w.heap.size<=a):RS w W' ex S g s fb cs:=
 ⟨h.rd.xI c.yu (λe=>b e.symm),h.blk.kept (c.yu.block fb h.blk.lt (λe=>f e.symm)),h.cf.trans c (λi _ j e=>by have e:i=a:=e;omega),iR.at h.src c.yu (λ_ e=>e▸d),h.ng,h.nf,h.hf,h.hg,h.ne⟩
theorem oF(S)(g:Nat)(s)(w)(b:At w S.1 S.2)(a:iR S g)(h:Rd w S g s.1 s.2):
  Calls prog 165 #[(g,0)] w λe w'=>e=.returned (.string ⟨(fH s).1.toArray⟩)/\Rd w' S g (fH s).2.1 (fH s).2.2/\CF w w' (JL g):=JM S g s.1 s.2 w b a h
theorem zL(S)(g:Nat)(s)(w)(b:At w S.1 S.2)(a:iR S g)(h:Rd w S g s.1 s.2):
  Calls prog 169 #[(g,0)] w λe w'=>∃v,e=.returned (.agg #[ι (jw s).1.1,v])/\Bs S v (jw s).1.2/\Rd w' S g (jw s).2.1 (jw s).2.2/\CF w w' (JL g):=Em S g s.1 s.2 w b a h
theorem kL(S)(g b:Nat)(ps)(n)(s)(w)(hn:Hid (ps.length=n))(a:n<=100)(c:xN w S g ps)(h:Rd w S g s.1 s.2)(d:Ej w g b ps):
  Calls prog 166 #[(g,0),.slice (some (b,0)) n n] w λe w'=>e=.returned (.tuple #[])/\Rd w' S g (iO s n).1 (iO s n).2/\(∀j p,ps[j]?=some p->w'.cell? (p.1,p.2)=some (ι (bM (iO s j)).1))/\CF w w' (exN g ps):=qi S g b ps n s.1 s.2 w hn a c h d
theorem RS.slot(h:RS w W ex S g s fb cs)(j:Nat)(a:j<cs.size):(∃x,W.cell? (fb,j)=some x)/\W.frozen? (fb,j)=false:=by
 have L:Live W fb cs.size:=by obtain⟨e,b⟩:=h.blk;exact⟨cs,e,b,cy _⟩
 exact⟨cA.1 (L.some j a),L.frozen j⟩
theorem IA{s:List UInt8×Bool}(h:s.2=true->s.1=[]):(bM s).2.2=true->(bM s).2.1=[]:=by
 grind [oD,Ms]
theorem yw(b)(a):(jd b a).2=true->(jd b a).1=[]:=by
 grind [IA,mo,jd]
theorem dB.ten{w:World}{g:Nat}{l e k j c f i d b a:Value}(h:dB w g #[l,e,k,j,c,f,i,d,b,a]):w.cell? (g,0)=some l/\w.cell? (g,1)=some e/\w.cell? (g,2)=some k/\w.cell? (g,3)=some j/\w.cell? (g,4)=some c/\w.cell? (g,5)=some f/\w.cell? (g,6)=some i/\w.cell? (g,7)=some d/\w.cell? (g,8)=some b/\w.cell? (g,9)=some a:=⟨h.cell 0,h.cell 1,h.cell 2,h.cell 3,h.cell 4,h.cell 5,h.cell 6,h.cell 7,h.cell 8,h.cell 9⟩
def Br(W:World)(g:Nat)(c0 c1 c2 c3 c4 c5 c6 c7 c8 c9:Value):World:=(((((((((W.setCell (g,0) c0).setCell (g,1) c1).setCell (g,2) c2).setCell (g,3) c3).setCell (g,4) c4).setCell (g,5) c5).setCell (g,6) c6).setCell (g,7) c7).setCell (g,8) c8).setCell (g,9) c9
theorem Tryz.IB:(prog.info? 269).map (·.size)=some 10:=by kernel_rfl
theorem agn(h:p:=by
 simp only[eh,ej,eJ]at k
 exact k):p:=h
theorem RS.Br{r x n y o t q v p u:Value}(h:RS w W ex S g s fb #[r,x,n,y,o,t,q,v,p,u])(j d i e f l m c b a):RS w (Br W fb j d i e f l m c b a) ex S g s fb #[j,d,i,e,f,l,m,c,b,a]:=by
 have k:=(((((((((h.store 0 j).store 1 d).store 2 i).store 3 e).store 4 f).store 5 l).store 6 m).store 7 c).store 8 b).store 9 a;exact agn
theorem RS.Aq{l e k j c f i d b a:Value}(h:RS w W ex S g s fb #[l,e,k,j,c,f,i,d,b,a]):(loadVar 269 ⟨fb,0,none⟩).run prog W=.ok (.agg #[l,e,k,j,c,f,i,d,b,a]) W:=h.blk.load 269 _ underlying269 rfl Tryz.IB
def rfA(aX:List UInt8):List UInt8×(List UInt8×Bool):=fH (jd aX 10)
def Ar(aX:List UInt8):List UInt8×(List UInt8×Bool):=fH (rfA aX).2
def Af(aX:List UInt8)(j:Nat):Int:=(bM (iO (Ar aX).2 j)).1
def Cn(aX:List UInt8):List UInt8×(List UInt8×Bool):=bC 48 (iO (Ar aX).2 5).1 (iO (Ar aX).2 5).2
def FJ(aX:List UInt8):(Int×List UInt8)×(List UInt8×Bool):=
 if (Cn aX).1=[] then((0,[]),((Cn aX).1,(Cn aX).2.2)) else jw ((Cn aX).1,(Cn aX).2.2)
def uF(aX:List UInt8):Bool:=(!(FJ aX).2.2&&decide ((FJ aX).2.1=[]))&&(!(Cn aX).2.2&&decide ((Cn aX).2.1=[]))
abbrev vR:Array Value:=#[.string ⟨#[]⟩,.string ⟨#[]⟩,ι 0,ι 0,ι 0,ι 0,ι 0,.bool false,ι 0,.slice none 0 0]
def uG(aX:List UInt8)(v:Value):List Value:=[.string ⟨(rfA aX).1.toArray⟩,.string ⟨(Ar aX).1.toArray⟩,ι (Af aX 0),ι (Af aX 1),ι (Af aX 2),ι (Af aX 3),ι (Af aX 4),.bool (decide ((Cn aX).1≠[])),ι (FJ aX).1.1,v]
theorem aaO(h:p:=by
 go_wp2
 refine bodyPost_ret (aF results137 _ _ _ w.heap.size rfl _ HZ.o.Aq) rfl ⟨_,by rw[qa.o];rfl,λe=>(by rw[qa.o]at e;cases e),⟨rfl,rfl⟩,HZ.o.cf.gb (λ_ _ _ e=>e)⟩):p:=h
theorem abP(h:p:=by
 have z:=g1.size
 have hs1:=(dY.o.below HB0.o.2).below g1
 exact⟨Rd.new (w:=w1) b1 hbad _,(HB0.o.1.grown g1 agI).alloc _,CF.bF (aM (aa HB0.o.2 g1) _) _,hs1.below (cx _ _ none),iR.new hs1 (cy _),iR.new dY.o (cy _),cy _,by omega,by omega⟩):p:=h
theorem adC(h:p:=by
 obtain⟨j,_,rfl⟩:=List.mem_map.1 hp
 rfl):p:=h
theorem Gu(S)(i)(n)(ao)(cap)(w)(hn:Hid (i.length=n))(hs:At w S.1 S.2)(h:Bs S (.slice ao n cap) i):
  Calls prog 137 #[.slice ao n cap] w λe w'=>∃cs,e=.returned (.tuple #[.agg cs,.bool (uF i)])/\(uF i=true->∃v,cs=(uG i v).toArray/\Bs S v (FJ i).1.2)/\(cs.size=10/\cs.toList.all (·.oneCell')=true)/\w.grownBy w' none:=by
 have G0:=cx w (.cells vR 269) none
 have s0:(w.alloc (.cells vR 269)).heap.size=w.heap.size+1:=cF _ _
 have HL:=hid (Iz S i n ao cap 10 _ hn (hs.below G0) h)
 have HB0:=hid (And.intro (dB.new w vR 269) G0)
 have dY:=hid hs
 have hbad:=yw i 10
 obtain⟨Y,h0⟩:=aq (jd i 10)
 obtain⟨r,hA⟩:=aq (fH Y)
 obtain⟨u,ag⟩:=aq (fH r.2)
 obtain⟨N,hN⟩:∃N:Nat->Int,∀j,(bM (iO u.2 j)).1=N j:=⟨_,λ_=>rfl⟩
 obtain⟨T,h5⟩:=aq (iO u.2 5)
 obtain⟨f,hC⟩:=aq (bC 48 T.1 T.2)
 have t:=hid (And.intro h0 (And.intro hA (And.intro ag (And.intro hN (And.intro h5 hC)))))
 rw[h0]at HL hbad
 clear hs h G0 h0 hA ag hN h5 hC
 go_enter func137,ntmps137
 go_wp2_with fail
 refine HL.o.mono ?_
 rintro e w1 ⟨v,rfl,b1,g1⟩
 obtain⟨a1,c1,rfl,_⟩:=id b1
 have IC:RS w (w1.alloc (.cells #[.slice a1 Y.1.length c1,.bool Y.2] 314)) (λ_ _=>False) S w1.heap.size Y w.heap.size vR:=by
  exact abP
 have O:=hid (oF S w1.heap.size Y _ IC.src IC.ng IC.rd)
 rw[t.o.2.1]at O
 have H1:=hid IC
 clear b1 g1 HB0 HL IC hbad
 go_wp2_with fail
 refine O.o.mono ?_
 rintro e w2 ⟨rfl,r2,f2⟩
 have V9:=H1.o.read f2 r2
 obtain⟨⟨d2,an⟩,ak⟩:=V9.slot 0 (by show 0<10;decide)
 have JN:RS w (w2.setCell (w,0) (.string r.1)) (λ_ _=>False) S w1.heap.size r.2 w.heap.size #[.string r.1,.string ⟨#[]⟩,ι 0,ι 0,ι 0,ι 0,ι 0,.bool false,ι 0,.slice none 0 0]:=V9.store 0 _
 have Q:=hid (oF S w1.heap.size r.2 _ JN.src JN.ng JN.rd)
 rw[t.o.2.2.1]at Q
 have H2:=hid JN
 clear r2 f2 V9 JN O H1
 go_wp2_with fail
 refine Q.o.mono ?_
 rintro e w3 ⟨rfl,r3,f3⟩
 have M:=H2.o.read f3 r3
 obtain⟨⟨d3,au⟩,al⟩:=M.slot 1 (by show 1<10;decide)
 have P:RS w (w3.setCell (w,1) (.string u.1)) (λ_ _=>False) S w1.heap.size u.2 w.heap.size #[.string r.1,.string u.1,ι 0,ι 0,ι 0,ι 0,ι 0,.bool false,ι 0,.slice none 0 0]:=M.store 1 _
 have pl:=P.places [2,3,4,5,6] (λj hj=>by show j<10;simp at hj;omega) agF 319
 rw[World.size_setCell]at pl
 have A:=P.alloc (.cells #[(w,2),(w,3),(w,4),(w,5),(w,6)] 319)
 have B:=hid (kL S w1.heap.size w3.heap.size _ 5 u.2 _ (hid rfl) agE (A.stays [2,3,4,5,6]) A.rd pl)
 simp only[t.o.2.2.2.1]at B
 rw[t.o.2.2.2.2.1]at B
 have q:=hid A
 clear r3 f3 M P Q H2 pl A
 go_wp2_with fail
 refine B.o.mono ?_
 rintro e w4 ⟨rfl,r4,U,G⟩
 have BQ:RS w w4 (λ_ _=>False) S w1.heap.size T w.heap.size #[.string r.1,.string u.1,ι (N 0),ι (N 1),ι (N 2),ι (N 3),ι (N 4),.bool false,ι 0,.slice none 0 0]:=by
  refine q.o.nums G r4 (λp hp=>?_) rfl (λj hj=>?_)
  ·exact adC
  ·have aC:j<10:=hj;match j,aC with
   |0,_=>exact G.cell (q.o.blk.cell 0) (λe=>by rcases e with e|e;exact q.o.ne e;simp at e)
   |1,_=>exact G.cell (q.o.blk.cell 1) (λe=>by rcases e with e|e;exact q.o.ne e;simp at e)
   |2,_=>exact U 0 (w.heap.size,2) rfl
   |3,_=>exact U 1 (w.heap.size,3) rfl
   |4,_=>exact U 2 (w.heap.size,4) rfl
   |5,_=>exact U 3 (w.heap.size,5) rfl
   |6,_=>exact U 4 (w.heap.size,6) rfl
   |7,_=>exact G.cell (q.o.blk.cell 7) (λe=>by rcases e with e|e;exact q.o.ne e;simp at e)
   |8,_=>exact G.cell (q.o.blk.cell 8) (λe=>by rcases e with e|e;exact q.o.ne e;simp at e)
   |9,_=>exact G.cell (q.o.blk.cell 9) (λe=>by rcases e with e|e;exact q.o.ne e;simp at e)
 have Yb:=hid (Ei S w1.heap.size T.1 T.2 _ BQ.src BQ.rd)
 have H:=hid (oD 48 T.1 T.2 BQ.rd.bad)
 rw[t.o.2.2.2.2.2]at Yb H
 have H4:=hid BQ
 clear r4 U G BQ B q
 go_wp2_with fail
 refine Yb.o.mono ?_
 rintro e E ⟨v5,rfl,b5,r5,f5⟩
 obtain⟨a5,c5,rfl,_⟩:=id b5
 have C:=H4.o.read f5 r5
 have z5:=C.size
 have L:=Rd.new (w:=E) b5 (λe=>(H.o e).1) 314
 have ad:=hid (iR.new C.src (cy E.heap.size))
 have ab:=C.alloc (.cells #[.slice a5 f.1.length c5,.bool f.2.2] 314)
 have HE:=hid (Iy S E.heap.size _ _ _ L)
 have I:=hid (And.intro ab L)
 clear b5 r5 f5 C Yb H4 L ab an ak au al
 go_wp2_with fail
 refine HE.o.mono ?_
 rintro e wE ⟨rfl,rfl⟩
 obtain⟨w6,K⟩:=aw (E.alloc (.cells #[.slice a5 f.1.length c5,.bool f.2.2] 314))
 have aK:w6.heap.size=E.heap.size+1:=by rw[K];exact cF _ _
 rw[<-K]at I⊢
 clear K HE
 have Iu:Hid (rfA i=r):=by show _=_;rw[rfA,t.o.1,t.o.2.1]
 have Sn:Hid (Ar i=u):=by show _=_;rw[Ar,Iu.o,t.o.2.2.1]
 have y:Hid (∀j,Af i j=N j):=λj=>by rw[Af,Sn.o,t.o.2.2.2.1]
 have m:Hid (Cn i=f):=by show _=_;rw[Cn,Sn.o,t.o.2.2.2.2.1,t.o.2.2.2.2.2]
 clear t H hn s0
 by_cases k:f.1=[]
 ·have hd:decide (f.1=[])=true:=by rw[k];rfl
  rw[hd];have J:Hid (FJ i=((0,[]),(f.1,f.2.2))):=by show _=_;rw[FJ,m.o,if_pos k]
  have Yc:Hid (uF i=((!f.2.2&&decide (f.1=[]))&&(!f.2.2&&decide (f.2.1=[])))):=by show _=_;rw[uF,J.o,m.o]
  have d:=hid I.o;clear I;obtain⟨y0,y1,y2,y3,y4,y5,y6,y7,y8,y9⟩:=d.o.1.blk.ten;have aj:=(d.o.1.slot 0 (by show 0<10;decide)).2;have ax:=(d.o.1.slot 1 (by show 1<10;decide)).2;have ay:=(d.o.1.slot 2 (by show 2<10;decide)).2;have av:=(d.o.1.slot 3 (by show 3<10;decide)).2;have ai:=(d.o.1.slot 4 (by show 4<10;decide)).2;have az:=(d.o.1.slot 5 (by show 5<10;decide)).2;have aA:=(d.o.1.slot 6 (by show 6<10;decide)).2;have aE:=(d.o.1.slot 7 (by show 7<10;decide)).2;have ar:=(d.o.1.slot 8 (by show 8<10;decide)).2;have aD:=(d.o.1.slot 9 (by show 9<10;decide)).2;have a:=hid (jQ S E.heap.size _ _ _ d.o.2);have c:=hid (jQ S w1.heap.size _ _ _ d.o.1.rd);have HZ:=hid (d.o.1.Br (.string ⟨#[]⟩) (.string ⟨#[]⟩) (ι 0) (ι 0) (ι 0) (ι 0) (ι 0) (.bool false) (ι 0) (.slice none 0 0));have x:=hid (d.o.1.Br (.string r.1) (.string u.1) (ι (N 0)) (ι (N 1)) (ι (N 2)) (ι (N 3)) (ι (N 4)) (.bool false) (ι 0) (.slice none 0 0));unfold Br at HZ x;cases hq1:(!f.2.2&&decide (f.1=[]))
  ·have qa:Hid (uF i=false):=(by show _=_;rw[Yc.o,hq1];rfl);rw[hq1]at a;go_wp2_with fail;refine a.o.mono ?_;rintro e D ⟨rfl,rfl⟩;clear a c x hq1;exact aaO
  ·rw[hq1]at a;cases hq2:(!f.2.2&&decide (f.2.1=[]))
   ·have qa:Hid (uF i=false):=ahi;rw[hq2]at c;go_wp2_with fail;refine a.o.mono ?_;rintro e D ⟨rfl,rfl⟩;go_wp2_with fail;refine c.o.mono ?_;rintro e D ⟨rfl,rfl⟩;clear a c x hq1 hq2;exact aaO
   ·have qa:Hid (uF i=true):=ahi;rw[hq2]at c;go_wp2_with fail;refine a.o.mono ?_;rintro e D ⟨rfl,rfl⟩;go_wp2_with fail;refine c.o.mono ?_;rintro e D ⟨rfl,rfl⟩;clear a c HZ hq1 hq2;go_wp2;refine bodyPost_ret (aF results137 _ _ _ w.heap.size rfl _ x.o.Aq) rfl ⟨_,by rw[qa.o];rfl,λ_=>?_,⟨rfl,rfl⟩,x.o.cf.gb (λ_ _ _ e=>e)⟩;exact⟨_,by rw[uG,Iu.o,Sn.o,y.o,y.o,y.o,y.o,y.o,m.o,J.o,k];rfl,by rw[J.o];exact Bs.nil _⟩
 ·have hd:=cX k;rw[hd];obtain⟨⟨x7,aN⟩,aJ⟩:=I.o.1.slot 7 (by show 7<10;decide);have F:RS w (w6.setCell (w,7) (.bool true)) (λ_ _=>False) S w1.heap.size f.2 w.heap.size #[.string r.1,.string u.1,ι (N 0),ι (N 1),ι (N 2),ι (N 3),ι (N 4),.bool true,ι 0,.slice none 0 0]:=I.o.1.store 7 _;have Z:iZ w6 (w6.setCell (w,7) (.bool true)) (λb=>b=w.heap.size):=(iZ.refl _ (λb=>b=w.heap.size)).set (g:=w.heap.size) rfl 7 _;have af:=I.o.2.xI Z agE;obtain⟨l,R⟩:=aq (jw (f.1,f.2.2));have J:Hid (FJ i=l):=by show _=_;rw[FJ,m.o,if_neg k];exact R
  have Yc:Hid (uF i=((!l.2.2&&decide (l.2.1=[]))&&(!f.2.2&&decide (f.2.1=[])))):=by show _=_;rw[uF,J.o,m.o]
  have HS:=hid (zL S E.heap.size (f.1,f.2.2) _ F.src ad.o af);rw[R]at HS;have H6:=hid F;have X:decide (f.1≠[])=true:=dk k;have aB:=hid X;clear R F af Z I X;go_wp2_with fail;refine HS.o.mono ?_;rintro e w7 ⟨v7,rfl,b7,r7,f7⟩;obtain⟨a7,c7,rfl,_⟩:=id b7;have Mw:=H6.o.other f7 ad.o agE agE agE;obtain⟨⟨x8,aO⟩,aI⟩:=Mw.slot 8 (by show 8<10;decide);obtain⟨⟨x9,aL⟩,aH⟩:=Mw.slot 9 (by show 9<10;decide);have ae:RS w ((w7.setCell (w,8) (ι l.1.1)).setCell (w,9) (.slice a7 l.1.2.length c7)) (λ_ _=>False) S w1.heap.size f.2 w.heap.size #[.string r.1,.string u.1,ι (N 0),ι (N 1),ι (N 2),ι (N 3),ι (N 4),.bool true,ι l.1.1,.slice a7 l.1.2.length c7]:=(Mw.store 8 _).store 9 _;have ah:iZ w7 ((w7.setCell (w,8) (ι l.1.1)).setCell (w,9) (.slice a7 l.1.2.length c7)) (λb=>b=w.heap.size):=((iZ.refl w7 (λb=>b=w.heap.size)).set (g:=w.heap.size) rfl 8 _).set (g:=w.heap.size) rfl 9 _;have z7:=Mw.size;have V:=r7.xI ah agE;have aG:=hid b7;have d:=hid (And.intro ae V);clear Mw ae V ah r7 f7 b7 H6 HS;obtain⟨y0,y1,y2,y3,y4,y5,y6,y7,y8,y9⟩:=d.o.1.blk.ten;have aj:=(d.o.1.slot 0 (by show 0<10;decide)).2;have ax:=(d.o.1.slot 1 (by show 1<10;decide)).2;have ay:=(d.o.1.slot 2 (by show 2<10;decide)).2;have av:=(d.o.1.slot 3 (by show 3<10;decide)).2;have ai:=(d.o.1.slot 4 (by show 4<10;decide)).2;have az:=(d.o.1.slot 5 (by show 5<10;decide)).2;have aA:=(d.o.1.slot 6 (by show 6<10;decide)).2;have aE:=(d.o.1.slot 7 (by show 7<10;decide)).2;have ar:=(d.o.1.slot 8 (by show 8<10;decide)).2;have aD:=(d.o.1.slot 9 (by show 9<10;decide)).2;have a:=hid (jQ S E.heap.size _ _ _ d.o.2);have c:=hid (jQ S w1.heap.size _ _ _ d.o.1.rd);have HZ:=hid (d.o.1.Br (.string ⟨#[]⟩) (.string ⟨#[]⟩) (ι 0) (ι 0) (ι 0) (ι 0) (ι 0) (.bool false) (ι 0) (.slice none 0 0));have x:=hid (d.o.1.Br (.string r.1) (.string u.1) (ι (N 0)) (ι (N 1)) (ι (N 2)) (ι (N 3)) (ι (N 4)) (.bool true) (ι l.1.1) (.slice a7 l.1.2.length c7));unfold Br at HZ x;cases hq1:(!l.2.2&&decide (l.2.1=[]))
  ·have qa:Hid (uF i=false):=(by show _=_;rw[Yc.o,hq1];rfl);rw[hq1]at a;go_wp2_with fail;refine a.o.mono ?_;rintro e D ⟨rfl,rfl⟩;clear a c x hq1;exact aaO
  ·rw[hq1]at a;cases hq2:(!f.2.2&&decide (f.2.1=[]))
   ·have qa:Hid (uF i=false):=ahi;rw[hq2]at c;go_wp2_with fail;refine a.o.mono ?_;rintro e D ⟨rfl,rfl⟩;go_wp2_with fail;refine c.o.mono ?_;rintro e D ⟨rfl,rfl⟩;clear a c x hq1 hq2;exact aaO
   ·have qa:Hid (uF i=true):=ahi;rw[hq2]at c;go_wp2_with fail;refine a.o.mono ?_;rintro e D ⟨rfl,rfl⟩;go_wp2_with fail;refine c.o.mono ?_;rintro e D ⟨rfl,rfl⟩;clear a c HZ hq1 hq2;go_wp2;refine bodyPost_ret (aF results137 _ _ _ w.heap.size rfl _ x.o.Aq) rfl ⟨_,by rw[qa.o];rfl,λ_=>?_,⟨rfl,rfl⟩,x.o.cf.gb (λ_ _ _ e=>e)⟩;exact⟨_,by rw[uG,Iu.o,Sn.o,y.o,y.o,y.o,y.o,y.o,m.o,J.o,aB.o],by rw[J.o];exact aG.o⟩
end Go.Proofs.YtlfifnpjeangmaaGreatDoor
