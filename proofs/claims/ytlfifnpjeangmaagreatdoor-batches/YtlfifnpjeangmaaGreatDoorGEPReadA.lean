import Derived.Test.YtlfifnpjeangmaaGreatDoorGERBoxH
import Derived.Test.YtlfifnpjeangmaaGreatDoorGEPBookA
namespace Go.Proofs.YtlfifnpjeangmaaGreatDoor
set_option maxHeartbeats 1000000
open Proofs.Tryz Go.RowKit
set_option maxRecDepth 100000
variable {f:Bool}{l:E}{g:Nat}{w w':World}{p:Prop}
abbrev lR:Type:=Option Addr×E
def Rd(w:World)(S:lR)(g:Nat)(l:E)(f:Bool):Prop:=
 ∃ao cap,dz w g #[.slice ao l.length cap,.bool f]/\l.length<=cap/\cap<=9223372036854775807/\l.length<=140737488355328/\(∀w0,At w0 S.1 S.2->At w0 ao l)/\(f=true->l=[])
def Bs(S:lR)(v:Value)(l:E):Prop:=∃ao cap,v=.slice ao l.length cap/\l.length<=cap/\cap<=9223372036854775807/\l.length<=140737488355328/\∀w0,At w0 S.1 S.2->At w0 ao l
theorem Bs.nil(S):Bs S σ []:=⟨none,0,rfl,by simp,by decide,by simp,λa _=>At.nil a none⟩
theorem Rd.keep{S:lR}(h:Rd w S g l f)(i:w'.1[g]?=w.1[g]?):Rd w' S g l f:=by
 obtain⟨b,a,d,e⟩:=h;exact⟨b,a,d.kept i,e⟩
theorem Rd.lt{S:lR}(h:Rd w S g l f):g<w.1.size:=by
 obtain⟨_,_,a,_⟩:=h;exact a.lt
theorem Rd.bad{S:lR}(h:Rd w S g l f):f=true->l=[]:=by
 obtain⟨_,_,_,_,_,_,_,h⟩:=h;exact h
theorem Rd.xL{a:Nat->Prop}{S:lR}(h:Rd w S g l f)(k:iU w w' a)(b:¬ a g):Rd w' S g l f:=h.keep (k.block g h.lt b)
def iR(S:lR)(g:Nat):Prop:=0<S.2.length->∀b off,S.1=some ⟨b,off,none⟩->b≠g
theorem iR.new{S:lR}(h:At w S.1 S.2)(d:w.1.size<=g):iR S g:=by
 intro f b a e q;grind [At.addr]
theorem iR.at{S:lR}{ex:Nat->Prop}(h:At w S.1 S.2)(f:iU w w' ex)(n:∀g,ex g->iR S g):At w' S.1 S.2:=by
 intro j l;obtain⟨b,d,i,k⟩:=h j l;refine⟨b,d,i,?_⟩;rw[World.cell?_of_block (w:=w) (w':=w') (a:=⟨b,d+j,none⟩) (f.block b (World.block_lt_of_cell? w _ k) (λe=>n b e G b d i rfl))];exact k
def JP(g b _j:Nat):Prop:=b=g
theorem CF.yz(h:CF w w' (JP g)):iU w w' (λb=>b=g):=⟨h.os,h.tape,h.output,h.size,λb a d=>h.block b a (λ_ e=>d e)⟩
def bC(due:Nat)(l:E)(f:Bool):E×E×Bool:=
 match Box.cut l with
 |some (t,i,r)=>if t.toNat=due then(i,r,f) else([],[],true)
 |none=>([],[],true)
theorem uf(S)(g)(l)(f ok)(w)(h:Rd w S g l f):Calls prog 205 #[π g 0,.bool ok] w λe w'=>e=.returned (.tuple #[])/\Rd w' S g (if ok=true then l else []) (if ok=true then f else true)/\CF w w' (JP g):=by
 cases ok
 .obtain⟨q,i,a,j,k,m,n,o⟩:=h;have d:=a.cell 0;have e:=a.cell 1;simp only[cH,cG,cI]at d e;have r:=a.frozen 0;have t:=a.frozen 1;have b:Hid (Rd ((w.setCell (F g 0) σ).setCell (F g 1) (.bool true)) S g [] true):=by
   exact⟨none,0,(a.set 0 _).set 1 _,by simp,by decide,by simp,λp _=>At.nil p none,λ_=>rfl⟩
  have p:Hid (CF w ((w.setCell (F g 0) σ).setCell (F g 1) (.bool true)) (JP g)):=((CF.refl w (JP g)).setCell g 0 _ (λ_=>rfl)).setCell g 1 _ (λ_=>rfl);clear a j k m n o;go_in;go_wp2;go_end0;grind [Hid.o]
 .have b:=I h;clear h;go_in;go_wp2;go_end0;exact⟨rfl,b,CF.refl _ _⟩
theorem Rd.drewN{S:lR}(h:Rd w S g l f)(n):Rd (w.drewN n) S g l f:=h.keep rfl
theorem Ej(a:Nat)(S)(g)(l)(f)(w)(C:At w S.1 S.2)(h:Rd w S g l f):Calls prog 206 #[π g 0,.int .u8 (a:Int)] w λe w'=>∃v,e=.returned v/\Bs S v (bC a l f).1/\Rd w' S g (bC a l f).2.1 (bC a l f).2.2/\CF w w' (JP g):=by
 have P:=I (λm=>uf S g l f false (w.drewN m) (h.drewN m))
 obtain⟨ao,L,n,A,u,v,x,B⟩:=h
 have c0:=n.cell 0
 simp only[cH,cG]at c0
 have f0:=n.frozen 0
 have hcut:=I (T1 l l.length ao L w (I rfl) v A u (x w C))
 cases b:Box.cut l with
 |none=>
  have o:Hid (bC a l f=([],[],true)):=by show _=_;rw[bC,b]
  have p:=I b;clear n A u v x B b C;go_in;go_wp2_with (first|(go_at_call 126;refine hcut.mono ?_;rintro e w' ⟨_,d,m,rfl⟩;obtain rfl:=d p)|(go_at_call 205;refine(P m).mono ?_;rintro e w2 ⟨rfl,k,j⟩))
  go_ret;rw[o];exact⟨_,rfl,Bs.nil _,k,j.jN⟩
 |some q=>
  obtain⟨t,i,r⟩:=q;by_cases e:t.toNat=a
  .have hq:((t.toNat:Int)==(a:Int))=true:=fA;have o:Hid (bC a l f=(i,r,f)):=(by show _=_;grind [bC]);have p:=I b;have HB:=I n;have d:=I (dN u (dN v (dN x B)));have D:Hid (i.length<=l.length/\r.length<=l.length/\(l=[]->False)):=by
    have:=Box.mP b;exact⟨by omega,by omega,fA⟩
   clear n A u v x B b C e;go_in;go_wp2_with (first|(go_at_call 126;refine hcut.mono ?_;rintro e w' ⟨M,_,m,rfl⟩;obtain⟨Q,R,J,K,rfl,T,U,p3,V,X,p6⟩:=M _ _ _ p))
   go_ret;rw[o];have fr:CF w ((w.drewN m).setCell (F g 0) (.slice J r.length K)) (JP g):=((CF.refl w (JP g)).drewN m).setCell g 0 _ (λ_=>rfl);refine⟨_,rfl,⟨Q,R,rfl,U,by have:=d.1;omega,by have:=d.2.1;have:=D.1;show i.length<=_;omega,λy q=>T y (d.2.2.1 y q)⟩,⟨J,K,(HB.drewN m).set 0 _,X,by have:=d.1;omega,by have:=d.2.1;have:=D.2.1;show r.length<=_;omega,λy q=>V y (d.2.2.1 y q),λe=>absurd (d.2.2.2 e) D.2.2⟩,fr⟩
  .have hq:((t.toNat:Int)==(a:Int))=false:=mN;have o:Hid (bC a l f=([],[],true)):=(by show _=_;grind [bC]);have p:=I b;clear n A u v x B b C e;go_in;go_wp2_with (first|(go_at_call 126;refine hcut.mono ?_;rintro e w' ⟨M,_,m,rfl⟩;obtain⟨Q,R,J,K,rfl,T,U,p3,V,X,p6⟩:=M _ _ _ p)|(go_at_call 205;refine(P m).mono ?_;rintro e w2 ⟨rfl,k,j⟩))
   go_ret;rw[o];exact⟨_,rfl,Bs.nil _,k,j.jN⟩
theorem zL(S)(g)(l)(f)(w)(a:At w S.1 S.2)(h:Rd w S g l f):Calls prog 182 #[π g 0] w λe w'=>∃v,e=.returned v/\Bs S v (bC 4 l f).1/\Rd w' S g (bC 4 l f).2.1 (bC 4 l f).2.2/\CF w w' (JP g):=by
 have b:=I (Ej 4 S g l f w a h)
 clear h a
 go_in
 go_wp2_with (first|(go_at_call 206;refine b.mono ?_;rintro e k ⟨v,rfl,h,j,i⟩;obtain⟨d,a,rfl,q⟩:=h))
 go_ret
 exact⟨_,rfl,⟨d,a,rfl,q⟩,j,i⟩
theorem Tryz.Qr:(prog.info? 314).map (·.size)=some 2:=by kernel_rfl
theorem dz.two{a b:Value}(h:dz w g #[a,b]):w.cell? (F g 0)=some a/\w.cell? (F g 1)=some b:=⟨h.cell 0,h.cell 1⟩
theorem zM{x y:Value}(h:dz w g #[x,y]):(loadVar 314 ⟨g,0,none⟩).run prog w=.ok (.agg #[x,y]) w:=h.load 314 _ underlying314 rfl Tryz.Qr
theorem MB(b)(n a)(w):Calls prog 234 #[.slice b n a] w λe w'=>e=.returned (.agg #[.slice b n a,.bool false])/\w.grownBy w' none:=by
 have d:=I (cx w (.cells #[.slice b n a,.bool false] 314) none)
 have HB:=I (dz.new w #[.slice b n a,.bool false] 314)
 go_in
 go_wp2
 exact bodyPost_ret (jE results234 _ _ _ w.1.size rfl _ (zM HB)) rfl ⟨rfl,d⟩
theorem IB(S)(g)(l)(f)(w)(h:Rd w S g l f):Calls prog 168 #[π g 0] w λe w'=>e=.returned (.bool (decide (l=[])))/\w'=w:=by
 obtain⟨i,d,a,_⟩:=h
 obtain⟨b,j⟩:=a.two
 clear a
 cases l with
 |nil=>
  go_in;exact lO
 |cons x l=>
  have e:(((x::l).length:Int)==0)=false:=fA;obtain⟨n,a⟩:=N ((x::l).length);rw[a]at e b;clear a;go_in;go_wp2;go_ret;exact⟨by simp,rfl⟩
theorem jR(S)(g)(l)(f)(w)(h:Rd w S g l f):Calls prog 170 #[π g 0] w λe w'=>e=.returned (.bool (!f&&decide (l=[])))/\w'=w:=by
 have b:=I (IB S g l f w h)
 obtain⟨i,d,a,_⟩:=h
 obtain⟨j,k⟩:=a.two
 clear a
 cases f
 .go_in;go_wp2_with (first|(go_at_call 168;refine b.mono ?_;rintro e a ⟨rfl,rfl⟩))
  go_ret;exact⟨by simp,rfl⟩
 .go_in;go_wp2;go_ret;exact⟨by simp,rfl⟩
theorem El(S)(g)(l)(f)(w)(b:At w S.1 S.2)(h:Rd w S g l f):Calls prog 167 #[π g 0] w λe w'=>∃v,e=.returned (.agg #[v,.bool (bC 48 l f).2.2])/\Bs S v (bC 48 l f).1/\Rd w' S g (bC 48 l f).2.1 (bC 48 l f).2.2/\CF w w' (JP g):=by
 have k:=I (cx w (.cells #[σ,.bool false] 314) none)
 have r:=h.lt
 have i:=I (dz.new w #[σ,.bool false] 314)
 have a:=h.keep (k.block g r Z)
 have C:=I (Ej 48 S g l f _ (b.below k) a)
 have j:w.1.size≠g:=G
 clear h a b
 go_in
 go_wp2_with fail
 refine C.mono ?_
 rintro e y ⟨v,rfl,o,u,h⟩
 have x:=u
 have p:=o
 obtain⟨n,d,rfl,q⟩:=p
 obtain⟨D,A,b,m⟩:=x
 obtain⟨K,L⟩:=b.two
 have a:=i.kept (h.yz.block _ i.o.lt j)
 obtain⟨M,P⟩:=a.two
 have Q:=a.frozen 0
 have R:=a.frozen 1
 have HS:=I a
 clear b a q m
 have FX:iU y ((y.setCell (F w.1.size 0) (.slice n (bC 48 l f).1.length d)).setCell (F w.1.size 1) (.bool (bC 48 l f).2.2)) (λb=>b=w.1.size):=(by grind [iU.set,iU.refl])
 have t:=h.size
 have J:(w.alloc (.cells #[σ,.bool false] 314)).1.size=w.1.size+1:=cF _ _
 have m:=I (u.xL FX (λe=>j e.symm))
 have a:=I o
 have b:Hid (CF w ((y.setCell (F w.1.size 0) (.slice n (bC 48 l f).1.length d)).setCell (F w.1.size 1) (.bool (bC 48 l f).2.2)) (JP g)):=((CF.before k h).setCell w.1.size 0 _ (λq=>absurd q (gC _))).setCell w.1.size 1 _ (λq=>absurd q (gC _))
 have B:=I (zM ((HS.set 0 (.slice n (bC 48 l f).1.length d)).set 1 (.bool (bC 48 l f).2.2)))
 clear FX u o h t J
 go_wp2
 exact bodyPost_ret (jE results167 _ _ _ w.1.size rfl _ B) rfl ⟨_,rfl,a,m,b⟩
def bO(zs:E):E×Bool:=
 if (bC 48 zs false).2.2=false/\(bC 48 zs false).2.1=[] then((bC 48 zs false).1,false) else([],true)
theorem Rd.new{w:World}{S:lR}{d:Option Addr}{l:E}{b:Nat}{f:Bool}(h:Bs S (.slice d l.length b) l)(m:f=true->l=[])(t):Rd (w.alloc (.cells #[.slice d l.length b,.bool f] t)) S w.1.size l f:=by
 obtain⟨a,c,e,g,i,j,k⟩:=h;injection e with e1 _ e3;subst e1 e3;exact⟨d,b,dz.new w _ t,g,i,j,k,m⟩
theorem oG(a)(l)(f)(b:f=true->l=[]):(bC a l f).2.2=true->(bC a l f).1=[]/\(bC a l f).2.1=[]:=by
 grind [Box.cut,bC]
theorem uH{a w d:World}{g:Nat}(h:a.grownBy w none)(f:iU w d (λb=>b=g))(j:a.1.size<=g):a.grownBy d none:=
 ⟨f.os.trans h.os,f.tape.trans h.tape,f.output.trans h.output,cE h.size f.size,λb i _=>by
  have:=h.size
  rw[f.block b G (λe=>by omega),h.block b i Z]⟩
theorem uI(S)(a)(n)(l)(d)(w)(Q:Hid (a.length=n))(j:At w S.1 S.2)(h:Bs S (.slice l n d) a):Calls Tryz.prog 204 #[.slice l n d] w λe b=>∃v,e=.returned (.agg #[v,.bool (bO a).2])/\Bs S v (bO a).1/\w.grownBy b none:=by
 obtain rfl:=Q.o
 have i:=cx w (.cells #[.slice none 0 0,.bool false] 314) none
 have b:=I (dz.new w #[.slice none 0 0,.bool false] 314)
 have U:(w.alloc (.cells #[.slice none 0 0,.bool false] 314)).1.size=w.1.size+1:=cF _ _
 have o:=I h
 have t:=I i
 have q:=I (j.below i)
 clear h i j
 go_enter Tryz.func204,Tryz.ntmps204
 go_wp2_with fail
 refine(MB l a.length d _).mono ?_
 rintro e j ⟨rfl,m⟩
 have V:=m.size
 have r:=Rd.new (w:=j) o (f:=false) (λe=>by cases e) 314
 have k:=cx j (.cells #[.slice l a.length d,.bool false] 314) none
 have sa:(j.alloc (.cells #[.slice l a.length d,.bool false] 314)).1.size=j.1.size+1:=cF _ _
 have h:Hid (dz (j.alloc (.cells #[.slice l a.length d,.bool false] 314)) w.1.size #[.slice none 0 0,.bool false]):=(b.grown m Z).grown k Z
 have p:=I (aa t (aa m k))
 have i:=(q.below m).below k
 have K:=I (El S j.1.size a false _ i r)
 clear r m k o b t i q
 go_wp2_with fail
 refine K.mono ?_
 rintro e k ⟨v,rfl,B,L,u⟩
 obtain⟨A,C,rfl,_⟩:=id B
 have W:=u.size
 have r:=oG 48 a false (λe=>by cases e)
 have b:=cx k (.cells #[.slice A (bC 48 a false).1.length C,.bool (bC 48 a false).2.2] 314) none
 have sb:(k.alloc (.cells #[.slice A (bC 48 a false).1.length C,.bool (bC 48 a false).2.2] 314)).1.size=k.1.size+1:=cF _ _
 have M:=Rd.new (w:=k) B (λe=>(r e).1) 314
 have t:=L.keep (b.block _ G Z)
 have J:=I (jR S j.1.size _ _ _ t)
 have y:=I (uf S k.1.size _ _ (!(bC 48 a false).2.2&&decide ((bC 48 a false).2.1=[])) _ M)
 have o:Hid (dz (k.alloc (.cells #[.slice A (bC 48 a false).1.length C,.bool (bC 48 a false).2.2] 314)) w.1.size #[.slice none 0 0,.bool false]):=(h.kept (u.yz.block _ h.o.lt G)).grown b Z
 have x:=I (aa (uH p u.yz G) b)
 have D:w.1.size≠k.1.size:=G
 have i:Hid ((if (!(bC 48 a false).2.2&&decide ((bC 48 a false).2.1=[]))=true then(bC 48 a false).1 else [])=(bO a).1/\(if (!(bC 48 a false).2.2&&decide ((bC 48 a false).2.1=[]))=true then(bC 48 a false).2.2 else true)=(bO a).2):=by
  unfold bO;by_cases e:(bC 48 a false).2.2=false/\(bC 48 a false).2.1=[]
  .rw[dT e,dT (by simp[e.1,e.2]),dT (by simp[e.1,e.2])];exact⟨rfl,e.1⟩
  .rw[cZ e,cZ (λq=>e (by simpa using q)),cZ (λq=>e (by simpa using q))];exact⟨rfl,rfl⟩
 rw[i.1,i.2]at y
 clear B L u r b M t K h p
 go_wp2_with fail
 refine J.mono ?_
 rintro e w3 ⟨rfl,rfl⟩
 go_wp2_with fail
 refine y.mono ?_
 rintro e u ⟨rfl,T,t⟩
 have X:=t.size
 obtain⟨q,r,p,B,K,L,M,R⟩:=T
 obtain⟨c0,c1⟩:=p.two
 have h:=o.kept (t.yz.block _ o.o.lt D)
 obtain⟨d0,d1⟩:=h.two
 have g0:=h.frozen 0
 have m:=h.frozen 1
 have HS:=I (zM ((h.set 0 (.slice q (bO a).1.length r)).set 1 (.bool (bO a).2)))
 have FX:iU u ((u.setCell ⟨w.1.size,0,none⟩ (.slice q (bO a).1.length r)).setCell ⟨w.1.size,1,none⟩ (.bool (bO a).2)) (λb=>b=w.1.size):=((iU.refl u (λb=>b=w.1.size)).set (g:=w.1.size) rfl 0 _).set (g:=w.1.size) rfl 1 _
 have P:=I (uH (uH x t.yz G) FX (cy _))
 have b:Hid (Bs S (.slice q (bO a).1.length r) (bO a).1):=⟨q,r,rfl,B,K,L,M⟩
 clear p h B K L M R FX t y J i U V W X sa sb
 go_wp2
 exact bodyPost_ret (jE Tryz.results204 _ _ _ w.1.size rfl _ HS) rfl ⟨_,rfl,b,P⟩
def bM(s:E×Bool):Int×(E×Bool):=
 match Box.num (bC 2 s.1 s.2).1 with
 |some v=>(v,(bC 2 s.1 s.2).2)
 |none=>(0,([],true))
def iO(s:E×Bool):Nat->E×Bool
 |0=>s
 |k+1=>(bM (iO s k)).2
structure Em(w:World)(g pb:Nat)(ps:List (Nat×Nat)):Prop where
 ptrs:dz w pb (ps.map λp=>Value.pointer (some ⟨p.1,p.2,none⟩)).toArray
 live:∀p∈ps,b' w p.1 (p.2+1)
 ne:∀p∈ps,p.1≠g/\p.1≠pb
 gpb:g≠pb
 nd:ps.Nodup
def re(g:Nat)(ps:List (Nat×Nat))(b j:Nat):Prop:=b=g\/(b,j)∈ps
set_option maxHeartbeats 2000000
theorem Bs.at{S:lR}{d:Option Addr}{n b:Nat}{l:E}(h:Bs S (.slice d n b) l)(k:At w S.1 S.2):l.length=n/\n<=b/\b<=9223372036854775807/\n<=140737488355328/\At w d l:=by
 obtain⟨a,c,e,f,g,i,j⟩:=h;grind
def xQ(w:World)(S:lR)(g:Nat)(ps:List (Nat×Nat)):Prop:=∀w',CF w w' (re g ps)->At w' S.1 S.2
theorem xQ.of{S:lR}{g:Nat}{ps:List (Nat×Nat)}(h:At w S.1 S.2)(d:iR S g)(f:∀p∈ps,iR S p.1):xQ w S g ps:=by
 intro k c;refine h.cf c (λb a e j i q=>?_);rcases q with q|q
 .exact d G b a e q
 .exact f _ q G b a e rfl
theorem MC(s):bM s=((Box.num (bC 2 s.1 s.2).1).getD 0,if (Box.num (bC 2 s.1 s.2).1).isSome=true then(bC 2 s.1 s.2).2 else([],true)):=by
 unfold bM;cases Box.num (bC 2 s.1 s.2).1<;>rfl
theorem En(d)(n)(f)(a)(w)(i:Hid (d.length=n))(h:n<=140737488355328)(b:n<=a)(g:At w f d):Calls Tryz.prog 154 #[.slice f n a] w λe j=>e=.returned (.tuple #[Y ((Box.num d).getD 0),.bool (Box.num d).isSome])/\∃m,j=w.drewN m:=by
 refine(Dv d n f a w i h b g).mono ?_
 grind [Box.num]
theorem Uz{b o:Nat}(h:b' w b (o+1)):∃v,w.c b o=some v:=cA.1 (h.some o G)
theorem qj(S)(g U)(r)(n)(l)(f)(w)(hn:Hid (r.length=n))(ae:n<=100)(d:xQ w S g r)(h:Rd w S g l f)(b:Em w g U r):Calls Tryz.prog 166 #[π g 0,ς U 0 n n] w λe a=>e=.returned (.tuple #[])/\Rd a S g (iO (l,f) n).1 (iO (l,f) n).2/\(∀j p,r[j]?=some p->a.cell? (F p.1 p.2)=some (Y (bM (iO (l,f) j)).1))/\CF w a (re g r):=by
 have HH:=I h
 have t:=I b
 have A:=I d
 clear h b d
 go_enter Tryz.func166,Tryz.ntmps166
 go_wp2
 go_loopw [10] (λi wr=>∃k:Nat,k<=n/\i = Y k/\Rd wr S g (iO (l,f) k).1 (iO (l,f) k).2/\(∀j p,j<k->r[j]?=some p->wr.cell? (F p.1 p.2)=some (Y (bM (iO (l,f) j)).1))/\CF w wr (re g r)) (λi _=>n-(intOf i).toNat)
 case atStart=>exact⟨0,cS _,rfl,HH,λj p u=>by omega,CF.refl _ _⟩
 case round=>
  obtain⟨k,hk,rfl,i,d,h⟩:=hrel;by_cases hlt:k<n
  .have mW:(k:Int)<(n:Int):=G;have ad:(0:Int)<=(k:Int):=G;have gO:k<r.length:=mT;obtain⟨p,y⟩:∃p,r[k]?=some p:=⟨_,cL gO⟩
   have a:=ey y;have T:=t.o.ne p a;have af:wr.cell? (F U k)=some (π p.1 p.2):=by
    refine h.cell ?_ (λe=>?_)
    .rw[t.ptrs.cell k,cH,eA,y];rfl
    .rcases e with e|e
     .exact t.gpb e.symm
     .exact(t.o.ne _ e).2 rfl
   have B:=(t.live p a).cf h;have HT:=I (Ej 2 S g _ _ wr (A _ h) i);obtain⟨s,HS⟩:∃s,Hid (iO (l,f) k=s):=⟨_,I rfl⟩
   rw[HS]at HT;have HD:=I d;have W:=I h;clear i d h;go_wp2_with (go_at_call 206;refine HT.mono ?_;rintro e V ⟨v,rfl,x,J,C⟩;obtain⟨a2,c2,rfl,_⟩:=id x)
   have q:=x.at (w:=V) (A _ (W.o.trans (C.mono (λb o _ e=>.inl e)) (λ_ _ _ e=>e)));have Q:=I (En (bC 2 s.1 s.2).1 (bC 2 s.1 s.2).1.length a2 c2 V (I rfl) q.2.2.2.1 q.2.1 q.2.2.2.2);have kI:=I (MC s);obtain⟨D,HV⟩:∃D,Hid ((Box.num (bC 2 s.1 s.2).1).getD 0=D):=⟨_,I rfl⟩
   obtain⟨ok,HK⟩:∃ok,Hid ((Box.num (bC 2 s.1 s.2).1).isSome=ok):=⟨_,I rfl⟩
   rw[HV,HK]at Q kI;have X:=I (λm=>uf S g _ _ ok (V.drewN m) (J.drewN m));have qa:=I C;clear q x J C;refine Q.mono ?_;rintro e w3 ⟨rfl,m,rfl⟩;go_wp2_with fail;refine(X m).mono ?_;rintro e J ⟨rfl,r4,f4⟩;have K:=qa.o.trans f4.jN (λ_ _ _ e=>e);have x:=B.cf K;obtain⟨x0,ah⟩:=Uz x;have fz:=x.frozen p.2;have FW:CF wr (J.setCell (F p.1 p.2) (Y D)) (re g r):=(K.mono (λb o _ e=>.inl e)).setCell p.1 p.2 _ (λ_=>.inr a);have M:=I (W.o.trans FW (λ_ _ _ e=>e));have fx:iU J (J.setCell (F p.1 p.2) (Y D)) (λb=>b=p.1):=(iU.refl J (λb=>b=p.1)).set (g:=p.1) rfl p.2 _;have P:=I (r4.xL fx (λe=>T.1 e.symm));have L:Hid (∀j q,j<k+1->r[j]?=some q->(J.setCell (F p.1 p.2) (Y D)).cell? (F q.1 q.2)=some (Y (bM (iO (l,f) j)).1)):=by
    intro j q u hq;by_cases e:j=k
    .grind [dw,Hid.o]
    .have ag:q≠p:=λR=>by
      subst R;have:=(List.getElem?_inj gO t.nd).1 (y.trans hq.symm);omega
     have C:=HD j q G hq;have ab:=K.cell C (λR=>(t.o.ne q (ey hq)).1 R);grind [ax,RowKit.Below.heap_setCell,World.cell?_of_block]
   have R:Hid (iO (l,f) (k+1)=(bM s).2):=(by show _=_;rw[iO,HS]);rw[kI]at R;clear K FW fx r4 f4 x B X Q;go_wp2;go_roundw
   case rel=>
    refine⟨k+1,by omega,by go_num,?_,L.o,M.o⟩;rw[R];have:=P.o;cases ok
    .exact this
    .exact this
   case measure=>simp[intOf];omega
  .obtain rfl:k=n:=by omega
   have e:=I (dN i (dN d h));have m:¬ (k:Int)<(k:Int):=G;clear i d h;go_wp2;go_end0;exact⟨rfl,e.1,by first|exact(λj p u=>e.2.1 j p (by rw[<-hn];exact(cM.1 u).1) u)|exact(λj a b u=>e.2.1 j (a,b) (by rw[<-hn];exact(cM.1 u).1) u),e.2.2⟩
def fJ(s:E×Bool):E×(E×Bool):=
 ((bC 4 s.1 s.2).1,if di (bC 4 s.1 s.2).1=true then(bC 4 s.1 s.2).2 else([],true))
theorem JQ(S)(g)(l)(f)(w)(a:At w S.1 S.2)(b:iR S g)(h:Rd w S g l f):Calls prog 165 #[π g 0] w λe d=>e=.returned (.string ⟨(fJ (l,f)).1.toArray⟩)/\Rd d S g (fJ (l,f)).2.1 (fJ (l,f)).2.2/\CF w d (JP g):=by
 have k:=I (zL S g l f w a h)
 have HS:=I (dN a b)
 clear h a b
 go_in
 go_wp2_with fail
 refine k.mono ?_
 rintro e b ⟨v,rfl,a,m,h⟩
 obtain⟨o,p,rfl,_⟩:=id a
 have d:=a.at (w:=b) (iR.at HS.1 h.yz (λ_ e=>e▸HS.2))
 have q:=iq (P:=prog) b 37 9 5 underlying37 underlying5 underlying9 o p (bC 4 l f).1 d.2.2.2.2
 have i:=I (DX (bC 4 l f).1 (bC 4 l f).1.length ⟨(bC 4 l f).1.toArray⟩ b (I rfl) (I rfl) (by have:=d.2.2.2.1;omega))
 have j:=I (uf S g _ _ (di (bC 4 l f).1) b m)
 have n:=I h
 clear k a m h d
 go_wp2_with fail
 refine i.mono ?_
 rintro e w3 ⟨rfl,rfl⟩
 go_wp2_with fail
 refine j.mono ?_
 rintro e r ⟨rfl,a,d⟩
 have k:=I (n.o.trans d (λ_ _ _ e=>e))
 have m:Hid (Rd r S g (fJ (l,f)).2.1 (fJ (l,f)).2.2):=by
  unfold fJ;cases h:di (bC 4 l f).1
  .rw[h]at a;simp only[fL,if_false]at a⊢;exact a
  .rw[h]at a;simp only[if_true]at a⊢;exact a
 clear a d j i
 go_wp2
 go_ret
 exact⟨rfl,m,k⟩
def jd(s:E×Bool):(Int×E)×(E×Bool):=
 (((bM s).1,(bC 4 (bM s).2.1 (bM s).2.2).1),(bC 4 (bM s).2.1 (bM s).2.2).2)
theorem Tryz.Qt:(prog.info? 267).map (·.size)=some 2:=by kernel_rfl
theorem Pe{w:World}{g a:Nat}{d e:Value}(f:w.c g a=some d)(h:w.c g (a+1)=some e):w.rangeAt g a [d,e]:=by
 intro j u b;match j,b with
 |0,b=>injection b with b;subst b;exact f
 |1,b=>injection b with b;subst b;exact h
 |j+2,b=>simp at b
theorem MG{w:World}{g:Nat}{x y:Value}(a:w.c g 0=some x)(b:w.c g 1=some y):(loadVar 267 ⟨g,0,none⟩).run prog w=.ok (.agg #[x,y]) w:=eP (Pe a b) 267 _ underlying267 rfl Tryz.Qt
theorem Eo(S)(g)(l)(f)(w)(q:At w S.1 S.2)(u:iR S g)(h:Rd w S g l f):Calls prog 169 #[π g 0] w λe a=>∃v,e=.returned (.agg #[Y (jd (l,f)).1.1,v])/\Bs S v (jd (l,f)).1.2/\Rd a S g (jd (l,f)).2.1 (jd (l,f)).2.2/\CF w a (JP g):=by
 have r:=h.lt
 have i:w.grownBy ((w.alloc (.cells #[Y 0,σ] 267)).alloc (.cells #[π w.1.size 0] 319)) none:=aM (cx w _ none) _
 have o:=h.keep (i.block g r Z)
 have p:(w.alloc (.cells #[Y 0,σ] 267)).1.size=w.1.size+1:=cF _ _
 have d:=(dz.new w #[Y 0,σ] 267).alloc (.cells #[π w.1.size 0] 319)
 have b:=dz.new (w.alloc (.cells #[Y 0,σ] 267)) #[π w.1.size 0] 319
 rw[p]at b
 have j:b' ((w.alloc (.cells #[Y 0,σ] 267)).alloc (.cells #[π w.1.size 0] 319)) w.1.size 2:=(b'.new w _ _).alloc _
 have m:Em ((w.alloc (.cells #[Y 0,σ] 267)).alloc (.cells #[π w.1.size 0] 319)) g (w.1.size+1) [(w.1.size,0)]:=⟨b,(by grind [b'.mono]),fA,by omega,by simp⟩
 have a:xQ ((w.alloc (.cells #[Y 0,σ] 267)).alloc (.cells #[π w.1.size 0] 319)) S g [(w.1.size,0)]:=(by grind [At.below,iR.new,xQ.of])
 have k:=I (qj S g (w.1.size+1) [(w.1.size,0)] 1 l f _ (I rfl) G a o m)
 have n:=I a
 have t:=I (dN j d)
 have L:=I i
 clear h o m b d j i p a q u
 go_in
 go_wp2_with fail
 refine k.mono ?_
 rintro e j ⟨rfl,d,b,a⟩
 have C:j.c w.1.size 0=some (Y (bM (l,f)).1):=b 0 (w.1.size,0) rfl
 have D:j.c w.1.size 1=some σ:=a.cell (t.2.cell 1) (λe=>by
  rcases e with e|e
  .omega
  .simp at e)
 have u:=I (zL S g _ _ j (n _ a) d)
 have y:=I (CF.before L a)
 have B:=I (t.1.cf a)
 clear d b a k
 go_wp2_with fail
 refine u.mono ?_
 rintro e w3 ⟨v,rfl,p,A,i⟩
 obtain⟨a,d,rfl,_⟩:=id p
 have h:w.1.size≠g:=G
 have J:=i.cell C h
 have K:=i.cell D h
 have L3:=B.cf i
 have R:=L3.frozen 0
 have T:=L3.frozen 1
 have M:=y.size
 have P:=i.size
 have x:CF w j (JP g):=y.mono (λb o k e=>by
  rcases e with e|e
  .exact e
  .have m:=ew.1 e;have Q:b=w.1.size:=congrArg Prod.fst m
   omega)
 have k:Hid (CF w (((w3.setCell (F w.1.size 1) (.slice a (bC 4 (iO (l,f) 1).1 (iO (l,f) 1).2).1.length d)).setCell (F w.1.size 0) (Y (bM (l,f)).1)).setCell (F w.1.size 1) (.slice a (bC 4 (iO (l,f) 1).1 (iO (l,f) 1).2).1.length d)) (JP g)):=(((x.trans i (λ_ _ _ e=>e)).setCell w.1.size 1 _ (λq=>absurd q (gC _))).setCell w.1.size 0 _ (λq=>absurd q (gC _))).setCell w.1.size 1 _ (λq=>absurd q (gC _))
 have o:iU w3 (((w3.setCell (F w.1.size 1) (.slice a (bC 4 (iO (l,f) 1).1 (iO (l,f) 1).2).1.length d)).setCell (F w.1.size 0) (Y (bM (l,f)).1)).setCell (F w.1.size 1) (.slice a (bC 4 (iO (l,f) 1).1 (iO (l,f) 1).2).1.length d)) (λb=>b=w.1.size):=(((iU.refl w3 (λb=>b=w.1.size)).set (g:=w.1.size) rfl 1 _).set (g:=w.1.size) rfl 0 _).set (g:=w.1.size) rfl 1 _
 have q:=I (A.xL o (λe=>h e.symm))
 have b:=I p
 have m:=I (MG (ax (.slice a (bC 4 (iO (l,f) 1).1 (iO (l,f) 1).2).1.length d) (dw (Y (bM (l,f)).1) (ax (.slice a (bC 4 (iO (l,f) 1).1 (iO (l,f) 1).2).1.length d) J O)) O) (dw (.slice a (bC 4 (iO (l,f) 1).1 (iO (l,f) 1).2).1.length d) (ax (Y (bM (l,f)).1) (dw (.slice a (bC 4 (iO (l,f) 1).1 (iO (l,f) 1).2).1.length d) K) O)))
 clear o x A p i L3 M P u
 go_wp2
 exact bodyPost_ret (jE results169 _ _ _ w.1.size rfl _ m) rfl ⟨_,rfl,b,q,k⟩
def jf(aX:E)(due:Int):E×Bool:=
 if (bM (bO aX)).1=due/\aX.length<=300 then(bM (bO aX)).2 else([],true)
theorem mo(a):(bO a).2=true->(bO a).1=[]:=by
 grind [bO]
theorem IC(S)(k)(n)(J)(r)(f)(w)(hn:Hid (k.length=n))(d:At w S.1 S.2)(h:Bs S (.slice J n r) k):Calls Tryz.prog 164 #[.slice J n r,Y f] w λe a=>∃v,e=.returned (.agg #[v,.bool (jf k f).2])/\Bs S v (jf k f).1/\w.grownBy a none:=by
 have b:=cx w (.cells #[σ,.bool false] 314) none
 have o:=I (dz.new w #[σ,.bool false] 314)
 have s0:(w.alloc (.cells #[σ,.bool false] 314)).1.size=w.1.size+1:=cF _ _
 have P:=I (uI S k n J r _ hn (d.below b) h)
 have sS:=I b
 obtain⟨m,M⟩:∃m,Hid ((bM (bO k)).1=m):=⟨_,I rfl⟩
 obtain⟨ok,y,a⟩:∃ok:Bool,(ok=true↔m=f/\n<=300)/\True:=⟨decide (m=f/\n<=300),by simp,trivial⟩
 have A:Hid (jf k f=if ok=true then(bM (bO k)).2 else([],true)):=by
  grind [Hid.o,jf]
 have U:=I (d.below b)
 clear h b a d
 go_enter Tryz.func164,Tryz.ntmps164
 go_wp2_with fail
 refine P.mono ?_
 rintro e a ⟨v,rfl,x,t⟩
 obtain⟨i,h,rfl,_⟩:=id x
 have s1:=t.size
 obtain⟨d,q⟩:∃d,Hid (bO k=d):=⟨_,I rfl⟩
 rw[q]at x M A
 have j:=mo k
 rw[q]at j⊢
 have K:(a.alloc (.cells #[.slice i d.1.length h,.bool d.2] 314)).1.size=a.1.size+1:=cF _ _
 have L:((a.alloc (.cells #[.slice i d.1.length h,.bool d.2] 314)).alloc (.cells #[Y 0] 2)).1.size=a.1.size+1+1:=by rw[cF,K]
 have B:=cx a (.cells #[.slice i d.1.length h,.bool d.2] 314) none
 have u:(a.alloc (.cells #[.slice i d.1.length h,.bool d.2] 314)).grownBy (((a.alloc (.cells #[.slice i d.1.length h,.bool d.2] 314)).alloc (.cells #[Y 0] 2)).alloc (.cells #[π (a.1.size+1) 0] 319)) none:=aM (cx _ _ none) _
 have X:=Rd.new (w:=a) x j 314
 have T:=X.keep (u.block _ G Z)
 have V:=(dz.new (a.alloc (.cells #[.slice i d.1.length h,.bool d.2] 314)) #[Y 0] 2).alloc (.cells #[π (a.1.size+1) 0] 319)
 rw[K]at V
 have D:=dz.new ((a.alloc (.cells #[.slice i d.1.length h,.bool d.2] 314)).alloc (.cells #[Y 0] 2)) #[π (a.1.size+1) 0] 319
 rw[L]at D
 have R:b' (((a.alloc (.cells #[.slice i d.1.length h,.bool d.2] 314)).alloc (.cells #[Y 0] 2)).alloc (.cells #[π (a.1.size+1) 0] 319)) (a.1.size+1) 1:=by
  grind [b'.alloc,b'.new]
 have W:Em (((a.alloc (.cells #[.slice i d.1.length h,.bool d.2] 314)).alloc (.cells #[Y 0] 2)).alloc (.cells #[π (a.1.size+1) 0] 319)) a.1.size (a.1.size+1+1) [(a.1.size+1,0)]:=⟨D,fA,fA,by omega,by simp⟩
 have b:=U.below t
 have l:=xQ.of (ps:=[(a.1.size+1,0)]) ((b.below B).below u) (iR.new b (cy a.1.size)) (λp g=>by rw[ew.1 g];exact iR.new b (fg _))
 have Q:=I (qj S a.1.size (a.1.size+1+1) [(a.1.size+1,0)] 1 d.1 d.2 _ (I rfl) G l T W)
 have p:Hid (dz (((a.alloc (.cells #[.slice i d.1.length h,.bool d.2] 314)).alloc (.cells #[Y 0] 2)).alloc (.cells #[π (a.1.size+1) 0] 319)) w.1.size #[σ,.bool false]):=((o.grown t Z).grown B Z).grown u Z
 have g:=I (aa sS (aa t (aa B u)))
 have C:=I R
 have zw:(((a.alloc (.cells #[.slice i d.1.length h,.bool d.2] 314)).alloc (.cells #[Y 0] 2)).alloc (.cells #[π (a.1.size+1) 0] 319)).1.size=a.1.size+1+1+1:=by rw[cF,L]
 clear B u X T V D R W sS o t x P b l U
 go_wp2_with fail
 refine Q.mono ?_
 rintro e B ⟨rfl,R,P,l⟩
 have U:B.cell? (F (a.1.size+1) 0)=some (Y m):=by rw[<-M];exact P 0 (a.1.size+1,0) rfl
 have u:=p.kept (l.block _ p.o.lt (λo e=>by
  rcases e with e|e
  .omega
  .have D:=congrArg Prod.fst (ew.1 e);have V:w.1.size=a.1.size+1:=D;omega))
 have x:w.grownBy B none:=⟨l.os.trans g.os,l.tape.trans g.tape,l.output.trans g.output,cE g.size l.size,λb T _=>by
  rw[l.block b G (λo e=>by
   rcases e with e|e
   .omega
   grind),g.o.block b T Z]⟩
 have b:=l.size
 have D:=I (uf S a.1.size _ _ ok B R)
 have o:=I (dN u x)
 clear R P l u x Q
 have l:(ok=true/\(m==f)=true/\(n:Int)<=300)\/(ok=false/\(m==f)=true/\decide ((n:Int)<=300)=false)\/(ok=false/\(m==f)=false/\True):=by
  grind
 have u:w.1.size≠a.1.size:=G
 have x:w.1.size<=a.1.size/\a.1.size<B.1.size:=G
 clear y j s0 s1 K L zw b p g C q
 have b:iO (d.1,d.2) 1=(bM d).2:=rfl
 rw[b]at D
 clear b
 rcases l with⟨rfl,y,q⟩|⟨rfl,y,q⟩|⟨rfl,y,_⟩
 all_goals
  go_wp2_with fail
  refine D.mono ?_
  rintro e w4 ⟨rfl,Q,p⟩
  simp only[fL,if_false,if_true]at Q A
  obtain⟨R,T,g,C,K,L,P,V⟩:=Q
  obtain⟨X,h⟩:=g.two
  have b:=o.1.kept (p.yz.block _ o.1.lt u)
  obtain⟨d2,d1⟩:=b.two
  have g0:=b.frozen 0
  have t:=b.frozen 1
  have W:=I (uH o.2 p.yz x.1)
  have j:=I (dN g (dN b (dN C (dN K (dN L P)))))
  have s4:=p.size
  clear g b C K L P V p D o U
  go_wp2
  refine bodyPost_ret (jE Tryz.results164 _ _ _ w.1.size rfl _ (zM ((j.2.1.set 0 _).set 1 _))) rfl ⟨_,by rw[A],?_,?_⟩
  .rw[A];exact⟨R,T,rfl,j.2.2.1,j.2.2.2.1,j.2.2.2.2.1,j.2.2.2.2.2⟩
  grind [az,Hid.o]
theorem sE(h:p:=by show _=_;rw[Yx,hq1,hq2];rfl):p:=h
theorem dz.cf{w d:World}{ex:Nat->Nat->Prop}{g:Nat}{cs a:Array Value}(h:dz w g cs)(k:CF w d ex)(n:a.size=cs.size)(m:∀j,j<cs.size->d.c g j=a[j]?):dz d g a:=by
 obtain⟨e,i⟩:=h;obtain⟨b,f,j,_⟩:=k.cells g cs e (0,0) i;refine⟨e,?_⟩;have l:dz d g b:=⟨e,f⟩
 have:b=a:=Array.ext_getElem? (by grind [dz.cell]);rw[<-this];exact f
structure RS(w W:World)(ex:Nat->Nat->Prop)(S:lR)(g:Nat)(s:E×Bool)(fb:Nat)(cs:Array Value):Prop where
 rd:Rd W S g s.1 s.2
 blk:dz W fb cs
 cf:CF w W ex
 src:At W S.1 S.2
 ng:iR S g
 nf:iR S fb
 hf:w.1.size<=fb
 hg:w.1.size<=g
 ne:fb≠g
variable {W W':World}{ex:Nat->Nat->Prop}{S:lR}{fb:Nat}{s s':E×Bool}{cs:Array Value}
theorem RS.read(h:RS w W ex S g s fb cs)(c:CF W W' (JP g))(r:Rd W' S g s'.1 s'.2):RS w W' ex S g s' fb cs:=
 ⟨r,h.blk.kept (c.yz.block fb h.blk.lt h.ne),h.cf.trans c (λi _ a e=>by have e:i=g:=e;have:=h.hg;omega),iR.at h.src c.yz (λ_ e=>e▸h.ng),h.ng,h.nf,h.hf,h.hg,h.ne⟩
theorem RS.store(h:RS w W ex S g s fb cs)(j)(v):RS w (W.setCell (F fb j) v) ex S g s fb (cs.setIfInBounds j v):=by
 have f:iU W (W.setCell (F fb j) v) (λb=>b=fb):=(by grind [iU.refl,iU.set])
 exact⟨h.rd.xL f (λe=>h.ne e.symm),h.blk.set j v,h.cf.setCell fb j v (λq=>by have:=h.hf;omega),iR.at h.src f (λ_ e=>e▸h.nf),h.ng,h.nf,h.hf,h.hg,h.ne⟩
theorem RS.grown(h:RS w W ex S g s fb cs)(k:W.grownBy W' none):RS w W' ex S g s fb cs:=
 ⟨h.rd.keep (k.block g h.rd.lt Z),h.blk.grown k Z,h.cf.grown k,h.src.below k,h.ng,h.nf,h.hf,h.hg,h.ne⟩
theorem RS.alloc(h:RS w W ex S g s fb cs)(o):RS w (W.alloc o) ex S g s fb cs:=h.grown (cx W o none)
theorem RS.nums{b:List (Nat×Nat)}{a:Array Value}(h:RS w W ex S g s fb cs)(c:CF W W' (re g b))(r:Rd W' S g s'.1 s'.2)(f:∀p∈b,p.1=fb)(k:a.size=cs.size)(d:∀j,j<cs.size->W'.c fb j=a[j]?):RS w W' ex S g s' fb a:=by
 refine⟨r,h.blk.cf c k d,h.cf.trans c (λi o j e=>?_),xQ.of h.src h.ng (by grind [RS.nf]) W' c,h.ng,h.nf,h.hf,h.hg,h.ne⟩;rcases e with e|e
 .have:=h.hg;omega
 .have j:i=fb:=f _ e;have:=h.hf;omega
theorem RS.size(h:RS w W ex S g s fb cs):w.1.size<=W.1.size/\fb<W.1.size/\g<W.1.size:=⟨h.cf.size,h.blk.lt,h.rd.lt⟩
theorem RS.places(h:RS w W ex S g s fb cs)(a:List Nat)(i:∀j∈a,j<cs.size)(d:a.Nodup)(t):Em (W.alloc (.cells ((a.map λj=>(fb,j)).map λp=>Value.pointer (some ⟨p.1,p.2,none⟩)).toArray t)) g W.1.size (a.map λj=>(fb,j)):=by
 obtain⟨j,k,l⟩:=h.size;have L:b' W fb cs.size:=by obtain⟨e,b⟩:=h.blk;exact⟨cs,e,b,cy _⟩
 refine⟨dz.new W _ t,λp f=>?_,λp f=>?_,by omega,?_⟩
 .grind [b'.mono,b'.alloc]
 .grind [RS.ne]
 grind
theorem RS.stays(h:RS w W ex S g s fb cs)(a:List Nat):xQ W S g (a.map λj=>(fb,j)):=(by grind [RS.ng,RS.src,RS.nf,xQ.of])
theorem RS.other{a:Nat}(h:RS w W ex S g s fb cs)(c:CF W W' (JP a))(f:iR S a)(b:a≠g)(d:a≠fb)(j:w.1.size<=a):RS w W' ex S g s fb cs:=
 ⟨h.rd.xL c.yz (λe=>b e.symm),h.blk.kept (c.yz.block fb h.blk.lt (λe=>d e.symm)),h.cf.trans c (λi _ k e=>by have e:i=a:=e;omega),iR.at h.src c.yz (λ_ e=>e▸f),h.ng,h.nf,h.hf,h.hg,h.ne⟩
theorem oH(S)(g)(s)(w)(b:At w S.1 S.2)(d:iR S g)(h:Rd w S g s.1 s.2):Calls prog 165 #[π g 0] w λe a=>e=.returned (.string ⟨(fJ s).1.toArray⟩)/\Rd a S g (fJ s).2.1 (fJ s).2.2/\CF w a (JP g):=JQ S g s.1 s.2 w b d h
theorem zN(S)(g)(s)(w)(b:At w S.1 S.2)(d:iR S g)(h:Rd w S g s.1 s.2):Calls prog 169 #[π g 0] w λe a=>∃v,e=.returned (.agg #[Y (jd s).1.1,v])/\Bs S v (jd s).1.2/\Rd a S g (jd s).2.1 (jd s).2.2/\CF w a (JP g):=Eo S g s.1 s.2 w b d h
theorem kN(S)(g d)(a)(n)(s)(w)(i:Hid (a.length=n))(b:n<=100)(l:xQ w S g a)(h:Rd w S g s.1 s.2)(k:Em w g d a):Calls prog 166 #[π g 0,ς d 0 n n] w λe f=>e=.returned (.tuple #[])/\Rd f S g (iO s n).1 (iO s n).2/\(∀j p,a[j]?=some p->f.c p.1 p.2=some (Y (bM (iO s j)).1))/\CF w f (re g a):=qj S g d a n s.1 s.2 w i b l h k
theorem RS.slot(h:RS w W ex S g s fb cs)(j)(b:j<cs.size):(∃x,W.c fb j=some x)/\W.z fb j=false:=by
 have L:b' W fb cs.size:=by obtain⟨e,a⟩:=h.blk;exact⟨cs,e,a,cy _⟩
 exact⟨cA.1 (L.some j b),L.frozen j⟩
theorem IE{s:E×Bool}(h:s.2=true->s.1=[]):(bM s).2.2=true->(bM s).2.1=[]:=by
 grind [oG,MC]
theorem yA(b)(a):(jf b a).2=true->(jf b a).1=[]:=by
 grind [IE,mo,jf]
theorem dz.ten{w:World}{g:Nat}{a b d e f i j k l m:Value}(h:dz w g #[a,b,d,e,f,i,j,k,l,m]):w.cell? (F g 0)=some a/\w.cell? (F g 1)=some b/\w.cell? (F g 2)=some d/\w.cell? (F g 3)=some e/\w.cell? (F g 4)=some f/\w.cell? (F g 5)=some i/\w.cell? (F g 6)=some j/\w.cell? (F g 7)=some k/\w.cell? (F g 8)=some l/\w.cell? (F g 9)=some m:=⟨h.cell 0,h.cell 1,h.cell 2,h.cell 3,h.cell 4,h.cell 5,h.cell 6,h.cell 7,h.cell 8,h.cell 9⟩
def Bw(W:World)(g:Nat)(c0 c1 c2 c3 c4 c5 c6 c7 c8 c9:Value):World:=(((((((((W.setCell (F g 0) c0).setCell (F g 1) c1).setCell (F g 2) c2).setCell (F g 3) c3).setCell (F g 4) c4).setCell (F g 5) c5).setCell (F g 6) c6).setCell (F g 7) c7).setCell (F g 8) c8).setCell (F g 9) c9
theorem Tryz.IG:(prog.info? 269).map (·.size)=some 10:=by kernel_rfl
theorem vq(h:p:=by
 simp only[eh,ej,eJ]at k
 exact k):p:=h
theorem RS.Bw{o p q r t u v x y A:Value}(h:RS w W ex S g s fb #[o,p,q,r,t,u,v,x,y,A])(a b d e f i j l m n):RS w (Bw W fb a b d e f i j l m n) ex S g s fb #[a,b,d,e,f,i,j,l,m,n]:=by
 have k:=(((((((((h.store 0 a).store 1 b).store 2 d).store 3 e).store 4 f).store 5 i).store 6 j).store 7 l).store 8 m).store 9 n;exact vq
theorem RS.Aw{a b d e f i j k l m:Value}(h:RS w W ex S g s fb #[a,b,d,e,f,i,j,k,l,m]):(loadVar 269 ⟨fb,0,none⟩).run prog W=.ok (.agg #[a,b,d,e,f,i,j,k,l,m]) W:=h.blk.load 269 _ underlying269 rfl Tryz.IG
def pB(aX:E):E×(E×Bool):=fJ (jf aX 10)
def Ay(aX:E):E×(E×Bool):=fJ (pB aX).2
def Ah(aX:E)(j:Nat):Int:=(bM (iO (Ay aX).2 j)).1
def Cs(aX:E):E×(E×Bool):=bC 48 (iO (Ay aX).2 5).1 (iO (Ay aX).2 5).2
def FM(aX:E):(Int×E)×(E×Bool):=
 if (Cs aX).1=[] then((0,[]),((Cs aX).1,(Cs aX).2.2)) else jd ((Cs aX).1,(Cs aX).2.2)
def uJ(aX:E):Bool:=(!(FM aX).2.2&&decide ((FM aX).2.1=[]))&&(!(Cs aX).2.2&&decide ((Cs aX).2.1=[]))
abbrev vV:Array Value:=#[ε,ε,Y 0,Y 0,Y 0,Y 0,Y 0,.bool false,Y 0,σ]
def uK(aX:E)(v:Value):List Value:=[.string ⟨(pB aX).1.toArray⟩,.string ⟨(Ay aX).1.toArray⟩,Y (Ah aX 0),Y (Ah aX 1),Y (Ah aX 2),Y (Ah aX 3),Y (Ah aX 4),.bool (decide ((Cs aX).1≠[])),Y (FM aX).1.1,v]
theorem wA(h:p:=by
 go_wp2
 refine bodyPost_ret (aG results137 _ _ _ w.1.size rfl _ HZ.Aw) rfl ⟨_,by rw[qf];rfl,λe=>(by rw[qf]at e;cases e),⟨rfl,rfl⟩,HZ.cf.gb (λ_ _ _ e=>e)⟩):p:=h
theorem IH(h:p:=by
 have z:=g1.size
 have hs1:=(dZ.below HB0.2).below g1
 exact⟨Rd.new (w:=w1) b1 hbad _,(HB0.1.grown g1 Z).alloc _,CF.bF (aM (aa HB0.2 g1) _) _,hs1.below (cx _ _ none),iR.new hs1 (cy _),iR.new dZ (cy _),cy _,by omega,by omega⟩):p:=h
theorem sR(h:p:=by
 obtain⟨j,_,rfl⟩:=List.mem_map.1 hp
 rfl):p:=h
theorem Gy(S)(k)(n)(ao)(B)(w)(M:Hid (k.length=n))(m:At w S.1 S.2)(h:Bs S (.slice ao n B) k):Calls prog 137 #[.slice ao n B] w λe a=>∃cs,e=.returned (.tuple #[.agg cs,.bool (uJ k)])/\(uJ k=true->∃v,cs=(uK k v).toArray/\Bs S v (FM k).1.2)/\(cs.size=10/\cs.toList.all (·.oneCell')=true)/\w.grownBy a none:=by
 have d:=cx w (.cells vV 269) none
 have R:(w.alloc (.cells vV 269)).1.size=w.1.size+1:=cF _ _
 have f:=I (IC S k n ao B 10 _ M (m.below d) h)
 have HB0:=I (dN (dz.new w vV 269) d)
 have dZ:=I m
 have hbad:=yA k 10
 obtain⟨Q,l⟩:=aq (jf k 10)
 obtain⟨q,t⟩:=aq (fJ Q)
 obtain⟨r,a⟩:=aq (fJ q.2)
 obtain⟨N,x⟩:∃N:Nat->Int,∀j,(bM (iO r.2 j)).1=N j:=⟨_,λ_=>rfl⟩
 obtain⟨D,p⟩:=aq (iO r.2 5)
 obtain⟨i,u⟩:=aq (bC 48 D.1 D.2)
 have b:=I (dN l (dN t (dN a (dN x (dN p u)))))
 rw[l]at f hbad
 clear m h d l t a x p u
 go_in
 go_wp2_with fail
 refine f.mono ?_
 rintro e w1 ⟨v,rfl,b1,g1⟩
 obtain⟨a1,c1,rfl,_⟩:=id b1
 have d:RS w (w1.alloc (.cells #[.slice a1 Q.1.length c1,.bool Q.2] 314)) (λ_ _=>False) S w1.1.size Q w.1.size vV:=by
  exact IH
 have a:=I (oH S w1.1.size Q _ d.src d.ng d.rd)
 rw[b.2.1]at a
 have H1:=I d
 clear b1 g1 HB0 f d hbad
 go_wp2_with fail
 refine a.mono ?_
 rintro e w2 ⟨rfl,m,l⟩
 have f:=H1.read l m
 obtain⟨⟨d2,t⟩,A⟩:=f.slot 0 (by show 0<10;decide)
 have d:RS w (w2.setCell (F w.1.size 0) (.string ⟨q.1.toArray⟩)) (λ_ _=>False) S w1.1.size q.2 w.1.size #[.string ⟨q.1.toArray⟩,ε,Y 0,Y 0,Y 0,Y 0,Y 0,.bool false,Y 0,σ]:=f.store 0 _
 have h:=I (oH S w1.1.size q.2 _ d.src d.ng d.rd)
 rw[b.2.2.1]at h
 have y:=I d
 clear m l f d a H1
 go_wp2_with fail
 refine h.mono ?_
 rintro e w3 ⟨rfl,K,J⟩
 have m:=y.read J K
 obtain⟨⟨d3,u⟩,C⟩:=m.slot 1 (by show 1<10;decide)
 have l:RS w (w3.setCell (F w.1.size 1) (.string ⟨r.1.toArray⟩)) (λ_ _=>False) S w1.1.size r.2 w.1.size #[.string ⟨q.1.toArray⟩,.string ⟨r.1.toArray⟩,Y 0,Y 0,Y 0,Y 0,Y 0,.bool false,Y 0,σ]:=m.store 1 _
 have p:=l.places [2,3,4,5,6] (λj x=>by show j<10;simp at x;omega) O 319
 rw[World.size_setCell]at p
 have f:=l.alloc (.cells #[π w.1.size 2,π w.1.size 3,π w.1.size 4,π w.1.size 5,π w.1.size 6] 319)
 have d:=I (kN S w1.1.size w3.1.size _ 5 r.2 _ (I rfl) G (f.stays [2,3,4,5,6]) f.rd p)
 simp only[b.o.2.2.2.1]at d
 rw[b.2.2.2.2.1]at d
 have a:=I f
 clear K J m l h y p f
 go_wp2_with fail
 refine d.mono ?_
 rintro e w4 ⟨rfl,y,l,h⟩
 have m:RS w w4 (λ_ _=>False) S w1.1.size D w.1.size #[.string ⟨q.1.toArray⟩,.string ⟨r.1.toArray⟩,Y (N 0),Y (N 1),Y (N 2),Y (N 3),Y (N 4),.bool false,Y 0,σ]:=by
  refine a.nums h y (λp hp=>?_) rfl (λj x=>?_)
  .exact sR
  .have f:j<10:=x;match j,f with
   |0,_=>exact h.cell (a.blk.cell 0) (λe=>by rcases e with e|e;exact a.o.ne e;simp at e)
   |1,_=>exact h.cell (a.blk.cell 1) (λe=>by rcases e with e|e;exact a.o.ne e;simp at e)
   |2,_=>exact l 0 (w.1.size,2) rfl
   |3,_=>exact l 1 (w.1.size,3) rfl
   |4,_=>exact l 2 (w.1.size,4) rfl
   |5,_=>exact l 3 (w.1.size,5) rfl
   |6,_=>exact l 4 (w.1.size,6) rfl
   |7,_=>exact h.cell (a.blk.cell 7) (λe=>by rcases e with e|e;exact a.o.ne e;simp at e)
   |8,_=>exact h.cell (a.blk.cell 8) (λe=>by rcases e with e|e;exact a.o.ne e;simp at e)
   |9,_=>exact h.cell (a.blk.cell 9) (λe=>by rcases e with e|e;exact a.o.ne e;simp at e)
 have p:=I (El S w1.1.size D.1 D.2 _ m.src m.rd)
 have f:=I (oG 48 D.1 D.2 m.rd.bad)
 rw[b.2.2.2.2.2]at p f
 have J:=I m
 clear y l h m d a
 go_wp2_with fail
 refine p.mono ?_
 rintro e x ⟨v5,rfl,l,P,L⟩
 obtain⟨a5,c5,rfl,_⟩:=id l
 have a:=J.read L P
 have z5:=a.size
 have d:=Rd.new (w:=x) l (λe=>(f e).1) 314
 have K:=I (iR.new a.src (cy x.1.size))
 have h:=a.alloc (.cells #[.slice a5 i.1.length c5,.bool i.2.2] 314)
 have m:=I (IB S x.1.size _ _ _ d)
 have y:=I (dN h d)
 clear l P L a p J d h t A u C
 go_wp2_with fail
 refine m.mono ?_
 rintro e wE ⟨rfl,rfl⟩
 obtain⟨X,a⟩:=aw (x.alloc (.cells #[.slice a5 i.1.length c5,.bool i.2.2] 314))
 have bf:X.1.size=x.1.size+1:=by rw[a];exact cF _ _
 rw[<-a]at y⊢
 clear a m
 have Iz:Hid (pB k=q):=by show _=_;rw[pB,b.1,b.2.1]
 have U:Hid (Ay k=r):=by show _=_;rw[Ay,Iz,b.2.2.1]
 have t:Hid (∀j,Ah k j=N j):=λj=>by rw[Ah,U,b.2.2.2.1]
 have l:Hid (Cs k=i):=by show _=_;rw[Cs,U,b.2.2.2.2.1,b.2.2.2.2.2]
 clear b f M R
 by_cases h:i.1=[]
 .have hd:decide (i.1=[])=true:=by rw[h];rfl
  rw[hd];have A:Hid (FM k=((0,[]),(i.1,i.2.2))):=by show _=_;rw[FM,l,dT h]
  have Yx:Hid (uJ k=((!i.2.2&&decide (i.1=[]))&&(!i.2.2&&decide (i.2.1=[])))):=by show _=_;rw[uJ,A,l]
  have f:=I y.o;clear y;obtain⟨y0,y1,y2,y3,y4,y5,y6,y7,y8,y9⟩:=f.1.blk.ten;have ae:=(f.1.slot 0 (by show 0<10;decide)).2;have af:=(f.1.slot 1 (by show 1<10;decide)).2;have ag:=(f.1.slot 2 (by show 2<10;decide)).2;have ah:=(f.1.slot 3 (by show 3<10;decide)).2;have ai:=(f.1.slot 4 (by show 4<10;decide)).2;have aj:=(f.1.slot 5 (by show 5<10;decide)).2;have ak:=(f.1.slot 6 (by show 6<10;decide)).2;have al:=(f.1.slot 7 (by show 7<10;decide)).2;have an:=(f.1.slot 8 (by show 8<10;decide)).2;have ar:=(f.1.slot 9 (by show 9<10;decide)).2;have a:=I (jR S x.1.size _ _ _ f.2);have d:=I (jR S w1.1.size _ _ _ f.1.rd);have HZ:=I (f.1.Bw ε ε (Y 0) (Y 0) (Y 0) (Y 0) (Y 0) (.bool false) (Y 0) σ);have p:=I (f.1.Bw (.string ⟨q.1.toArray⟩) (.string ⟨r.1.toArray⟩) (Y (N 0)) (Y (N 1)) (Y (N 2)) (Y (N 3)) (Y (N 4)) (.bool false) (Y 0) σ);unfold Bw at HZ p;cases hq1:(!i.2.2&&decide (i.1=[]))
  .have qf:Hid (uJ k=false):=(by show _=_;rw[Yx,hq1];rfl);rw[hq1]at a;go_wp2_with fail;refine a.mono ?_;rintro e u ⟨rfl,rfl⟩;clear a d p hq1;exact wA
  .rw[hq1]at a;cases hq2:(!i.2.2&&decide (i.2.1=[]))
   .have qf:Hid (uJ k=false):=sE;rw[hq2]at d;go_wp2_with fail;refine a.mono ?_;rintro e u ⟨rfl,rfl⟩;go_wp2_with fail;refine d.mono ?_;rintro e u ⟨rfl,rfl⟩;clear a d p hq1 hq2;exact wA
   .have qf:Hid (uJ k=true):=sE;rw[hq2]at d;go_wp2_with fail;refine a.mono ?_;rintro e u ⟨rfl,rfl⟩;go_wp2_with fail;refine d.mono ?_;rintro e u ⟨rfl,rfl⟩;clear a d HZ hq1 hq2;go_wp2;refine bodyPost_ret (aG results137 _ _ _ w.1.size rfl _ p.Aw) rfl ⟨_,by rw[qf];rfl,λ_=>?_,⟨rfl,rfl⟩,p.cf.gb (λ_ _ _ e=>e)⟩;exact⟨_,by rw[uK,Iz,U,t,t,t,t,t,l,A,h];rfl,by rw[A];exact Bs.nil _⟩
 .have hd:=cX h;rw[hd];obtain⟨⟨x7,au⟩,ba⟩:=y.1.slot 7 (by show 7<10;decide);have J:RS w (X.setCell (F w.1.size 7) (.bool true)) (λ_ _=>False) S w1.1.size i.2 w.1.size #[.string ⟨q.1.toArray⟩,.string ⟨r.1.toArray⟩,Y (N 0),Y (N 1),Y (N 2),Y (N 3),Y (N 4),.bool true,Y 0,σ]:=y.1.store 7 _;have M:iU X (X.setCell (F w.1.size 7) (.bool true)) (λb=>b=w.1.size):=(iU.refl _ (λb=>b=w.1.size)).set (g:=w.1.size) rfl 7 _;have R:=y.2.xL M G;obtain⟨m,C⟩:=aq (jd (i.1,i.2.2));have A:Hid (FM k=m):=by show _=_;rw[FM,l,cZ h];exact C
  have Yx:Hid (uJ k=((!m.2.2&&decide (m.2.1=[]))&&(!i.2.2&&decide (i.2.1=[])))):=by show _=_;rw[uJ,A,l]
  have HS:=I (zN S x.1.size (i.1,i.2.2) _ J.src K R);rw[C]at HS;have H6:=I J;have L:decide (i.1≠[])=true:=dk h;have ad:=I L;clear C J R M y L;go_wp2_with fail;refine HS.mono ?_;rintro e w7 ⟨v7,rfl,b7,r7,f7⟩;obtain⟨V,W,rfl,_⟩:=id b7;have L:=H6.other f7 K G G G;obtain⟨⟨x8,av⟩,bb⟩:=L.slot 8 (by show 8<10;decide);obtain⟨⟨x9,ay⟩,bc⟩:=L.slot 9 (by show 9<10;decide);have T:RS w ((w7.setCell (F w.1.size 8) (Y m.1.1)).setCell (F w.1.size 9) (.slice V m.1.2.length W)) (λ_ _=>False) S w1.1.size i.2 w.1.size #[.string ⟨q.1.toArray⟩,.string ⟨r.1.toArray⟩,Y (N 0),Y (N 1),Y (N 2),Y (N 3),Y (N 4),.bool true,Y m.1.1,.slice V m.1.2.length W]:=(L.store 8 _).store 9 _;have P:iU w7 ((w7.setCell (F w.1.size 8) (Y m.1.1)).setCell (F w.1.size 9) (.slice V m.1.2.length W)) (λb=>b=w.1.size):=((iU.refl w7 (λb=>b=w.1.size)).set (g:=w.1.size) rfl 8 _).set (g:=w.1.size) rfl 9 _;have z7:=L.size;have b:=r7.xL P G;have ab:=I b7;have f:=I (dN T b);clear L T b P r7 f7 b7 H6 HS;obtain⟨y0,y1,y2,y3,y4,y5,y6,y7,y8,y9⟩:=f.1.blk.ten;have ae:=(f.1.slot 0 (by show 0<10;decide)).2;have af:=(f.1.slot 1 (by show 1<10;decide)).2;have ag:=(f.1.slot 2 (by show 2<10;decide)).2;have ah:=(f.1.slot 3 (by show 3<10;decide)).2;have ai:=(f.1.slot 4 (by show 4<10;decide)).2;have aj:=(f.1.slot 5 (by show 5<10;decide)).2;have ak:=(f.1.slot 6 (by show 6<10;decide)).2;have al:=(f.1.slot 7 (by show 7<10;decide)).2;have an:=(f.1.slot 8 (by show 8<10;decide)).2;have ar:=(f.1.slot 9 (by show 9<10;decide)).2;have a:=I (jR S x.1.size _ _ _ f.2);have d:=I (jR S w1.1.size _ _ _ f.1.rd);have HZ:=I (f.1.Bw ε ε (Y 0) (Y 0) (Y 0) (Y 0) (Y 0) (.bool false) (Y 0) σ);have p:=I (f.1.Bw (.string ⟨q.1.toArray⟩) (.string ⟨r.1.toArray⟩) (Y (N 0)) (Y (N 1)) (Y (N 2)) (Y (N 3)) (Y (N 4)) (.bool true) (Y m.1.1) (.slice V m.1.2.length W));unfold Bw at HZ p;cases hq1:(!m.2.2&&decide (m.2.1=[]))
  .have qf:Hid (uJ k=false):=(by show _=_;rw[Yx,hq1];rfl);rw[hq1]at a;go_wp2_with fail;refine a.mono ?_;rintro e u ⟨rfl,rfl⟩;clear a d p hq1;exact wA
  .rw[hq1]at a;cases hq2:(!i.2.2&&decide (i.2.1=[]))
   .have qf:Hid (uJ k=false):=sE;rw[hq2]at d;go_wp2_with fail;refine a.mono ?_;rintro e u ⟨rfl,rfl⟩;go_wp2_with fail;refine d.mono ?_;rintro e u ⟨rfl,rfl⟩;clear a d p hq1 hq2;exact wA
   .have qf:Hid (uJ k=true):=sE;rw[hq2]at d;go_wp2_with fail;refine a.mono ?_;rintro e u ⟨rfl,rfl⟩;go_wp2_with fail;refine d.mono ?_;rintro e u ⟨rfl,rfl⟩;clear a d HZ hq1 hq2;go_wp2;refine bodyPost_ret (aG results137 _ _ _ w.1.size rfl _ p.Aw) rfl ⟨_,by rw[qf];rfl,λ_=>?_,⟨rfl,rfl⟩,p.cf.gb (λ_ _ _ e=>e)⟩;exact⟨_,by rw[uK,Iz,U,t,t,t,t,t,l,A,ad],by rw[A];exact ab⟩
