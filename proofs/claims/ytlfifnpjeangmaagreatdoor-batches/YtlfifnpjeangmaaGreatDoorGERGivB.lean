import Derived.Test.YtlfifnpjeangmaaGreatDoorGERPieF
import Derived.Test.YtlfifnpjeangmaaGreatDoorGERHeld
namespace Go.Proofs.YtlfifnpjeangmaaGreatDoor
open Go.RowKit
set_option maxRecDepth 100000
variable {E T:Nat}{t:TK}{d:UInt64}{W:World}
theorem IY(b d a)(x)(f)(v)(w)(g:1<=x)(i:x<=5)(n:x=d.toNat)(m:f.length<=1000)(h:gN w v f):Calls Tryz.prog 45 #[H (b.toNat:Int),Y x,H (a.toNat:Int),v] w λe j=>∃o,e=.returned o/\gN j o (Pure.dY b d a f)/\w.grownBy j none:=by
 obtain⟨j,e,rfl,o,p,k,l⟩:=h
 refine(vE b d a x f f.length j e w ⟨g,i⟩ (I n) (I rfl) m k l).mono ?_
 grind [gN.own,Pure.dh]
theorem NL(v)(w):Calls Tryz.prog 82 #[H (v.toNat:Int)] w λe a=>∃o,e=.returned o/\gN a o (Pure.be v 8)/\w.grownBy a none:=by
 refine(nZ v w).mono ?_;grind [gN.own,Pure.bQ]
structure TE(W:World)(T E:Nat)(t:TK)(d:UInt64)(s:RE):Prop where
 t:W.rangeAt T 0 [Y t.ae,H (d.toNat:Int),.string ⟨t.ay.toArray⟩,Y t.dV,Y t.start,Y t.fin,Y t.aC]
 e:W.rangeAt E 0 s.cells
theorem TE.grown{a:World}{s:RE}(h:TE W T E t d s)(k:W.grownBy a none):TE a T E t d s:=⟨aB h.t k,aB h.e k⟩
theorem TE.drew{s:RE}(h:TE W T E t d s):TE W.drew T E t d s:=h.grown (bg (cC _ _))
theorem TE.alloc{s:RE}(h:TE W T E t d s)(o):TE (W.alloc o) T E t d s:=h.grown (cx _ _ _)
theorem TE.s4{s:RE}(h:TE W T E t d s):W.cell? (F T 0)=some (Y t.ae)/\W.cell? (F T 1)=some (H (d.toNat:Int))/\W.cell? (F T 2)=some (.string ⟨t.ay.toArray⟩)/\W.cell? (F T 3)=some (Y t.dV)/\W.cell? (F T 4)=some (Y t.start)/\W.cell? (F T 5)=some (Y t.fin)/\W.cell? (F T 6)=some (Y t.aC):=
 ⟨h.t 0 _ rfl,h.t 1 _ rfl,h.t 2 _ rfl,h.t 3 _ rfl,h.t 4 _ rfl,h.t 5 _ rfl,h.t 6 _ rfl⟩
theorem TE.s5{s:RE}(h:TE W T E t d s):W.cell? (F E 1)=some (.string ⟨s.name.toArray⟩)/\W.cell? (F E 7)=some (Y s.aH)/\W.cell? (F E 8)=some (H (s.key.toNat:Int)):=
 ⟨h.e 1 _ rfl,h.e 7 _ rfl,h.e 8 _ rfl⟩
theorem TE.s6{s:RE}(h:TE W T E t d s):W.cell? (F T 0)=some (Y t.ae)/\W.cell? (F T 1)=some (H (d.toNat:Int))/\W.cell? (F T 3)=some (Y t.dV)/\W.cell? (F T 4)=some (Y t.start)/\W.cell? (F T 5)=some (Y t.fin)/\W.cell? (F T 6)=some (Y t.aC)/\W.cell? (F E 1)=some (.string ⟨s.name.toArray⟩):=
 ⟨h.t 0 _ rfl,h.t 1 _ rfl,h.t 3 _ rfl,h.t 4 _ rfl,h.t 5 _ rfl,h.t 6 _ rfl,h.e 1 _ rfl⟩
theorem qW{w d:World}{b r:Nat}{o:Nat}{a:List Value}(h:w.rangeAt b o a)(k:w.grownBy d (some r))(f:b≠r):d.rangeAt b o a:=λi v e=>k.cell (h i v e) fA
theorem iD{a b c:World}{r:Nat}(h:a.grownBy b (some r))(k:b.grownBy c (some r)):a.grownBy c (some r):=
 ⟨k.os.trans h.os,k.tape.trans h.tape,k.output.trans h.output,cE h.size k.size,λi d e=>(k.block i (fN d h.size) e).trans (h.block i d e)⟩
theorem mh{a b:World}(h:a.grownBy b none)(r):a.grownBy b (some r):=⟨h.os,h.tape,h.output,h.size,oN⟩
theorem lA.ZK{W:World}{B:Nat}{L:List (Value×bT)}(h:lA W B L)(b)(n)(a:b=(L.reverse.map λx=>x.1).toArray)(hn:L.reverse.length=n)(k:n<=1000)(l:n*B<=140737488351232):Calls Tryz.prog 60 #[ς W.1.size 0 n n] (W.alloc (.cells b 37)) λe d=>∃(o:Value) (z:bT),e=.returned o/\d.ownsRow W.1.size 5 1 o z.length (z.map U8)/\0<z.length/\z.length<=n*B+4/\W.grownBy d none:=by
 have f:(pW L.reverse).length<=n*B:=yk
 refine(yH L.reverse b n W (λx hx=>(h x (List.mem_reverse.1 hx)).1) a hn k G).mono ?_
 rintro e d ⟨o,g,i,j⟩
 refine⟨o,_,g,i,?_,cE (oP 48 _) (Nat.add_le_add_right f 4),j⟩
 show 0<(Box.box 48 _).length
 grind [Box.lg]
set_option maxHeartbeats 1000000
variable {z:bT}{n:Nat}{w:World}
def l8(n:Nat)(w:World)(o:Value)(z:bT):Prop:=w.ownsRow n 5 1 o z.length (z.map U8)
theorem l8.has{o:Value}(h:l8 n w o z):gN w o z:=gN.own h
theorem l8.base{m:Nat}{o:Value}(h:l8 n w o z)(a:m<=n):l8 m w o z:=dC h a
theorem l8.grown{a:World}{o:Value}(h:l8 n w o z)(k:w.grownBy a none):l8 n a o z:=World.ownsRow.kept h k (eR _)
theorem lA.aes{W:World}{B:Nat}{L:List (Value×bT)}(h:lA W B L)(b)(n)(a:b=(L.reverse.map λx=>x.1).toArray)(hn:L.reverse.length=n)(d:n<=1000)(f:n*B<=140737488351232):Calls Tryz.prog 60 #[ς W.1.size 0 n n] (W.alloc (.cells b 37)) λe w'=>∃o,e=.returned o/\l8 W.1.size w' o (jO (L.reverse.map λx=>x.2))/\(jO (L.reverse.map λx=>x.2)).length<=n*B+4/\W.grownBy w' none:=by
 have hc:(pW L.reverse).length<=n*B:=yk
 refine(yH L.reverse b n W (λx hx=>(h x (List.mem_reverse.1 hx)).1) a hn d G).mono ?_
 exact Fi
theorem yJ(b a)(w)(m:b9 b)(n:b9 a):Calls Tryz.prog 67 #[Y b,Y a] w λe d=>∃o,e=.returned o/\l8 w.1.size d o (aY b a)/\w.grownBy d none:=by
 have h:b9 30:=⟨by decide,by decide⟩
 go_enter Tryz.func67,Tryz.ntmps67
 go_wp2_with fail
 refine(bR 30 _ h).mono ?_
 rintro e A ⟨v,rfl,f,d⟩
 obtain⟨o,r,rfl⟩:=f.shape
 have i:=I ((lA.nil w 100).push d f (jU _ _ O))
 clear f
 go_wp2_with fail
 refine(bR b _ m).mono ?_
 rintro e B ⟨x,rfl,g,f⟩
 obtain⟨p,t,rfl⟩:=g.shape
 have j:=I (i.push f g (jU _ _ O))
 clear g i
 go_wp2_with fail
 refine(bR a _ n).mono ?_
 rintro e w3 ⟨y,rfl,i,g⟩
 obtain⟨q,u,rfl⟩:=i.shape
 have l:=I (j.push g i (jU _ _ O))
 have k:=I (aa (aa d f) g)
 clear i j d f g
 go_wp2_with fail
 refine(l.aes _ 3 rfl rfl O O).mono ?_
 rintro e j ⟨i,rfl,g,_,f⟩
 have d:=I (dN (g.base k.size) (aa k f))
 clear g f
 go_wp2
 go_ret
 exact⟨_,rfl,d.1,d.2⟩
set_option maxHeartbeats 8000000
theorem sz{p:Prop}(h:p:=by rw[Pure.dh];omega):p:=h
theorem xT{p:Prop}(h:p:=by rw[Pure.bQ];decide):p:=h
theorem zE{p:Prop}(h:p:=by
 exact⟨cur,e,oN,h2⟩):p:=h
theorem ZL{w a:World}{b n r:Nat}(h:b' w b n)(k:w.grownBy a (some r))(g:b≠r):b' a b n:=by
 obtain⟨cur,e,d,h2⟩:=h;have f:b<w.1.size:=by
  grind
 exact zE
theorem TE.s7{W:World}{T E:Nat}{t:TK}{d:UInt64}{s:RE}(h:TE W T E t d s):W.cell? (F T 2)=some (.string ⟨t.ay.toArray⟩):=h.t 2 _ rfl
theorem N4{w:World}{b:Nat}{e u f g i k l:Value}(h:w.rangeAt b 0 [e,u,f,g,i,k,l])(d):(w.setCell (F b 1) d).rangeAt b 0 [e,d,f,g,i,k,l]:=by
 intro j x o;by_cases n:j=1
 .subst n;have m:d=x:=by simpa using o
  subst m;exact World.cell?_setCell_same _ _ _ (h 1 u rfl)
 .have a:[e,u,f,g,i,k,l][j]?=some x:=by
   grind
  rw[iA _ _ _ _ fA];exact h j x a
theorem NM(l B)(M)(g)(p bV aH)(t:TK)(s:RE)(Q R)(x)(w)(j:RD w l B M g)(K:24<=M.aL.length)(n:M.aL.length<=140737488355328)(C:l<=w.1.size)(al:1<=x)(an:x<=5)(a:x=R.toNat)(i0:b9 p)(i1:b9 bV)(i2:b9 aH)(i3:b9 s.aH)(ak:t.In)(ao:t.ay.length<=90)(av:s.name.length<=90):Calls Tryz.prog 107 #[π B 0,Y p,.agg t.cells.toArray,.agg s.arr,Y bV,Y aH,H (Q.toNat:Int),Y x] w λe w'=>
   ∃o,e=.returned o/\l8 w.1.size w' o (lU p {t with aN:=eF M.aL 0} s.be bV aH Q R (eF M.aL 1) (eF M.aL 2))/\(∃v,RD w' l B {M with aL:=M.aL.drop 24} {g with dv:=v}/\k' w.1.size v)/\w.grownBy w' (some B):=by
 obtain⟨n0,n1,n2,n3,n4⟩:=ak
 have HU:=I a
 clear a
 have ay:=j.bP.blk.lt
 obtain⟨y,d⟩:=N (eF M.aL 0)
 obtain⟨d1,f⟩:=N (eF M.aL 1)
 obtain⟨d2,i⟩:=N (eF M.aL 2)
 have a:=aM (cx w (.cells t.cells.toArray 43) none) (.cells s.arr 166)
 have m:((w.alloc (.cells t.cells.toArray 43)).alloc (.cells s.arr 166)).rangeAt w.1.size 0 t.cells:=aB (aS w t.cells.toArray _) (cx _ _ _)
 have RE:((w.alloc (.cells t.cells.toArray 43)).alloc (.cells s.arr 166)).rangeAt (w.1.size+1) 0 s.cells:=by
  have h:=wy (w.alloc (.cells t.cells.toArray 43)) s;rw[cF]at h;exact h
 have LT:b' ((w.alloc (.cells t.cells.toArray 43)).alloc (.cells s.arr 166)) w.1.size 7:=(b'.new w t.cells.toArray 43).grown (cx _ _ _)
 have k:=j.keep (λb A=>a.block b (j.lt b A).2 Z)
 have o:=I (A8 l B M g _ k G n (cE C a.size))
 have q:=I (λ(v:Value) (W:World) (r:RD W l B {M with aL:=M.aL.drop 8} {g with dv:=v}) (A:l<=W.1.size)=>A8 l B {M with aL:=M.aL.drop 8} {g with dv:=v} W r fA fA A)
 have J:=I (λ(v:Value) (W:World) (r:RD W l B {M with aL:=(M.aL.drop 8).drop 8} {g with dv:=v}) (A:l<=W.1.size)=>A8 l B {M with aL:=(M.aL.drop 8).drop 8} {g with dv:=v} W r fA fA A)
 have r:Pure.joinL 0 (M.aL.take 8)=y:=by rw[<-d];rfl
 have u:Pure.joinL 0 ((M.aL.drop 8).take 8)=d1:=by rw[<-f];rfl
 have D:Pure.joinL 0 (((M.aL.drop 8).drop 8).take 8)=d2:=by rw[<-i,List.drop_drop];rfl
 rw[r]at o
 simp only[u]at q
 simp only[D]at J
 rw[d,f,i]
 have L:=I j
 have T:=I (dN a (dN m (dN RE LT)))
 clear d f i r u D j k a m RE LT K n
 rw[TK.oO t]at o T⊢
 go_enter Tryz.func107,Tryz.ntmps107
 go_wp2_with fail
 refine o.mono ?_
 rintro e S ⟨rfl,v1,V,k,f⟩
 obtain⟨a,m,RE,LT⟩:=T.o
 have D:w.1.size≠B:=G
 have P:w.1.size+1≠B:=G
 have U:=qW m k D
 have X:=qW RE k P
 have L1:=ZL LT k D
 have k1:S.c w.1.size 1=some (H (t.aN.toNat:Int)):=U 1 _ rfl
 have f1:=L1.frozen 1
 have F1:∀b,({g with dv:=v1}:RG).foot B b->b≠w.1.size:=by
  rintro b (e|e|e|e) A
  .omega
  .have:=(L.o.lt b (.inr (.inl e))).2;omega
  .have:=(L.o.lt b (.inr (.inr (.inl e)))).2;omega
  .have d:=f b e;grind [cF]
 have K:∀u,RD (S.setCell (F w.1.size 1) u) l B {M with aL:=M.aL.drop 8} {g with dv:=v1}:=λu=>V.keep (λb A=>by
  have:=F1 b A
  simp[World.setCell,Array.getElem?_modify,Ne.symm this])
 have i:(S.setCell (F w.1.size 1) (H (y.toNat:Int))).1.size=S.1.size:=by simp[World.setCell]
 have b1:l<=(S.setCell (F w.1.size 1) (H (y.toNat:Int))).1.size:=by rw[i];exact cE C (cE a.size k.size)
 have u:=I (q v1 _ fA b1)
 have n:Hid ((S.setCell (F w.1.size 1) (H (y.toNat:Int))).rangeAt w.1.size 0 [Y t.ae,H (y.toNat:Int),.string ⟨t.ay.toArray⟩,Y t.dV,Y t.start,Y t.fin,Y t.aC]/\(S.setCell (F w.1.size 1) (H (y.toNat:Int))).rangeAt (w.1.size+1) 0 s.cells):=⟨N4 U _,λj v d=>by
  rw[World.cell?_setCell_far _ _ _ _ (show w.1.size≠w.1.size+1 by omega)]
  exact X j v d⟩
 have r:Hid (w.grownBy (S.setCell (F w.1.size 1) (H (y.toNat:Int))) (some B)):=by
  have h:=iD (mh a B) k
  exact⟨h.os,h.tape,h.output,by rw[i];exact h.size,λb A d=>by
   rw[show(S.setCell (F w.1.size 1) (H (y.toNat:Int))).1[b]?=S.1[b]? from by simp[World.setCell,Array.getElem?_modify,show w.1.size≠b by omega]]
   exact h.block b A d⟩
 obtain⟨W1,d⟩:=N (S.setCell (F w.1.size 1) (H (y.toNat:Int)))
 rw[d]at u n r
 have j:=I d
 have JC:Hid (k' w.1.size v1):=λb A=>by have:=f b A;have:=a.size;omega
 clear o q V K k f U X L1 F1 i b1 d a m RE LT T
 go_wp2_with (first|(rw[j];fail_if_success done)|(go_at_call 144;refine u.mono ?_))
 clear j k1 f1
 rintro e w2 ⟨rfl,v2,j,f,i⟩
 have q:=I (J v2 _ j (cE C (cE r.size f.size)))
 have d:=I (dN (qW n.1 f D) (qW n.2 f P))
 have a:=I (iD r f)
 clear u J j f i n r
 go_wp2_with fail
 refine q.mono ?_
 rintro e w3 ⟨rfl,v3,v,u,r⟩
 have f:Hid (TE w3.drew w.1.size (w.1.size+1) t y s):=(TE.mk (qW d.1 u D) (qW d.2 u P)).drew
 have kS:=I (iD a u)
 have ab:=I v
 have Qs:Hid (k' w.1.size v3):=λb A=>cE a.size (r b A)
 have i:Hid (w3.grownBy w3.drew none):=bg (cC _ _)
 obtain⟨V,n⟩:=N (TK.plain {t with aN:=y})
 obtain⟨TB,j⟩:=N (jO [dx s.name,bS s.aH,dx (Pure.dY s.key 2 d1 V)])
 obtain⟨X,o⟩:=N (ow {t with aN:=y} bV s.be)
 obtain⟨IN,m⟩:=N (jO [bS aH,dx (Pure.dY Q R d2 X)])
 obtain⟨GB,k⟩:=N (jO [bS p,dx t.ay,TB,IN])
 have Vt:=I n
 have WH:=I j
 have af:=I o
 have ae:=I m
 have ad:=I k
 have ag:Hid (lU p {t with aN:=y} s.be bV aH Q R d1 d2=GB):=by
  show _=_;rw[<-k,<-m,<-o,<-j,<-n];rfl
 clear n j o m k
 have k:=I (lA.nil w3.drew 100)
 have j:=I (lA.nil w3.drew 100000)
 clear q v u r d a L JC
 obtain⟨s0,s1,s2,s3,s4,s5,s6⟩:=(f).s4
 go_wp2_with fail
 go_region_held3 (λw'=>w'.c w.1.size 0=some (Y t.ae)/\w'.c w.1.size 1=some (H (y.toNat:Int))/\w'.c w.1.size 2=some (.string ⟨t.ay.toArray⟩)/\w'.c w.1.size 3=some (Y t.dV)/\w'.c w.1.size 4=some (Y t.start)/\w'.c w.1.size 5=some (Y t.fin)/\w'.c w.1.size 6=some (Y t.aC)) (first|(with_reducible exact TE.s4 f.o)|(with_reducible exact TE.s4 f.o.drew)|(with_reducible exact TE.s4 (f.o.alloc _))|(with_reducible exact TE.s4 (f.o.drew.alloc _))|go_keep) (first|(go_at_call 62;refine(bR _ _ (by assumption)).mono ?_;rintro e m ⟨n,rfl,d,a⟩;obtain⟨q,r,rfl⟩:=d.shape;replace k:=I (k.push a d (jU _ _ O));replace f:=I (f.grown a);replace j:=I (j.grown a);replace i:=I (aa i a);clear d a)|(go_at_call 82;refine(NL _ _).mono ?_;rintro e m ⟨n,rfl,d,a⟩;obtain⟨q,r,rfl⟩:=d.shape;have K:=I (d);replace k:=I (k.grown a);replace f:=I (f.grown a);replace j:=I (j.grown a);replace i:=I (aa i a);clear d a)|(go_at_call 63;refine(lW _ _ _ K xT).mono ?_;rintro e m ⟨n,rfl,d,a⟩;obtain⟨q,r,rfl⟩:=d.shape;replace k:=I (k.push a d (IX y _ O));replace f:=I (f.grown a);replace j:=I (j.grown a);replace i:=I (aa i a);clear K d a)|(go_at_call 61;refine(kP _ _ G).mono ?_;rintro e m ⟨n,rfl,d,a⟩;obtain⟨q,r,rfl⟩:=d.shape;replace k:=I (k.push a d (fK _ _ G));replace f:=I (f.grown a);replace j:=I (j.grown a);replace i:=I (aa i a);clear d a)|(go_at_call 60;refine(k.list _ 7 rfl rfl O O).mono ?_;rintro e m ⟨n,rfl,d,J,a⟩;have o:gN m n V:=(by rw[<-Vt];exact d);have v:V.length<=704:=(by rw[<-Vt];exact J);clear d J;obtain⟨aP,cP,rfl⟩:=o.shape;replace j:=I (j.push a o (cE v O));have ah:=I (v);replace f:=I (f.grown a);replace i:=I (aa i a);clear k o v a))
 clear s0 s1 s2 s3 s4 s5 s6
 have ar:=ah.o
 have T:=I f.drew
 have U:=I (bg i)
 have u:=I (j.grown (bg (cC m none)))
 have k:=I (lA.nil m.drew 2000)
 clear f i j
 have f:=T
 have i:=U
 have j:=u
 clear T U u
 obtain⟨s0,s1,s2⟩:=f.s5
 go_wp2_with fail
 go_region_held3 (λw'=>w'.c (w.1.size+1) 1=some (.string ⟨s.name.toArray⟩)/\w'.c (w.1.size+1) 7=some (Y s.aH)/\w'.c (w.1.size+1) 8=some (H (s.key.toNat:Int))) (first|(with_reducible exact TE.s5 f.o)|(with_reducible exact TE.s5 f.o.drew)|(with_reducible exact TE.s5 (f.o.alloc _))|(with_reducible exact TE.s5 (f.o.drew.alloc _))|go_keep) (first|(go_at_call 61;refine(kP _ _ G).mono ?_;rintro e m ⟨n,rfl,d,a⟩;obtain⟨q,r,rfl⟩:=d.shape;replace k:=I (k.push a d (fK _ _ G));replace f:=I (f.grown a);replace j:=I (j.grown a);replace i:=I (aa i a);clear d a)|(go_at_call 62;refine(bR _ _ (by assumption)).mono ?_;rintro e m ⟨n,rfl,d,a⟩;obtain⟨q,r,rfl⟩:=d.shape;replace k:=I (k.push a d (jU _ _ O));replace f:=I (f.grown a);replace j:=I (j.grown a);replace i:=I (aa i a);clear d a)|(go_at_call 45;refine(IY s.key 2 d1 2 V _ _ O O rfl G (j (Value.slice aP V.length cP,V) Z).1).mono ?_;rintro e m ⟨n,rfl,d,a⟩;obtain⟨q,r,rfl⟩:=d.shape;have L:=I (d);replace k:=I (k.grown a);replace f:=I (f.grown a);replace j:=I (j.grown a);replace i:=I (aa i a);clear d a)|(go_at_call 63;refine(lW _ _ _ L sz).mono ?_;rintro e m ⟨n,rfl,d,a⟩;obtain⟨q,r,rfl⟩:=d.shape;replace k:=I (k.push a d (fK _ _ sz));replace f:=I (f.grown a);replace j:=I (j.grown a);replace i:=I (aa i a);clear L d a)|(go_at_call 60;refine(k.list _ 3 rfl rfl O O).mono ?_;rintro e m ⟨n,rfl,d,J,a⟩;have o:gN m n TB:=(by rw[<-WH];exact d);have v:TB.length<=6004:=(by rw[<-WH];exact J);have aj:=I v;clear d J;obtain⟨aK,cK,rfl⟩:=o.shape;replace j:=I (j.push a o (cE v O));replace f:=I (f.grown a);replace i:=I (aa i a);clear k o v a))
 clear s0 s1 s2
 have T:=I f.drew
 have U:=I (bg i)
 have u:=I (j.grown (bg (cC m none)))
 have k:=I (lA.nil m.drew 100)
 clear f i j
 have f:=T
 have i:=U
 have j:=u
 clear T U u
 obtain⟨s0,s1,s2,s3,s4,s5,s6⟩:=f.s6
 go_wp2_with fail
 go_region_held3 (λw'=>w'.c w.1.size 0=some (Y t.ae)/\w'.c w.1.size 1=some (H (y.toNat:Int))/\w'.c w.1.size 3=some (Y t.dV)/\w'.c w.1.size 4=some (Y t.start)/\w'.c w.1.size 5=some (Y t.fin)/\w'.c w.1.size 6=some (Y t.aC)/\w'.c (w.1.size+1) 1=some (.string ⟨s.name.toArray⟩)) (first|(with_reducible exact TE.s6 f.o)|(with_reducible exact TE.s6 f.o.drew)|(with_reducible exact TE.s6 (f.o.alloc _))|(with_reducible exact TE.s6 (f.o.drew.alloc _))|go_keep) (first|(go_at_call 82;refine(NL _ _).mono ?_;rintro e m ⟨n,rfl,d,a⟩;obtain⟨q,r,rfl⟩:=d.shape;have K:=I (d);replace k:=I (k.grown a);replace f:=I (f.grown a);replace j:=I (j.grown a);replace i:=I (aa i a);clear d a)|(go_at_call 63;refine(lW _ _ _ K xT).mono ?_;rintro e m ⟨n,rfl,d,a⟩;obtain⟨q,r,rfl⟩:=d.shape;replace k:=I (k.push a d (IX y _ O));replace f:=I (f.grown a);replace j:=I (j.grown a);replace i:=I (aa i a);clear K d a)|(go_at_call 62;refine(bR _ _ (by assumption)).mono ?_;rintro e m ⟨n,rfl,d,a⟩;obtain⟨q,r,rfl⟩:=d.shape;replace k:=I (k.push a d (jU _ _ O));replace f:=I (f.grown a);replace j:=I (j.grown a);replace i:=I (aa i a);clear d a)|(go_at_call 61;refine(kP _ _ G).mono ?_;rintro e m ⟨n,rfl,d,a⟩;obtain⟨q,r,rfl⟩:=d.shape;replace k:=I (k.push a d (fK _ _ G));replace f:=I (f.grown a);replace j:=I (j.grown a);replace i:=I (aa i a);clear d a)|(go_at_call 60;refine(k.list _ 8 rfl rfl O O).mono ?_;rintro e m ⟨n,rfl,d,J,a⟩;have o:gN m n X:=(by rw[<-af];exact d);have v:X.length<=804:=(by rw[<-af];exact J);clear d J;obtain⟨aQ,cQ,rfl⟩:=o.shape;replace j:=I (j.push a o (cE v O));have ai:=I (v);replace f:=I (f.grown a);replace i:=I (aa i a);clear k o v a))
 clear s0 s1 s2 s3 s4 s5 s6
 have au:=ai.o
 have T:=I f.drew
 have U:=I (bg i)
 have u:=I (j.grown (bg (cC m none)))
 have k:=I (lA.nil m.drew 10000)
 have HB:=I (lA.nil m.drew 2000)
 clear f i j
 have f:=T
 have i:=U
 have j:=u
 clear T U u
 have T:TB.length<=10000:=cE aj O
 have s0:=f.s7
 have u:=I (λW=>bR p W i0)
 go_wp2_with fail
 go_region_held3 (λw'=>w'.c w.1.size 2=some (.string ⟨t.ay.toArray⟩)) (first|(with_reducible exact TE.s7 f.o)|(with_reducible exact TE.s7 f.o.drew)|(with_reducible exact TE.s7 (f.o.alloc _))|(with_reducible exact TE.s7 (f.o.drew.alloc _))|go_keep) (first|(go_at_call 62;refine(u _).mono ?_;clear u;rintro e m ⟨n,rfl,d,a⟩;obtain⟨q,r,rfl⟩:=d.shape;replace k:=I (k.push a d (jU _ _ O));replace HB:=I (HB.grown a);replace f:=I (f.grown a);replace j:=I (j.grown a);replace i:=I (aa i a);clear d a)|(go_at_call 61;refine(kP _ _ G).mono ?_;rintro e m ⟨n,rfl,d,a⟩;obtain⟨q,r,rfl⟩:=d.shape;replace k:=I (k.push a d (fK _ _ G));replace HB:=I (HB.grown a);replace f:=I (f.grown a);replace j:=I (j.grown a);replace i:=I (aa i a);clear d a)|(go_at_call 62;refine(bR aH _ i2).mono ?_;rintro e m ⟨n,rfl,d,a⟩;obtain⟨q,r,rfl⟩:=d.shape;replace HB:=I (HB.push a d (jU _ _ O));replace k:=I (k.grown a);replace f:=I (f.grown a);replace j:=I (j.grown a);replace i:=I (aa i a);clear d a)|(go_at_call 45;refine(IY Q R d2 x X _ _ al an HU G (j (Value.slice aQ X.length cQ,X) Z).1).mono ?_;rintro e m ⟨n,rfl,d,a⟩;obtain⟨q,r,rfl⟩:=d.shape;have L:=I (d);replace k:=I (k.grown a);replace HB:=I (HB.grown a);replace f:=I (f.grown a);replace j:=I (j.grown a);replace i:=I (aa i a);clear d a)|(go_at_call 63;refine(lW _ _ _ L sz).mono ?_;rintro e m ⟨n,rfl,d,a⟩;obtain⟨q,r,rfl⟩:=d.shape;replace HB:=I (HB.push a d (fK _ _ sz));replace k:=I (k.grown a);replace f:=I (f.grown a);replace j:=I (j.grown a);replace i:=I (aa i a);clear L d a)|(go_at_call 60;refine(HB.list _ 2 rfl rfl O O).mono ?_;rintro e m ⟨n,rfl,d,J,a⟩;have o:gN m n IN:=(by rw[<-ae];exact d);have v:IN.length<=4004:=(by rw[<-ae];exact J);clear d J;obtain⟨q,r,rfl⟩:=o.shape;replace k:=I ((k.push a ((j (Value.slice aK TB.length cK,TB) Z).1.grown a) T).push (cC _ _) o (cE v O));replace f:=I (f.grown a);replace j:=I (j.grown a);replace i:=I (aa i a);clear HB o v a)|(go_at_call 60;refine(k.aes _ 4 rfl rfl O O).mono ?_;rintro e m ⟨n,rfl,d,J,a⟩;have o:l8 w.1.size m n GB:=(by rw[<-ad];exact d.base (cE kS.size i.size));have v:GB.length<=40004:=(by rw[<-ad];exact J);clear d J;obtain⟨q,r,rfl⟩:=o.has.shape;have K:=I (o);replace f:=I (f.grown a);replace i:=I (aa i a);clear k j o v a))
 go_wp2
 go_ret
 refine⟨_,rfl,by rw[ag];exact K,⟨v3,?_,Qs⟩,iD kS (mh i B)⟩
 have h:=ab.keep (w':=m) (λb A=>i.block b (ab.o.lt b A).2 Z)
 rw[List.drop_drop,List.drop_drop]at h
 exact h
open Proofs.Tryz
variable {x:BE}{aA n now:Int}{l:bT}
def wz(aA now:Int)(x:BE)(n:Int)(z:bT):Int:=
 match (eX x.key 1 z).bind kR with
 |none=>24
 |some t=>if n≠x.aH then 24 else if aA<dU t now then 37 else 0
theorem Vu(h:n≠x.aH):wz aA now x n z=24:=by
 grind [wz]
theorem ZM(h:eX x.key 1 z=none):wz aA now x n z=24:=by
 unfold wz;rw[h];rfl
theorem A9(h:eX x.key 1 z=some l)(a:kR l=none):wz aA now x n z=24:=by
 unfold wz;rw[h];show(match kR l with|none=>(24:Int)|some t=>_)=24;rw[a]
theorem ZN{t:Int}(a:n=x.aH)(h:eX x.key 1 z=some l)(b:kR l=some t):wz aA now x n z=if aA<dU t now then 37 else 0:=by
 unfold wz;rw[h];show(match kR l with|none=>(24:Int)|some t=>_)=_;rw[b];show(if n≠x.aH then 24 else _)=_;rw[cZ (λq=>q a)]
theorem NP(h:Box.cut l=none):kR l=none:=by unfold kR;rw[h]
theorem NR{i r:bT}{t:UInt8}(h:Box.cut l=some (t,i,r))(a:r≠[]):kR l=none:=by
 grind [kR]
theorem Rh{i:bT}{t:UInt8}(h:Box.cut l=some (t,i,[])):kR l=bG (t,i):=by unfold kR;rw[h]
theorem Is{p:Prop}(h:p:=by
 clear HS
 go_wp2_with fail
 go_quiet (first|(go_at_call 143;refine(C4 _).mono ?_;rintro e w' ⟨rfl,rfl⟩;exact⟨rfl,_,rfl⟩))
 go_wp2
 go_ret
 exact⟨bD HS2.o.symm,aR kS _⟩):p:=h
theorem ye{p:Prop}(h:p:=by
 go_wp2
 go_ret
 exact⟨bD HS.o.symm,kS⟩):p:=h
theorem NS(A X)(M)(g)(e:RE)(now n)(z)(L)(w)(m:RD w A X M g)(p:wm w L z)(d:z.length<=900)(dB:b9 now):Calls prog 101 #[π X 0,.agg e.arr,Y now,Y n,L] w λr w'=>r=.returned (Y (wz M.aA now e.be n z))/\w.grownBy w' none:=by
 have f:=cx w (.cells e.arr 166) none
 have k:=I f
 have j:=I (wy w e)
 have HB:=I (m.bP.blk.grown f Z)
 have i:Hid (Calls prog 47 #[H (e.key.toNat:Int),Y 1,L] (w.alloc (.cells e.arr 166)) λr w'=>∃o,r=.returned (.tuple #[o,.bool (eX e.key 1 z).isSome])/\(∀l,eX e.key 1 z=some l->gN w' o l/\l.length<=900)/\(eX e.key 1 z=none->o = σ)/\(w.alloc (.cells e.arr 166)).grownBy w' none):=xu e.key 1 1 z L _ a7 a7 rfl d (p.grown f)
 obtain⟨R,h⟩:=aq (wz M.aA now e.be n z)
 rw[h]
 obtain⟨V,b⟩:=aq M.aA
 rw[b]at HB h
 have a:=I h
 clear h b m p d f
 have f:(w.alloc (.cells e.arr 166)).c w.1.size 7=some (Y e.aH):=j 7 _ rfl
 have m:(w.alloc (.cells e.arr 166)).c w.1.size 8=some (H (e.key.toNat:Int)):=j 8 _ rfl
 obtain⟨O,d⟩:=aq (eX e.key 1 z)
 have h:Hid (eX e.be.key 1 z=O):=d
 rw[d]at i
 clear d
 go_in
 go_wp2_with fail
 refine i.mono ?_
 rintro r w1 ⟨o,rfl,C,D,d⟩
 have K:=I (aa k d)
 have u:=I (HB.grown d Z)
 have y7:=d.cell f Z
 clear i k HB d f m j
 by_cases p:n=e.aH
 .have bn:(n != e.aH)=false:=by rw[bne_eq_false_iff_eq];exact p
  have f:Hid (n=e.be.aH):=p;clear p;cases O with
  |none=>
   obtain rfl:=D rfl;have HS:Hid (R=24):=(by show _=_;rw[<-a,ZM h.o]);clear C D a f;simp only[Option.isSome_none];go_wp2;go_ret;exact⟨bD HS.o.symm,K⟩
  |some l=>
   obtain⟨d,i⟩:=C l rfl;have x:=I (NG l o w1 d G);obtain⟨ao,co,rfl⟩:=d.shape;clear C D d i;obtain⟨cc,d⟩:=aq (Box.cut l);rw[d]at x;have j:=I d;clear d;simp only[dj];go_wp2_with fail;refine x.mono ?_;rintro r W ⟨t,d,i,k,a2,T,c2,rfl,Q,U,k3,k4,k5,k6,J⟩;have P:=aM J (.cells #[.int .u8 (t.toNat:Int),.slice d i.length k] 117);have q:=I (aa K P);have m:=I ((u.grown J Z).alloc (.cells #[.int .u8 (t.toNat:Int),.slice d i.length k] 117));have B:Hid (Calls prog 68 #[.agg #[.int .u8 (t.toNat:Int),.slice d i.length k]] (W.alloc (.cells #[.int .u8 (t.toNat:Int),.slice d i.length k] 117)) λe w'=>∃v,e=.returned (.tuple #[Y v,.bool (bG (t,i)).isSome])/\(b9 v/\∀y,bG (t,i)=some y->v=y)/\(W.alloc (.cells #[.int .u8 (t.toNat:Int),.slice d i.length k] 117)).grownBy w' none):=uj ⟨t,d,k,i⟩ _ (U.below (cx _ _ _));have S:=I Q;clear x K u J P Q U k3 k4 k5 k6 y7;obtain⟨N,J⟩:=aq (bG (t,i));rw[J]at B;have x:=I J;clear J;go_wp2_with fail;refine B.mono ?_;rintro r w3 ⟨v,rfl,U,J⟩;have Q:=I U;have kS:=I (aa q J);have P:=I (m.grown J Z);clear B q m J U;cases cc with
   |none=>
    have HS:Hid (R=24):=(by show _=_;rw[<-a,A9 h.o (NP j.o)]);clear a f j S;simp only[Option.isSome_none];exact ye
   |some q=>
    obtain rfl:=S q rfl;clear S;simp only[dj];by_cases J:T=[]
    .subst J;simp only[List.length_nil];have B:Hid (kR l=N):=(by show _=_;rw[Rh j.o,x]);clear j x;cases N with
     |none=>
      have HS:Hid (R=24):=(by show _=_;rw[<-a,A9 h.o B.o]);clear a f B;simp only[Option.isSome_none];exact ye
     |some y=>
      obtain rfl:=Q.2 y rfl;have HS:Hid (R=if V<dU v now then 37 else 0):=(by show _=_;rw[<-a,ZN f.o h.o B.o]);have C4:=I (λm=>yI v now (w3.drewN m) Q.1 dB);have d0:=P.cell 0;simp only[cH,cG]at d0;obtain⟨U,m⟩:=aq (dU v now);rw[m]at C4 HS;clear a f B m h Q;simp only[dj];by_cases b:V<U
      .have HS2:Hid (R=37):=(by show _=_;rw[HS,dT b]);exact Is
      .have HS2:Hid (R=0):=(by show _=_;rw[HS,cZ b]);exact Is
    .have HS:Hid (R=24):=(by show _=_;rw[<-a,A9 h.o (NR j.o J)]);have y:(0:Int)<(T.length:Int):=by
      have:=fX.2 J;omega
     obtain⟨B,m⟩:=aq T.length;rw[m]at y⊢;clear a f j J m;exact ye
 .have bn:(n != e.aH)=true:=by rw[fj];exact p
  have HS:Hid (R=24):=by show _=_;rw[<-a];exact Vu p
  clear a p C D;go_wp2;go_ret;exact⟨bD HS.o.symm,K⟩
variable {fi fl rn:Int}{x:RE}
structure FW(w W:World)(old:TK)(x s:RE)(fl st fi rn:Int):Prop where
 oq:W.rangeAt w.1.size 0 old.cells
 x:W.rangeAt (w.1.size+1) 0 x.cells
 s:W.rangeAt (w.1.size+2) 0 s.cells
 r:b' W (w.1.size+3) 7
 t:W.rangeAt (w.1.size+4) 0 [Y fl,H (old.aN.toNat:Int),.string ⟨old.ay.toArray⟩,Y old.dV,Y st,Y fi,Y rn]
 lt:b' W (w.1.size+4) 7
 g:w.grownBy W none
theorem FW.grown{b:World}{a:TK}{s:RE}{st:Int}(h:FW w W a x s fl st fi rn)(k:W.grownBy b none):FW w b a x s fl st fi rn:=
 ⟨aB h.oq k,aB h.x k,aB h.s k,h.r.grown k,aB h.t k,h.lt.grown k,aa h.g k⟩
theorem FW.drew{a:TK}{s:RE}{st:Int}(h:FW w W a x s fl st fi rn):FW w W.drew a x s fl st fi rn:=h.grown (bg (cC _ _))
theorem FW.set{a:TK}{s:RE}{st:Int}(h:FW w W a x s fl st fi rn)(k)(v)(hk:k<7):
  (W.s (w.1.size+4) k v).rangeAt w.1.size 0 a.cells/\(W.s (w.1.size+4) k v).rangeAt (w.1.size+1) 0 x.cells/\(W.s (w.1.size+4) k v).rangeAt (w.1.size+2) 0 s.cells/\b' (W.s (w.1.size+4) k v) (w.1.size+3) 7/\b' (W.s (w.1.size+4) k v) (w.1.size+4) 7/\w.grownBy (W.s (w.1.size+4) k v) none/\(W.s (w.1.size+4) k v).rangeAt (w.1.size+4) 0 ([Y fl,H (a.aN.toNat:Int),.string ⟨a.ay.toArray⟩,Y a.dV,Y st,Y fi,Y rn].set k v):=
 ⟨gQ h.oq G _,gQ h.x G _,gQ h.s G _,dH h.r _,dH h.lt _,az h.g G,qK h.t rl _⟩
theorem FW.BG{i:TK}{s:RE}{st:Int}(h:FW w W i x s fl st fi rn)(v):FW w (W.setCell (F (w.1.size+4) 0) (Y v)) i x s v st fi rn:=by
 obtain⟨a,b,c,d,e,f,g⟩:=h.set 0 (Y v) O;exact⟨a,b,c,d,g,e,f⟩
theorem FW.setSt{i:TK}{s:RE}{st:Int}(h:FW w W i x s fl st fi rn)(v):FW w (W.setCell (F (w.1.size+4) 4) (Y v)) i x s fl v fi rn:=by
 obtain⟨a,b,c,d,e,f,g⟩:=h.set 4 (Y v) O;exact⟨a,b,c,d,g,e,f⟩
theorem FW.xW{i:TK}{s:RE}{st:Int}(h:FW w W i x s fl st fi rn)(v):FW w (W.setCell (F (w.1.size+4) 5) (Y v)) i x s fl st v rn:=by
 obtain⟨a,b,c,d,e,f,g⟩:=h.set 5 (Y v) O;exact⟨a,b,c,d,g,e,f⟩
theorem FW.ajI{i:TK}{s:RE}{st:Int}(h:FW w W i x s fl st fi rn)(v):FW w (W.setCell (F (w.1.size+4) 6) (Y v)) i x s fl st fi v:=by
 obtain⟨a,b,c,d,e,f,g⟩:=h.set 6 (Y v) O;exact⟨a,b,c,d,g,e,f⟩
theorem FW.tc{a:TK}{s:RE}{st:Int}(h:FW w W a x s fl st fi rn):W.cell? (F (w.1.size+4) 0)=some (Y fl)/\W.cell? (F (w.1.size+4) 1)=some (H (a.aN.toNat:Int))/\W.cell? (F (w.1.size+4) 2)=some (.string ⟨a.ay.toArray⟩)/\W.cell? (F (w.1.size+4) 3)=some (Y a.dV)/\W.cell? (F (w.1.size+4) 4)=some (Y st)/\W.cell? (F (w.1.size+4) 5)=some (Y fi)/\W.cell? (F (w.1.size+4) 6)=some (Y rn):=
 ⟨h.t 0 _ rfl,h.t 1 _ rfl,h.t 2 _ rfl,h.t 3 _ rfl,h.t 4 _ rfl,h.t 5 _ rfl,h.t 6 _ rfl⟩
theorem FW.oc{a:TK}{s:RE}{st:Int}(h:FW w W a x s fl st fi rn):W.cell? (F w.1.size 0)=some (Y a.ae)/\W.cell? (F w.1.size 4)=some (Y a.start)/\W.cell? (F w.1.size 5)=some (Y a.fin)/\W.cell? (F w.1.size 6)=some (Y a.aC):=
 ⟨h.oq 0 _ rfl,h.oq 4 _ rfl,h.oq 5 _ rfl,h.oq 6 _ rfl⟩
theorem Vx(l a b d g h i j k)(m u v w x)(Q:bG l.pair=some 10)(R:iI d m)(S:iI g u)(T:iI h v)(U:iI i w)(V:iI j x):
  (lu ([l,a,b,d,g,h,i,j,k].map Pc.pair)).isSome=((dm a.pair).isSome&&((dm b.pair).isSome&&(jT [d,g,h,i,j]&&(mi k.pair).isSome)))/\∀q,lu ([l,a,b,d,g,h,i,j,k].map Pc.pair)=some q->∃o,mi k.pair=some o/\q=⟨a.ins,b.ins,m,u,v,w,x,o⟩:=by
 have e:lu ([l,a,b,d,g,h,i,j,k].map Pc.pair)=(dm a.pair).bind λc=>(dm b.pair).bind λs=>(bG d.pair).bind λn=>(bG g.pair).bind λf=>(bG h.pair).bind λt=>(bG i.pair).bind λr=>(bG j.pair).bind λo=>(mi k.pair).bind λp=>some ⟨c,s,n,f,t,r,o,p⟩:=by
  show(bG l.pair).bind _=_;rw[Q];rfl
 have W:∀y,dm a.pair=some y->y=a.ins:=λy f=>wu f
 have X:∀y,dm b.pair=some y->y=b.ins:=λy f=>wu f
 rw[e]
 unfold iI at *
 simp only[jT,List.all_cons,List.all_nil,fW]
 cases C:dm a.pair with
 |none=>grind
 |some n=>
  have z1:=W n C;cases D:dm b.pair with
  |none=>grind
  |some p=>
   have z2:=X p D;cases J:bG d.pair with
   |none=>grind
   |some q=>
    have z3:=R.2 q J;cases K:bG g.pair with
    |none=>grind
    |some r=>
     have z4:=S.2 r K;cases L:bG h.pair with
     |none=>grind
     |some y=>
      have z5:=T.2 y L;cases M:bG i.pair with
      |none=>grind
      |some A=>
       have z6:=U.2 A M;cases P:bG j.pair with
       |none=>grind
       |some B=>
        have z7:=V.2 B P;cases c8:mi k.pair with
        |none=>exact⟨by simp,λt f=>by cases f⟩
        |some o=>
         refine⟨by simp,λt f=>⟨o,rfl,?_⟩⟩;grind
theorem Vy{p:qG}{x:Int×bT}(h:mi p=some (some x)):x.2.length<=p.2.length:=by
 unfold mi at h;cases i:zu p with
 |none=>rw[i]at h;cases h
 |some k=>
  rw[i]at h;have f:Box.dF p.2=some k:=by
   grind [zu]
  cases k with
  |nil=>cases h
  |cons a r=>
   have d:(qH (a::r)).map some=some (some x):=h;cases b:qH (a::r)with
   |none=>rw[b]at d;cases d
   |some y=>
    rw[b]at d;injection d with d;injection d with d;subst d;by_cases l:(a::r).length=2
    .obtain⟨u,v,e⟩:=NH l;rw[e]at b f;rw[Ki]at b;cases g:bG u with
     |none=>rw[g]at b;cases b
     |some n=>
      rw[g]at b;cases j:jq v with
      |none=>rw[j]at b;cases b
      |some z=>
       rw[j]at b;injection b with b;subst b;have m:z=v.2:=by
        grind [jq]
       rw[m];exact Box.lX f v Z
    grind [BF]
def mS(M:DM):Except Int GR->Int
 |.error c=>c
 |.ok _=>if M.aL.length<24 then 60 else 0
def Cw(base yb:Nat)(M:DM)(g:RG)(R:Except Int GR)(w w':World)(o:Value)(c:Int):Prop:=
 c=mS M R/\(c≠0->o = σ/\RD w' base yb M g/\w.grownBy w' none)/\(c=0->∃gr v,R=.ok gr/\l8 w.1.size w' o (gr.box M.aL)/\RD w' base yb {M with aL:=M.aL.drop 24} {g with dv:=v}/\k' w.1.size v/\w.grownBy w' (some yb))
theorem iG{a f:Nat}{M:DM}{g:RG}{c:Int}{w e:World}(j:c≠0)(d:RD w a f M g)(k:w.grownBy e none):Cw a f M g (.error c) w e σ c:=
 ⟨rfl,λ_=>⟨rfl,d.keep (λb i=>k.block b (d.lt b i).2 Z),k⟩,λh=>absurd h j⟩
def nR(M:DM)(now:Int)(ps:List qG):Except Int GR:=
 match lu ps with
 |none=>.error 60
 |some q=>mB M now q
structure FS(w W:World)(base yb:Nat)(M:DM)(g:RG)(gv:Nat)(v0 v1 v2 v3 v4:Int)(z:Value)(o:Option (Int×bT)):Prop where
 d:RD W base yb M g
 v:W.rangeAt gv 0 [Y v0,Y v1,Y v2,Y v3,Y v4]
 z:∀x,o=some x->wm W z x.2/\x.2.length<=900
 g:w.grownBy W none
theorem FS.grown{w W d:World}{a p:Nat}{M:DM}{g:RG}{e:Nat}{i j l m n:Int}{z:Value}{o:Option (Int×bT)}(h:FS w W a p M g e i j l m n z o)(k:W.grownBy d none):FS w d a p M g e i j l m n z o:=
 ⟨h.d.keep (λb q=>k.block b (h.d.lt b q).2 Z),aB h.v k,λx f=>⟨(h.z x f).1.grown k,(h.z x f).2⟩,aa h.g k⟩
theorem uk(a)(l):(gu a l=-1/\BE.find (a.map RE.be) l=none)\/∃(i:Nat) (h:i<a.length),gu a l=(i:Int)/\BE.find (a.map RE.be) l=some a[i].be:=by
 have g:=SC (a.map RE.be) l;have f:=Sv a l;cases b:a.findIdx? (λe=>e.name==l)with
 |none=>
  grind [DN]
 |some i=>
  have d:i<a.length:=by
   have:=List.findIdx?_eq_some_iff_findIdx_eq.1 b;exact this.1
  grind [zt]
theorem um{w:World}{a i:Nat}{M:DM}{g:RG}(h:RD w a i M g)(f:0<g.es.length):∃b d,g.bv = ς b 0 g.es.length d/\w.rangeAt b 0 (bK g.es):=by
 obtain⟨b,d,e,r,_⟩:=jJ h.bP.aF f;exact⟨b,d,e,r⟩
theorem uT{w:World}{b:Nat}{a:List RE}(h:w.rangeAt b 0 (bK a))(i)(d:i<a.length):w.cell? (F b (i*10))=some (Y a[i].k)/\w.cell? (F b (i*10+1))=some (.string ⟨a[i].name.toArray⟩)/\w.cell? (F b (i*10+2))=some (H (a[i].zm.toNat:Int))/\w.cell? (F b (i*10+3))=some (Y a[i].bI)/\w.cell? (F b (i*10+4))=some (Y a[i].aC)/\w.cell? (F b (i*10+5))=some (Y a[i].bB)/\w.cell? (F b (i*10+6))=some (Y a[i].ae)/\w.cell? (F b (i*10+7))=some (Y a[i].aH)/\w.cell? (F b (i*10+8))=some (H (a[i].key.toNat:Int))/\w.cell? (F b (i*10+9))=some (H (a[i].before.toNat:Int)):=by
 have f:∀j v,(a[i]).cells[j]?=some v->j<10->w.c b (i*10+j)=some v:=λj v g e=>by
  have:=h (i*10+j) v (by grind [iw]);rwa [cN]at this
 exact⟨f 0 _ rfl O,f 1 _ rfl O,f 2 _ rfl O,f 3 _ rfl O,f 4 _ rfl O,f 5 _ rfl O,f 6 _ rfl O,f 7 _ rfl O,f 8 _ rfl O,f 9 _ rfl O⟩
theorem xw(a b)(M)(g)(l)(w)(h:RD w a b M g)(f:M.aF.length<=20):Calls Tryz.prog 54 #[π b 0,.string ⟨l.toArray⟩] w λe d=>e=.returned (Y (gu g.es l))/\w.grownBy d none:=by
 have d:g.es.length<=20:=by
  grind [RD.aF]
 exact oh a b M.aA g.bv g.pv g.dv g.es M.aL l g.es.length _ w h.bP (I rfl) G (I rfl)
theorem Bc(b d a)(x)(f)(v)(w)(g:1<=x)(i:x<=5)(n:x=d.toNat)(m:f.length<=8388608)(h:gN w v f):Calls Tryz.prog 45 #[H (b.toNat:Int),Y x,H (a.toNat:Int),v] w λe j=>∃o,e=.returned o/\gN j o (Pure.dY b d a f)/\w.grownBy j none:=by
 obtain⟨j,e,rfl,o,p,k,l⟩:=h
 refine(Hq b d a x f f.length j e w ⟨g,i⟩ (I n) (I rfl) m k l).mono ?_
 grind [gN.own,Pure.dh]
structure qM where
 kind:Int
 ay:bT
 aV:bT
 bV:Int
 ma:Int
 dI:Int
 bX:Int
 options:Int
 pre:Int
 lY:Int
 ticket:Int
 hand:TK
 oQ:Int
 xy:Int
 jZ:bT
 oV:Int
 kD:Int
 uq:Int
 qw:Int
def qM.cells(a:qM):List Value:=[Y a.kind,.string ⟨a.ay.toArray⟩,.string ⟨a.aV.toArray⟩,Y a.bV,Y a.ma,Y a.dI,Y a.bX,Y a.options,Y a.pre,Y a.lY,Y a.ticket,Y a.hand.ae,H (a.hand.aN.toNat:Int),.string ⟨a.hand.ay.toArray⟩,Y a.hand.dV,Y a.hand.start,Y a.hand.fin,Y a.hand.aC,Y a.oQ,Y a.xy,.string ⟨a.jZ.toArray⟩,Y a.oV,Y a.kD,Y a.uq,Y a.qw]
def qM.arr(a:qM):Array Value:=a.cells.toArray
theorem qM.oO(a:qM):a.arr=#[Y a.kind,.string ⟨a.ay.toArray⟩,.string ⟨a.aV.toArray⟩,Y a.bV,Y a.ma,Y a.dI,Y a.bX,Y a.options,Y a.pre,Y a.lY,Y a.ticket,Y a.hand.ae,H (a.hand.aN.toNat:Int),.string ⟨a.hand.ay.toArray⟩,Y a.hand.dV,Y a.hand.start,Y a.hand.fin,Y a.hand.aC,Y a.oQ,Y a.xy,.string ⟨a.jZ.toArray⟩,Y a.oV,Y a.kD,Y a.uq,Y a.qw]:=rfl
structure qM.Ok(a:qM):Prop where
 kind:b9 a.kind
 ay:a.ay.length<=1048576
 aV:a.aV.length<=1048576
 bV:b9 a.bV
 ma:b9 a.ma
 dI:b9 a.dI
 bX:b9 a.bX
 options:b9 a.options
 pre:b9 a.pre
 lY:b9 a.lY
 ticket:b9 a.ticket
 hand:a.hand.In
 yK:a.hand.ay.length<=1048576
 oQ:b9 a.oQ
 xy:b9 a.xy
 jZ:a.jZ.length<=1048576
 oV:b9 a.oV
 kD:b9 a.kD
 uq:b9 a.uq
 qw:b9 a.qw
def Ri(w w':World)(e:Ending):Prop:=∃(key:UInt64) (n:Int),e=.returned (.tuple #[H (key.toNat:Int),Y n])/\0<=n/\n<=4611686018427387904/\w.grownBy w' none
theorem Fa(f u)(M)(g)(l:bT)(w)(b:RD w f u M g)(h:fZ 4611686018427387904 M.aF):Calls Tryz.prog 93 #[π u 0,.string ⟨l.toArray⟩] w λe a=>Ri w a e:=by
 obtain⟨A,cb,a⟩:=bA b.bP.aF
 obtain⟨m,d⟩:=N g.es.length
 have yg:m<=20:=by have:=h.len;grind [RD.aF]
 have j:=b.bP.blk.cell 1
 rw[a,d]at j
 simp only[cH,cG,cI]at j
 have x:=I b
 have y:=I d
 have v:=I a
 clear b d a
 obtain⟨S,a⟩:∃S:ByteArray,S=⟨l.toArray⟩:=⟨_,rfl⟩
 rw[<-a]
 have HS:=I a
 clear a
 go_enter Tryz.func93,Tryz.ntmps93
 go_wp2
 go_loopw [6] (λi wr=>∃k:Nat,k<=m/\i = Y k/\w.grownBy wr none) (λi _=>m-(intOf i).toNat)
 case atStart=>grind [cC]
 case round=>
  obtain⟨k,hk,rfl,b⟩:=hrel;have B:=b.cell j Z;by_cases o:k<m
  .have a:k<g.es.length:=(by rw[y];exact o);have K:(k:Int)<(m:Int):=G;have J:(0:Int)<=(k:Int):=G;obtain⟨D,C,i,d⟩:=um x G;have n:A=some ⟨D,0,none⟩:=by
    grind [Hid.o]
   subst n;obtain⟨L,P,Q,R,U,V,W,x7,x8,X⟩:=uT (aB d b) k a;have e:(g.es[k]'a).be∈M.aF:=(by grind [RD.aF,Hid.o]);have t:1<=(g.es[k]'a).aH/\(g.es[k]'a).aH<=4611686018427387904:=h.num _ e;have p:=I t;obtain⟨T,r⟩:∃T:ByteArray,T=⟨(g.es[k]'a).name.toArray⟩:=⟨_,rfl⟩
   rw[<-r]at P;have q:=I b;clear L Q R U V W X d e t i r b;by_cases e:(T.toList==S.toList)=true
   .go_wp2_with fail;go_quiet (fail)
    go_wp2;go_ret2;exact⟨_,_,rfl,by have:=p.o;omega,p.2,aR q.o _⟩
   .have r:(T.toList==S.toList)=false:=(by simpa using e);clear e;go_wp2;go_roundw
    case rel=>exact⟨k+1,by omega,by go_num,q.o⟩
    case measure=>simp[intOf];omega
  .have e:k=m:=G;subst e;have K:¬ (k:Int)<(k:Int):=G;go_wp2;go_ret2;exact⟨0,1,rfl,by decide,by decide,b⟩
theorem CV{p:Prop}(h:p:=by rw[<-hW2];exact ownsRow_setCell_below hown (by show yb<w.1.size+1;omega) _):p:=h
theorem CI{p:Prop}(h:p:=by intro u hu;simp at hu;rcases hu with rfl|rfl|rfl<;>rfl):p:=h
variable {M:DM}{yb:Nat}{g:RG}
theorem Tryz.agw:(prog.info? 283).map (λi=>(i.zero,i.size,i.bytes))=some (some (.agg #[ε,Y 0,Y 0]),3,32):=by kernel_rfl
theorem xz(l):∀(k j)(hk:k<l.length),j<3->(fM l)[k*3+j]?=(l[k]).cells[j]?:=by
 unfold fM;induction l with
 |nil=>intro k j hk;simp at hk
 |cons x l b=>
  intro k j hk a;rw[eE,eI];cases k with
  |zero=>rw[gf,cN,cW (by show j<3;exact a)];rfl
  |succ k=>
   rw[cY (by show 3<=(k+1)*3+j;omega),show(k+1)*3+j-x.cells.length=k*3+j from by show(k+1)*3+j-3=k*3+j;omega];exact b k j rl a
theorem Fb(l)(p):fM (l++[p])=fM l++p.cells:=by simp[fM]
theorem Rn(b a)(l:List PF)(k)(d:k<l.length):iQ b a (l.take (k+1))=iQ b a (l.take k)++(if dU l[k].time a<=b then [l[k]] else []):=by
 unfold iQ;rw[dy d,List.filter_append];congr 1;by_cases h:dU l[k].time a<=b
 .rw[dT h];simp[h]
 .rw[cZ h];simp[h]
theorem D3{p:Prop}(h:p:=by
 cases hv:v.ownBlock with
 |none=>exact .inl rfl
 |some b=>exact .inr Z):p:=h
theorem RD.yM{f:Nat}(h:RD w f yb M g){W:World}{v x:Value}{p:List PF}(m:w.grownBy W (some yb))(q:dz W yb #[Y M.aA,g.bv,x,g.dv])(l:W.ownsRow w.1.size 283 3 v p.length (fM p))(a:f<=w.1.size):
  RD (W.setCell (F yb 2) v) f yb {M with aJ:=p} {g with pv:=v}/\w.grownBy (W.setCell (F yb 2) v) (some yb)/\k' w.1.size v:=by
 have k:k' w.1.size v:=λb a=>(l.lt b a).1
 have i:∀b,g.foot yb b->v.ownBlock≠some b:=λb a e=>by have:=k b e;have:=(h.lt b a).2;omega
 have d:∀b,b≠yb->(W.setCell (F yb 2) v).1[b]?=W.1[b]?:=λb j=>by
  simp[World.setCell,Array.getElem?_modify,Ne.symm j]
 have n:=λb j o=>(d b j).trans (m.block b (h.lt b o).2 (λe=>j oR))
 have j:w.grownBy (W.setCell (F yb 2) v) (some yb):=by
  refine⟨m.os,m.tape,m.output,?_,λb a o=>?_⟩
  .rw[show(W.setCell (F yb 2) v).1.size=W.1.size from by simp[World.setCell]];exact m.size
  .rw[d b (λe=>o (by rw[e]))];exact m.block b a o
 refine⟨⟨⟨?_,cB h.bP.aF (λb a=>n b (λe=>h.bP.bne (by rw[a,e])) (.inr (.inl a))),cB h.bP.aL (λb a=>n b (λe=>h.bP.T9 (by rw[a,e])) (.inr (.inr (.inr a)))),h.bP.here,h.bP.bne,h.bP.T9,h.bP.apart⟩,h.aF,dC (cB l (λb a=>d b (λe=>i yb (.inl rfl) (by rw[a,e])))) a,i yb (.inl rfl),?_,?_⟩,j,k⟩
 .have:=q.set 2 v;simpa using this
 .cases o:g.bv.ownBlock with
  |none=>
   exact D3
  |some b=>exact .inr (i b (.inr (.inl o)))
 .cases o:g.dv.ownBlock with
  |none=>
   exact D3
  |some b=>exact .inr (i b (.inr (.inr (.inr o))))
theorem RD.I4{a:Nat}(e:RD w a yb M g){W:World}{v:Value}{d:List PF}(f:w.grownBy W none)(b:W.ownsRow w.1.size 283 3 v d.length (fM d))(h:a<=w.1.size):
  RD (W.setCell (F yb 2) v) a yb {M with aJ:=d} {g with pv:=v}/\w.grownBy (W.setCell (F yb 2) v) (some yb)/\k' w.1.size v:=e.yM (mh f yb) (e.bP.blk.grown f Z) b h
theorem RD.drewN{a:Nat}(b:RD w a yb M g)(m):RD (w.drewN m) a yb M g:=b.keep (λ_ _=>rfl)
theorem I5{a b:World}{o:Obj}{r:Option Nat}(h:(a.alloc o).grownBy b r):a.grownBy b r:=by
 have f:(a.alloc o).1.size=a.1.size+1:=cF _ _;have g:=cx a o none;exact⟨h.os.trans g.os,h.tape.trans g.tape,h.output.trans g.output,by have:=h.size;omega,λi d e=>(h.block i G e).trans (g.block i d Z)⟩
theorem My{a b:PF}:a=b↔a.ay=b.ay/\a.time=b.time/\a.count=b.count:=by
 constructor
 .intro h;subst h;exact⟨rfl,rfl,rfl⟩
 .intro⟨d,e,f⟩;cases a;cases b;simp_all
theorem J'{p:Prop}(h:p:=by
 intro v6 w6 h6 g6
 have hrow:=λb hb=>(Cv.o.lt b hb).1
 have gw:w.grownBy w6 (some yb):=by
  have g2:=mD.2.1
  refine⟨g6.os.trans g2.os,g6.tape.trans g2.tape,g6.output.trans g2.output,cE g2.size g6.size,λb hb hx=>(g6.block b (fN hb g2.size) (λe=>?_)).trans (g2.block b hb hx)⟩
  have:=hrow b e.symm
  omega
 have hB:=mD.1.bP.blk.grown g6 (λe=>by have:=hrow yb e.symm;omega)
 refine HD.yM gw hB ?_ hbase
 rw[Fb,cD,HLm]
 exact dC h6 (fg _)):p:=h
theorem J1{p:Prop}(h:p:=by
 have h8I:(8:Int)<=(j:Int):=G
 have HC:Hid (bL sk now M.aJ p=60/\bJ sk now M.aJ p=L):=by
  have h60:bL sk now M.aJ p=60:=by unfold bL;rw[HL,cZ Ro.o,dT (by rw[HLm];exact h8)]
  refine⟨h60,?_⟩
  unfold bJ
  rw[h60,cZ O,HL.o]
 clear HNo LF
 go_wp2
 go_ret
 exact⟨bD HC.1.symm,_,by rw[HC.2,<-HSk];exact HRD,⟨mD.2.1.os,mD.2.1.tape,mD.2.1.output,mD.2.1.size,mD.2.1.block⟩,mD.2.2⟩):p:=h
theorem AS{p:Prop}(h:p:=by
 go_wp2_with fail
 go_quiet (fail)
 go_wp2
 go_roundw
 case rel=>exact⟨j+1,q+nq,by omega,by go_num,FI,by first|rfl|rw[World.drewN_drewN]⟩
 case measure=>simp[intOf];omega):p:=h
theorem I2{p:Prop}(h:p:=by
 all_goals
  go_wp2
  go_ret
  exact⟨bD HC.1.symm,_,by rw[HC.2,<-HSk];exact HFin.1.keep (λ_ _=>rfl),⟨HFin.2.1.os,HFin.2.1.tape,HFin.2.1.output,HFin.2.1.size,HFin.2.1.block⟩,HFin.2.2⟩):p:=h
theorem FG{p:Prop}(h:p:=by
 have h0:bL sk now M.aJ p=0:=by unfold bL;rw[HL,cZ Ro.o,cZ (by rw[HLm];exact h8)]
 refine⟨h0,?_⟩
 unfold bJ
 rw[h0,dT rfl,HL.o]):p:=h
theorem Fl{p:Prop}(h:p:=by
 intro hp
 obtain⟨a,ha,e⟩:=List.getElem_of_mem hp
 exact HNo a ha (by have:=HLm.o;omega) e):p:=h
theorem Kr(t yb)(M)(g)(p)(now)(w)(f:RD w t yb M g)(ba:M.aJ.length<=1000)(r:∀y∈M.aJ,b9 y.time)(dB:b9 now)(hbase:t<=w.1.size):Calls prog 146 #[π yb 0,.agg p.cells.toArray,ι now] w λe D=>e=.returned (ι (bL M.aA now M.aJ p))/\∃v,RD D t yb {M with aJ:=bJ M.aA now M.aJ p} {g with pv:=v}/\w.grownBy D (some yb)/\k' w.1.size v:=by
 obtain⟨i0,V,ae,af,ag⟩:=info_parts Tryz.agw
 have d:p.cells.toArray=#[.string ⟨p.ay.toArray⟩,ι p.time,ι p.count]:=rfl
 rw[d]
 clear d
 have k:=cx w (.cells #[.string ⟨p.ay.toArray⟩,ι p.time,ι p.count] 283) none
 have R:=I (aS w #[.string ⟨p.ay.toArray⟩,ι p.time,ι p.count] 283)
 have bm:=f.bP.blk.lt
 have HD:=I f
 have c0:(w.alloc (.cells #[.string ⟨p.ay.toArray⟩,ι p.time,ι p.count] 283)).cell? (F yb 0)=some (ι M.aA):=by
  have:=(f.bP.blk.grown k Z).cell 0;simpa using this
 obtain⟨pa,pc,h⟩:=bA f.aJ
 obtain⟨n,m⟩:=N M.aJ.length
 have c2:(w.alloc (.cells #[.string ⟨p.ay.toArray⟩,ι p.time,ι p.count] 283)).cell? (F yb 2)=some (.slice pa n pc):=by
  have:=(f.bP.blk.grown k Z).cell 2;rw[h,m]at this;simpa using this
 have GV:Hid (0<n->∃x,pa=some ⟨x,0,none⟩/\(w.alloc (.cells #[.string ⟨p.ay.toArray⟩,ι p.time,ι p.count] 283)).rangeAt x 0 (fM M.aJ)):=by
  intro h0;obtain⟨x,c,J,e2,_⟩:=jJ f.aJ (by rw[m];exact h0);rw[h]at J;injection J with J;exact⟨x,J,aB e2 k⟩
 have HN:=I m
 rw[m]at ba
 have an:=I r
 obtain⟨sk,i⟩:=N M.aA
 rw[i]at c0⊢
 have HSk:=I i
 obtain⟨W0,d⟩:=N (w.alloc (.cells #[.string ⟨p.ay.toArray⟩,ι p.time,ι p.count] 283))
 have s0:W0.1.size=w.1.size+1:=by rw[<-d];exact cF _ _
 rw[d]at k R c0 c2 GV
 have l:=I d
 have sS:=I k
 clear d f h m r i k
 go_in
 go_wp2
 rw[l]
 clear l
 go_loopw [7,8] (λd i wr=>∃k:Nat,k<=n/\i = ι k/\wr.ownsRow (w.1.size+1) 283 3 d (iQ sk now (M.aJ.take k)).length (fM (iQ sk now (M.aJ.take k)))/\W0.grownBy wr none) (λ_ i _=>n-(intOf i).toNat)
 case atStart=>exact⟨0,cS _,rfl,by simpa[iQ,fM]using World.ownsRow_nil _ _ _ _,cC _ _⟩
 case round=>
  obtain⟨k,hk,rfl,hown,l⟩:=hrel;have d0:=l.cell c0 Z;have d2:=l.cell c2 Z;have aj:=l.size;by_cases av:k<n
  .have mW:(k:Int)<(n:Int):=G;have X:(0:Int)<=(k:Int):=G;obtain⟨x,rfl,hrow⟩:=GV G;have gO:k<M.aJ.length:=(by rw[HN];exact av);have v:=aB hrow l;have A:Hid (∀W,wr.grownBy W none->W.cell? (F x (k*3+0))=some (.string ⟨M.aJ[k].ay.toArray⟩)/\W.cell? (F x (k*3+1))=some (ι M.aJ[k].time)/\W.cell? (F x (k*3+2))=some (ι M.aJ[k].count)):=by
    intro W d;have h:=aB v d;have h0:=h (k*3+0) _ (by rw[xz _ k 0 gO O];rfl);have B:=h (k*3+1) _ (by rw[xz _ k 1 gO O];rfl);have r:=h (k*3+2) _ (by rw[xz _ k 2 gO O];rfl);rw[cN]at h0 B r;exact⟨h0,B,r⟩
   have HS:=I (Rn sk now M.aJ k gO);have d:=an M.aJ[k] (eg gO);obtain⟨y,Q⟩:=N (M.aJ[k]);rw[Q]at A HS d;have P:=I (λm=>yI y.time now (wr.drewN m) d dB);obtain⟨e0,J,e2⟩:=A wr (cC _ _);rw[ft]at e0;obtain⟨W,f⟩:=N (dU y.time now);rw[f]at P HS;clear hrow v Q d f A;by_cases f:W<=sk
   .have d:Hid (iQ sk now (M.aJ.take (k+1))=iQ sk now (M.aJ.take k)++[y]):=(by show _=_;rw[HS,dT f]);have bl:(iQ sk now (M.aJ.take k)).length<=1000:=by
     have B:=List.length_filter_le (λp:PF=>decide (dU p.time now<=sk)) (M.aJ.take k);have r:(iQ sk now (M.aJ.take k)).length<=(M.aJ.take k).length:=B;rw[ep]at r;omega
    have sO:(iQ sk now (M.aJ.take k)).length+1<=maxLen:=kO;have K:((iQ sk now (M.aJ.take k)).length+1)*32<=140737488355328:=G;clear HS;go_wp2_with fail;go_quiet (first|(go_at_call 143;refine(P _).mono ?_;rintro e D ⟨rfl,rfl⟩;exact⟨rfl,_,rfl⟩))
    have Cv:Hid (∀m,(wr.drewN m).ownsRow (w.1.size+1) 283 3 u7 (iQ sk now (M.aJ.take k)).length (fM (iQ sk now (M.aJ.take k)))/\W0.grownBy (wr.drewN m) none):=λm=>⟨hown.kept (aR (cC wr none) m) (eR _),aR l m⟩
    clear hown l;go_wp2_with (at_builtin;refine dJ _ rfl _ _ 142 rfl (w.1.size+1) 283 i0 _ 3 32 underlying142 V ae af ag rfl O _ _ _ rfl ((Cv _).1.alloc _) ⟨wr.1.size,0,none⟩ 1 1 [.string ⟨y.ay.toArray⟩,ι y.time,ι y.count] rfl rfl ?q1 CI G sO K j' ?_)
    case q1=>exact gL (wr.drewN _) 283 [.string ⟨y.ay.toArray⟩,ι y.time,ι y.count]
    intro v2 T r C _;have S:Hid (W0.grownBy T none):=gD (aM (Cv _).2 _) C (λj hj=>by have:=((Cv 0).1.lt j hj).1;omega);have U:Hid (T.ownsRow (w.1.size+1) 283 3 v2 (iQ sk now (M.aJ.take (k+1))).length (fM (iQ sk now (M.aJ.take (k+1))))):=(by rw[d,Fb,cD];exact r);clear r C Cv d e0 J e2 d0 d2;go_wp2;go_roundw
    case rel=>exact⟨k+1,by omega,by go_num,U.o,S.o⟩
    case measure=>simp[intOf];omega
   .have d:Hid (iQ sk now (M.aJ.take (k+1))=iQ sk now (M.aJ.take k)):=(by show _=_;rw[HS,cZ f,fS]);have Cv:Hid (∀m,(wr.drewN m).ownsRow (w.1.size+1) 283 3 u7 (iQ sk now (M.aJ.take (k+1))).length (fM (iQ sk now (M.aJ.take (k+1))))/\W0.grownBy (wr.drewN m) none):=λm=>⟨by rw[d];exact hown.kept (aR (cC wr none) m) (eR _),aR l m⟩
    clear hown l HS d;go_wp2_with fail;go_quiet (first|(go_at_call 143;refine(P _).mono ?_;rintro e D ⟨rfl,rfl⟩;exact⟨rfl,_,rfl⟩))
    go_wp2;go_roundw
    case rel=>exact⟨k+1,by omega,by go_num,(Cv.o _).1,(Cv.o _).2⟩
    case measure=>simp[intOf];omega
  .have au:k=n:=G;have mW:¬ (k:Int)<(n:Int):=G;subst au;have ab:=cU (by rw[HN];exact cy _);rw[ab]at hown;obtain⟨L,hL⟩:=N (iQ sk now M.aJ);rw[hL]at hown;have HL:=I hL;have ar:L.length<=1000:=by
    have B:(iQ sk now M.aJ).length<=M.aJ.length:=List.length_filter_le _ _;have:=HN.o;rw[hL]at B;omega
   obtain⟨la,A,rfl⟩:=bA hown;obtain⟨m,S⟩:=N L.length;have HLm:=I S;rw[S]at hown ar⊢;have ai:=S;have U:(la=none/\Hid (m=0))\/∃v,la=some ⟨v,0,none⟩:=by
    rcases hown.2 with⟨d,_⟩|⟨v,r,f,d,_⟩
    .injection d with J e2 _;exact .inl ⟨J,I e2⟩
    .injection d with J _ _;exact .inr ⟨v,J⟩
   rcases U with⟨rfl,FP⟩|⟨v,rfl⟩
   .have C:=I (aB R l);have kG:=I (aa sS l);have bb:yb<wr.1.size:=G;have mD:=I (HD.I4 kG (dC (by rw[S];exact hown) (fg _)) hbase);clear ab hL S mW d0;have fz:=(HD.bP.blk.grown kG Z).frozen 2;obtain⟨d,hW2⟩:=N (wr.setCell (F yb 2) (.slice none m A));have Cv:Hid (d.ownsRow (w.1.size+1) 283 3 (.slice none m A) m (fM L)):=CV;have P:Hid (d.rangeAt w.1.size 0 [.string ⟨p.ay.toArray⟩,ι p.time,ι p.count]):=(by rw[<-hW2];exact λj u hu=>by rw[World.cell?_setCell_far _ _ _ _ (show yb≠w.1.size by omega)];exact C j u hu);rw[hW2]at mD;clear ai;have D:=I hW2;clear hW2 hown C kG l aj;go_wp2;rw[D];clear D d2 fz;go_loopw [9] (λi wx=>∃j q:Nat,j<=m/\i = ι j/\Hid (∀a(ha:a<L.length),a<j->L[a]≠p)/\wx=d.drewN q) (λi _=>m-(intOf i).toNat)
    case atStart=>exact⟨0,0,cS _,rfl,I (λa _ ha=>by omega),rfl⟩
    case round=>
     obtain⟨j,q,hj,rfl,HNo,rfl⟩:=hrel;have HRD:=I (mD.1.drewN q);by_cases X:j<m
     .exact absurd X (by have:=FP.o;omega)
     .have W:j=m:=G;have LF:¬ (j:Int)<(m:Int):=G;have Ro:Hid (p∉L):=by
       exact Fl
      subst W;by_cases h8:8<=j
      .exact J1
      .have h8I:¬ (8:Int)<=(j:Int):=G;have HC:Hid (bL sk now M.aJ p=0/\bJ sk now M.aJ p=L++[p]):=by
        exact FG
       clear HNo LF Ro;have y2:d.cell? (F yb 2)=some (.slice none j A):=by
        have:=mD.1.bP.blk.cell 2;simpa using this
       have p0:d.c w.1.size 0=some (.string ⟨p.ay.toArray⟩):=P 0 _ rfl;have p1:d.c w.1.size 1=some (ι p.time):=P 1 _ rfl;have p2:d.c w.1.size 2=some (ι p.count):=P 2 _ rfl;have bc:=(cx (d.drewN (q+1)) (.cells #[.string ⟨p.ay.toArray⟩,ι p.time,ι p.count] 283) none).cell y2 Z;have ak:w.1.size+1<=d.1.size:=(by have:=jF p0;omega);have sO:j+1<=maxLen:=kO;have K:(j+1)*32<=140737488355328:=G;have al:Hid (∀q',(d.drewN q').ownsRow (w.1.size+1) 283 3 (.slice none j A) j (fM L)):=λq'=>Cv.kept (aR (cC d none) q') (eR _);have T:Hid (∀(v6)(w6),w6.ownsRow (w.1.size+1) 283 3 v6 (j+1) (fM L++p.cells)->d.grownBy w6 (Value.slice none j A).ownBlock->RD (w6.setCell (F yb 2) v6) t yb {M with aJ:=L++[p]} {g with pv:=v6}/\w.grownBy (w6.setCell (F yb 2) v6) (some yb)/\k' w.1.size v6):=by
        exact J'
       go_wp2_with fail;go_region_law (first|(refine mF rfl _ _ 142 rfl (w.1.size+1) 283 i0 _ 3 32 underlying142 V ae af ag rfl O (.slice none j A) j _ ?s1 (Cv.alloc _) ⟨d.1.size,0,none⟩ 1 1 [.string ⟨p.ay.toArray⟩,ι p.time,ι p.count] ?s2 rfl ?s3 ?s4 G sO K ?s5 ?_;(case s1=>first|rfl|simp[Act.eval,Act.put]);(case s2=>first|rfl|simp[Act.eval,Act.put]);(case s3=>exact gL d _ _);(case s4=>intro u hu;simp at hu;rcases hu with rfl|rfl|rfl<;>rfl);(case s5=>simp;omega);intro v6 w6 f B x;obtain⟨a6,c6,ad⟩:=bA f;subst ad;have DF:(d.alloc (.cells #[.string ⟨p.ay.toArray⟩,ι p.time,ι p.count] 283)).grownBy w6 (Value.slice none j A).ownBlock:=⟨B.os,B.tape,B.output,B.size,B.block⟩;have r:=I5 DF;have HFin:=I (T _ _ f r);have y6:=r.cell y2 (λe=>by have:=(Cv.o.lt yb e.symm).1;omega);have ao:=(mD.1.bP.blk.grown r (λe=>by have:=(Cv.o.lt yb e.symm).1;omega)).frozen 2;clear f B DF r x))
       all_goals exact I2
   .have C:=I (aB R l);have kG:=I (aa sS l);have bb:yb<wr.1.size:=G;have mD:=I (HD.I4 kG (dC (by rw[S];exact hown) (fg _)) hbase);clear ab hL S mW d0;have fz:=(HD.bP.blk.grown kG Z).frozen 2;obtain⟨d,hW2⟩:=N (wr.setCell (F yb 2) (ς v 0 m A));have Cv:Hid (d.ownsRow (w.1.size+1) 283 3 (ς v 0 m A) m (fM L)):=CV;have P:Hid (d.rangeAt w.1.size 0 [.string ⟨p.ay.toArray⟩,ι p.time,ι p.count]):=(by rw[<-hW2];exact λj u hu=>by rw[World.cell?_setCell_far _ _ _ _ (show yb≠w.1.size by omega)];exact C j u hu);rw[hW2]at mD;clear ai;have D:=I hW2;clear hW2 hown C kG l aj;go_wp2;rw[D];clear D d2 fz;go_loopw [9] (λi wx=>∃j q:Nat,j<=m/\i = ι j/\Hid (∀a(ha:a<L.length),a<j->L[a]≠p)/\wx=d.drewN q) (λi _=>m-(intOf i).toNat)
    case atStart=>exact⟨0,0,cS _,rfl,I (λa _ ha=>by omega),rfl⟩
    case round=>
     obtain⟨j,q,hj,rfl,HNo,rfl⟩:=hrel;have HRD:=I (mD.1.drewN q);by_cases X:j<m
     .have LF:(j:Int)<(m:Int):=G;have bk:(0:Int)<=(j:Int):=G;have i:j<L.length:=(by rw[HLm];exact X);have hrow:d.rangeAt v 0 (fM L):=by
       obtain⟨D,S,C,hrow,_⟩:=jJ Cv G;injection C with C;injection C with C;injection C with C;rw[C];exact hrow
      obtain⟨y,Q⟩:=N (L[j]);have e0:d.cell? (F v (j*3))=some (.string ⟨y.ay.toArray⟩):=by
       have h:=hrow (j*3+0) _ (by rw[xz _ j 0 i O];rfl);rw[cN,ft,Q]at h;exact h
      have J:d.cell? (F v (j*3+1))=some (ι y.time):=by
       have h:=hrow (j*3+1) _ (by rw[xz _ j 1 i O];rfl);rw[cN,Q]at h;exact h
      have e2:d.cell? (F v (j*3+2))=some (ι y.count):=by
       have h:=hrow (j*3+2) _ (by rw[xz _ j 2 i O];rfl);rw[cN,Q]at h;exact h
      have p0:d.c w.1.size 0=some (.string ⟨p.ay.toArray⟩):=P 0 _ rfl;have p1:d.c w.1.size 1=some (ι p.time):=P 1 _ rfl;have p2:d.c w.1.size 2=some (ι p.count):=P 2 _ rfl;obtain⟨S,D⟩:∃S:ByteArray,S=⟨p.ay.toArray⟩:=⟨_,rfl⟩
      obtain⟨Y,hY⟩:∃S:ByteArray,S=⟨y.ay.toArray⟩:=⟨_,rfl⟩
      rw[<-hY]at e0;rw[<-D]at p0;have hq:=BO hY D;have C:Hid (¬ y=p->∀a(ha),a<j+1->L[a]≠p):=by
       intro ay a ha bf;by_cases h:a<j
       .exact HNo a ha h
       .have:a=j:=by omega
        subst this;rw[Q];exact ay
      have O6:Hid (y=p->p∈L):=λe=>by rw[<-e,<-Q];exact eg i
      clear hrow Q HNo;by_cases h:y.ay=p.ay
      .have b0:(Y.toList==S.toList)=true:=(by rw[hq,h];simp);by_cases q1:y.time=p.time
       .have b1:(y.time==p.time)=true:=(by rw[db];exact q1);by_cases Q:y.count=p.count
        .have b2:(y.count==p.count)=true:=(by rw[db];exact Q);have Qi:=I (O6 (My.2 ⟨h,q1,Q⟩));have HC:Hid (bL sk now M.aJ p=34/\bJ sk now M.aJ p=L):=by
          have ah:bL sk now M.aJ p=34:=(by unfold bL;rw[HL,dT Qi.o]);refine⟨ah,?_⟩;unfold bJ;rw[ah,cZ O,HL.o]
         clear h q1 Q hq D hY O6 C Qi;go_wp2_with fail;go_quiet (fail)
         go_wp2;go_ret;exact⟨bD HC.1.symm,_,by rw[HC.2,<-HSk];exact(mD.1.drewN q).drewN _,⟨mD.2.1.os,mD.2.1.tape,mD.2.1.output,mD.2.1.size,mD.2.1.block⟩,mD.2.2⟩
        .have b2:(y.count==p.count)=false:=(by rw[cJ];exact Q);have FI:=I (C (λe=>Q (by rw[e])));clear h q1 Q hq D hY O6 C;exact AS
       .have b1:(y.time==p.time)=false:=(by rw[cJ];exact q1);have FI:=I (C (λe=>q1 (by rw[e])));clear h q1 hq D hY O6 C;exact AS
      .have b0:(Y.toList==S.toList)=false:=(by rw[hq];simpa using h);have FI:=I (C (λe=>h (by rw[e])));clear h hq D hY O6 C;exact AS
     .have W:j=m:=G;have LF:¬ (j:Int)<(m:Int):=G;have Ro:Hid (p∉L):=by
       exact Fl
      subst W;by_cases h8:8<=j
      .exact J1
      .have h8I:¬ (8:Int)<=(j:Int):=G;have HC:Hid (bL sk now M.aJ p=0/\bJ sk now M.aJ p=L++[p]):=by
        exact FG
       clear HNo LF Ro;have y2:d.cell? (F yb 2)=some (ς v 0 j A):=by
        have:=mD.1.bP.blk.cell 2;simpa using this
       have p0:d.c w.1.size 0=some (.string ⟨p.ay.toArray⟩):=P 0 _ rfl;have p1:d.c w.1.size 1=some (ι p.time):=P 1 _ rfl;have p2:d.c w.1.size 2=some (ι p.count):=P 2 _ rfl;have bc:=(cx (d.drewN (q+1)) (.cells #[.string ⟨p.ay.toArray⟩,ι p.time,ι p.count] 283) none).cell y2 Z;have ak:w.1.size+1<=d.1.size:=(by have:=jF p0;omega);have sO:j+1<=maxLen:=kO;have K:(j+1)*32<=140737488355328:=G;have al:Hid (∀q',(d.drewN q').ownsRow (w.1.size+1) 283 3 (ς v 0 j A) j (fM L)):=λq'=>Cv.kept (aR (cC d none) q') (eR _);have T:Hid (∀(v6)(w6),w6.ownsRow (w.1.size+1) 283 3 v6 (j+1) (fM L++p.cells)->d.grownBy w6 (Value.slice (some ⟨v,0,none⟩) j A).ownBlock->RD (w6.setCell (F yb 2) v6) t yb {M with aJ:=L++[p]} {g with pv:=v6}/\w.grownBy (w6.setCell (F yb 2) v6) (some yb)/\k' w.1.size v6):=by
        exact J'
       go_wp2_with fail;go_region_law (first|(refine mF rfl _ _ 142 rfl (w.1.size+1) 283 i0 _ 3 32 underlying142 V ae af ag rfl O (ς v 0 j A) j _ ?s1 (Cv.alloc _) ⟨d.1.size,0,none⟩ 1 1 [.string ⟨p.ay.toArray⟩,ι p.time,ι p.count] ?s2 rfl ?s3 ?s4 G sO K ?s5 ?_;(case s1=>first|rfl|simp[Act.eval,Act.put]);(case s2=>first|rfl|simp[Act.eval,Act.put]);(case s3=>exact gL d _ _);(case s4=>intro u hu;simp at hu;rcases hu with rfl|rfl|rfl<;>rfl);(case s5=>simp;omega);intro v6 w6 f B x;obtain⟨a6,c6,ad⟩:=bA f;subst ad;have DF:(d.alloc (.cells #[.string ⟨p.ay.toArray⟩,ι p.time,ι p.count] 283)).grownBy w6 (Value.slice (some ⟨v,0,none⟩) j A).ownBlock:=⟨B.os,B.tape,B.output,B.size,B.block⟩;have r:=I5 DF;have HFin:=I (T _ _ f r);have y6:=r.cell y2 (λe=>by have:=(Cv.o.lt yb e.symm).1;omega);have ao:=(mD.1.bP.blk.grown r (λe=>by have:=(Cv.o.lt yb e.symm).1;omega)).frozen 2;clear f B DF r x))
       all_goals exact I2
section
variable {q:NQ}{e:BE}{key:UInt64}{p:PF}
theorem Aa(h:q.fU=[116,103,115]\/jB q=true)(a:BE.find M.aF q.fU=some e)(b:e.keyOf q.oC=some key):iW M now q=match (eX key 2 q.dO).bind dR with
   |none=>.error 31
   |some t=>
    match (eX t.aN 4 q.proof).bind fI with
    |none=>.error 31
    |some p=>if p.ay≠t.ay then .error 36 else if M.aA<dU p.time now then .error 37 else .ok (t,p):=by
 grind [xm,iW]
theorem Tp(h:q.fU=[116,103,115]\/jB q=true)(a:BE.find M.aF q.fU=some e)(b:e.keyOf q.oC=some key)(d:(eX key 2 q.dO).bind dR=none):iH M now q=(.error 31,M):=by
 unfold iH;rw[Aa h a b,d]
theorem N8(h:q.fU=[116,103,115]\/jB q=true)(a:BE.find M.aF q.fU=some e)(b:e.keyOf q.oC=some key)(d:(eX key 2 q.dO).bind dR=some t)(f:(eX t.aN 4 q.proof).bind fI=none):iH M now q=(.error 31,M):=by
 unfold iH;rw[Aa h a b,d];dsimp only;rw[f]
theorem VA(h:q.fU=[116,103,115]\/jB q=true)(b:BE.find M.aF q.fU=some e)(d:e.keyOf q.oC=some key)(f:(eX key 2 q.dO).bind dR=some t)(g:(eX t.aN 4 q.proof).bind fI=some p)(a:p.ay≠t.ay):iH M now q=(.error 36,M):=by
 unfold iH;rw[Aa h b d,f];dsimp only;rw[g];dsimp only;rw[dT a]
theorem Q'(h:q.fU=[116,103,115]\/jB q=true)(b:BE.find M.aF q.fU=some e)(d:e.keyOf q.oC=some key)(f:(eX key 2 q.dO).bind dR=some t)(g:(eX t.aN 4 q.proof).bind fI=some p)(a:p.ay=t.ay)(i:M.aA<dU p.time now):iH M now q=(.error 37,M):=by
 unfold iH;rw[Aa h b d,f];dsimp only;rw[g];dsimp only;rw[cZ (λk=>k a),dT i]
theorem Q2(h:q.fU=[116,103,115]\/jB q=true)(b:BE.find M.aF q.fU=some e)(d:e.keyOf q.oC=some key)(f:(eX key 2 q.dO).bind dR=some t)(g:(eX t.aN 4 q.proof).bind fI=some p)(a:p.ay=t.ay)(i:¬ M.aA<dU p.time now):
  iH M now q=if bL M.aA now M.aJ p≠0 then(.error (bL M.aA now M.aJ p),{M with aJ:=bJ M.aA now M.aJ p}) else(.ok t,{M with aJ:=bJ M.aA now M.aJ p}):=by
 unfold iH
 rw[Aa h b d,f]
 dsimp only
 rw[g]
 dsimp only
 rw[cZ (λk=>k a),cZ i]
end
def nS(base yb:Nat)(g:RG)(A:Except Int TK×DM)(w w':World)(t:TK)(c:Int):Prop:=
 t.In/\(∀c',A.1=.error c'->c=c')/\(∀t',A.1=.ok t'->c=0/\t=t')/\(∃v,RD w' base yb A.2 {g with pv:=v}/\(v=g.pv\/k' w.1.size v))/\w.grownBy w' (some yb)
theorem kE{base yb:Nat}{M:DM}{g:RG}{w d:World}{t:TK}{c:Int}(f:t.In)(a:RD w base yb M g)(k:w.grownBy d none):nS base yb g (.error c,M) w d t c:=
 ⟨f,λi h=>(by injection h),λj h=>(by cases h),⟨g.pv,a.keep (λb e=>k.block b (a.lt b e).2 Z),.inl rfl⟩,mh k yb⟩
theorem lZ{W:World}{b:Nat}{t:TK}(h:W.rangeAt b 0 t.cells):W.cell? (F b 0)=some (Y t.ae)/\W.cell? (F b 1)=some (H (t.aN.toNat:Int))/\W.cell? (F b 2)=some (.string ⟨t.ay.toArray⟩)/\W.cell? (F b 3)=some (Y t.dV)/\W.cell? (F b 4)=some (Y t.start)/\W.cell? (F b 5)=some (Y t.fin)/\W.cell? (F b 6)=some (Y t.aC):=
 ⟨h 0 _ rfl,h 1 _ rfl,h 2 _ rfl,h 3 _ rfl,h 4 _ rfl,h 5 _ rfl,h 6 _ rfl⟩
theorem xA{W a:World}{b r:Nat}{d:List Value}(h:W.rangeAt b 0 d)(k:W.grownBy a (some r))(e:b≠r):a.rangeAt b 0 d:=λi v f=>k.cell (h i v f) (by simpa using e)
theorem N9{W a:World}{b n r:Nat}(h:b' W b n)(k:W.grownBy a (some r))(g:b≠r):b' a b n:=by
 have f:=h.lt;obtain⟨cur,e,d,h2⟩:=h;exact zE
theorem ni{a b:World}{r g j:Nat}{u:Value}(h:a.grownBy b (some r))(d:a.1.size<=g):a.grownBy (b.setCell (F g j) u) (some r):=
 ⟨h.os,h.tape,h.output,by rw[World.size_setCell];exact h.size,xt⟩
theorem RD.wC{V:World}{base yb:Nat}{M:DM}{g:RG}(h:RD V base yb M g){c k:Nat}{u:Value}(a:∀b,g.foot yb b->b≠c):RD (V.setCell (F c k) u) base yb M g:=(by grind [RD.keep,RowKit.Below.heap_setCell])
theorem Oa{base yb:Nat}{g:RG}{d:DM}{w e:World}{t:TK}{b:Int}{A:Except Int TK×DM}(a:A=if b≠0 then(.error b,d) else(.ok t,d))(i:t.In)(f:∃v,RD e base yb d {g with pv:=v}/\(v=g.pv\/k' w.1.size v))(k:w.grownBy e (some yb)):nS base yb g A w e t b:=by
 by_cases j:b=0
 .rw[cZ (λh=>h j)]at a;subst a;exact⟨i,λl h=>(by cases h),fA,f,k⟩
 .rw[dT j]at a;subst a;exact⟨i,λl h=>(by injection h),λm h=>(by cases h),f,k⟩
structure OW(w W:World)(base yb:Nat)(M:DM)(g:RG)(q:NQ)(z pv:Value)(t:TK):Prop where
 d:RD W base yb M g
 c:W.rangeAt w.1.size 0 [.string ⟨q.fU.toArray⟩,Y q.oC,z]
 r:b' W (w.1.size+1) 7
 t:W.rangeAt (w.1.size+2) 0 t.cells
 lt:b' W (w.1.size+2) 7
 z:wm W z q.dO
 p:wm W pv q.proof
 g:w.grownBy W none
section
variable {base:Nat}{q:NQ}{z pv:Value}
theorem OW.grown{a:World}(h:OW w W base yb M g q z pv t)(k:W.grownBy a none):OW w a base yb M g q z pv t:=
 ⟨h.d.keep (λb d=>k.block b (h.d.lt b d).2 Z),aB h.c k,h.r.grown k,aB h.t k,h.lt.grown k,h.z.grown k,h.p.grown k,aa h.g k⟩
theorem OW.drew(h:OW w W base yb M g q z pv t):OW w W.drew base yb M g q z pv t:=h.grown (bg (cC _ _))
theorem OW.tc(h:OW w W base yb M g q z pv t):W.cell? (F (w.1.size+2) 0)=some (Y t.ae)/\W.cell? (F (w.1.size+2) 1)=some (H (t.aN.toNat:Int))/\W.cell? (F (w.1.size+2) 2)=some (.string ⟨t.ay.toArray⟩)/\W.cell? (F (w.1.size+2) 3)=some (Y t.dV)/\W.cell? (F (w.1.size+2) 4)=some (Y t.start)/\W.cell? (F (w.1.size+2) 5)=some (Y t.fin)/\W.cell? (F (w.1.size+2) 6)=some (Y t.aC):=
 ⟨h.t 0 _ rfl,h.t 1 _ rfl,h.t 2 _ rfl,h.t 3 _ rfl,h.t 4 _ rfl,h.t 5 _ rfl,h.t 6 _ rfl⟩
theorem OW.big(h:OW w W base yb M g q z pv t):w.1.size+3<=W.1.size:=h.lt.lt
theorem OW.aoA(h:OW w W base yb M g q z pv t)(d:RD w base yb M g)(m:wm w z q.dO)(i:wm w pv q.proof)(a):OW w (((((((W.s (w.1.size+2) 0 (Y a.ae)).s (w.1.size+2) 1 (H (a.aN.toNat:Int))).s (w.1.size+2) 2 (.string ⟨a.ay.toArray⟩)).s (w.1.size+2) 3 (Y a.dV)).s (w.1.size+2) 4 (Y a.start)).s (w.1.size+2) 5 (Y a.fin)).s (w.1.size+2) 6 (Y a.aC)) base yb M g q z pv a:=by
 have f:∀{V:World}{g:Nat}{b:List Value}(k)(v),w.1.size+2≠g->V.rangeAt g 0 b->(V.setCell (F (w.1.size+2) k) v).rangeAt g 0 b:=λk v e l=>gQ l e v;have G:=az (j:=6) (u:=Y a.aC) (az (j:=5) (u:=Y a.fin) (az (j:=4) (u:=Y a.start) (az (j:=3) (u:=Y a.dV) (az (j:=2) (u:=.string ⟨a.ay.toArray⟩) (az (j:=1) (u:=H (a.aN.toNat:Int)) (az (j:=0) (u:=Y a.ae) h.g (en _ 2)) (en _ 2)) (en _ 2)) (en _ 2)) (en _ 2)) (en _ 2)) (en _ 2);refine⟨d.keep (λb e=>G.block b (d.lt b e).2 Z),?_,?_,fq h.lt _ _ _ _ _ _ _,?_,m.grown G,i.grown G,G⟩
 .exact f _ _ aZ (f _ _ aZ (f _ _ aZ (by grind [OW.c])))
 .exact dH (dH (dH (by grind [dH,OW.r]) _) _) _
 .exact dH (dH (dH (by grind [dH,OW.lt]) _) _) _
end
end Go.Proofs.YtlfifnpjeangmaaGreatDoor
namespace Go.Proofs.YtlfifnpjeangmaaGreatDoor
set_option maxHeartbeats 8000000
open Proofs.Tryz Go.RowKit
set_option maxRecDepth 100000
set_option linter.unusedSimpArgs false
variable {x:BE}{aO bX dI now:Int}{W:World}
def CE(r:Except Int TK)(t:TK)(c:Int):Prop:=(∀c',r=.error c'->c=c')/\∀t',r=.ok t'->c=0/\t=t'
theorem wG{c:Int}{t:TK}:CE (.error c) t c:=⟨λa h=>by injection h,λb h=>by cases h⟩
theorem Fg{t:TK}:CE (.ok t) t 0:=⟨λa h=>(by cases h),fA⟩
def vo(a b c:Bool):Int:=(if a=true then 64 else 0)+(if b=true then 128 else 0)+(if c=true then 256 else 0)
theorem QU(n):bits .and .i64 n 448=vo (aI n 64) (aI n 128) (aI n 256):=Yt n
theorem Z6(a b c):bits .or .i64 (vo a b c) 128=vo a true c:=by cases a<;>cases b<;>cases c<;>decide +kernel
theorem Z7(a b c):bits .or .i64 (vo a b c) 256=vo a b true:=by cases a<;>cases b<;>cases c<;>decide +kernel
theorem P'(a b c):0<=vo a b c/\vo a b c<4096:=by cases a<;>cases b<;>cases c<;>decide
theorem Z8{a:TK}{s:BE}(h:aI aO 32=true)(b:now<a.start):fresh now a x s dI bX aO=.error 33:=by unfold fresh;rw[dT h,dT b]
theorem Z9{a:TK}{s:BE}(h:aI aO 32=true)(b:¬ now<a.start):fresh now a x s dI bX aO=.ok {a with ae:=if aI a.ae 16=true then a.ae-16 else a.ae}:=by unfold fresh;rw[dT h,cZ b]
theorem V'{a:TK}{s:BE}(h:aI aO 32=false)(b:aI aO 16=true)(d:a.aC<=now):fresh now a x s dI bX aO=.error 32:=by unfold fresh;rw[cZ (by rw[h];decide),dT b,dT d]
theorem V0{a:TK}{s:BE}(h:aI aO 32=false)(b:aI aO 16=true)(d:¬ a.aC<=now):fresh now a x s dI bX aO=.ok {a with start:=now,fin:=gS a.aC (aW now (gq a.fin a.start))}:=by unfold fresh;rw[cZ (by rw[h];decide),dT b,cZ d]
theorem Vc{a:TK}{s:BE}(h:aI aO 32=false)(b:aI aO 16=false)(d:iE now dI a x s<=now):fresh now a x s dI bX aO=.error 11:=by unfold fresh;rw[cZ (by rw[h];decide),cZ (by rw[b];decide),dT d]
theorem U'{a:TK}{s:BE}(h:aI aO 32=false)(b:aI aO 16=false)(d:¬ iE now dI a x s<=now):fresh now a x s dI bX aO=.ok {a with start:=now,fin:=iE now dI a x s,ae:=iL aO a x s,aC:=fB aO a.ae x s now (gS (j9 bX) a.aC)}:=by unfold fresh;rw[cZ (by rw[h];decide),cZ (by rw[b];decide),cZ d]
theorem Rs(aO)(a)(x s):iL aO a x s=vo (aI a.ae 64) (aI a.ae 128||aI aO 64) (aI a.ae 256||aI aO 128)+ig aO a.ae x s:=by
 grind [iL,vo]
theorem Ol{P:Program}{c:Code}{Q:Exit->Act->World->Prop}{a:Act}(X:World->Prop)(b:X W)(h:∀V,X V->Code.wp P c Q a V):Code.wp P c Q a W:=h W b
theorem FW.sc{w:World}{a:TK}{x s:RE}{d st b e:Int}(h:FW w W a x s d st b e):W.cell? (F w.1.size 5)=some (Y a.fin)/\W.cell? (F (w.1.size+1) 3)=some (Y x.bI)/\W.cell? (F (w.1.size+2) 3)=some (Y s.bI):=⟨h.oq 5 _ rfl,h.x 3 _ rfl,h.s 3 _ rfl⟩
theorem FW.Rj{w:World}{e:TK}{x s:RE}{l st j m:Int}(h:FW w W e x s l st j m)(a b c d):FW w (((((((W.s (w.1.size+4) 0 (Y a)).s (w.1.size+4) 1 (H (e.aN.toNat:Int))).s (w.1.size+4) 2 (.string ⟨e.ay.toArray⟩)).s (w.1.size+4) 3 (Y e.dV)).s (w.1.size+4) 4 (Y b)).s (w.1.size+4) 5 (Y c)).s (w.1.size+4) 6 (Y d)) e x s a b c d:=by
 have f:∀{V:World}{g:Nat}{i:List Value}(k)(v),w.1.size+4≠g->V.rangeAt g 0 i->(V.setCell (F (w.1.size+4) k) v).rangeAt g 0 i:=(by grind [gQ])
 refine⟨?_,?_,?_,?_,fq h.lt _ _ _ _ _ _ _,?_,?_⟩
 .exact f _ _ G (f _ _ G (f _ _ G (by grind [FW.oq])))
 .exact f _ _ G (f _ _ G (f _ _ G (by grind [FW.x])))
 .exact f _ _ G (f _ _ G (f _ _ G (by grind [FW.s])))
 .exact dH (dH (dH (by grind [dH,FW.r]) _) _) _
 .exact dH (dH (dH (by grind [dH,FW.lt]) _) _) _
 .exact az (az (az (by grind [az,FW.g]) G) G) G
theorem Kz(aO b)(x s)(a d):(if zZ aO b x s 4 2=true then fB aO b x s a d else 0)=fB aO b x s a d:=by
 rw[uS];cases zZ aO b x s 4 2<;>rfl
theorem y'{p q:Prop}(k:q)(h:q->p:=by
  intro hq
  obtain⟨t0,t1,t2,t3,t4,t5,t6⟩:=HF.tc
  obtain⟨⟨dd0,kk0⟩,⟨dd1,kk1⟩,⟨dd2,kk2⟩,⟨dd3,kk3⟩,⟨dd4,kk4⟩,⟨dd5,kk5⟩,⟨dd6,kk6⟩,ff0,ff1,ff2,ff3,ff4,ff5,ff6⟩:=pV HF.r
  go_wp2
  refine bodyPost_ret (aG results111 _ _ _ (w.1.size+3) rfl _ (iF (fq HF.r _ _ _ _ _ _ _))) rfl ?_
  exact hq):p:=h k
theorem yW{p:Prop}(h:p:=by
  refine y' ?_
  exact⟨⟨_,_,_,_,_,_,_⟩,_,rfl,by rw[HS];first|exact wG|exact Fg,Vs HF.g G⟩):p:=h
theorem VH(d)(now)(a)(x s:RE)(dI bX aO)(w)(hx:0<=x.ae/\x.ae<64)(hs:0<=s.ae/\s.ae<64)(YJ:b9 x.aC)(YK:b9 s.aC)(ao:b9 x.bI)(an:b9 s.bI)(dB:b9 now)(ah:a.In):Calls prog 111 #[d,Y now,.agg a.cells.toArray,.agg x.arr,.agg s.arr,Y dI,Y bX,Y aO] w λe b=>∃t c,e=.returned (.tuple #[.agg t.cells.toArray,Y c])/\CE (fresh now a x.be s.be dI bX aO) t c/\w.grownBy b none:=by
 obtain⟨R,f⟩:=N (fresh now a x.be s.be dI bX aO)
 rw[f]
 have k:=I f
 clear f
 have j:FW w (((((w.alloc (.cells a.cells.toArray 43)).alloc (.cells x.arr 166)).alloc (.cells s.arr 166)).alloc (.cells #[Y 0,H 0,ε,Y 0,Y 0,Y 0,Y 0] 43)).alloc (.cells a.cells.toArray 43)) a x s a.ae a.start a.fin a.aC:=by
  exact⟨Kl,Kl,Kl,Kl,Kl,Kl,Kl⟩
 rw[TK.oO a]at j⊢
 obtain⟨W0,f⟩:=aw (((((w.alloc (.cells #[Y a.ae,H (a.aN.toNat:Int),.string ⟨a.ay.toArray⟩,Y a.dV,Y a.start,Y a.fin,Y a.aC] 43)).alloc (.cells x.arr 166)).alloc (.cells s.arr 166)).alloc (.cells #[Y 0,H 0,ε,Y 0,Y 0,Y 0,Y 0] 43)).alloc (.cells #[Y a.ae,H (a.aN.toNat:Int),.string ⟨a.ay.toArray⟩,Y a.dV,Y a.start,Y a.fin,Y a.aC] 43))
 rw[<-f]at j
 have i:=I f
 have HF:=I j
 obtain⟨n0,n1,n2,n3,n4⟩:=ah
 clear j f
 have f:=I (λW=>eT aO 32 5 W O O)
 have WJ:=I (λW=>eT aO 16 4 W O O)
 obtain⟨b5,l⟩:=N (aI aO 32)
 obtain⟨b4,j⟩:=N (aI aO 16)
 have X:=I l
 have H4:=I j
 rw[l]at f
 rw[j]at WJ
 clear l j
 obtain⟨C,J,L,M⟩:=HF.oc
 go_in
 go_wp2_with (first|(rw[<-i];fail_if_success done)|fail)
 refine(f _).mono ?_
 rintro e b ⟨rfl,rfl⟩
 clear i f
 cases b5 with
 |true=>
  by_cases i:now<a.start
  .have HS:Hid (R=.error 33):=(by show _=_;rw[<-k,Z8 X.o i]);clear k;exact yW
  .have HS:Hid (R=.ok {a with ae:=if aI a.ae 16=true then a.ae-16 else a.ae}):=(by show _=_;rw[<-k,Z9 X.o i]);have f:=I (zK a.ae n0);rw[<-f]at HS;clear k f;obtain⟨l,j⟩:=N (bits .andNot .i64 a.ae 16);rw[j]at HS;have WI:=HF.o.lt.frozen 0;have f:=I (HF.BG l);obtain⟨t0,t1,t2,t3,t4,t5,t6⟩:=HF.tc;obtain⟨⟨dd0,kk0⟩,⟨dd1,kk1⟩,⟨dd2,kk2⟩,⟨dd3,kk3⟩,⟨dd4,kk4⟩,⟨dd5,kk5⟩,⟨dd6,kk6⟩,ff0,ff1,ff2,ff3,ff4,ff5,ff6⟩:=pV HF.r;go_wp2;refine bodyPost_ret (aG results111 _ _ _ (w.1.size+3) rfl _ (iF (fq f.r _ _ _ _ _ _ _))) rfl ?_;exact⟨⟨l,a.aN,a.ay,a.dV,a.start,a.fin,a.aC⟩,0,rfl,by rw[HS];exact Fg,(by grind [az,FW.g,Hid.o])⟩
 |false=>
  have m:=HF.tc.2.2.2.2.1;have l:=HF.o.lt.frozen 4;have f:=I (HF.setSt now);obtain⟨W2,i⟩:=aw (b.setCell (F (w.1.size+4) 4) (Y now));rw[<-i]at f;have j:=I i;clear i HF C J L M;have HF:=f;clear f;go_wp2_with (first|(rw[<-j];fail_if_success done)|fail)
  refine(WJ _).mono ?_;rintro e ai ⟨rfl,rfl⟩;clear j WJ m l;obtain⟨C,J,L,M⟩:=HF.oc;cases b4 with
  |true=>
   by_cases t:a.aC<=now
   .have HS:Hid (R=.error 32):=(by show _=_;rw[<-k,V' X.o H4.o t]);clear k;refine y' ?_;exact⟨⟨a.ae,a.aN,a.ay,a.dV,now,a.fin,a.aC⟩,32,rfl,by rw[HS];exact wG,Vs HF.g G⟩
   .have i:=I (λW=>A7 a.fin a.start W n3 n2);obtain⟨A,n⟩:=N (gq a.fin a.start);have m:b9 A:=(by rw[<-n];exact AL _);rw[n]at i;have j:=I (λW=>mr now A W dB m);obtain⟨B,u⟩:=N (aW now A);rw[u]at j;have p:=I (λW=>kC a.aC B W);obtain⟨D,l⟩:=N (gS a.aC B);rw[l]at p;have HS:Hid (R=.ok {a with start:=now,fin:=D}):=(by show _=_;rw[<-k,V0 X.o H4.o t,n,u,l]);clear k n u l m;have U:=HF.tc.2.2.2.2.2.1;have q:=HF.o.lt.frozen 5;go_wp2_with fail;go_region_held3 (λb=>b.c w.1.size 0=some (Y a.ae)/\b.c w.1.size 4=some (Y a.start)/\b.c w.1.size 5=some (Y a.fin)/\b.c w.1.size 6=some (Y a.aC)) (first|(with_reducible exact FW.oc HF.o)|(with_reducible exact FW.oc HF.o.drew)|(with_reducible exact FW.oc (HF.o.xW _))|(with_reducible exact FW.oc (HF.o.xW _).drew)|go_keep) (first|(go_at_call 147;(with_reducible refine Calls.mono (i.o _) ?_);rintro e b ⟨rfl,rfl⟩)|(go_at_call 103;(with_reducible refine Calls.mono (j.o _) ?_);rintro e b ⟨rfl,rfl⟩)|(go_at_call 104;(with_reducible refine Calls.mono (p.o _) ?_);rintro e b ⟨rfl,rfl⟩));have f:=I (HF.xW D).drew;obtain⟨W3,m⟩:=N ((ai.setCell (F (w.1.size+4) 5) (Y D)).drew);rw[m]at f⊢;clear m HF C J L M U q i j p;have HF:=f;clear f;exact yW
  |false=>
   have i:=I (λW=>uR dI W);obtain⟨A,n⟩:=N (j9 dI);rw[n]at i;have j:=I (λW=>kC A a.fin W);obtain⟨B,u⟩:=N (gS A a.fin);rw[u]at j;have p:=I (λW=>mr now x.bI W dB ao);obtain⟨X1,hX⟩:=N (aW now x.bI);rw[hX]at p;have v:=I (λW=>mr now s.bI W dB an);obtain⟨S1,T⟩:=N (aW now s.bI);rw[T]at v;have y:=I (λW=>kC X1 S1 W);obtain⟨E1,Q⟩:=N (gS X1 S1);rw[Q]at y;have P:=I (λW=>kC B E1 W);obtain⟨D,l⟩:=N (gS B E1);rw[l]at P;have t:Hid (iE now dI a x.be s.be=D):=by
    show _=_;rw[<-l,<-Q,<-u,<-n,<-hX,<-T];rfl
   clear n u hX T Q l;have U:=HF.tc.2.2.2.2.2.1;have q:=HF.o.lt.frozen 5;obtain⟨n,u,Q⟩:=HF.sc;go_wp2_with fail;go_region_held3 (λb=>b.c w.1.size 5=some (Y a.fin)/\b.c (w.1.size+1) 3=some (Y x.bI)/\b.c (w.1.size+2) 3=some (Y s.bI)) (first|(with_reducible exact FW.sc HF.o)|(with_reducible exact FW.sc HF.o.drew)|(with_reducible exact FW.sc (HF.o.xW _))|(with_reducible exact FW.sc (HF.o.xW _).drew)|go_keep) (first|(go_at_call 105;(with_reducible refine Calls.mono (i.o _) ?_);rintro e b ⟨rfl,rfl⟩)|(go_at_call 103;(first|(with_reducible refine Calls.mono (p.o _) ?_)|(with_reducible refine Calls.mono (v.o _) ?_));rintro e b ⟨rfl,rfl⟩)|(go_at_call 104;(first|(with_reducible refine Calls.mono (j.o _) ?_)|(with_reducible refine Calls.mono (y.o _) ?_)|(with_reducible refine Calls.mono (P.o _) ?_));rintro e b ⟨rfl,rfl⟩));have f:=I (HF.xW D).drew;obtain⟨W3,m⟩:=N ((ai.setCell (F (w.1.size+4) 5) (Y D)).drew);rw[m]at f⊢;clear m HF C J L M U q n u Q i j p v y P;have HF:=f;clear f;by_cases l:D<=now
   .have HS:Hid (R=.error 11):=(by show _=_;rw[<-k,Vc X.o H4.o (by rw[t];exact l)]);clear k;refine y' ?_;exact⟨⟨a.ae,a.aN,a.ay,a.dV,now,D,a.aC⟩,11,rfl,by rw[HS];exact wG,Vs HF.g G⟩
   .have HS:=I (U' (bX:=bX) X H4 (show ¬ iE now dI a x.be s.be<=now by rw[t];exact l));rw[t,Rs]at HS;have q:=I (λW=>eT aO 64 6 W O O);have Oe:=I (λW=>eT aO 128 7 W O O);obtain⟨Q,h6⟩:=N (aI aO 64);obtain⟨b7,h7⟩:=N (aI aO 128);rw[h6]at q;rw[h7]at Oe;rw[h6,h7]at HS;obtain⟨fa,af⟩:=N (aI a.ae 64);obtain⟨fb,Uo⟩:=N (aI a.ae 128);obtain⟨fc,ag⟩:=N (aI a.ae 256);have hk:=QU a.ae;rw[af,Uo,ag]at hk HS;have P:=I (P' fa (fb||Q) (fc||b7));obtain⟨kf,v⟩:=N (vo fa fb fc);obtain⟨kq,m⟩:=N (vo fa (fb||Q) fc);obtain⟨n,y⟩:=N (vo fa (fb||Q) (fc||b7));rw[v]at hk;rw[y]at HS P;have ak:Hid (Q=false->kq=kf):=λh=>by rw[<-m,<-v,h,Bool.or_false]
    have Er:Hid (Q=true->bits .or .i64 kf 128=kq):=λh=>by rw[<-v,<-m,h,Bool.or_true];exact Z6 fa fb fc
    have aj:Hid (b7=false->n=kq):=λh=>by rw[<-m,<-y,h,Bool.or_false]
    have ab:Hid (b7=true->bits .or .i64 kq 256=n):=λh=>by rw[<-m,<-y,h,Bool.or_true];exact Z7 fa (fb||Q) fc
    clear h6 h7 af Uo ag t v m y;have i:=I (λW=>uR bX W);obtain⟨A2,V⟩:=N (j9 bX);rw[V]at i HS;have j:=I (λW=>kC A2 a.aC W);obtain⟨U,hU⟩:=N (gS A2 a.aC);rw[hU]at j HS;obtain⟨MF,u⟩:=N (ig aO a.ae x.be s.be);obtain⟨MR,T⟩:=N (fB aO a.ae x.be s.be now U);have p:Hid (∀W,Calls prog 106 #[.agg #[Y n,H (a.aN.toNat:Int),.string ⟨a.ay.toArray⟩,Y a.dV,Y now,Y D,Y 0],Y aO,Y a.ae,.agg x.arr,.agg s.arr,Y U] W λe b=>e=.returned (.agg #[Y (n+MF),H (a.aN.toNat:Int),.string ⟨a.ay.toArray⟩,Y a.dV,Y now,Y D,Y MR])/\W.grownBy b none):=by
     intro W;have h:=NT ⟨n,a.aN,a.ay,a.dV,now,D,0⟩ aO a.ae U x s W hx hs YJ YK dB P.1 P.2;dsimp only at h;rw[Kz,u,T]at h;exact h
    rw[u,T]at HS;clear V hU u T;obtain⟨C,J,L,M⟩:=HF.oc;obtain⟨t0,t1,t2,t3,t4,t5,t6⟩:=HF.tc;have WI:=HF.o.lt.frozen 0;have ar:=l;go_upto_if 81 with(go_at_call 102;(first|(with_reducible refine Calls.mono (q.o _) ?_)|(with_reducible refine Calls.mono (Oe.o _) ?_));rintro e b ⟨rfl,rfl⟩)
    go_cut [] (λu=>FW w u a x s kq now D a.aC)
    case first=>
     cases Q with
     |false=>
      go_wp2;go_meet;grind [FW.BG,Hid.o]
     |true=>
      have e1:=Er rfl;go_wp2;go_meet
      case rel=>exact(HF.BG kf).BG kq
    case rest=>
     have f:=I hcut;clear hcut HF C J L M t0 t1 t2 t3 t4 t5 t6 WI hk ak Er;have t0:=f.tc.1;have WI:=f.o.lt.frozen 0;go_upto_if 87 with(go_at_call 102;(first|(with_reducible refine Calls.mono (q.o _) ?_)|(with_reducible refine Calls.mono (Oe.o _) ?_));rintro e b ⟨rfl,rfl⟩)
     go_cut [] (λu=>FW w u a x s n now D a.aC)
     case first=>
      cases b7 with
      |false=>
       go_wp2;exact m'
      |true=>
       have e1:=ab rfl;go_wp2;go_meet
       case rel=>exact f.BG n
     case rest=>
      have u:=I hcut;clear hcut f t0 WI aj ab;have t6:=u.tc.2.2.2.2.2.2;have al:=u.o.lt.frozen 6;go_upto_region 22 with fail
      refine Ol (λV=>FW w V a x s n now D 0) (u.ajI 0) ?_;intro W4 ad;have T:=I ad;clear ad u t6 al;go_wp2_with fail;refine aD.start (S:=λV=>FW w V a x s n now D 0) 12 gJ ?_;have dZ:=I T.drew;refine aD.tk 0 [11,0] ?_ (hy:=by intro W hW;obtain⟨t0,t1,t2,t3,t4,t5,t6⟩:=hW.tc;exact kJ);refine aD.tk 1 [11,1] ?_;refine aD.tk 2 [11,3,2] ?_;refine aD.tk 3 [11,3] ?_ (hy:=by intro W hW;obtain⟨C,J,L,M⟩:=hW.oc;exact kJ);refine aD.tk 4 [11,4] ?_ (hy:=by intro W hW;obtain⟨e0,e1,e2,e3,e4,e5,e6,e7,e8,e9⟩:=eB hW.x;exact kJ);refine aD.tk 5 [11,5] ?_ (hy:=by intro W hW;obtain⟨e0,e1,e2,e3,e4,e5,e6,e7,e8,e9⟩:=eB hW.s;exact kJ);refine aD.tk 6 [11,10,7,6] ?_;refine aD.tk 8 [11,10,9,8] ?_;refine aD.tk 9 [11,10,9] ?_ (hy:=by intro W hW;obtain⟨C,J,L,M⟩:=hW.oc;exact kJ);refine aD.on 7 ?_;intro K hK;refine Calls.mono (i _) ?_;rintro e b ⟨rfl,rfl⟩;go_wp2_with fail;refine pZ ?_;clear hK K i;refine aD.on 10 ?_;intro K hK;refine Calls.mono (j _) ?_;rintro e b ⟨rfl,rfl⟩;go_wp2_with fail;refine pZ ?_;clear hK K j;refine aD.on 11 ?_;intro K hK;refine Calls.mono (p _) ?_;rintro e w5 ⟨rfl,g5⟩;have u:=I (dZ.grown g5);clear g5;go_wp2_with fail;refine l7 u ?_;clear hK K p;obtain⟨⟨e0,j0⟩,⟨e1,j1⟩,⟨e2,j2⟩,⟨e3,j3⟩,⟨e4,j4⟩,⟨e5,j5⟩,⟨e6,j6⟩,l0,l1,l2,l3,l4,l5,l6⟩:=pV u.o.lt;refine aD.on 12 ?_;intro K hK;refine hK.out _ _ (.inl gJ) ?_;clear hK K;refine aD.EZ (λV=>FW w V a x s (n+MF) now D MR) gJ (u.Rj (n+MF) now D MR) ?_;clear e0 e1 e2 e3 e4 e5 e6 j0 j1 j2 j3 j4 j5 j6 l0 l1 l2 l3 l4 l5 l6 u dZ T q Oe;intro T u;have HF:=I u;clear u;have u:=HS;clear HS;have HS:Hid (R=_):=k.o.symm.trans u.o;exact yW
