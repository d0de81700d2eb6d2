import Derived.Test.YtlfifnpjeangmaaGreatDoorGERPieF
import Derived.Test.YtlfifnpjeangmaaGreatDoorGERHeld
namespace Go.Proofs.YtlfifnpjeangmaaGreatDoor
open Go.RowKit
set_option maxRecDepth 100000
variable {E T:Nat}{t:TK}{d:UInt64}{W:World}
theorem IV(key a draw)(x)(zs)(v)(w)(b:1<=x)(c:x<=5)(j:x=a.toNat)(f:zs.length<=1000)(h:Has w v zs):
  Calls Tryz.prog 45 #[υ key.toNat,ι x,υ draw.toNat,v] w λe w'=>∃o,e=.returned o/\Has w' o (Pure.fE key a draw zs)/\w.grownBy w' none:=by
 obtain⟨g,cap,rfl,l,m,k,i⟩:=h
 refine(vz key a draw x zs zs.length g cap w ⟨b,c⟩ (hid j) (hid rfl) f k i).mono ?_
 grind [Has.own,Pure.dx]
theorem NF(v)(w):Calls Tryz.prog 82 #[υ v.toNat] w λe w'=>∃o,e=.returned o/\Has w' o (Pure.be v 8)/\w.grownBy w' none:=by
 refine(nY v w).mono ?_;grind [Has.own,Pure.dm]
structure TE(W:World)(T E:Nat)(t:TK)(d:UInt64)(s:RE):Prop where
 t:W.rangeAt T 0 [ι t.ae,υ d.toNat,.string t.ay,ι t.dV,ι t.start,ι t.fin,ι t.aC]
 e:W.rangeAt E 0 s.cells
theorem TE.grown{W':World}{s:RE}(h:TE W T E t d s)(k:W.grownBy W' none):TE W' T E t d s:=⟨aB h.t k,aB h.e k⟩
theorem TE.drew{s:RE}(h:TE W T E t d s):TE W.drew T E t d s:=h.grown (bg (cC _ _))
theorem TE.alloc{s:RE}(h:TE W T E t d s)(o):TE (W.alloc o) T E t d s:=h.grown (cx _ _ _)
theorem TE.s4{s:RE}(h:TE W T E t d s):W.cell? (T,0)=some (ι t.ae)/\W.cell? (T,1)=some (υ d.toNat)/\W.cell? (T,2)=some (.string t.ay)/\W.cell? (T,3)=some (ι t.dV)/\W.cell? (T,4)=some (ι t.start)/\W.cell? (T,5)=some (ι t.fin)/\W.cell? (T,6)=some (ι t.aC):=
 ⟨h.t 0 _ rfl,h.t 1 _ rfl,h.t 2 _ rfl,h.t 3 _ rfl,h.t 4 _ rfl,h.t 5 _ rfl,h.t 6 _ rfl⟩
theorem TE.s5{s:RE}(h:TE W T E t d s):W.cell? (E,1)=some (.string s.name)/\W.cell? (E,7)=some (ι s.aH)/\W.cell? (E,8)=some (υ s.key.toNat):=
 ⟨h.e 1 _ rfl,h.e 7 _ rfl,h.e 8 _ rfl⟩
theorem TE.s6{s:RE}(h:TE W T E t d s):W.cell? (T,0)=some (ι t.ae)/\W.cell? (T,1)=some (υ d.toNat)/\W.cell? (T,3)=some (ι t.dV)/\W.cell? (T,4)=some (ι t.start)/\W.cell? (T,5)=some (ι t.fin)/\W.cell? (T,6)=some (ι t.aC)/\W.cell? (E,1)=some (.string s.name):=
 ⟨h.t 0 _ rfl,h.t 1 _ rfl,h.t 3 _ rfl,h.t 4 _ rfl,h.t 5 _ rfl,h.t 6 _ rfl,h.e 1 _ rfl⟩
theorem qR{w w':World}{b r:Nat}{o:Nat}{cs:List Value}(h:w.rangeAt b o cs)(k:w.grownBy w' (some r))(c:b≠r):w'.rangeAt b o cs:=λi v a=>k.cell (h i v a) agM
theorem iC{a b c:World}{r:Nat}(h:a.grownBy b (some r))(k:b.grownBy c (some r)):a.grownBy c (some r):=
 ⟨k.os.trans h.os,k.tape.trans h.tape,k.output.trans h.output,cE h.size k.size,λi e f=>(k.block i (fN e h.size) f).trans (h.block i e f)⟩
theorem mh{a b:World}(h:a.grownBy b none)(r):a.grownBy b (some r):=⟨h.os,h.tape,h.output,h.size,ag8⟩
theorem Acc.Zo{W:World}{B:Nat}{L:List (Value×List UInt8)}(h:Acc W B L)(b)(n)(a:b=(L.reverse.map λx=>x.1).toArray)(hn:L.reverse.length=n)(f:n<=1000)(j:n*B<=140737488351232):
  Calls Tryz.prog 60 #[.slice (some (W,0)) n n] (W.alloc (.cells b 37)) λe w'=>∃(o:Value) (z:List UInt8),e=.returned o/\w'.ownsRow W.heap.size 5 1 o z.length (z.map U8)/\0<z.length/\z.length<=n*B+4/\W.grownBy w' none:=by
 have g:(pU L.reverse).length<=n*B:=ahs
 refine(yE L.reverse b n W (λx hx=>(h x (List.mem_reverse.1 hx)).1) a hn f agE).mono ?_
 rintro e w' ⟨o,i,c,d⟩
 refine⟨o,_,i,c,?_,cE (oM 48 _) (Nat.add_le_add_right g 4),d⟩
 show 0<(Box.box 48 _).length
 grind [Box.kZ]
set_option maxHeartbeats 1000000
variable {z:List UInt8}{n:Nat}{w:World}
def Made(n:Nat)(w:World)(o:Value)(z:List UInt8):Prop:=w.ownsRow n 5 1 o z.length (z.map U8)
theorem Made.has{o:Value}(h:Made n w o z):Has w o z:=Has.own h
theorem Made.base{m:Nat}{o:Value}(h:Made n w o z)(a:m<=n):Made m w o z:=dC h a
theorem Made.grown{w':World}{o:Value}(h:Made n w o z)(k:w.grownBy w' none):Made n w' o z:=World.ownsRow.kept h k (eR _)
theorem Acc.aeg{W:World}{B:Nat}{L:List (Value×List UInt8)}(h:Acc W B L)(b)(n)(a:b=(L.reverse.map λx=>x.1).toArray)(hn:L.reverse.length=n)(c:n<=1000)(d:n*B<=140737488351232):
  Calls Tryz.prog 60 #[.slice (some (W,0)) n n] (W.alloc (.cells b 37)) λe w'=>∃o,e=.returned o/\Made W.heap.size w' o (jN (L.reverse.map λx=>x.2))/\(jN (L.reverse.map λx=>x.2)).length<=n*B+4/\W.grownBy w' none:=by
 have hc:(pU L.reverse).length<=n*B:=ahs
 refine(yE L.reverse b n W (λx hx=>(h x (List.mem_reverse.1 hx)).1) a hn c agE).mono ?_
 exact afl
theorem yG(now a)(w)(t:In64 now)(r:In64 a):
  Calls Tryz.prog 67 #[ι now,ι a] w λe w'=>∃o,e=.returned o/\Made w.heap.size w' o (aY now a)/\w.grownBy w' none:=by
 have c:In64 30:=⟨by decide,by decide⟩
 go_enter Tryz.func67,Tryz.ntmps67
 go_wp2_with fail
 refine(bQ 30 _ c).mono ?_
 rintro e H ⟨A,rfl,h,b⟩
 obtain⟨u,v,rfl⟩:=h.shape
 have l:=hid ((Acc.nil w 100).push b h (jT _ _ agF))
 clear h
 go_wp2_with fail
 refine(bQ now _ t).mono ?_
 rintro e w2 ⟨x,rfl,d,f⟩
 obtain⟨G,E,rfl⟩:=d.shape
 have j:=hid (l.o.push f d (jT _ _ agF))
 clear d l
 go_wp2_with fail
 refine(bQ a _ r).mono ?_
 rintro e w3 ⟨B,rfl,i,g⟩
 obtain⟨C,y,rfl⟩:=i.shape
 have s:=hid (j.o.push g i (jT _ _ agF))
 have m:=hid (aa (aa b f) g)
 clear i j b f g
 go_wp2_with fail
 refine(s.o.aeg _ 3 rfl rfl agF agF).mono ?_
 rintro e F ⟨D,rfl,q,_,k⟩
 have p:=hid (And.intro (q.base m.o.size) (aa m.o k))
 clear q k
 go_wp2
 go_ret
 exact⟨_,rfl,p.o.1,p.o.2⟩
set_option maxHeartbeats 8000000
theorem ahj{p:Prop}(h:p:=by rw[Pure.dx];omega):p:=h
theorem ahO{p:Prop}(h:p:=by rw[Pure.dm];decide):p:=h
theorem afe{p:Prop}(h:p:=by
 exact⟨cur,e,ag8,h2⟩):p:=h
theorem Zp{w w':World}{b n r:Nat}(h:Live w b n)(k:w.grownBy w' (some r))(d:b≠r):Live w' b n:=by
 obtain⟨cur,e,a,h2⟩:=h;have c:b<w.heap.size:=by
  grind
 exact afe
theorem TE.s7{W:World}{T E:Nat}{t:TK}{d:UInt64}{s:RE}(h:TE W T E t d s):W.cell? (T,2)=some (.string t.ay):=h.t 2 _ rfl
theorem aga{w:World}{b:Nat}{v0 u v2 v3 v4 v5 v6:Value}(h:w.rangeAt b 0 [v0,u,v2,v3,v4,v5,v6])(d):(w.setCell (b,1) d).rangeAt b 0 [v0,d,v2,v3,v4,v5,v6]:=by
 intro j x f;by_cases e:j=1
 ·subst e;have c:d=x:=by simpa using f
  subst c;exact World.cell?_setCell_same _ _ _ (h 1 u rfl)
 ·have a:[v0,u,v2,v3,v4,v5,v6][j]?=some x:=by
   grind
  rw[World.cell?_setCell_other _ _ _ _ agM];exact h j x a
theorem NG(base A:Nat)(M)(g)(n bU aH)(t:TK)(s:RE)(key G)(x)(w)(hD:RD w base A M g)(JF:24<=M.aL.length)(ao:M.aL.length<=140737488355328)(D:base<=w.heap.size)(aw:1<=x)(az:x<=5)(hu:x=G.toNat)(i0:In64 n)(i1:In64 bU)(i2:In64 aH)(i3:In64 s.aH)(aJ:t.In)(aO:t.ay.length<=90)(aU:s.name.length<=90):
  Calls Tryz.prog 107 #[(A,0),ι n,.agg t.cells.toArray,.agg s.arr,ι bU,ι aH,υ key.toNat,ι x] w λe w'=>
   ∃o,e=.returned o/\Made w.heap.size w' o (lU n {t with aN:=eB M.aL 0} s.be bU aH key G (eB M.aL 1) (eB M.aL 2))/\(∃v,RD w' base A {M with aL:=M.aL.drop 24} {g with dv:=v}/\NewAt w.heap.size v)/\w.grownBy w' (some A):=by
 obtain⟨n0,n1,n2,n3,n4⟩:=aJ
 have HU:=hid hu
 clear hu
 have aV:=hD.bP.blk.lt
 obtain⟨y,Z⟩:=aq (eB M.aL 0)
 obtain⟨d1,X⟩:=aq (eB M.aL 1)
 obtain⟨d2,T⟩:=aq (eB M.aL 2)
 have L:=aM (cx w (.cells t.cells.toArray 43) none) (.cells s.arr 166)
 have RT:((w.alloc (.cells t.cells.toArray 43)).alloc (.cells s.arr 166)).rangeAt w.heap.size 0 t.cells:=aB (aS w t.cells.toArray _) (cx _ _ _)
 have RE:((w.alloc (.cells t.cells.toArray 43)).alloc (.cells s.arr 166)).rangeAt (w.heap.size+1) 0 s.cells:=by
  have h:=vZ (w.alloc (.cells t.cells.toArray 43)) s;rw[cF]at h;exact h
 have LT:Live ((w.alloc (.cells t.cells.toArray 43)).alloc (.cells s.arr 166)) w.heap.size 7:=(Live.new w t.cells.toArray 43).grown (cx _ _ _)
 have au:=hD.keep (λb B=>L.block b (hD.lt b B).2 agI)
 have C1:=hid (AX base A M g _ au agE ao (cE D L.size))
 have C2:=hid (λ(v:Value) (W:World) (hW:RD W base A {M with aL:=M.aL.drop 8} {g with dv:=v}) (B:base<=W.heap.size)=>AX base A {M with aL:=M.aL.drop 8} {g with dv:=v} W hW agM agM B)
 have C3:=hid (λ(v:Value) (W:World) (hW:RD W base A {M with aL:=(M.aL.drop 8).drop 8} {g with dv:=v}) (B:base<=W.heap.size)=>AX base A {M with aL:=(M.aL.drop 8).drop 8} {g with dv:=v} W hW agM agM B)
 have e0:Pure.joinL 0 (M.aL.take 8)=y:=by rw[<-Z];rfl
 have e1:Pure.joinL 0 ((M.aL.drop 8).take 8)=d1:=by rw[<-X];rfl
 have e2:Pure.joinL 0 (((M.aL.drop 8).drop 8).take 8)=d2:=by rw[<-T,List.drop_drop];rfl
 rw[e0]at C1
 simp only[e1]at C2
 simp only[e2]at C3
 rw[Z,X,T]
 have HD:=hid hD
 have O4:=hid (And.intro L (And.intro RT (And.intro RE LT)))
 clear Z X T e0 e1 e2 hD au L RT RE LT JF ao
 rw[TK.oL t]at C1 O4⊢
 go_enter Tryz.func107,Tryz.ntmps107
 go_wp2_with fail
 refine C1.o.mono ?_
 rintro e K ⟨rfl,v1,D1,g1,Y⟩
 obtain⟨L,RT,RE,LT⟩:=O4.o
 have E:w.heap.size≠A:=agE
 have J:w.heap.size+1≠A:=agE
 have R1:=qR RT g1 E
 have E1:=qR RE g1 J
 have L1:=Zp LT g1 E
 have k1:K.cell? (w,1)=some (υ t.aN.toNat):=R1 1 _ rfl
 have f1:=L1.frozen 1
 have F1:∀b,({g with dv:=v1}:RG).foot A b->b≠w.heap.size:=by
  rintro b (e|e|e|e) B
  ·omega
  ·have:=(HD.o.lt b (.inr (.inl e))).2;omega
  ·have:=(HD.o.lt b (.inr (.inr (.inl e)))).2;omega
  ·have h1:=Y b e;grind [cF]
 have av:∀u,RD (K.setCell (w,1) u) base A {M with aL:=M.aL.drop 8} {g with dv:=v1}:=λu=>D1.keep (λb B=>by
  have:=F1 b B
  simp[World.setCell,Array.getElem?_modify,Ne.symm this])
 have U:(K.setCell (w,1) (υ y.toNat)).heap.size=K.heap.size:=by simp[World.setCell]
 have b1:base<=(K.setCell (w,1) (υ y.toNat)).heap.size:=by rw[U];exact cE D (cE L.size g1.size)
 have OI:=hid (C2.o v1 _ agM b1)
 have Mt:Hid ((K.setCell (w,1) (υ y.toNat)).rangeAt w.heap.size 0 [ι t.ae,υ y.toNat,.string t.ay,ι t.dV,ι t.start,ι t.fin,ι t.aC]/\(K.setCell (w,1) (υ y.toNat)).rangeAt (w.heap.size+1) 0 s.cells):=⟨aga R1 _,λj v hv=>by
  rw[World.cell?_setCell_far _ _ _ _ (show w.heap.size≠w.heap.size+1 by omega)]
  exact E1 j v hv⟩
 have kF:Hid (w.grownBy (K.setCell (w,1) (υ y.toNat)) (some A)):=by
  have h:=iC (mh L A) g1
  exact⟨h.os,h.tape,h.output,by rw[U];exact h.size,λb B hx=>by
   rw[show(K.setCell (w,1) (υ y.toNat)).heap[b]?=K.heap[b]? from by simp[World.setCell,Array.getElem?_modify,show w.heap.size≠b by omega]]
   exact h.block b B hx⟩
 obtain⟨W1,ad⟩:=aq (K.setCell (w,1) (υ y.toNat))
 rw[ad]at OI Mt kF
 have aj:=hid ad
 have Jw:Hid (NewAt w.heap.size v1):=λb B=>by have:=Y b B;have:=L.size;omega
 clear C1 C2 D1 av g1 Y R1 E1 L1 F1 U b1 ad L RT RE LT O4
 go_wp2_with (first|(rw[aj.o];fail_if_success done)|(go_at_call 144;refine OI.o.mono ?_))
 clear aj k1 f1
 rintro e w2 ⟨rfl,v2,D2,g2,aF⟩
 have an:=hid (C3.o v2 _ D2 (cE D (cE kF.o.size g2.size)))
 have Q:=hid (And.intro (qR Mt.o.1 g2 E) (qR Mt.o.2 g2 J))
 have P:=hid (iC kF.o g2)
 clear OI C3 D2 g2 aF Mt kF
 go_wp2_with fail
 refine an.o.mono ?_
 rintro e w3 ⟨rfl,v3,D3,g3,ag⟩
 have d:Hid (TE w3.drew w.heap.size (w.heap.size+1) t y s):=(TE.mk (qR Q.o.1 g3 E) (qR Q.o.2 g3 J)).drew
 have kR:=hid (iC P.o g3)
 have ar:=hid D3
 have Qi:Hid (NewAt w.heap.size v3):=λb B=>cE P.o.size (ag b B)
 have f:Hid (w3.grownBy w3.drew none):=bg (cC _ _)
 obtain⟨PL,R⟩:=aq (TK.plain {t with aN:=y})
 obtain⟨TB,V⟩:=aq (jN [dw s.name,bR s.aH,dw (Pure.fE s.key 2 d1 PL)])
 obtain⟨PQ,S⟩:=aq (oq {t with aN:=y} bU s.be)
 obtain⟨IN,ab⟩:=aq (jN [bR aH,dw (Pure.fE key G d2 PQ)])
 obtain⟨GB,af⟩:=aq (jN [bR n,dw t.ay,TB,IN])
 have Vi:=hid R
 have Wo:=hid V
 have ai:=hid S
 have al:=hid ab
 have ak:=hid af
 have ax:Hid (lU n {t with aN:=y} s.be bU aH key G d1 d2=GB):=by
  show _=_;rw[<-af,<-ab,<-S,<-V,<-R];rfl
 clear R V S ab af
 have k:=hid (Acc.nil w3.drew 100)
 have i:=hid (Acc.nil w3.drew 100000)
 clear an D3 g3 ag Q P HD Jw
 obtain⟨s0,s1,s2,s3,s4,s5,s6⟩:=(d.o).s4
 go_wp2_with fail
 go_region_held3 (λw'=>w'.cell? ⟨w.heap.size,0,none⟩=some (ι t.ae)/\w'.cell? ⟨w.heap.size,1,none⟩=some (υ y.toNat)/\w'.cell? ⟨w.heap.size,2,none⟩=some (.string t.ay)/\w'.cell? ⟨w.heap.size,3,none⟩=some (ι t.dV)/\w'.cell? ⟨w.heap.size,4,none⟩=some (ι t.start)/\w'.cell? ⟨w.heap.size,5,none⟩=some (ι t.fin)/\w'.cell? ⟨w.heap.size,6,none⟩=some (ι t.aC)) (first|(with_reducible exact TE.s4 d.o)|(with_reducible exact TE.s4 d.o.drew)|(with_reducible exact TE.s4 (d.o.alloc _))|(with_reducible exact TE.s4 (d.o.drew.alloc _))|go_keep) (first|(go_at_call 62;refine(bQ _ _ (by assumption)).mono ?_;rintro e l ⟨m,rfl,c,a⟩;obtain⟨q,r,rfl⟩:=c.shape;replace k:=hid (k.o.push a c (jT _ _ agF));replace d:=hid (d.o.grown a);replace i:=hid (i.o.grown a);replace f:=hid (aa f.o a);clear c a)|(go_at_call 82;refine(NF _ _).mono ?_;rintro e l ⟨m,rfl,c,a⟩;obtain⟨q,r,rfl⟩:=c.shape;have I:=hid (c);replace k:=hid (k.o.grown a);replace d:=hid (d.o.grown a);replace i:=hid (i.o.grown a);replace f:=hid (aa f.o a);clear c a)|(go_at_call 63;refine(lW _ _ _ I.o ahO).mono ?_;rintro e l ⟨m,rfl,c,a⟩;obtain⟨q,r,rfl⟩:=c.shape;replace k:=hid (k.o.push a c (IU y _ agF));replace d:=hid (d.o.grown a);replace i:=hid (i.o.grown a);replace f:=hid (aa f.o a);clear I c a)|(go_at_call 61;refine(kM _ _ agE).mono ?_;rintro e l ⟨m,rfl,c,a⟩;obtain⟨q,r,rfl⟩:=c.shape;replace k:=hid (k.o.push a c (fI _ _ agE));replace d:=hid (d.o.grown a);replace i:=hid (i.o.grown a);replace f:=hid (aa f.o a);clear c a)|(go_at_call 60;refine(k.o.list _ 7 rfl rfl agF agF).mono ?_;rintro e l ⟨m,rfl,c,F,a⟩;have p:Has l m PL:=(by rw[<-Vi.o];exact c);have C:PL.length<=704:=(by rw[<-Vi.o];exact F);clear c F;obtain⟨aP,cP,rfl⟩:=p.shape;replace i:=hid (i.o.push a p (cE C agF));have aE:=hid (C);replace d:=hid (d.o.grown a);replace f:=hid (aa f.o a);clear k p C a))
 clear s0 s1 s2 s3 s4 s5 s6
 have aR:=aE.o
 have O:=hid d.o.drew
 have N:=hid (bg f.o)
 have z:=hid (i.o.grown (bg (cC l none)))
 have k:=hid (Acc.nil l.drew 2000)
 clear d f i
 have d:=O
 have f:=N
 have i:=z
 clear O N z
 obtain⟨s0,s1,s2⟩:=d.o.s5
 go_wp2_with fail
 go_region_held3 (λw'=>w'.cell? ⟨w.heap.size+1,1,none⟩=some (.string s.name)/\w'.cell? ⟨w.heap.size+1,7,none⟩=some (ι s.aH)/\w'.cell? ⟨w.heap.size+1,8,none⟩=some (υ s.key.toNat)) (first|(with_reducible exact TE.s5 d.o)|(with_reducible exact TE.s5 d.o.drew)|(with_reducible exact TE.s5 (d.o.alloc _))|(with_reducible exact TE.s5 (d.o.drew.alloc _))|go_keep) (first|(go_at_call 61;refine(kM _ _ agE).mono ?_;rintro e l ⟨m,rfl,c,a⟩;obtain⟨q,r,rfl⟩:=c.shape;replace k:=hid (k.o.push a c (fI _ _ agE));replace d:=hid (d.o.grown a);replace i:=hid (i.o.grown a);replace f:=hid (aa f.o a);clear c a)|(go_at_call 62;refine(bQ _ _ (by assumption)).mono ?_;rintro e l ⟨m,rfl,c,a⟩;obtain⟨q,r,rfl⟩:=c.shape;replace k:=hid (k.o.push a c (jT _ _ agF));replace d:=hid (d.o.grown a);replace i:=hid (i.o.grown a);replace f:=hid (aa f.o a);clear c a)|(go_at_call 45;refine(IV s.key 2 d1 2 PL _ _ agF agF rfl agE (i.o (Value.slice aP PL.length cP,PL) agI).1).mono ?_;rintro e l ⟨m,rfl,c,a⟩;obtain⟨q,r,rfl⟩:=c.shape;have H:=hid (c);replace k:=hid (k.o.grown a);replace d:=hid (d.o.grown a);replace i:=hid (i.o.grown a);replace f:=hid (aa f.o a);clear c a)|(go_at_call 63;refine(lW _ _ _ H.o ahj).mono ?_;rintro e l ⟨m,rfl,c,a⟩;obtain⟨q,r,rfl⟩:=c.shape;replace k:=hid (k.o.push a c (fI _ _ ahj));replace d:=hid (d.o.grown a);replace i:=hid (i.o.grown a);replace f:=hid (aa f.o a);clear H c a)|(go_at_call 60;refine(k.o.list _ 3 rfl rfl agF agF).mono ?_;rintro e l ⟨m,rfl,c,F,a⟩;have p:Has l m TB:=(by rw[<-Wo.o];exact c);have C:TB.length<=6004:=(by rw[<-Wo.o];exact F);have aD:=hid C;clear c F;obtain⟨aK,cK,rfl⟩:=p.shape;replace i:=hid (i.o.push a p (cE C agF));replace d:=hid (d.o.grown a);replace f:=hid (aa f.o a);clear k p C a))
 clear s0 s1 s2
 have O:=hid d.o.drew
 have N:=hid (bg f.o)
 have z:=hid (i.o.grown (bg (cC l none)))
 have k:=hid (Acc.nil l.drew 100)
 clear d f i
 have d:=O
 have f:=N
 have i:=z
 clear O N z
 obtain⟨s0,s1,s2,s3,s4,s5,s6⟩:=d.o.s6
 go_wp2_with fail
 go_region_held3 (λw'=>w'.cell? ⟨w.heap.size,0,none⟩=some (ι t.ae)/\w'.cell? ⟨w.heap.size,1,none⟩=some (υ y.toNat)/\w'.cell? ⟨w.heap.size,3,none⟩=some (ι t.dV)/\w'.cell? ⟨w.heap.size,4,none⟩=some (ι t.start)/\w'.cell? ⟨w.heap.size,5,none⟩=some (ι t.fin)/\w'.cell? ⟨w.heap.size,6,none⟩=some (ι t.aC)/\w'.cell? ⟨w.heap.size+1,1,none⟩=some (.string s.name)) (first|(with_reducible exact TE.s6 d.o)|(with_reducible exact TE.s6 d.o.drew)|(with_reducible exact TE.s6 (d.o.alloc _))|(with_reducible exact TE.s6 (d.o.drew.alloc _))|go_keep) (first|(go_at_call 82;refine(NF _ _).mono ?_;rintro e l ⟨m,rfl,c,a⟩;obtain⟨q,r,rfl⟩:=c.shape;have I:=hid (c);replace k:=hid (k.o.grown a);replace d:=hid (d.o.grown a);replace i:=hid (i.o.grown a);replace f:=hid (aa f.o a);clear c a)|(go_at_call 63;refine(lW _ _ _ I.o ahO).mono ?_;rintro e l ⟨m,rfl,c,a⟩;obtain⟨q,r,rfl⟩:=c.shape;replace k:=hid (k.o.push a c (IU y _ agF));replace d:=hid (d.o.grown a);replace i:=hid (i.o.grown a);replace f:=hid (aa f.o a);clear I c a)|(go_at_call 62;refine(bQ _ _ (by assumption)).mono ?_;rintro e l ⟨m,rfl,c,a⟩;obtain⟨q,r,rfl⟩:=c.shape;replace k:=hid (k.o.push a c (jT _ _ agF));replace d:=hid (d.o.grown a);replace i:=hid (i.o.grown a);replace f:=hid (aa f.o a);clear c a)|(go_at_call 61;refine(kM _ _ agE).mono ?_;rintro e l ⟨m,rfl,c,a⟩;obtain⟨q,r,rfl⟩:=c.shape;replace k:=hid (k.o.push a c (fI _ _ agE));replace d:=hid (d.o.grown a);replace i:=hid (i.o.grown a);replace f:=hid (aa f.o a);clear c a)|(go_at_call 60;refine(k.o.list _ 8 rfl rfl agF agF).mono ?_;rintro e l ⟨m,rfl,c,F,a⟩;have p:Has l m PQ:=(by rw[<-ai.o];exact c);have C:PQ.length<=804:=(by rw[<-ai.o];exact F);clear c F;obtain⟨aQ,cQ,rfl⟩:=p.shape;replace i:=hid (i.o.push a p (cE C agF));have aA:=hid (C);replace d:=hid (d.o.grown a);replace f:=hid (aa f.o a);clear k p C a))
 clear s0 s1 s2 s3 s4 s5 s6
 have aT:=aA.o
 have O:=hid d.o.drew
 have N:=hid (bg f.o)
 have z:=hid (i.o.grown (bg (cC l none)))
 have k:=hid (Acc.nil l.drew 10000)
 have HB:=hid (Acc.nil l.drew 2000)
 clear d f i
 have d:=O
 have f:=N
 have i:=z
 clear O N z
 have aG:TB.length<=10000:=cE aD.o agF
 have s0:=d.o.s7
 have ah:=hid (λW=>bQ n W i0)
 go_wp2_with fail
 go_region_held3 (λw'=>w'.cell? ⟨w.heap.size,2,none⟩=some (.string t.ay)) (first|(with_reducible exact TE.s7 d.o)|(with_reducible exact TE.s7 d.o.drew)|(with_reducible exact TE.s7 (d.o.alloc _))|(with_reducible exact TE.s7 (d.o.drew.alloc _))|go_keep) (first|(go_at_call 62;refine(ah.o _).mono ?_;clear ah;rintro e l ⟨m,rfl,c,a⟩;obtain⟨q,r,rfl⟩:=c.shape;replace k:=hid (k.o.push a c (jT _ _ agF));replace HB:=hid (HB.o.grown a);replace d:=hid (d.o.grown a);replace i:=hid (i.o.grown a);replace f:=hid (aa f.o a);clear c a)|(go_at_call 61;refine(kM _ _ agE).mono ?_;rintro e l ⟨m,rfl,c,a⟩;obtain⟨q,r,rfl⟩:=c.shape;replace k:=hid (k.o.push a c (fI _ _ agE));replace HB:=hid (HB.o.grown a);replace d:=hid (d.o.grown a);replace i:=hid (i.o.grown a);replace f:=hid (aa f.o a);clear c a)|(go_at_call 62;refine(bQ aH _ i2).mono ?_;rintro e l ⟨m,rfl,c,a⟩;obtain⟨q,r,rfl⟩:=c.shape;replace HB:=hid (HB.o.push a c (jT _ _ agF));replace k:=hid (k.o.grown a);replace d:=hid (d.o.grown a);replace i:=hid (i.o.grown a);replace f:=hid (aa f.o a);clear c a)|(go_at_call 45;refine(IV key G d2 x PQ _ _ aw az HU.o agE (i.o (Value.slice aQ PQ.length cQ,PQ) agI).1).mono ?_;rintro e l ⟨m,rfl,c,a⟩;obtain⟨q,r,rfl⟩:=c.shape;have H:=hid (c);replace k:=hid (k.o.grown a);replace HB:=hid (HB.o.grown a);replace d:=hid (d.o.grown a);replace i:=hid (i.o.grown a);replace f:=hid (aa f.o a);clear c a)|(go_at_call 63;refine(lW _ _ _ H.o ahj).mono ?_;rintro e l ⟨m,rfl,c,a⟩;obtain⟨q,r,rfl⟩:=c.shape;replace HB:=hid (HB.o.push a c (fI _ _ ahj));replace k:=hid (k.o.grown a);replace d:=hid (d.o.grown a);replace i:=hid (i.o.grown a);replace f:=hid (aa f.o a);clear H c a)|(go_at_call 60;refine(HB.o.list _ 2 rfl rfl agF agF).mono ?_;rintro e l ⟨m,rfl,c,F,a⟩;have p:Has l m IN:=(by rw[<-al.o];exact c);have C:IN.length<=4004:=(by rw[<-al.o];exact F);clear c F;obtain⟨q,r,rfl⟩:=p.shape;replace k:=hid ((k.o.push a ((i.o (Value.slice aK TB.length cK,TB) agI).1.grown a) aG).push (cC _ _) p (cE C agF));replace d:=hid (d.o.grown a);replace i:=hid (i.o.grown a);replace f:=hid (aa f.o a);clear HB p C a)|(go_at_call 60;refine(k.o.aeg _ 4 rfl rfl agF agF).mono ?_;rintro e l ⟨m,rfl,c,F,a⟩;have p:Made w.heap.size l m GB:=(by rw[<-ak.o];exact c.base (cE kR.o.size f.o.size));have C:GB.length<=40004:=(by rw[<-ak.o];exact F);clear c F;obtain⟨q,r,rfl⟩:=p.has.shape;have aI:=hid (p);replace d:=hid (d.o.grown a);replace f:=hid (aa f.o a);clear k i p C a))
 go_wp2
 go_ret
 refine⟨_,rfl,by rw[ax.o];exact aI.o,⟨v3,?_,Qi.o⟩,iC kR.o (mh f.o A)⟩
 have h:=ar.o.keep (w':=l) (λb B=>f.o.block b (ar.o.lt b B).2 agI)
 rw[List.drop_drop,List.drop_drop]at h
 exact h
open Proofs.Tryz
variable {x:BE}{aA n now:Int}{l:List UInt8}
def wh(aA now:Int)(x:BE)(n:Int)(z:List UInt8):Int:=
 match (eP x.key 1 z).bind kQ with
 |none=>24
 |some t=>if n≠x.aH then 24 else if aA<dU t now then 37 else 0
theorem Vj(h:n≠x.aH):wh aA now x n z=24:=by
 grind [wh]
theorem Zq(h:eP x.key 1 z=none):wh aA now x n z=24:=by
 unfold wh;rw[h];rfl
theorem AY(h:eP x.key 1 z=some l)(a:kQ l=none):wh aA now x n z=24:=by
 unfold wh;rw[h];show(match kQ l with|none=>(24:Int)|some t=>_)=24;rw[a]
theorem Zr{t:Int}(hn:n=x.aH)(h:eP x.key 1 z=some l)(a:kQ l=some t):wh aA now x n z=if aA<dU t now then 37 else 0:=by
 unfold wh;rw[h];show(match kQ l with|none=>(24:Int)|some t=>_)=_;rw[a];show(if n≠x.aH then 24 else _)=_;rw[if_neg (λq=>q hn)]
theorem NI(h:Box.cut l=none):kQ l=none:=by unfold kQ;rw[h]
theorem NJ{i r:List UInt8}{t:UInt8}(h:Box.cut l=some (t,i,r))(a:r≠[]):kQ l=none:=by
 grind [kQ]
theorem Q5{i:List UInt8}{t:UInt8}(h:Box.cut l=some (t,i,[])):kQ l=bG (t,i):=by unfold kQ;rw[h]
theorem adu{p:Prop}(h:p:=by
 clear HS
 go_wp2_with fail
 go_quiet (first|(go_at_call 143;refine(C4.o _).mono ?_;rintro e w' ⟨rfl,rfl⟩;exact⟨rfl,_,rfl⟩))
 go_wp2
 go_ret
 exact⟨bD HS2.o.symm,aR kR.o _⟩):p:=h
theorem agC{p:Prop}(h:p:=by
 go_wp2
 go_ret
 exact⟨bD HS.o.symm,kR.o⟩):p:=h
theorem NK(base yb:Nat)(M)(g)(e:RE)(now n)(z)(J)(w)(hD:RD w base yb M g)(hz:vX w J z)(D:z.length<=900)(dA:In64 now):
  Calls prog 101 #[(yb,0),.agg e.arr,ι now,ι n,J] w λr w'=>r=.returned (ι (wh M.aA now e.be n z))/\w.grownBy w' none:=by
 have I:=cx w (.cells e.arr 166) none
 have HG:=hid I
 have Q:=hid (vZ w e)
 have HB:=hid (hD.bP.blk.grown I agI)
 have Z:Hid (Calls prog 47 #[υ e.key.toNat,ι 1,J] (w.alloc (.cells e.arr 166)) λr w'=>∃o,r=.returned (.tuple #[o,.bool (eP e.key 1 z).isSome])/\(∀l,eP e.key 1 z=some l->Has w' o l/\l.length<=900)/\(eP e.key 1 z=none->o=.slice none 0 0)/\(w.alloc (.cells e.arr 166)).grownBy w' none):=xh e.key 1 1 z J _ agF agF rfl D (hz.grown I)
 obtain⟨R,H⟩:=aq (wh M.aA now e.be n z)
 rw[H]
 obtain⟨sk,b⟩:=aq M.aA
 rw[b]at HB H
 have a:=hid H
 clear H b hD hz D I
 have x7:(w.alloc (.cells e.arr 166)).cell? (w,7)=some (ι e.aH):=Q.o 7 _ rfl
 have x8:(w.alloc (.cells e.arr 166)).cell? (w,8)=some (υ e.key.toNat):=Q.o 8 _ rfl
 obtain⟨O,hO⟩:=aq (eP e.key 1 z)
 have k:Hid (eP e.be.key 1 z=O):=hO
 rw[hO]at Z
 clear hO
 go_enter func101,ntmps101
 go_wp2_with fail
 refine Z.o.mono ?_
 rintro r w1 ⟨o,rfl,P,G,E⟩
 have L:=hid (aa HG.o E)
 have s:=hid (HB.o.grown E agI)
 have y7:=E.cell x7 agI
 clear Z HG HB E x7 x8 Q
 by_cases hn:n=e.aH
 ·have bn:(n != e.aH)=false:=by rw[bne_eq_false_iff_eq];exact hn
  have j:Hid (n=e.be.aH):=hn;clear hn;cases O with
  |none=>
   obtain rfl:=G rfl;have HS:Hid (R=24):=(by show _=_;rw[<-a.o,Zq k.o]);clear P G a j;simp only[Option.isSome_none];go_wp2;go_ret;exact⟨bD HS.o.symm,L.o⟩
  |some l=>
   obtain⟨U,ab⟩:=P l rfl;have T:=hid (Nw l o w1 U agE);obtain⟨ao,co,rfl⟩:=U.shape;clear P G U ab;obtain⟨cc,c⟩:=aq (Box.cut l);rw[c]at T;have h:=hid c;clear c;simp only[dj];go_wp2_with fail;refine T.o.mono ?_;rintro r w2 ⟨t,d,i,f,a2,rr,c2,rfl,k1,k2,k3,k4,k5,k6,X⟩;have G2:=aM X (.cells #[.int .u8 t.toNat,.slice d i.length f] 117);have p:=hid (aa L.o G2);have C:=hid ((s.o.grown X agI).alloc (.cells #[.int .u8 t.toNat,.slice d i.length f] 117));have V:Hid (Calls prog 68 #[.agg #[.int .u8 t.toNat,.slice d i.length f]] (w2.alloc (.cells #[.int .u8 t.toNat,.slice d i.length f] 117)) λe w'=>∃v,e=.returned (.tuple #[ι v,.bool (bG (t,i)).isSome])/\(In64 v/\∀y,bG (t,i)=some y->v=y)/\(w2.alloc (.cells #[.int .u8 t.toNat,.slice d i.length f] 117)).grownBy w' none):=uh ⟨t,d,f,i⟩ _ (k2.below (cx _ _ _));have W:=hid k1;clear T L s X G2 k1 k2 k3 k4 k5 k6 y7;obtain⟨N,hN⟩:=aq (bG (t,i));rw[hN]at V;have A:=hid hN;clear hN;go_wp2_with fail;refine V.o.mono ?_;rintro r w3 ⟨v,rfl,hv,g3⟩;have Y:=hid hv;have kR:=hid (aa p.o g3);have S:=hid (C.o.grown g3 agI);clear V p C g3 hv;cases cc with
   |none=>
    have HS:Hid (R=24):=(by show _=_;rw[<-a.o,AY k.o (NI h.o)]);clear a j h W;simp only[Option.isSome_none];exact agC
   |some q=>
    obtain rfl:=W.o q rfl;clear W;simp only[dj];by_cases F:rr=[]
    ·subst F;simp only[List.length_nil];have K:Hid (kQ l=N):=(by show _=_;rw[Q5 h.o,A.o]);clear h A;cases N with
     |none=>
      have HS:Hid (R=24):=(by show _=_;rw[<-a.o,AY k.o K.o]);clear a j K;simp only[Option.isSome_none];exact agC
     |some y=>
      obtain rfl:=Y.o.2 y rfl;have HS:Hid (R=if sk<dU v now then 37 else 0):=(by show _=_;rw[<-a.o,Zr j.o k.o K.o]);have C4:=hid (λm=>yF v now (w3.drewN m) Y.o.1 dA);have d0:=S.o.cell 0;simp only[cH,cG]at d0;obtain⟨ap,B⟩:=aq (dU v now);rw[B]at C4 HS;clear a j K B k Y;simp only[dj];by_cases b:sk<ap
      ·have HS2:Hid (R=37):=(by show _=_;rw[HS.o,if_pos b]);exact adu
      ·have HS2:Hid (R=0):=(by show _=_;rw[HS.o,if_neg b]);exact adu
    ·have HS:Hid (R=24):=(by show _=_;rw[<-a.o,AY k.o (NJ h.o F)]);have ad:(0:Int)<(rr.length:Int):=by
      have:=fX.2 F;omega
     obtain⟨rl,u⟩:=aq rr.length;rw[u]at ad⊢;clear a j h F u;exact agC
 ·have bn:(n != e.aH)=true:=by rw[fj];exact hn
  have HS:Hid (R=24):=by show _=_;rw[<-a.o];exact Vj hn
  clear a hn P G;go_wp2;go_ret;exact⟨bD HS.o.symm,L.o⟩
variable {fi fl rn:Int}{x:RE}
structure FW(w W:World)(old:TK)(x s:RE)(fl st fi rn:Int):Prop where
 o:W.rangeAt w.heap.size 0 old.cells
 x:W.rangeAt (w.heap.size+1) 0 x.cells
 s:W.rangeAt (w.heap.size+2) 0 s.cells
 r:Live W (w.heap.size+3) 7
 t:W.rangeAt (w.heap.size+4) 0 [ι fl,υ old.aN.toNat,.string old.ay,ι old.dV,ι st,ι fi,ι rn]
 lt:Live W (w.heap.size+4) 7
 g:w.grownBy W none
theorem FW.grown{W':World}{old:TK}{s:RE}{st:Int}(h:FW w W old x s fl st fi rn)(k:W.grownBy W' none):FW w W' old x s fl st fi rn:=
 ⟨aB h.o k,aB h.x k,aB h.s k,h.r.grown k,aB h.t k,h.lt.grown k,aa h.g k⟩
theorem FW.drew{old:TK}{s:RE}{st:Int}(h:FW w W old x s fl st fi rn):FW w W.drew old x s fl st fi rn:=h.grown (bg (cC _ _))
theorem FW.set{old:TK}{s:RE}{st:Int}(h:FW w W old x s fl st fi rn)(k:Nat)(v)(hk:k<7):
  (W.setCell (w.heap.size+4,k) v).rangeAt w.heap.size 0 old.cells/\(W.setCell (w.heap.size+4,k) v).rangeAt (w.heap.size+1) 0 x.cells/\(W.setCell (w.heap.size+4,k) v).rangeAt (w.heap.size+2) 0 s.cells/\Live (W.setCell (w.heap.size+4,k) v) (w.heap.size+3) 7/\Live (W.setCell (w.heap.size+4,k) v) (w.heap.size+4) 7/\w.grownBy (W.setCell (w.heap.size+4,k) v) none/\(W.setCell (w.heap.size+4,k) v).rangeAt (w.heap.size+4) 0 ([ι fl,υ old.aN.toNat,.string old.ay,ι old.dV,ι st,ι fi,ι rn].set k v):=
 ⟨gM h.o agE _,gM h.x agE _,gM h.s agE _,dH h.r _,dH h.lt _,az h.g agE,range_one h.t ahA _⟩
theorem FW.Bz{old:TK}{s:RE}{st:Int}(h:FW w W old x s fl st fi rn)(v):FW w (W.setCell (w.heap.size+4,0) (ι v)) old x s v st fi rn:=by
 obtain⟨a,b,c,d,e,f,g⟩:=h.set 0 (ι v) agF;exact⟨a,b,c,d,g,e,f⟩
theorem FW.setSt{old:TK}{s:RE}{st:Int}(h:FW w W old x s fl st fi rn)(v):FW w (W.setCell (w.heap.size+4,4) (ι v)) old x s fl v fi rn:=by
 obtain⟨a,b,c,d,e,f,g⟩:=h.set 4 (ι v) agF;exact⟨a,b,c,d,g,e,f⟩
theorem FW.xS{old:TK}{s:RE}{st:Int}(h:FW w W old x s fl st fi rn)(v):FW w (W.setCell (w.heap.size+4,5) (ι v)) old x s fl st v rn:=by
 obtain⟨a,b,c,d,e,f,g⟩:=h.set 5 (ι v) agF;exact⟨a,b,c,d,g,e,f⟩
theorem FW.ajy{old:TK}{s:RE}{st:Int}(h:FW w W old x s fl st fi rn)(v):FW w (W.setCell (w.heap.size+4,6) (ι v)) old x s fl st fi v:=by
 obtain⟨a,b,c,d,e,f,g⟩:=h.set 6 (ι v) agF;exact⟨a,b,c,d,g,e,f⟩
theorem FW.tc{old:TK}{s:RE}{st:Int}(h:FW w W old x s fl st fi rn):W.cell? (w.heap.size+4,0)=some (ι fl)/\W.cell? (w.heap.size+4,1)=some (υ old.aN.toNat)/\W.cell? (w.heap.size+4,2)=some (.string old.ay)/\W.cell? (w.heap.size+4,3)=some (ι old.dV)/\W.cell? (w.heap.size+4,4)=some (ι st)/\W.cell? (w.heap.size+4,5)=some (ι fi)/\W.cell? (w.heap.size+4,6)=some (ι rn):=
 ⟨h.t 0 _ rfl,h.t 1 _ rfl,h.t 2 _ rfl,h.t 3 _ rfl,h.t 4 _ rfl,h.t 5 _ rfl,h.t 6 _ rfl⟩
theorem FW.oc{old:TK}{s:RE}{st:Int}(h:FW w W old x s fl st fi rn):W.cell? (w,0)=some (ι old.ae)/\W.cell? (w,4)=some (ι old.start)/\W.cell? (w,5)=some (ι old.fin)/\W.cell? (w,6)=some (ι old.aC):=
 ⟨h.o 0 _ rfl,h.o 4 _ rfl,h.o 5 _ rfl,h.o 6 _ rfl⟩
theorem Vm(l b a j d g i k h)(v3 v4 v5 v6 v7)(D:bG l.pair=some 10)(P:iI j v3)(K:iI d v4)(B:iI g v5)(E:iI i v6)(L:iI k v7):
  (lq ([l,b,a,j,d,g,i,k,h].map Pc.pair)).isSome=((dh b.pair).isSome&&((dh a.pair).isSome&&(jS [j,d,g,i,k]&&(mi h.pair).isSome)))/\∀q,lq ([l,b,a,j,d,g,i,k,h].map Pc.pair)=some q->∃o,mi h.pair=some o/\q=⟨b.ins,a.ins,v3,v4,v5,v6,v7,o⟩:=by
 have e:lq ([l,b,a,j,d,g,i,k,h].map Pc.pair)=(dh b.pair).bind λc=>(dh a.pair).bind λs=>(bG j.pair).bind λn=>(bG d.pair).bind λf=>(bG g.pair).bind λt=>(bG i.pair).bind λr=>(bG k.pair).bind λo=>(mi h.pair).bind λp=>some ⟨c,s,n,f,t,r,o,p⟩:=by
  show(bG l.pair).bind _=_;rw[D];rfl
 have z:∀y,dh b.pair=some y->y=b.ins:=λy hy=>vY hy
 have H:∀y,dh a.pair=some y->y=a.ins:=λy hy=>vY hy
 rw[e]
 unfold iI at *
 simp only[jS,List.all_cons,List.all_nil,fW]
 cases w:dh b.pair with
 |none=>grind
 |some u=>
  have T:=z u w;cases J:dh a.pair with
  |none=>grind
  |some O=>
   have S:=H O J;cases F:bG j.pair with
   |none=>grind
   |some I=>
    have X:=P.2 I F;cases G:bG d.pair with
    |none=>grind
    |some Q=>
     have Y:=K.2 Q G;cases M:bG g.pair with
     |none=>grind
     |some C=>
      have W:=B.2 C M;cases N:bG i.pair with
      |none=>grind
      |some x=>
       have U:=E.2 x N;cases v:bG k.pair with
       |none=>grind
       |some A=>
        have V:=L.2 A v;cases R:mi h.pair with
        |none=>exact⟨by simp,λt m=>by cases m⟩
        |some o=>
         refine⟨by simp,λt m=>⟨o,rfl,?_⟩⟩;grind
theorem Vn{p:qz}{x:Int×List UInt8}(h:mi p=some (some x)):x.2.length<=p.2.length:=by
 unfold mi at h;cases g:zq p with
 |none=>rw[g]at h;cases h
 |some ps=>
  rw[g]at h;have f:Box.dF p.2=some ps:=by
   grind [zq]
  cases ps with
  |nil=>cases h
  |cons a r=>
   have c:(qD (a::r)).map some=some (some x):=h;cases b:qD (a::r)with
   |none=>rw[b]at c;cases c
   |some y=>
    rw[b]at c;injection c with c;injection c with c;subst c;by_cases i:(a::r).length=2
    ·obtain⟨u,v,e⟩:=Ny i;rw[e]at b f;rw[Kc]at b;cases hn:bG u with
     |none=>rw[hn]at b;cases b
     |some n=>
      rw[hn]at b;cases d:jm v with
      |none=>rw[d]at b;cases b
      |some z=>
       rw[d]at b;injection b with b;subst b;have j:z=v.2:=by
        grind [jm]
       rw[j];exact Box.lX f v agI
    grind [Bw]
def codeOf(M:DM):Except Int GR->Int
 |.error c=>c
 |.ok _=>if M.aL.length<24 then 60 else 0
def Cs(base yb:Nat)(M:DM)(g:RG)(R:Except Int GR)(w w':World)(o:Value)(c:Int):Prop:=
 c=codeOf M R/\(c≠0->o=.slice none 0 0/\RD w' base yb M g/\w.grownBy w' none)/\(c=0->∃gr v,R=.ok gr/\Made w.heap.size w' o (gr.box M.aL)/\RD w' base yb {M with aL:=M.aL.drop 24} {g with dv:=v}/\NewAt w.heap.size v/\w.grownBy w' (some yb))
theorem iF{base a:Nat}{M:DM}{g:RG}{c:Int}{w w':World}(f:c≠0)(d:RD w base a M g)(k:w.grownBy w' none):Cs base a M g (.error c) w w' (.slice none 0 0) c:=
 ⟨rfl,λ_=>⟨rfl,d.keep (λb e=>k.block b (d.lt b e).2 agI),k⟩,λh=>absurd h f⟩
def nQ(M:DM)(now:Int)(ps:List qz):Except Int GR:=
 match lq ps with
 |none=>.error 60
 |some q=>firstM M now q
structure FS(w W:World)(base yb:Nat)(M:DM)(g:RG)(gv:Nat)(v0 v1 v2 v3 v4:Int)(z:Value)(o:Option (Int×List UInt8)):Prop where
 d:RD W base yb M g
 v:W.rangeAt gv 0 [ι v0,ι v1,ι v2,ι v3,ι v4]
 z:∀x,o=some x->vX W z x.2/\x.2.length<=900
 g:w.grownBy W none
theorem FS.grown{w W W':World}{base a:Nat}{M:DM}{g:RG}{e:Nat}{v0 v1 v2 v3 v4:Int}{z:Value}{o:Option (Int×List UInt8)}(h:FS w W base a M g e v0 v1 v2 v3 v4 z o)(k:W.grownBy W' none):FS w W' base a M g e v0 v1 v2 v3 v4 z o:=
 ⟨h.d.keep (λb f=>k.block b (h.d.lt b f).2 agI),aB h.v k,λx c=>⟨(h.z x c).1.grown k,(h.z x c).2⟩,aa h.g k⟩
theorem ui(a)(l):(fZ a l=-1/\BE.find (a.map RE.be) l=none)\/∃(i:Nat) (h:i<a.length),fZ a l=(i:Int)/\BE.find (a.map RE.be) l=some a[i].be:=by
 have d:=Sq (a.map RE.be) l;have f:=Sg a l;cases c:a.findIdx? (λe=>e.name==l)with
 |none=>
  grind [DK]
 |some i=>
  have b:i<a.length:=by
   have:=List.findIdx?_eq_some_iff_findIdx_eq.1 c;exact this.1
  grind [zo]
theorem uj{w:World}{base b:Nat}{M:DM}{g:RG}(h:RD w base b M g)(hn:0<g.es.length):∃gb a,g.bv=.slice (some ⟨gb,0,none⟩) g.es.length a/\w.rangeAt gb 0 (bK g.es):=by
 obtain⟨gb,a,e,r,_⟩:=jI h.bP.aG hn;exact⟨gb,a,e,r⟩
theorem uP{w:World}{gb:Nat}{a:List RE}(h:w.rangeAt gb 0 (bK a))(i)(d:i<a.length):w.cell? (gb,i*10)=some (ι a[i].k)/\w.cell? (gb,i*10+1)=some (.string ⟨a[i].name.toArray⟩)/\w.cell? (gb,i*10+2)=some (υ (a[i].zk.toNat:Int))/\w.cell? (gb,i*10+3)=some (ι a[i].bI)/\w.cell? (gb,i*10+4)=some (ι a[i].aC)/\w.cell? (gb,i*10+5)=some (ι a[i].bB)/\w.cell? (gb,i*10+6)=some (ι a[i].ae)/\w.cell? (gb,i*10+7)=some (ι a[i].aH)/\w.cell? (gb,i*10+8)=some (υ (a[i].key.toNat:Int))/\w.cell? (gb,i*10+9)=some (υ (a[i].before.toNat:Int)):=by
 have f:∀j v,(a[i]).cells[j]?=some v->j<10->w.cell? (gb,i*10+j)=some v:=λj v c b=>by
  have:=h (i*10+j) v (by grind [ik]);rwa [cN]at this
 exact⟨f 0 _ rfl agF,f 1 _ rfl agF,f 2 _ rfl agF,f 3 _ rfl agF,f 4 _ rfl agF,f 5 _ rfl agF,f 6 _ rfl agF,f 7 _ rfl agF,f 8 _ rfl agF,f 9 _ rfl agF⟩
theorem xm(base a:Nat)(M)(g)(l)(w)(h:RD w base a M g)(b:M.aG.length<=20):
  Calls Tryz.prog 54 #[(a,0),.string ⟨l.toArray⟩] w λe w'=>e=.returned (ι (fZ g.es l))/\w.grownBy w' none:=by
 have hn:g.es.length<=20:=by
  grind [RD.aG]
 exact og base a M.aA g.bv g.pv g.dv g.es M.aL l g.es.length _ w h.bP (hid rfl) agE (hid rfl)
theorem A8(key a draw)(x)(zs)(v)(w)(b:1<=x)(c:x<=5)(i:x=a.toNat)(d:zs.length<=8388608)(h:Has w v zs):
  Calls Tryz.prog 45 #[υ key.toNat,ι x,υ draw.toNat,v] w λe w'=>∃o,e=.returned o/\Has w' o (Pure.fE key a draw zs)/\w.grownBy w' none:=by
 obtain⟨f,cap,rfl,k,l,j,g⟩:=h
 refine(Hf key a draw x zs zs.length f cap w ⟨b,c⟩ (hid i) (hid rfl) d j g).mono ?_
 grind [Has.own,Pure.dx]
structure qJ where
 kind:Int
 ay:List UInt8
 aV:List UInt8
 bU:Int
 ma:Int
 dI:Int
 bW:Int
 options:Int
 pre:Int
 lY:Int
 ticket:Int
 hand:TK
 oO:Int
 xu:Int
 jY:List UInt8
 oP:Int
 kC:Int
 uk:Int
 qp:Int
def qJ.cells(a:qJ):List Value:=[ι a.kind,.string a.ay,.string a.aV,ι a.bU,ι a.ma,ι a.dI,ι a.bW,ι a.options,ι a.pre,ι a.lY,ι a.ticket,ι a.hand.ae,υ a.hand.aN.toNat,.string a.hand.ay,ι a.hand.dV,ι a.hand.start,ι a.hand.fin,ι a.hand.aC,ι a.oO,ι a.xu,.string a.jY,ι a.oP,ι a.kC,ι a.uk,ι a.qp]
def qJ.arr(a:qJ):Array Value:=a.cells.toArray
theorem qJ.oL(a:qJ):a.arr=#[ι a.kind,.string a.ay,.string a.aV,ι a.bU,ι a.ma,ι a.dI,ι a.bW,ι a.options,ι a.pre,ι a.lY,ι a.ticket,ι a.hand.ae,υ a.hand.aN.toNat,.string a.hand.ay,ι a.hand.dV,ι a.hand.start,ι a.hand.fin,ι a.hand.aC,ι a.oO,ι a.xu,.string a.jY,ι a.oP,ι a.kC,ι a.uk,ι a.qp]:=rfl
structure qJ.Ok(a:qJ):Prop where
 kind:In64 a.kind
 ay:a.ay.length<=1048576
 aV:a.aV.length<=1048576
 bU:In64 a.bU
 ma:In64 a.ma
 dI:In64 a.dI
 bW:In64 a.bW
 options:In64 a.options
 pre:In64 a.pre
 lY:In64 a.lY
 ticket:In64 a.ticket
 hand:a.hand.In
 yH:a.hand.ay.length<=1048576
 oO:In64 a.oO
 xu:In64 a.xu
 jY:a.jY.length<=1048576
 oP:In64 a.oP
 kC:In64 a.kC
 uk:In64 a.uk
 qp:In64 a.qp
def ac0(w w':World)(e:Ending):Prop:=∃(key:UInt64) (n:Int),e=.returned (.tuple #[υ key.toNat,ι n])/\0<=n/\n<=4611686018427387904/\w.grownBy w' none
theorem E8(base z:Nat)(M)(g)(l:List UInt8)(w)(j:RD w base z M g)(f:fU 4611686018427387904 M.aG):
  Calls Tryz.prog 93 #[(z,0),.string l] w λe w'=>ac0 w w' e:=by
 obtain⟨G,W,d⟩:=bA j.bP.aG
 obtain⟨m,p⟩:=aq g.es.length
 have Y:m<=20:=by have:=f.len;grind [RD.aG]
 have n:=j.bP.blk.cell 1
 rw[d,p]at n
 simp only[cH,cG,cI]at n
 have B:=hid j
 have D:=hid p
 have H:=hid d
 clear j p d
 obtain⟨S,hS⟩:∃S:ByteArray,S=⟨l.toArray⟩:=⟨_,rfl⟩
 rw[<-hS]
 have HS:=hid hS
 clear hS
 go_enter Tryz.func93,Tryz.ntmps93
 go_wp2
 go_loopw [6] (λi wr=>∃k:Nat,k<=m/\i = ι k/\w.grownBy wr none) (λi _=>m-(intOf i).toNat)
 case atStart=>grind [cC]
 case round=>
  obtain⟨k,V,rfl,b⟩:=hrel;have C:=b.cell n agI;by_cases s:k<m
  ·have a:k<g.es.length:=(by rw[D.o];exact s);have I:(k:Int)<(m:Int):=agE;have A:(0:Int)<=(k:Int):=agE;obtain⟨gb,Q,q,c⟩:=uj B.o agE;have r:G=some ⟨gb,0,none⟩:=by
    grind [RowKit.Hid.o]
   subst r;obtain⟨K,P,E,U,F,L,J,Z,X,N⟩:=uP (aB c b) k a;have h:(g.es[k]'a).be∈M.aG:=(by grind [RD.aG,RowKit.Hid.o]);have u:1<=(g.es[k]'a).aH/\(g.es[k]'a).aH<=4611686018427387904:=f.num _ h;have x:=hid u;obtain⟨T,y⟩:∃T:ByteArray,T=⟨(g.es[k]'a).name.toArray⟩:=⟨_,rfl⟩
   rw[<-y]at P;have t:=hid b;clear K E U F L J N c h u q y b;by_cases v:(T.toList==S.toList)=true
   ·go_wp2_with fail;go_quiet (fail)
    go_wp2;go_ret2;exact⟨_,_,rfl,by have:=x.o;omega,x.o.2,aR t.o _⟩
   ·have R:(T.toList==S.toList)=false:=(by simpa using v);clear v;go_wp2;go_roundw
    case rel=>exact⟨k+1,by omega,by go_num,t.o⟩
    case measure=>simp[intOf];omega
  ·have O:k=m:=agE;subst O;have I:¬ (k:Int)<(k:Int):=agE;go_wp2;go_ret2;exact⟨0,1,rfl,by decide,by decide,b⟩
theorem aiE{p:Prop}(h:p:=by rw[<-hW2];exact ownsRow_setCell_below hown (by show yb<w.heap.size+1;omega) _):p:=h
theorem ai4{p:Prop}(h:p:=by intro u hu;simp at hu;rcases hu with rfl|rfl|rfl<;>rfl):p:=h
variable {M:DM}{yb:Nat}{g:RG}
theorem Tryz.agl:(prog.info? 283).map (λi=>(i.zero,i.size,i.bytes))=some (some (.agg #[.string ⟨#[]⟩,ι 0,ι 0]),3,32):=by kernel_rfl
theorem xw(l):∀(k j)(hk:k<l.length),j<3->(fJ l)[k*3+j]?=(l[k]).cells[j]?:=by
 unfold fJ;induction l with
 |nil=>intro k j hk;simp at hk
 |cons x l b=>
  intro k j hk a;rw[eE,eI];cases k with
  |zero=>rw[gf,cN,cW (by show j<3;exact a)];rfl
  |succ k=>
   rw[cY (by show 3<=(k+1)*3+j;omega),show(k+1)*3+j-x.cells.length=k*3+j from by show(k+1)*3+j-3=k*3+j;omega];exact b k j ahA a
theorem E9(l)(p):fJ (l++[p])=fJ l++p.cells:=by simp[fJ]
theorem Rb(aA now)(l:List PF)(k)(a:k<l.length):iQ aA now (l.take (k+1))=iQ aA now (l.take k)++(if dU l[k].time now<=aA then [l[k]] else []):=by
 unfold iQ;rw[dy a,List.filter_append];congr 1;by_cases h:dU l[k].time now<=aA
 ·rw[if_pos h];simp[h]
 ·rw[if_neg h];simp[h]
theorem agr{p:Prop}(h:p:=by
 cases hv:v.ownBlock with
 |none=>exact .inl rfl
 |some b=>exact .inr agI):p:=h
theorem RD.yJ{base:Nat}(d:RD w base yb M g){W:World}{v x:Value}{ps:List PF}(k:w.grownBy W (some yb))(q:dB W yb #[ι M.aA,g.bv,x,g.dv])(j:W.ownsRow w.heap.size 283 3 v ps.length (fJ ps))(a:base<=w.heap.size):
  RD (W.setCell (yb,2) v) base yb {M with aJ:=ps} {g with pv:=v}/\w.grownBy (W.setCell (yb,2) v) (some yb)/\NewAt w.heap.size v:=by
 have i:NewAt w.heap.size v:=λb a=>(j.lt b a).1
 have f:∀b,g.foot yb b->v.ownBlock≠some b:=λb a e=>by have:=i b e;have:=(d.lt b a).2;omega
 have c:∀b,b≠yb->(W.setCell (yb,2) v).heap[b]?=W.heap[b]?:=λb h=>by
  simp[World.setCell,Array.getElem?_modify,Ne.symm h]
 have l:=λb h p=>(c b h).trans (k.block b (d.lt b p).2 (λe=>h aho))
 have m:w.grownBy (W.setCell (yb,2) v) (some yb):=by
  refine⟨k.os,k.tape,k.output,?_,λb a o=>?_⟩
  ·rw[show(W.setCell (yb,2) v).heap.size=W.heap.size from by simp[World.setCell]];exact k.size
  ·rw[c b (λe=>o (by rw[e]))];exact k.block b a o
 refine⟨⟨⟨?_,bZ d.bP.aG (λb a=>l b (λe=>d.bP.bne (by rw[a,e])) (.inr (.inl a))),bZ d.bP.aL (λb a=>l b (λe=>d.bP.TN (by rw[a,e])) (.inr (.inr (.inr a)))),d.bP.here,d.bP.bne,d.bP.TN,d.bP.apart⟩,d.aG,dC (bZ j (λb a=>c b (λe=>f yb (.inl rfl) (by rw[a,e])))) a,f yb (.inl rfl),?_,?_⟩,m,i⟩
 ·have:=q.set 2 v;simpa using this
 ·cases n:g.bv.ownBlock with
  |none=>
   exact agr
  |some b=>exact .inr (f b (.inr (.inl n)))
 ·cases n:g.dv.ownBlock with
  |none=>
   exact agr
  |some b=>exact .inr (f b (.inr (.inr (.inr n))))
theorem RD.IY{base:Nat}(b:RD w base yb M g){W:World}{v:Value}{ps:List PF}(c:w.grownBy W none)(a:W.ownsRow w.heap.size 283 3 v ps.length (fJ ps))(d:base<=w.heap.size):
  RD (W.setCell (yb,2) v) base yb {M with aJ:=ps} {g with pv:=v}/\w.grownBy (W.setCell (yb,2) v) (some yb)/\NewAt w.heap.size v:=b.yJ (mh c yb) (b.bP.blk.grown c agI) a d
theorem RD.drewN{base:Nat}(a:RD w base yb M g)(m):RD (w.drewN m) base yb M g:=a.keep (λ_ _=>rfl)
theorem IZ{a b:World}{o:Obj}{r:Option Nat}(h:(a.alloc o).grownBy b r):a.grownBy b r:=by
 have e:(a.alloc o).heap.size=a.heap.size+1:=cF _ _;have g:=cx a o none;exact⟨h.os.trans g.os,h.tape.trans g.tape,h.output.trans g.output,by have:=h.size;omega,λi c d=>(h.block i agE d).trans (g.block i c agI)⟩
theorem ajE{a b:PF}:a=b↔a.ay=b.ay/\a.time=b.time/\a.count=b.count:=by
 constructor
 ·intro h;subst h;exact⟨rfl,rfl,rfl⟩
 ·intro⟨c,e,d⟩;cases a;cases b;simp_all
theorem aaS{p:Prop}(h:p:=by
 intro v6 w6 h6 g6
 have hrow:=λb hb=>(Cr.o.lt b hb).1
 have gw:w.grownBy w6 (some yb):=by
  have g2:=mD.o.2.1
  refine⟨g6.os.trans g2.os,g6.tape.trans g2.tape,g6.output.trans g2.output,cE g2.size g6.size,λb hb hx=>(g6.block b (fN hb g2.size) (λe=>?_)).trans (g2.block b hb hx)⟩
  have:=hrow b e.symm
  omega
 have hB:=mD.o.1.bP.blk.grown g6 (λe=>by have:=hrow yb e.symm;omega)
 refine HD.o.yJ gw hB ?_ hbase
 rw[E9,cD,HLm.o]
 exact dC h6 (fg _)):p:=h
theorem aaU{p:Prop}(h:p:=by
 have h8I:(8:Int)<=(j:Int):=agE
 have HC:Hid (bL sk now M.aJ p=60/\bJ sk now M.aJ p=L):=by
  have h60:bL sk now M.aJ p=60:=by unfold bL;rw[HL.o,if_neg Rc.o,if_pos (by rw[HLm.o];exact h8)]
  refine⟨h60,?_⟩
  unfold bJ
  rw[h60,if_neg agF,HL.o]
 clear HNo Ls
 go_wp2
 go_ret
 exact⟨bD HC.o.1.symm,_,by rw[HC.o.2,<-HSk.o];exact HRD.o,⟨mD.o.2.1.os,mD.o.2.1.tape,mD.o.2.1.output,mD.o.2.1.size,mD.o.2.1.block⟩,mD.o.2.2⟩):p:=h
theorem aa4{p:Prop}(h:p:=by
 go_wp2_with fail
 go_quiet (fail)
 go_wp2
 go_roundw
 case rel=>exact⟨j+1,q+nq,by omega,by go_num,FE,by first|rfl|rw[World.drewN_drewN]⟩
 case measure=>simp[intOf];omega):p:=h
theorem acw{p:Prop}(h:p:=by
 all_goals
  go_wp2
  go_ret
  exact⟨bD HC.o.1.symm,_,by rw[HC.o.2,<-HSk.o];exact HFin.o.1.keep (λ_ _=>rfl),⟨HFin.o.2.1.os,HFin.o.2.1.tape,HFin.o.2.1.output,HFin.o.2.1.size,HFin.o.2.1.block⟩,HFin.o.2.2⟩):p:=h
theorem ad9{p:Prop}(h:p:=by
 have h0:bL sk now M.aJ p=0:=by unfold bL;rw[HL.o,if_neg Rc.o,if_neg (by rw[HLm.o];exact h8)]
 refine⟨h0,?_⟩
 unfold bJ
 rw[h0,if_pos rfl,HL.o]):p:=h
theorem afh{p:Prop}(h:p:=by
 intro hp
 obtain⟨a,ha,e⟩:=List.getElem_of_mem hp
 exact HNo.o a ha (by have:=HLm.o;omega) e):p:=h
theorem Km(base yb:Nat)(M)(g)(p)(now)(w)(hD:RD w base yb M g)(aF:M.aJ.length<=1000)(Ag:∀y∈M.aJ,In64 y.time)(dA:In64 now)(hbase:base<=w.heap.size):
  Calls prog 146 #[(yb,0),.agg p.cells.toArray,ι now] w λe w'=>e=.returned (ι (bL M.aA now M.aJ p))/\∃v,RD w' base yb {M with aJ:=bJ M.aA now M.aJ p} {g with pv:=v}/\w.grownBy w' (some yb)/\NewAt w.heap.size v:=by
 obtain⟨i0,R,X,ae,V⟩:=info_parts Tryz.agl
 have z:p.cells.toArray=#[.string p.ay,ι p.time,ι p.count]:=rfl
 rw[z]
 clear z
 have G0:=cx w (.cells #[.string p.ay,ι p.time,ι p.count] 283) none
 have ab:=hid (aS w #[.string p.ay,ι p.time,ι p.count] 283)
 have aU:=hD.bP.blk.lt
 have HD:=hid hD
 have c0:(w.alloc (.cells #[.string p.ay,ι p.time,ι p.count] 283)).cell? (yb,0)=some (ι M.aA):=by
  have:=(hD.bP.blk.grown G0 agI).cell 0;simpa using this
 obtain⟨pa,pc,Z⟩:=bA hD.aJ
 obtain⟨n,hn⟩:=aq M.aJ.length
 have c2:(w.alloc (.cells #[.string p.ay,ι p.time,ι p.count] 283)).cell? (yb,2)=some (.slice pa n pc):=by
  have:=(hD.bP.blk.grown G0 agI).cell 2;rw[Z,hn]at this;simpa using this
 have GN:Hid (0<n->∃P,pa=some ⟨P,0,none⟩/\(w.alloc (.cells #[.string p.ay,ι p.time,ι p.count] 283)).rangeAt P 0 (fJ M.aJ)):=by
  intro h0;obtain⟨P,c,E,e2,_⟩:=jI hD.aJ (by rw[hn];exact h0);rw[Z]at E;injection E with E;exact⟨P,E,aB e2 G0⟩
 have HN:=hid hn
 rw[hn]at aF
 have aH:=hid Ag
 obtain⟨sk,ad⟩:=aq M.aA
 rw[ad]at c0⊢
 have HSk:=hid ad
 obtain⟨W0,N⟩:=aq (w.alloc (.cells #[.string p.ay,ι p.time,ι p.count] 283))
 have s0:W0.heap.size=w.heap.size+1:=by rw[<-N];exact cF _ _
 rw[N]at G0 ab c0 c2 GN
 have ar:=hid N
 have sP:=hid G0
 clear N hD Z hn Ag ad G0
 go_enter func146,ntmps146
 go_wp2
 rw[ar.o]
 clear ar
 go_loopw [7,8] (λlv i wr=>∃k:Nat,k<=n/\i = ι k/\wr.ownsRow (w.heap.size+1) 283 3 lv (iQ sk now (M.aJ.take k)).length (fJ (iQ sk now (M.aJ.take k)))/\W0.grownBy wr none) (λ_ i _=>n-(intOf i).toNat)
 case atStart=>exact⟨0,cS _,rfl,by simpa[iQ,fJ]using World.ownsRow_nil _ _ _ _,cC _ _⟩
 case round=>
  obtain⟨k,hk,rfl,hown,l⟩:=hrel;have d0:=l.cell c0 agI;have d2:=l.cell c2 agI;have an:=l.size;by_cases aK:k<n
  ·have mU:(k:Int)<(n:Int):=agE;have aQ:(0:Int)<=(k:Int):=agE;obtain⟨P,rfl,hrow⟩:=GN.o agE;have hkl:k<M.aJ.length:=(by rw[HN.o];exact aK);have D:=aB hrow l;have ai:Hid (∀W,wr.grownBy W none->W.cell? (P,k*3+0)=some (.string ⟨M.aJ[k].ay.toArray⟩)/\W.cell? (P,k*3+1)=some (ι M.aJ[k].time)/\W.cell? (P,k*3+2)=some (ι M.aJ[k].count)):=by
    intro W hW;have h:=aB D hW;have h0:=h (k*3+0) _ (by rw[xw _ k 0 hkl agF];rfl);have h1:=h (k*3+1) _ (by rw[xw _ k 1 hkl agF];rfl);have h2:=h (k*3+2) _ (by rw[xw _ k 2 hkl agF];rfl);rw[cN]at h0 h1 h2;exact⟨h0,h1,h2⟩
   have HS:=hid (Rb sk now M.aJ k hkl);have af:=aH.o M.aJ[k] (ef hkl);obtain⟨y,hy⟩:=aq (M.aJ[k]);rw[hy]at ai HS af;have C1:=hid (λm=>yF y.time now (wr.drewN m) af dA);obtain⟨e0,E,e2⟩:=ai.o wr (cC _ _);rw[ft]at e0;obtain⟨ap,av⟩:=aq (dU y.time now);rw[av]at C1 HS;clear hrow D hy af av ai;by_cases G:ap<=sk
   ·have C:Hid (iQ sk now (M.aJ.take (k+1))=iQ sk now (M.aJ.take k)++[y]):=(by show _=_;rw[HS.o,if_pos G]);have aO:(iQ sk now (M.aJ.take k)).length<=1000:=by
     have h1:=List.length_filter_le (λp:PF=>decide (dU p.time now<=sk)) (M.aJ.take k);have h2:(iQ sk now (M.aJ.take k)).length<=(M.aJ.take k).length:=h1;rw[ep]at h2;omega
    have sM:(iQ sk now (M.aJ.take k)).length+1<=maxLen:=ag1;have I:((iQ sk now (M.aJ.take k)).length+1)*32<=140737488355328:=agE;clear HS;go_wp2_with fail;go_quiet (first|(go_at_call 143;refine(C1.o _).mono ?_;rintro e w' ⟨rfl,rfl⟩;exact⟨rfl,_,rfl⟩))
    have Cr:Hid (∀m,(wr.drewN m).ownsRow (w.heap.size+1) 283 3 u7 (iQ sk now (M.aJ.take k)).length (fJ (iQ sk now (M.aJ.take k)))/\W0.grownBy (wr.drewN m) none):=λm=>⟨hown.kept (aR (cC wr none) m) (eR _),aR l m⟩
    clear hown l;go_wp2_with (at_builtin;refine dJ _ rfl _ _ 142 rfl (w.heap.size+1) 283 i0 _ 3 32 underlying142 R X ae V rfl agF _ _ _ rfl ((Cr.o _).1.alloc _) ⟨wr.heap.size,0,none⟩ 1 1 [.string y.ay,ι y.time,ι y.count] rfl rfl ?q1 ai4 agE sM I ag2 ?_)
    case q1=>exact gJ (wr.drewN _) 283 [.string y.ay,ι y.time,ι y.count]
    intro v2 w2 F ak _;have aw:Hid (W0.grownBy w2 none):=gu (aM (Cr.o _).2 _) ak (λj hj=>by have:=((Cr.o 0).1.lt j hj).1;omega);have FV:Hid (w2.ownsRow (w.heap.size+1) 283 3 v2 (iQ sk now (M.aJ.take (k+1))).length (fJ (iQ sk now (M.aJ.take (k+1))))):=(by rw[C.o,E9,cD];exact F);clear F ak Cr C e0 E e2 d0 d2;go_wp2;go_roundw
    case rel=>exact⟨k+1,by omega,by go_num,FV.o,aw.o⟩
    case measure=>simp[intOf];omega
   ·have C:Hid (iQ sk now (M.aJ.take (k+1))=iQ sk now (M.aJ.take k)):=(by show _=_;rw[HS.o,if_neg G,fS]);have Cr:Hid (∀m,(wr.drewN m).ownsRow (w.heap.size+1) 283 3 u7 (iQ sk now (M.aJ.take (k+1))).length (fJ (iQ sk now (M.aJ.take (k+1))))/\W0.grownBy (wr.drewN m) none):=λm=>⟨by rw[C.o];exact hown.kept (aR (cC wr none) m) (eR _),aR l m⟩
    clear hown l HS C;go_wp2_with fail;go_quiet (first|(go_at_call 143;refine(C1.o _).mono ?_;rintro e w' ⟨rfl,rfl⟩;exact⟨rfl,_,rfl⟩))
    go_wp2;go_roundw
    case rel=>exact⟨k+1,by omega,by go_num,(Cr.o _).1,(Cr.o _).2⟩
    case measure=>simp[intOf];omega
  ·have aC:k=n:=agE;have mU:¬ (k:Int)<(n:Int):=agE;subst aC;have ah:=cU (by rw[HN.o];exact cy _);rw[ah]at hown;obtain⟨L,hL⟩:=aq (iQ sk now M.aJ);rw[hL]at hown;have HL:=hid hL;have ax:L.length<=1000:=by
    have h1:(iQ sk now M.aJ).length<=M.aJ.length:=List.length_filter_le _ _;have:=HN.o;rw[hL]at h1;omega
   obtain⟨la,x,rfl⟩:=bA hown;obtain⟨m,hm⟩:=aq L.length;have HLm:=hid hm;rw[hm]at hown ax⊢;have al:=hm;have U:(la=none/\Hid (m=0))\/∃s,la=some ⟨s,0,none⟩:=by
    rcases hown.2 with⟨hv,_⟩|⟨s,cp,aL,hv,_⟩
    ·injection hv with E e2 _;exact .inl ⟨E,hid e2⟩
    ·injection hv with E _ _;exact .inr ⟨s,E⟩
   rcases U with⟨rfl,FN⟩|⟨s,rfl⟩
   ·have H:=hid (aB ab.o l);have kF:=hid (aa sP.o l);have aI:yb<wr.heap.size:=agE;have mD:=hid (HD.o.IY kF.o (dC (by rw[hm];exact hown) (fg _)) hbase);clear ah hL hm mU d0;have fz:=(HD.o.bP.blk.grown kF.o agI).frozen 2;obtain⟨d,hW2⟩:=aq (wr.setCell ⟨yb,2,none⟩ (.slice none m x));have Cr:Hid (d.ownsRow (w.heap.size+1) 283 3 (.slice none m x) m (fJ L)):=aiE;have J:Hid (d.rangeAt w.heap.size 0 [.string p.ay,ι p.time,ι p.count]):=(by rw[<-hW2];exact λj u hu=>by rw[World.cell?_setCell_far _ _ _ _ (show yb≠w.heap.size by omega)];exact H.o j u hu);rw[hW2]at mD;clear al;have B:=hid hW2;clear hW2 hown H kF l an;go_wp2;rw[B.o];clear B d2 fz;go_loopw [9] (λi wx=>∃j q:Nat,j<=m/\i = ι j/\Hid (∀a(ha:a<L.length),a<j->L[a]≠p)/\wx=d.drewN q) (λi _=>m-(intOf i).toNat)
    case atStart=>exact⟨0,0,cS _,rfl,hid (λa _ ha=>by omega),rfl⟩
    case round=>
     obtain⟨j,q,hj,rfl,HNo,rfl⟩:=hrel;have HRD:=hid (mD.o.1.drewN q);by_cases aj:j<m
     ·exact absurd aj (by have:=FN.o;omega)
     ·have ag:j=m:=agE;have Ls:¬ (j:Int)<(m:Int):=agE;have Rc:Hid (p∉L):=by
       exact afh
      subst ag;by_cases h8:8<=j
      ·exact aaU
      ·have h8I:¬ (8:Int)<=(j:Int):=agE;have HC:Hid (bL sk now M.aJ p=0/\bJ sk now M.aJ p=L++[p]):=by
        exact ad9
       clear HNo Ls Rc;have y2:d.cell? (yb,2)=some (.slice none j x):=by
        have:=mD.o.1.bP.blk.cell 2;simpa using this
       have p0:d.cell? (w,0)=some (.string p.ay):=J.o 0 _ rfl;have p1:d.cell? (w,1)=some (ι p.time):=J.o 1 _ rfl;have p2:d.cell? (w,2)=some (ι p.count):=J.o 2 _ rfl;have az:=(cx (d.drewN (q+1)) (.cells #[.string p.ay,ι p.time,ι p.count] 283) none).cell y2 agI;have ao:w.heap.size+1<=d.heap.size:=(by have:=jE p0;omega);have sM:j+1<=maxLen:=ag1;have I:(j+1)*32<=140737488355328:=agE;have aD:Hid (∀q',(d.drewN q').ownsRow (w.heap.size+1) 283 3 (.slice none j x) j (fJ L)):=λq'=>Cr.o.kept (aR (cC d none) q') (eR _);have Q:Hid (∀(v6)(w6),w6.ownsRow (w.heap.size+1) 283 3 v6 (j+1) (fJ L++p.cells)->d.grownBy w6 (Value.slice none j x).ownBlock->RD (w6.setCell (yb,2) v6) base yb {M with aJ:=L++[p]} {g with pv:=v6}/\w.grownBy (w6.setCell (yb,2) v6) (some yb)/\NewAt w.heap.size v6):=by
        exact aaS
       go_wp2_with fail;go_region_law (first|(refine mE rfl _ _ 142 rfl (w.heap.size+1) 283 i0 _ 3 32 underlying142 R X ae V rfl agF (.slice none j x) j _ ?s1 (Cr.o.alloc _) ⟨d.heap.size,0,none⟩ 1 1 [.string p.ay,ι p.time,ι p.count] ?s2 rfl ?s3 ?s4 agE sM I ?s5 ?_;(case s1=>first|rfl|simp[Act.eval,Act.put]);(case s2=>first|rfl|simp[Act.eval,Act.put]);(case s3=>exact gJ d _ _);(case s4=>intro u hu;simp at hu;rcases hu with rfl|rfl|rfl<;>rfl);(case s5=>simp;omega);intro v6 w6 f A t;obtain⟨a6,c6,T⟩:=bA f;subst T;have DC:(d.alloc (.cells #[.string p.ay,ι p.time,ι p.count] 283)).grownBy w6 (Value.slice none j x).ownBlock:=⟨A.os,A.tape,A.output,A.size,A.block⟩;have r:=IZ DC;have HFin:=hid (Q.o _ _ f r);have y6:=r.cell y2 (λe=>by have:=(Cr.o.lt yb e.symm).1;omega);have aG:=(mD.o.1.bP.blk.grown r (λe=>by have:=(Cr.o.lt yb e.symm).1;omega)).frozen 2;clear f A DC r t))
       all_goals exact acw
   ·have H:=hid (aB ab.o l);have kF:=hid (aa sP.o l);have aI:yb<wr.heap.size:=agE;have mD:=hid (HD.o.IY kF.o (dC (by rw[hm];exact hown) (fg _)) hbase);clear ah hL hm mU d0;have fz:=(HD.o.bP.blk.grown kF.o agI).frozen 2;obtain⟨d,hW2⟩:=aq (wr.setCell ⟨yb,2,none⟩ (.slice (some ⟨s,0,none⟩) m x));have Cr:Hid (d.ownsRow (w.heap.size+1) 283 3 (.slice (some ⟨s,0,none⟩) m x) m (fJ L)):=aiE;have J:Hid (d.rangeAt w.heap.size 0 [.string p.ay,ι p.time,ι p.count]):=(by rw[<-hW2];exact λj u hu=>by rw[World.cell?_setCell_far _ _ _ _ (show yb≠w.heap.size by omega)];exact H.o j u hu);rw[hW2]at mD;clear al;have B:=hid hW2;clear hW2 hown H kF l an;go_wp2;rw[B.o];clear B d2 fz;go_loopw [9] (λi wx=>∃j q:Nat,j<=m/\i = ι j/\Hid (∀a(ha:a<L.length),a<j->L[a]≠p)/\wx=d.drewN q) (λi _=>m-(intOf i).toNat)
    case atStart=>exact⟨0,0,cS _,rfl,hid (λa _ ha=>by omega),rfl⟩
    case round=>
     obtain⟨j,q,hj,rfl,HNo,rfl⟩:=hrel;have HRD:=hid (mD.o.1.drewN q);by_cases aj:j<m
     ·have Ls:(j:Int)<(m:Int):=agE;have aN:(0:Int)<=(j:Int):=agE;have K:j<L.length:=(by rw[HLm.o];exact aj);have hrow:d.rangeAt s 0 (fJ L):=by
       obtain⟨aT,cl,el,hrow,_⟩:=jI Cr.o agE;injection el with el;injection el with el;injection el with el;rw[el];exact hrow
      obtain⟨y,hy⟩:=aq (L[j]);have e0:d.cell? (s,j*3)=some (.string y.ay):=by
       have h:=hrow (j*3+0) _ (by rw[xw _ j 0 K agF];rfl);rw[cN,ft,hy]at h;exact h
      have E:d.cell? (s,j*3+1)=some (ι y.time):=by
       have h:=hrow (j*3+1) _ (by rw[xw _ j 1 K agF];rfl);rw[cN,hy]at h;exact h
      have e2:d.cell? (s,j*3+2)=some (ι y.count):=by
       have h:=hrow (j*3+2) _ (by rw[xw _ j 2 K agF];rfl);rw[cN,hy]at h;exact h
      have p0:d.cell? (w,0)=some (.string p.ay):=J.o 0 _ rfl;have p1:d.cell? (w,1)=some (ι p.time):=J.o 1 _ rfl;have p2:d.cell? (w,2)=some (ι p.count):=J.o 2 _ rfl;obtain⟨S,hS⟩:∃S:ByteArray,S=⟨p.ay.toArray⟩:=⟨_,rfl⟩
      obtain⟨Y,hY⟩:∃S:ByteArray,S=⟨y.ay.toArray⟩:=⟨_,rfl⟩
      rw[<-hY]at e0;rw[<-hS]at p0;have hq:=str_eq hY hS;have Fa:Hid (¬ y=p->∀a(ha),a<j+1->L[a]≠p):=by
       intro aE a ha aP;by_cases h:a<j
       ·exact HNo.o a ha h
       ·have:a=j:=by omega
        subst this;rw[hy];exact aE
      have OV:Hid (y=p->p∈L):=λe=>by rw[<-e,<-hy];exact ef K
      clear hrow hy HNo;by_cases O:y.ay=p.ay
      ·have b0:(Y.toList==S.toList)=true:=(by rw[hq,O];simp);by_cases q1:y.time=p.time
       ·have b1:(y.time==p.time)=true:=(by rw[db];exact q1);by_cases q2:y.count=p.count
        ·have b2:(y.count==p.count)=true:=(by rw[db];exact q2);have P8:=hid (OV.o (ajE.2 ⟨O,q1,q2⟩));have HC:Hid (bL sk now M.aJ p=34/\bJ sk now M.aJ p=L):=by
          have au:bL sk now M.aJ p=34:=(by unfold bL;rw[HL.o,if_pos P8.o]);refine⟨au,?_⟩;unfold bJ;rw[au,if_neg agF,HL.o]
         clear O q1 q2 hq hS hY OV Fa P8;go_wp2_with fail;go_quiet (fail)
         go_wp2;go_ret;exact⟨bD HC.o.1.symm,_,by rw[HC.o.2,<-HSk.o];exact(mD.o.1.drewN q).drewN _,⟨mD.o.2.1.os,mD.o.2.1.tape,mD.o.2.1.output,mD.o.2.1.size,mD.o.2.1.block⟩,mD.o.2.2⟩
        ·have b2:(y.count==p.count)=false:=(by rw[cJ];exact q2);have FE:=hid (Fa.o (λe=>q2 (by rw[e])));clear O q1 q2 hq hS hY OV Fa;exact aa4
       ·have b1:(y.time==p.time)=false:=(by rw[cJ];exact q1);have FE:=hid (Fa.o (λe=>q1 (by rw[e])));clear O q1 hq hS hY OV Fa;exact aa4
      ·have b0:(Y.toList==S.toList)=false:=(by rw[hq];simpa using O);have FE:=hid (Fa.o (λe=>O (by rw[e])));clear O hq hS hY OV Fa;exact aa4
     ·have ag:j=m:=agE;have Ls:¬ (j:Int)<(m:Int):=agE;have Rc:Hid (p∉L):=by
       exact afh
      subst ag;by_cases h8:8<=j
      ·exact aaU
      ·have h8I:¬ (8:Int)<=(j:Int):=agE;have HC:Hid (bL sk now M.aJ p=0/\bJ sk now M.aJ p=L++[p]):=by
        exact ad9
       clear HNo Ls Rc;have y2:d.cell? (yb,2)=some (.slice (some (s,0)) j x):=by
        have:=mD.o.1.bP.blk.cell 2;simpa using this
       have p0:d.cell? (w,0)=some (.string p.ay):=J.o 0 _ rfl;have p1:d.cell? (w,1)=some (ι p.time):=J.o 1 _ rfl;have p2:d.cell? (w,2)=some (ι p.count):=J.o 2 _ rfl;have az:=(cx (d.drewN (q+1)) (.cells #[.string p.ay,ι p.time,ι p.count] 283) none).cell y2 agI;have ao:w.heap.size+1<=d.heap.size:=(by have:=jE p0;omega);have sM:j+1<=maxLen:=ag1;have I:(j+1)*32<=140737488355328:=agE;have aD:Hid (∀q',(d.drewN q').ownsRow (w.heap.size+1) 283 3 (.slice (some (s,0)) j x) j (fJ L)):=λq'=>Cr.o.kept (aR (cC d none) q') (eR _);have Q:Hid (∀(v6)(w6),w6.ownsRow (w.heap.size+1) 283 3 v6 (j+1) (fJ L++p.cells)->d.grownBy w6 (Value.slice (some (s,0)) j x).ownBlock->RD (w6.setCell (yb,2) v6) base yb {M with aJ:=L++[p]} {g with pv:=v6}/\w.grownBy (w6.setCell (yb,2) v6) (some yb)/\NewAt w.heap.size v6):=by
        exact aaS
       go_wp2_with fail;go_region_law (first|(refine mE rfl _ _ 142 rfl (w.heap.size+1) 283 i0 _ 3 32 underlying142 R X ae V rfl agF (.slice (some ⟨s,0,none⟩) j x) j _ ?s1 (Cr.o.alloc _) ⟨d.heap.size,0,none⟩ 1 1 [.string p.ay,ι p.time,ι p.count] ?s2 rfl ?s3 ?s4 agE sM I ?s5 ?_;(case s1=>first|rfl|simp[Act.eval,Act.put]);(case s2=>first|rfl|simp[Act.eval,Act.put]);(case s3=>exact gJ d _ _);(case s4=>intro u hu;simp at hu;rcases hu with rfl|rfl|rfl<;>rfl);(case s5=>simp;omega);intro v6 w6 f A t;obtain⟨a6,c6,T⟩:=bA f;subst T;have DC:(d.alloc (.cells #[.string p.ay,ι p.time,ι p.count] 283)).grownBy w6 (Value.slice (some ⟨s,0,none⟩) j x).ownBlock:=⟨A.os,A.tape,A.output,A.size,A.block⟩;have r:=IZ DC;have HFin:=hid (Q.o _ _ f r);have y6:=r.cell y2 (λe=>by have:=(Cr.o.lt yb e.symm).1;omega);have aG:=(mD.o.1.bP.blk.grown r (λe=>by have:=(Cr.o.lt yb e.symm).1;omega)).frozen 2;clear f A DC r t))
       all_goals exact acw
section
variable {q:NQ}{e:BE}{key:UInt64}{p:PF}
theorem zY(h:q.fQ=[116,103,115]\/jA q=true)(b:BE.find M.aG q.fQ=some e)(a:e.keyOf q.ou=some key):iV M now q=match (eP key 2 q.dO).bind dR with
   |none=>.error 31
   |some t=>
    match (eP t.aN 4 q.proof).bind fG with
    |none=>.error 31
    |some p=>if p.ay≠t.ay then .error 36 else if M.aA<dU p.time now then .error 37 else .ok (t,p):=by
 grind [wZ,iV]
theorem Td(h:q.fQ=[116,103,115]\/jA q=true)(b:BE.find M.aG q.fQ=some e)(a:e.keyOf q.ou=some key)(c:(eP key 2 q.dO).bind dR=none):iH M now q=(.error 31,M):=by
 unfold iH;rw[zY h b a,c]
theorem NU(h:q.fQ=[116,103,115]\/jA q=true)(b:BE.find M.aG q.fQ=some e)(a:e.keyOf q.ou=some key)(c:(eP key 2 q.dO).bind dR=some t)(d:(eP t.aN 4 q.proof).bind fG=none):iH M now q=(.error 31,M):=by
 unfold iH;rw[zY h b a,c];dsimp only;rw[d]
theorem Vp(h:q.fQ=[116,103,115]\/jA q=true)(a:BE.find M.aG q.fQ=some e)(b:e.keyOf q.ou=some key)(d:(eP key 2 q.dO).bind dR=some t)(f:(eP t.aN 4 q.proof).bind fG=some p)(c:p.ay≠t.ay):iH M now q=(.error 36,M):=by
 unfold iH;rw[zY h a b,d];dsimp only;rw[f];dsimp only;rw[if_pos c]
theorem ac3(h:q.fQ=[116,103,115]\/jA q=true)(a:BE.find M.aG q.fQ=some e)(b:e.keyOf q.ou=some key)(f:(eP key 2 q.dO).bind dR=some t)(i:(eP t.aN 4 q.proof).bind fG=some p)(d:p.ay=t.ay)(c:M.aA<dU p.time now):iH M now q=(.error 37,M):=by
 unfold iH;rw[zY h a b,f];dsimp only;rw[i];dsimp only;rw[if_neg (λk=>k d),if_pos c]
theorem ac4(h:q.fQ=[116,103,115]\/jA q=true)(a:BE.find M.aG q.fQ=some e)(b:e.keyOf q.ou=some key)(f:(eP key 2 q.dO).bind dR=some t)(i:(eP t.aN 4 q.proof).bind fG=some p)(d:p.ay=t.ay)(c:¬ M.aA<dU p.time now):
  iH M now q=if bL M.aA now M.aJ p≠0 then(.error (bL M.aA now M.aJ p),{M with aJ:=bJ M.aA now M.aJ p}) else(.ok t,{M with aJ:=bJ M.aA now M.aJ p}):=by
 unfold iH
 rw[zY h a b,f]
 dsimp only
 rw[i]
 dsimp only
 rw[if_neg (λk=>k d),if_neg c]
end
def nR(base yb:Nat)(g:RG)(A:Except Int TK×DM)(w w':World)(t:TK)(c:Int):Prop:=
 t.In/\(∀c',A.1=.error c'->c=c')/\(∀t',A.1=.ok t'->c=0/\t=t')/\(∃v,RD w' base yb A.2 {g with pv:=v}/\(v=g.pv\/NewAt w.heap.size v))/\w.grownBy w' (some yb)
theorem kD{base yb:Nat}{M:DM}{g:RG}{w w':World}{t:TK}{c:Int}(d:t.In)(a:RD w base yb M g)(k:w.grownBy w' none):nR base yb g (.error c,M) w w' t c:=
 ⟨d,λi h=>(by injection h),λj h=>(by cases h),⟨g.pv,a.keep (λb f=>k.block b (a.lt b f).2 agI),.inl rfl⟩,mh k yb⟩
theorem lZ{W:World}{b:Nat}{t:TK}(h:W.rangeAt b 0 t.cells):W.cell? (b,0)=some (ι t.ae)/\W.cell? (b,1)=some (υ t.aN.toNat)/\W.cell? (b,2)=some (.string t.ay)/\W.cell? (b,3)=some (ι t.dV)/\W.cell? (b,4)=some (ι t.start)/\W.cell? (b,5)=some (ι t.fin)/\W.cell? (b,6)=some (ι t.aC):=
 ⟨h 0 _ rfl,h 1 _ rfl,h 2 _ rfl,h 3 _ rfl,h 4 _ rfl,h 5 _ rfl,h 6 _ rfl⟩
theorem xx{W W':World}{b r:Nat}{cs:List Value}(h:W.rangeAt b 0 cs)(k:W.grownBy W' (some r))(hn:b≠r):W'.rangeAt b 0 cs:=λi v a=>k.cell (h i v a) (by simpa using hn)
theorem NV{W W':World}{b n r:Nat}(h:Live W b n)(k:W.grownBy W' (some r))(hn:b≠r):Live W' b n:=by
 have c:=h.lt;obtain⟨cur,e,a,h2⟩:=h;exact afe
theorem mZ{a b:World}{r g j:Nat}{u:Value}(h:a.grownBy b (some r))(c:a.heap.size<=g):a.grownBy (b.setCell (g,j) u) (some r):=
 ⟨h.os,h.tape,h.output,by rw[World.size_setCell];exact h.size,ahD⟩
theorem RD.wu{V:World}{base yb:Nat}{M:DM}{g:RG}(h:RD V base yb M g){c k:Nat}{u:Value}(hn:∀b,g.foot yb b->b≠c):RD (V.setCell (c,k) u) base yb M g:=(by grind [RD.keep,RowKit.Below.heap_setCell])
theorem NW{base yb:Nat}{g:RG}{c:DM}{w w':World}{t:TK}{a:Int}{A:Except Int TK×DM}(b:A=if a≠0 then(.error a,c) else(.ok t,c))(d:t.In)(i:∃v,RD w' base yb c {g with pv:=v}/\(v=g.pv\/NewAt w.heap.size v))(k:w.grownBy w' (some yb)):nR base yb g A w w' t a:=by
 by_cases f:a=0
 ·rw[if_neg (λh=>h f)]at b;subst b;exact⟨d,λj h=>(by cases h),agM,i,k⟩
 ·rw[if_pos f]at b;subst b;exact⟨d,λj h=>(by injection h),λl h=>(by cases h),i,k⟩
structure OW(w W:World)(base yb:Nat)(M:DM)(g:RG)(q:NQ)(z pv:Value)(t:TK):Prop where
 d:RD W base yb M g
 c:W.rangeAt w.heap.size 0 [.string q.fQ,ι q.ou,z]
 r:Live W (w.heap.size+1) 7
 t:W.rangeAt (w.heap.size+2) 0 t.cells
 lt:Live W (w.heap.size+2) 7
 z:vX W z q.dO
 p:vX W pv q.proof
 g:w.grownBy W none
section
variable {base:Nat}{q:NQ}{z pv:Value}
theorem OW.grown{W':World}(h:OW w W base yb M g q z pv t)(k:W.grownBy W' none):OW w W' base yb M g q z pv t:=
 ⟨h.d.keep (λb a=>k.block b (h.d.lt b a).2 agI),aB h.c k,h.r.grown k,aB h.t k,h.lt.grown k,h.z.grown k,h.p.grown k,aa h.g k⟩
theorem OW.drew(h:OW w W base yb M g q z pv t):OW w W.drew base yb M g q z pv t:=h.grown (bg (cC _ _))
theorem OW.tc(h:OW w W base yb M g q z pv t):W.cell? (w.heap.size+2,0)=some (ι t.ae)/\W.cell? (w.heap.size+2,1)=some (υ t.aN.toNat)/\W.cell? (w.heap.size+2,2)=some (.string t.ay)/\W.cell? (w.heap.size+2,3)=some (ι t.dV)/\W.cell? (w.heap.size+2,4)=some (ι t.start)/\W.cell? (w.heap.size+2,5)=some (ι t.fin)/\W.cell? (w.heap.size+2,6)=some (ι t.aC):=
 ⟨h.t 0 _ rfl,h.t 1 _ rfl,h.t 2 _ rfl,h.t 3 _ rfl,h.t 4 _ rfl,h.t 5 _ rfl,h.t 6 _ rfl⟩
theorem OW.big(h:OW w W base yb M g q z pv t):w.heap.size+3<=W.heap.size:=h.lt.lt
theorem OW.aop(h:OW w W base yb M g q z pv t)(d:RD w base yb M g)(m:vX w z q.dO)(n:vX w pv q.proof)(a):OW w (((((((W.setCell (w.heap.size+2,0) (ι a.ae)).setCell (w.heap.size+2,1) (υ a.aN.toNat)).setCell (w.heap.size+2,2) (.string ⟨a.ay.toArray⟩)).setCell (w.heap.size+2,3) (ι a.dV)).setCell (w.heap.size+2,4) (ι a.start)).setCell (w.heap.size+2,5) (ι a.fin)).setCell (w.heap.size+2,6) (ι a.aC)) base yb M g q z pv a:=by
 have f:∀{V:World}{g:Nat}{cs:List Value}(k)(v),w.heap.size+2≠g->V.rangeAt g 0 cs->(V.setCell ⟨w.heap.size+2,k,none⟩ v).rangeAt g 0 cs:=λk v hn l=>gM l hn v;have G:=az (j:=6) (u:=ι a.aC) (az (j:=5) (u:=ι a.fin) (az (j:=4) (u:=ι a.start) (az (j:=3) (u:=ι a.dV) (az (j:=2) (u:=.string a.ay) (az (j:=1) (u:=υ a.aN.toNat) (az (j:=0) (u:=ι a.ae) h.g (en _ 2)) (en _ 2)) (en _ 2)) (en _ 2)) (en _ 2)) (en _ 2)) (en _ 2);refine⟨d.keep (λb i=>G.block b (d.lt b i).2 agI),?_,?_,fe h.lt _ _ _ _ _ _ _,?_,m.grown G,n.grown G,G⟩
 ·exact f _ _ agE (f _ _ agE (f _ _ agE (by grind [OW.c])))
 ·exact dH (dH (dH (by grind [dH,OW.r]) _) _) _
 ·exact dH (dH (dH (by grind [dH,OW.lt]) _) _) _
end
end Go.Proofs.YtlfifnpjeangmaaGreatDoor
namespace Go.Proofs.YtlfifnpjeangmaaGreatDoor
set_option maxHeartbeats 8000000
open Proofs.Tryz Go.RowKit
set_option maxRecDepth 100000
set_option linter.unusedSimpArgs false
variable {x:BE}{aO bW dI now:Int}{W:World}
def Cw(r:Except Int TK)(t:TK)(c:Int):Prop:=(∀c',r=.error c'->c=c')/\∀t',r=.ok t'->c=0/\t=t'
theorem wB{c:Int}{t:TK}:Cw (.error c) t c:=⟨λb h=>by injection h,λa h=>by cases h⟩
theorem Fe{t:TK}:Cw (.ok t) t 0:=⟨λa h=>(by cases h),agM⟩
def uZ(a b c:Bool):Int:=(if a=true then 64 else 0)+(if b=true then 128 else 0)+(if c=true then 256 else 0)
theorem ac8(n):bits .and .i64 n 448=uZ (aI n 64) (aI n 128) (aI n 256):=X8 n
theorem ZI(a b c):bits .or .i64 (uZ a b c) 128=uZ a true c:=by cases a<;>cases b<;>cases c<;>decide +kernel
theorem ZJ(a b c):bits .or .i64 (uZ a b c) 256=uZ a b true:=by cases a<;>cases b<;>cases c<;>decide +kernel
theorem ac9(a b c):0<=uZ a b c/\uZ a b c<4096:=by cases a<;>cases b<;>cases c<;>decide
theorem ZK{old:TK}{s:BE}(h:aI aO 32=true)(a:now<old.start):fresh now old x s dI bW aO=.error 33:=by unfold fresh;rw[if_pos h,if_pos a]
theorem ZL{old:TK}{s:BE}(h:aI aO 32=true)(a:¬ now<old.start):fresh now old x s dI bW aO=.ok {old with ae:=if aI old.ae 16=true then old.ae-16 else old.ae}:=by unfold fresh;rw[if_pos h,if_neg a]
theorem ZM{old:TK}{s:BE}(h:aI aO 32=false)(b:aI aO 16=true)(a:old.aC<=now):fresh now old x s dI bW aO=.error 32:=by unfold fresh;rw[if_neg (by rw[h];decide),if_pos b,if_pos a]
theorem ZN{old:TK}{s:BE}(h:aI aO 32=false)(b:aI aO 16=true)(a:¬ old.aC<=now):fresh now old x s dI bW aO=.ok {old with start:=now,fin:=lesser old.aC (aW now (fV old.fin old.start))}:=by unfold fresh;rw[if_neg (by rw[h];decide),if_pos b,if_neg a]
theorem ZO{old:TK}{s:BE}(h:aI aO 32=false)(b:aI aO 16=false)(a:iD now dI old x s<=now):fresh now old x s dI bW aO=.error 11:=by unfold fresh;rw[if_neg (by rw[h];decide),if_neg (by rw[b];decide),if_pos a]
theorem ZP{old:TK}{s:BE}(h:aI aO 32=false)(b:aI aO 16=false)(a:¬ iD now dI old x s<=now):fresh now old x s dI bW aO=.ok {old with start:=now,fin:=iD now dI old x s,ae:=iL aO old x s,aC:=fu aO old.ae x s now (lesser (asked bW) old.aC)}:=by unfold fresh;rw[if_neg (by rw[h];decide),if_neg (by rw[b];decide),if_neg a]
theorem Rh(aO)(old)(x s):iL aO old x s=uZ (aI old.ae 64) (aI old.ae 128||aI aO 64) (aI old.ae 256||aI aO 128)+gY aO old.ae x s:=by
 grind [iL,uZ]
theorem agt{P:Program}{c:Code}{Q:Exit->Act->World->Prop}{a:Act}(X:World->Prop)(b:X W)(h:∀V,X V->Code.wp P c Q a V):Code.wp P c Q a W:=h W b
theorem FW.sc{w:World}{old:TK}{x s:RE}{c st b a:Int}(h:FW w W old x s c st b a):W.cell? (w,5)=some (ι old.fin)/\W.cell? (w.heap.size+1,3)=some (ι x.bI)/\W.cell? (w.heap.size+2,3)=some (ι s.bI):=⟨h.o 5 _ rfl,h.x 3 _ rfl,h.s 3 _ rfl⟩
theorem FW.Q7{w:World}{old:TK}{x s:RE}{j st i e:Int}(h:FW w W old x s j st i e)(a b c d):FW w (((((((W.setCell (w.heap.size+4,0) (ι a)).setCell (w.heap.size+4,1) (υ old.aN.toNat)).setCell (w.heap.size+4,2) (.string old.ay)).setCell (w.heap.size+4,3) (ι old.dV)).setCell (w.heap.size+4,4) (ι b)).setCell (w.heap.size+4,5) (ι c)).setCell (w.heap.size+4,6) (ι d)) old x s a b c d:=by
 have f:∀{V:World}{g:Nat}{cs:List Value}(k)(v),w.heap.size+4≠g->V.rangeAt g 0 cs->(V.setCell ⟨w.heap.size+4,k,none⟩ v).rangeAt g 0 cs:=(by grind [gM])
 refine⟨?_,?_,?_,?_,fe h.lt _ _ _ _ _ _ _,?_,?_⟩
 ·exact f _ _ agE (f _ _ agE (f _ _ agE (by grind [FW.o])))
 ·exact f _ _ agE (f _ _ agE (f _ _ agE (by grind [FW.x])))
 ·exact f _ _ agE (f _ _ agE (f _ _ agE (by grind [FW.s])))
 ·exact dH (dH (dH (by grind [dH,FW.r]) _) _) _
 ·exact dH (dH (dH (by grind [dH,FW.lt]) _) _) _
 ·exact az (az (az (by grind [az,FW.g]) agE) agE) agE
theorem Ku(aO old)(x s)(start a):(if zX aO old x s 4 2=true then fu aO old x s start a else 0)=fu aO old x s start a:=by
 rw[uO];cases zX aO old x s 4 2<;>rfl
theorem agu{p q:Prop}(k:q)(h:q->p:=by
  intro hq
  obtain⟨t0,t1,t2,t3,t4,t5,t6⟩:=HF.o.tc
  obtain⟨⟨dd0,kk0⟩,⟨dd1,kk1⟩,⟨dd2,kk2⟩,⟨dd3,kk3⟩,⟨dd4,kk4⟩,⟨dd5,kk5⟩,⟨dd6,kk6⟩,ff0,ff1,ff2,ff3,ff4,ff5,ff6⟩:=pR HF.o.r
  go_wp2
  refine bodyPost_ret (aF results111 _ _ _ (w.heap.size+3) rfl _ (iE (fe HF.o.r _ _ _ _ _ _ _))) rfl ?_
  exact hq):p:=h k
theorem agv{p:Prop}(h:p:=by
  refine agu ?_
  exact⟨⟨_,_,_,_,_,_,_⟩,_,rfl,by rw[HS.o];first|exact wB|exact Fe,Vh HF.o.g agE⟩):p:=h
theorem Vw(d)(now)(old)(x s:RE)(dI bW aO)(w)(hx:0<=x.ae/\x.ae<64)(hs:0<=s.ae/\s.ae<64)(Yo:In64 x.aC)(Yp:In64 s.aC)(aH:In64 x.bI)(au:In64 s.bI)(dA:In64 now)(al:old.In):
  Calls prog 111 #[d,ι now,.agg old.cells.toArray,.agg x.arr,.agg s.arr,ι dI,ι bW,ι aO] w λe w'=>∃t c,e=.returned (.tuple #[.agg t.cells.toArray,ι c])/\Cw (fresh now old x.be s.be dI bW aO) t c/\w.grownBy w' none:=by
 obtain⟨R,hR⟩:=aq (fresh now old x.be s.be dI bW aO)
 rw[hR]
 have f:=hid hR
 clear hR
 have F7:FW w (((((w.alloc (.cells old.cells.toArray 43)).alloc (.cells x.arr 166)).alloc (.cells s.arr 166)).alloc (.cells #[ι 0,υ 0,.string ⟨#[]⟩,ι 0,ι 0,ι 0,ι 0] 43)).alloc (.cells old.cells.toArray 43)) old x s old.ae old.start old.fin old.aC:=by
  exact⟨Kh,Kh,Kh,Kh,Kh,Kh,Kh⟩
 rw[TK.oL old]at F7⊢
 obtain⟨W0,Q⟩:=aw (((((w.alloc (.cells #[ι old.ae,υ old.aN.toNat,.string old.ay,ι old.dV,ι old.start,ι old.fin,ι old.aC] 43)).alloc (.cells x.arr 166)).alloc (.cells s.arr 166)).alloc (.cells #[ι 0,υ 0,.string ⟨#[]⟩,ι 0,ι 0,ι 0,ι 0] 43)).alloc (.cells #[ι old.ae,υ old.aN.toNat,.string old.ay,ι old.dV,ι old.start,ι old.fin,ι old.aC] 43))
 rw[<-Q]at F7
 have aj:=hid Q
 have HF:=hid F7
 obtain⟨n0,n1,n2,n3,n4⟩:=al
 clear F7 Q
 have Zz:=hid (λW=>eO aO 32 5 W agF agF)
 have Wq:=hid (λW=>eO aO 16 4 W agF agF)
 obtain⟨b5,h5⟩:=aq (aI aO 32)
 obtain⟨b4,h4⟩:=aq (aI aO 16)
 have X:=hid h5
 have H4:=hid h4
 rw[h5]at Zz
 rw[h4]at Wq
 clear h5 h4
 obtain⟨G,H,F,C⟩:=HF.o.oc
 go_enter func111,ntmps111
 go_wp2_with (first|(rw[<-aj.o];fail_if_success done)|fail)
 refine(Zz.o _).mono ?_
 rintro e w' ⟨rfl,rfl⟩
 clear aj Zz
 cases b5 with
 |true=>
  by_cases af:now<old.start
  ·have HS:Hid (R=.error 33):=(by show _=_;rw[<-f.o,ZK X.o af]);clear f;exact agv
  ·have HS:Hid (R=.ok {old with ae:=if aI old.ae 16=true then old.ae-16 else old.ae}):=(by show _=_;rw[<-f.o,ZL X.o af]);have HA:=hid (zI old.ae n0);rw[<-HA.o]at HS;clear f HA;obtain⟨nf,aA⟩:=aq (bits .andNot .i64 old.ae 16);rw[aA]at HS;have Wp:=HF.o.lt.frozen 0;have a:=hid (HF.o.Bz nf);obtain⟨t0,t1,t2,t3,t4,t5,t6⟩:=HF.o.tc;obtain⟨⟨dd0,kk0⟩,⟨dd1,kk1⟩,⟨dd2,kk2⟩,⟨dd3,kk3⟩,⟨dd4,kk4⟩,⟨dd5,kk5⟩,⟨dd6,kk6⟩,ff0,ff1,ff2,ff3,ff4,ff5,ff6⟩:=pR HF.o.r;go_wp2;refine bodyPost_ret (aF results111 _ _ _ (w.heap.size+3) rfl _ (iE (fe a.o.r _ _ _ _ _ _ _))) rfl ?_;exact⟨⟨nf,old.aN,old.ay,old.dV,old.start,old.fin,old.aC⟩,0,rfl,by rw[HS.o];exact Fe,(by grind [az,FW.g,RowKit.Hid.o])⟩
 |false=>
  have z4:=HF.o.tc.2.2.2.2.1;have av:=HF.o.lt.frozen 4;have a:=hid (HF.o.setSt now);obtain⟨W2,O⟩:=aw (w'.setCell (w.heap.size+4,4) (ι now));rw[<-O]at a;have aa:=hid O;clear O HF G H F C;have HF:=a;clear a;go_wp2_with (first|(rw[<-aa.o];fail_if_success done)|fail)
  refine(Wq.o _).mono ?_;rintro e ai ⟨rfl,rfl⟩;clear aa Wq z4 av;obtain⟨G,H,F,C⟩:=HF.o.oc;cases b4 with
  |true=>
   by_cases ak:old.aC<=now
   ·have HS:Hid (R=.error 32):=(by show _=_;rw[<-f.o,ZM X.o H4.o ak]);clear f;refine agu ?_;exact⟨⟨old.ae,old.aN,old.ay,old.dV,now,old.fin,old.aC⟩,32,rfl,by rw[HS.o];exact wB,Vh HF.o.g agE⟩
   ·have l:=hid (λW=>AV old.fin old.start W n3 n2);obtain⟨A,E⟩:=aq (fV old.fin old.start);have iA:In64 A:=(by rw[<-E];exact Az _);rw[E]at l;have b:=hid (λW=>mr now A W dA iA);obtain⟨B,M⟩:=aq (aW now A);rw[M]at b;have n:=hid (λW=>ky old.aC B W);obtain⟨D,j⟩:=aq (lesser old.aC B);rw[j]at n;have HS:Hid (R=.ok {old with start:=now,fin:=D}):=(by show _=_;rw[<-f.o,ZN X.o H4.o ak,E,M,j]);clear f E M j iA;have z5:=HF.o.tc.2.2.2.2.2.1;have I:=HF.o.lt.frozen 5;go_wp2_with fail;go_region_held3 (λw'=>w'.cell? ⟨w.heap.size,0,none⟩=some (ι old.ae)/\w'.cell? ⟨w.heap.size,4,none⟩=some (ι old.start)/\w'.cell? ⟨w.heap.size,5,none⟩=some (ι old.fin)/\w'.cell? ⟨w.heap.size,6,none⟩=some (ι old.aC)) (first|(with_reducible exact FW.oc HF.o)|(with_reducible exact FW.oc HF.o.drew)|(with_reducible exact FW.oc (HF.o.xS _))|(with_reducible exact FW.oc (HF.o.xS _).drew)|go_keep) (first|(go_at_call 147;(with_reducible refine Calls.mono (l.o _) ?_);rintro e w' ⟨rfl,rfl⟩)|(go_at_call 103;(with_reducible refine Calls.mono (b.o _) ?_);rintro e w' ⟨rfl,rfl⟩)|(go_at_call 104;(with_reducible refine Calls.mono (n.o _) ?_);rintro e w' ⟨rfl,rfl⟩));have a:=hid (HF.o.xS D).drew;obtain⟨W3,i⟩:=aq ((ai.setCell ⟨w.heap.size+4,5,none⟩ (ι D)).drew);rw[i]at a⊢;clear i HF G H F C z5 I l b n;have HF:=a;clear a;exact agv
  |false=>
   have l:=hid (λW=>uN dI W);obtain⟨A,E⟩:=aq (asked dI);rw[E]at l;have b:=hid (λW=>ky A old.fin W);obtain⟨B,M⟩:=aq (lesser A old.fin);rw[M]at b;have n:=hid (λW=>mr now x.bI W dA aH);obtain⟨X1,hX⟩:=aq (aW now x.bI);rw[hX]at n;have C4:=hid (λW=>mr now s.bI W dA au);obtain⟨S1,hS⟩:=aq (aW now s.bI);rw[hS]at C4;have C5:=hid (λW=>ky X1 S1 W);obtain⟨E1,hE⟩:=aq (lesser X1 S1);rw[hE]at C5;have C6:=hid (λW=>ky B E1 W);obtain⟨D,j⟩:=aq (lesser B E1);rw[j]at C6;have u:Hid (iD now dI old x.be s.be=D):=by
    show _=_;rw[<-j,<-hE,<-M,<-E,<-hX,<-hS];rfl
   clear E M hX hS hE j;have z5:=HF.o.tc.2.2.2.2.2.1;have I:=HF.o.lt.frozen 5;obtain⟨y0,y1,y2⟩:=HF.o.sc;go_wp2_with fail;go_region_held3 (λw'=>w'.cell? ⟨w.heap.size,5,none⟩=some (ι old.fin)/\w'.cell? ⟨w.heap.size+1,3,none⟩=some (ι x.bI)/\w'.cell? ⟨w.heap.size+2,3,none⟩=some (ι s.bI)) (first|(with_reducible exact FW.sc HF.o)|(with_reducible exact FW.sc HF.o.drew)|(with_reducible exact FW.sc (HF.o.xS _))|(with_reducible exact FW.sc (HF.o.xS _).drew)|go_keep) (first|(go_at_call 105;(with_reducible refine Calls.mono (l.o _) ?_);rintro e w' ⟨rfl,rfl⟩)|(go_at_call 103;(first|(with_reducible refine Calls.mono (n.o _) ?_)|(with_reducible refine Calls.mono (C4.o _) ?_));rintro e w' ⟨rfl,rfl⟩)|(go_at_call 104;(first|(with_reducible refine Calls.mono (b.o _) ?_)|(with_reducible refine Calls.mono (C5.o _) ?_)|(with_reducible refine Calls.mono (C6.o _) ?_));rintro e w' ⟨rfl,rfl⟩));have a:=hid (HF.o.xS D).drew;obtain⟨W3,i⟩:=aq ((ai.setCell ⟨w.heap.size+4,5,none⟩ (ι D)).drew);rw[i]at a⊢;clear i HF G H F C z5 I y0 y1 y2 l b n C4 C5 C6;have HF:=a;clear a;by_cases j:D<=now
   ·have HS:Hid (R=.error 11):=(by show _=_;rw[<-f.o,ZO X.o H4.o (by rw[u.o];exact j)]);clear f;refine agu ?_;exact⟨⟨old.ae,old.aN,old.ay,old.dV,now,D,old.aC⟩,11,rfl,by rw[HS.o];exact wB,Vh HF.o.g agE⟩
   ·have HS:=hid (ZP (bW:=bW) X.o H4.o (show ¬ iD now dI old x.be s.be<=now by rw[u.o];exact j));rw[u.o,Rh]at HS;have q:=hid (λW=>eO aO 64 6 W agF agF);have N8:=hid (λW=>eO aO 128 7 W agF agF);obtain⟨L,h6⟩:=aq (aI aO 64);obtain⟨b7,h7⟩:=aq (aI aO 128);rw[h6]at q;rw[h7]at N8;rw[h6,h7]at HS;obtain⟨fa,ar⟩:=aq (aI old.ae 64);obtain⟨Y,Ud⟩:=aq (aI old.ae 128);obtain⟨T,ah⟩:=aq (aI old.ae 256);have hk:=ac8 old.ae;rw[ar,Ud,ah]at hk HS;have J:=hid (ac9 fa (Y||L) (T||b7));obtain⟨kf,p⟩:=aq (uZ fa Y T);obtain⟨Z,m⟩:=aq (uZ fa (Y||L) T);obtain⟨k,v⟩:=aq (uZ fa (Y||L) (T||b7));rw[p]at hk;rw[v]at HS J;have aE:Hid (L=false->Z=kf):=λh=>by rw[<-m,<-p,h,Bool.or_false]
    have Eo:Hid (L=true->bits .or .i64 kf 128=Z):=λh=>by rw[<-p,<-m,h,Bool.or_true];exact ZI fa Y T
    have aJ:Hid (b7=false->k=Z):=λh=>by rw[<-m,<-v,h,Bool.or_false]
    have ab:Hid (b7=true->bits .or .i64 Z 256=k):=λh=>by rw[<-m,<-v,h,Bool.or_true];exact ZJ fa (Y||L) T
    clear h6 h7 ar Ud ah u p m v;have l:=hid (λW=>uN bW W);obtain⟨A2,ad⟩:=aq (asked bW);rw[ad]at l HS;have b:=hid (λW=>ky A2 old.aC W);obtain⟨U,hU⟩:=aq (lesser A2 old.aC);rw[hU]at b HS;obtain⟨MF,N⟩:=aq (gY aO old.ae x.be s.be);obtain⟨MR,P⟩:=aq (fu aO old.ae x.be s.be now U);have n:Hid (∀W,Calls prog 106 #[.agg #[ι k,υ old.aN.toNat,.string old.ay,ι old.dV,ι now,ι D,ι 0],ι aO,ι old.ae,.agg x.arr,.agg s.arr,ι U] W λe w'=>e=.returned (.agg #[ι (k+MF),υ old.aN.toNat,.string old.ay,ι old.dV,ι now,ι D,ι MR])/\W.grownBy w' none):=by
     intro W;have h:=NL ⟨k,old.aN,old.ay,old.dV,now,D,0⟩ aO old.ae U x s W hx hs Yo Yp dA J.o.1 J.o.2;dsimp only at h;rw[Ku,N,P]at h;exact h
    rw[N,P]at HS;clear ad hU N P;obtain⟨G,H,F,C⟩:=HF.o.oc;obtain⟨t0,t1,t2,t3,t4,t5,t6⟩:=HF.o.tc;have Wp:=HF.o.lt.frozen 0;have aK:=j;go_upto_if 81 with(go_at_call 102;(first|(with_reducible refine Calls.mono (q.o _) ?_)|(with_reducible refine Calls.mono (N8.o _) ?_));rintro e w' ⟨rfl,rfl⟩)
    go_cut [] (λwx=>FW w wx old x s Z now D old.aC)
    case first=>
     cases L with
     |false=>
      go_wp2;go_meet;grind [FW.Bz,RowKit.Hid.o]
     |true=>
      have e1:=Eo.o rfl;go_wp2;go_meet
      case rel=>exact(HF.o.Bz kf).Bz Z
    case rest=>
     have a:=hid hcut;clear hcut HF G H F C t0 t1 t2 t3 t4 t5 t6 Wp hk aE Eo;have t0:=a.o.tc.1;have Wp:=a.o.lt.frozen 0;go_upto_if 87 with(go_at_call 102;(first|(with_reducible refine Calls.mono (q.o _) ?_)|(with_reducible refine Calls.mono (N8.o _) ?_));rintro e w' ⟨rfl,rfl⟩)
     go_cut [] (λwx=>FW w wx old x s k now D old.aC)
     case first=>
      cases b7 with
      |false=>
       go_wp2;exact ab8
      |true=>
       have e1:=ab.o rfl;go_wp2;go_meet
       case rel=>exact a.o.Bz k
     case rest=>
      have y:=hid hcut;clear hcut a t0 Wp aJ ab;have t6:=y.o.tc.2.2.2.2.2.2;have aG:=y.o.lt.frozen 6;go_upto_region 22 with fail
      refine agt (λV=>FW w V old x s k now D 0) (y.o.ajy 0) ?_;intro W4 an;have ag:=hid an;clear an y t6 aG;go_wp2_with fail;refine aD.start (S:=λV=>FW w V old x s k now D 0) 12 agP ?_;have dY:=hid ag.o.drew;refine aD.tk 0 [11,0] ?_ (hy:=by intro W hW;obtain⟨t0,t1,t2,t3,t4,t5,t6⟩:=hW.tc;exact kI);refine aD.tk 1 [11,1] ?_;refine aD.tk 2 [11,3,2] ?_;refine aD.tk 3 [11,3] ?_ (hy:=by intro W hW;obtain⟨G,H,F,C⟩:=hW.oc;exact kI);refine aD.tk 4 [11,4] ?_ (hy:=by intro W hW;obtain⟨e0,e1,e2,e3,e4,e5,e6,e7,e8,e9⟩:=eu hW.x;exact kI);refine aD.tk 5 [11,5] ?_ (hy:=by intro W hW;obtain⟨e0,e1,e2,e3,e4,e5,e6,e7,e8,e9⟩:=eu hW.s;exact kI);refine aD.tk 6 [11,10,7,6] ?_;refine aD.tk 8 [11,10,9,8] ?_;refine aD.tk 9 [11,10,9] ?_ (hy:=by intro W hW;obtain⟨G,H,F,C⟩:=hW.oc;exact kI);refine aD.on 7 ?_;intro K hK;refine Calls.mono (l.o _) ?_;rintro e w' ⟨rfl,rfl⟩;go_wp2_with fail;refine hkr ?_;clear hK K l;refine aD.on 10 ?_;intro K hK;refine Calls.mono (b.o _) ?_;rintro e w' ⟨rfl,rfl⟩;go_wp2_with fail;refine hkr ?_;clear hK K b;refine aD.on 11 ?_;intro K hK;refine Calls.mono (n.o _) ?_;rintro e w5 ⟨rfl,g5⟩;have z:=hid (dY.o.grown g5);clear g5;go_wp2_with fail;refine hkx z.o ?_;clear hK K n;obtain⟨⟨e0,j0⟩,⟨e1,j1⟩,⟨e2,j2⟩,⟨e3,j3⟩,⟨e4,j4⟩,⟨e5,j5⟩,⟨e6,j6⟩,l0,l1,l2,l3,l4,l5,l6⟩:=pR z.o.lt;refine aD.on 12 ?_;intro K hK;refine hK.out _ _ (.inl agP) ?_;clear hK K;refine aD.EX (λV=>FW w V old x s (k+MF) now D MR) agP (z.o.Q7 (k+MF) now D MR) ?_;clear e0 e1 e2 e3 e4 e5 e6 j0 j1 j2 j3 j4 j5 j6 l0 l1 l2 l3 l4 l5 l6 z dY ag q N8;intro W6 ao;have HF:=hid ao;clear ao;have ax:=HS;clear HS;have HS:Hid (R=_):=f.o.symm.trans ax.o;exact agv
end Go.Proofs.YtlfifnpjeangmaaGreatDoor
