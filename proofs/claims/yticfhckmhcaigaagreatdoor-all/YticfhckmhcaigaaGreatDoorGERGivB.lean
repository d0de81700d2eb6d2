import Derived.Test.YticfhckmhcaigaaGreatDoorGERPieF
import Derived.Test.YticfhckmhcaigaaGreatDoorGERHeld
namespace Go.Proofs.YticfhckmhcaigaaGreatDoor
open Go.RowKit
set_option maxRecDepth 100000
variable {E T:Nat}{t:TK}{d:UInt64}{W:World}
theorem Kv(b d a)(x)(f)(v)(w)(g:1<=x)(i:x<=5)(n:x=d.toNat)(m:f.length<=1000)(h:gQ w v f):Calls Tryz.prog 45 #[O (b.toNat:Int),Y x,O (a.toNat:Int),v] w λe j=>∃o,e=.returned o/\gQ j o (Pure.eB b d a f)/\w.grownBy j none:=by
 obtain⟨j,e,rfl,o,p,k,l⟩:=h
 refine(nH b d a x f f.length j e w ⟨g,i⟩ (I n) (I rfl) m k l).mono ?_
 grind [gQ.own,Pure.bR]
theorem Qa(v)(w):Calls Tryz.prog 82 #[O (v.toNat:Int)] w λe a=>∃o,e=.returned o/\gQ a o (Pure.be v 8)/\w.grownBy a none:=by
 refine(oM v w).mono ?_;grind [gQ.own,Pure.dB]
structure TE(W:World)(T E:Nat)(t:TK)(d:UInt64)(s:RE):Prop where
 t:W.rangeAt T 0 [Y t.ae,O (d.toNat:Int),.string ⟨t.az.toArray⟩,Y t.dY,Y t.start,Y t.fin,Y t.aD]
 e:W.rangeAt E 0 s.cells
theorem TE.grown{a:World}{s:RE}(h:TE W T E t d s)(k:W.grownBy a none):TE a T E t d s:=⟨aA h.t k,aA h.e k⟩
theorem TE.drew{s:RE}(h:TE W T E t d s):TE W.drew T E t d s:=h.grown (bg (cC _ _))
theorem TE.alloc{s:RE}(h:TE W T E t d s)(o):TE (W.alloc o) T E t d s:=h.grown (cy _ _ _)
theorem TE.s4{s:RE}(h:TE W T E t d s):W.cell? (F T 0)=some (Y t.ae)/\W.cell? (F T 1)=some (O (d.toNat:Int))/\W.cell? (F T 2)=some (.string ⟨t.az.toArray⟩)/\W.cell? (F T 3)=some (Y t.dY)/\W.cell? (F T 4)=some (Y t.start)/\W.cell? (F T 5)=some (Y t.fin)/\W.cell? (F T 6)=some (Y t.aD):=
 ⟨h.t 0 _ rfl,h.t 1 _ rfl,h.t 2 _ rfl,h.t 3 _ rfl,h.t 4 _ rfl,h.t 5 _ rfl,h.t 6 _ rfl⟩
theorem TE.s5{s:RE}(h:TE W T E t d s):W.cell? (F E 1)=some (.string ⟨s.name.toArray⟩)/\W.cell? (F E 7)=some (Y s.aH)/\W.cell? (F E 8)=some (O (s.key.toNat:Int)):=
 ⟨h.e 1 _ rfl,h.e 7 _ rfl,h.e 8 _ rfl⟩
theorem TE.s6{s:RE}(h:TE W T E t d s):W.cell? (F T 0)=some (Y t.ae)/\W.cell? (F T 1)=some (O (d.toNat:Int))/\W.cell? (F T 3)=some (Y t.dY)/\W.cell? (F T 4)=some (Y t.start)/\W.cell? (F T 5)=some (Y t.fin)/\W.cell? (F T 6)=some (Y t.aD)/\W.cell? (F E 1)=some (.string ⟨s.name.toArray⟩):=
 ⟨h.t 0 _ rfl,h.t 1 _ rfl,h.t 3 _ rfl,h.t 4 _ rfl,h.t 5 _ rfl,h.t 6 _ rfl,h.e 1 _ rfl⟩
theorem rP{w d:World}{b r:Nat}{o:Nat}{a:List Value}(h:w.rangeAt b o a)(k:w.grownBy d (some r))(f:b≠r):d.rangeAt b o a:=λi v e=>k.cell (h i v e) dT
theorem iH{a b c:World}{r:Nat}(h:a.grownBy b (some r))(k:b.grownBy c (some r)):a.grownBy c (some r):=
 ⟨k.os.trans h.os,k.tape.trans h.tape,k.output.trans h.output,cE h.size k.size,λi d e=>(k.block i (fW d h.size) e).trans (h.block i d e)⟩
theorem mK{a b:World}(h:a.grownBy b none)(r):a.grownBy b (some r):=⟨h.os,h.tape,h.output,h.size,n9⟩
theorem lF.ab7{W:World}{B:Nat}{L:List (Value×LU)}(h:lF W B L)(b)(n)(a:b=(L.reverse.map λx=>x.1).toArray)(hn:L.reverse.length=n)(k:n<=1000)(l:n*B<=140737488351232):Calls Tryz.prog 60 #[ς W.1.size 0 n n] (W.alloc (.cells b 37)) λe d=>∃(o:Value) (z:LU),e=.returned o/\d.ownsRow W.1.size 5 1 o z.length (z.map U8)/\0<z.length/\z.length<=n*B+4/\W.grownBy d none:=by
 have f:(qG L.reverse).length<=n*B:=Ax
 refine(zM L.reverse b n W (λx hx=>(h x (List.mem_reverse.1 hx)).1) a hn k G).mono ?_
 rintro e d ⟨o,g,i,j⟩
 refine⟨o,_,g,i,?_,cE (pM 48 _) (Nat.add_le_add_right f 4),j⟩
 show 0<(Box.box 48 _).length
 grind [Box.lJ]
set_option maxHeartbeats 1000000
variable {z:LU}{n:Nat}{w:World}
def mB(n:Nat)(w:World)(o:Value)(z:LU):Prop:=w.ownsRow n 5 1 o z.length (z.map U8)
theorem mB.has{o:Value}(h:mB n w o z):gQ w o z:=gQ.own h
theorem mB.base{m:Nat}{o:Value}(h:mB n w o z)(a:m<=n):mB m w o z:=dw h a
theorem mB.grown{a:World}{o:Value}(h:mB n w o z)(k:w.grownBy a none):mB n a o z:=World.ownsRow.kept h k (fm _)
theorem lF.agY{W:World}{B:Nat}{L:List (Value×LU)}(h:lF W B L)(b)(n)(a:b=(L.reverse.map λx=>x.1).toArray)(hn:L.reverse.length=n)(d:n<=1000)(f:n*B<=140737488351232):Calls Tryz.prog 60 #[ς W.1.size 0 n n] (W.alloc (.cells b 37)) λe w'=>∃o,e=.returned o/\mB W.1.size w' o (jW (L.reverse.map λx=>x.2))/\(jW (L.reverse.map λx=>x.2)).length<=n*B+4/\W.grownBy w' none:=by
 have hc:(qG L.reverse).length<=n*B:=Ax
 refine(zM L.reverse b n W (λx hx=>(h x (List.mem_reverse.1 hx)).1) a hn d G).mono ?_
 exact E6
theorem zO(b a)(w)(m:bT b)(n:bT a):Calls Tryz.prog 67 #[Y b,Y a] w λe d=>∃o,e=.returned o/\mB w.1.size d o (aY b a)/\w.grownBy d none:=by
 have h:bT 30:=⟨by decide,by decide⟩
 go_enter Tryz.func67,Tryz.ntmps67
 go_wp2_with fail
 refine(bS 30 _ h).mono ?_
 rintro e A ⟨v,rfl,f,d⟩
 obtain⟨o,r,rfl⟩:=f.shape
 have i:=I ((lF.nil w 100).push d f (kE _ _ H))
 clear f
 go_wp2_with fail
 refine(bS b _ m).mono ?_
 rintro e B ⟨x,rfl,g,f⟩
 obtain⟨p,t,rfl⟩:=g.shape
 have j:=I (i.push f g (kE _ _ H))
 clear g i
 go_wp2_with fail
 refine(bS a _ n).mono ?_
 rintro e w3 ⟨y,rfl,i,g⟩
 obtain⟨q,u,rfl⟩:=i.shape
 have l:=I (j.push g i (kE _ _ H))
 have k:=I (aa (aa d f) g)
 clear i j d f g
 go_wp2_with fail
 refine(l.agY _ 3 rfl rfl H H).mono ?_
 rintro e j ⟨i,rfl,g,_,f⟩
 have d:=I (cZ (g.base k.size) (aa k f))
 clear g f
 go_wp2
 go_ret
 exact⟨_,rfl,d.1,d.2⟩
set_option maxHeartbeats 8000000
theorem sX{p:Prop}(h:p:=by rw[Pure.bR];omega):p:=h
theorem zb{p:Prop}(h:p:=by rw[Pure.dB];decide):p:=h
theorem AG{p:Prop}(h:p:=by
 exact⟨cur,e,n9,h2⟩):p:=h
theorem ab8{w a:World}{b n r:Nat}(h:b9 w b n)(k:w.grownBy a (some r))(g:b≠r):b9 a b n:=by
 obtain⟨cur,e,d,h2⟩:=h;have f:b<w.1.size:=by
  grind
 exact AG
theorem TE.s7{W:World}{T E:Nat}{t:TK}{d:UInt64}{s:RE}(h:TE W T E t d s):W.cell? (F T 2)=some (.string ⟨t.az.toArray⟩):=h.t 2 _ rfl
theorem Sh{w:World}{b:Nat}{e u f g i k l:Value}(h:w.rangeAt b 0 [e,u,f,g,i,k,l])(d):(w.setCell (F b 1) d).rangeAt b 0 [e,d,f,g,i,k,l]:=by
 intro j x o;by_cases n:j=1
 .subst n;have m:d=x:=by simpa using o
  subst m;exact World.cell?_setCell_same _ _ _ (h 1 u rfl)
 .have a:[e,u,f,g,i,k,l][j]?=some x:=by
   grind
  rw[j9 _ _ _ _ dT];exact h j x a
theorem Qb(l B)(M)(g)(p bW aH)(t:TK)(s:RE)(Q R)(x)(w)(j:RD w l B M g)(K:24<=M.aL.length)(n:M.aL.length<=140737488355328)(C:l<=w.1.size)(al:1<=x)(an:x<=5)(a:x=R.toNat)(i0:bT p)(i1:bT bW)(i2:bT aH)(i3:bT s.aH)(ak:t.In)(ao:t.az.length<=90)(av:s.name.length<=90):Calls Tryz.prog 107 #[N B 0,Y p,.agg t.cells.toArray,.agg s.arr,Y bW,Y aH,O (Q.toNat:Int),Y x] w λe w'=>
   ∃o,e=.returned o/\mB w.1.size w' o (mg p {t with aO:=eP M.aL 0} s.be bW aH Q R (eP M.aL 1) (eP M.aL 2))/\(∃v,RD w' l B {M with aL:=M.aL.drop 24} {g with dv:=v}/\lE w.1.size v)/\w.grownBy w' (some B):=by
 obtain⟨n0,n1,n2,n3,n4⟩:=ak
 have HU:=I a
 clear a
 have ax:=j.bU.blk.lt
 obtain⟨y,d⟩:=aq (eP M.aL 0)
 obtain⟨d1,f⟩:=aq (eP M.aL 1)
 obtain⟨d2,i⟩:=aq (eP M.aL 2)
 have a:=aM (cy w (.cells t.cells.toArray 43) none) (.cells s.arr 166)
 have m:((w.alloc (.cells t.cells.toArray 43)).alloc (.cells s.arr 166)).rangeAt w.1.size 0 t.cells:=aA (aS w t.cells.toArray _) (cy _ _ _)
 have RE:((w.alloc (.cells t.cells.toArray 43)).alloc (.cells s.arr 166)).rangeAt (w.1.size+1) 0 s.cells:=by
  have h:=xC (w.alloc (.cells t.cells.toArray 43)) s;rw[cG]at h;exact h
 have LT:b9 ((w.alloc (.cells t.cells.toArray 43)).alloc (.cells s.arr 166)) w.1.size 7:=(b9.new w t.cells.toArray 43).grown (cy _ _ _)
 have k:=j.keep (λb A=>a.block b (j.lt b A).2 Z)
 have o:=I (Ci l B M g _ k G n (cE C a.size))
 have q:=I (λ(v:Value) (W:World) (r:RD W l B {M with aL:=M.aL.drop 8} {g with dv:=v}) (A:l<=W.1.size)=>Ci l B {M with aL:=M.aL.drop 8} {g with dv:=v} W r dT dT A)
 have J:=I (λ(v:Value) (W:World) (r:RD W l B {M with aL:=(M.aL.drop 8).drop 8} {g with dv:=v}) (A:l<=W.1.size)=>Ci l B {M with aL:=(M.aL.drop 8).drop 8} {g with dv:=v} W r dT dT A)
 have r:Pure.joinL 0 (M.aL.take 8)=y:=by rw[<-d];rfl
 have u:Pure.joinL 0 ((M.aL.drop 8).take 8)=d1:=by rw[<-f];rfl
 have D:Pure.joinL 0 (((M.aL.drop 8).drop 8).take 8)=d2:=by rw[<-i,List.drop_drop];rfl
 rw[r]at o
 simp only[u]at q
 simp only[D]at J
 rw[d,f,i]
 have L:=I j
 have U:=I (cZ a (cZ m (cZ RE LT)))
 clear d f i r u D j k a m RE LT K n
 rw[TK.pK t]at o U⊢
 go_enter Tryz.func107,Tryz.ntmps107
 go_wp2_with fail
 refine o.mono ?_
 rintro e S ⟨rfl,v1,V,k,f⟩
 obtain⟨a,m,RE,LT⟩:=U.o
 have D:w.1.size≠B:=G
 have P:w.1.size+1≠B:=G
 have T:=rP m k D
 have X:=rP RE k P
 have L1:=ab8 LT k D
 have k1:S.c w.1.size 1=some (O (t.aO.toNat:Int)):=T 1 _ rfl
 have f1:=L1.frozen 1
 have F1:∀b,({g with dv:=v1}:RG).foot B b->b≠w.1.size:=by
  rintro b (e|e|e|e) A
  .omega
  .have:=(L.o.lt b (.inr (.inl e))).2;omega
  .have:=(L.o.lt b (.inr (.inr (.inl e)))).2;omega
  .have d:=f b e;grind [cG]
 have K:∀u,RD (S.setCell (F w.1.size 1) u) l B {M with aL:=M.aL.drop 8} {g with dv:=v1}:=λu=>V.keep (λb A=>by
  have:=F1 b A
  simp[World.setCell,Array.getElem?_modify,Ne.symm this])
 have i:(S.setCell (F w.1.size 1) (O (y.toNat:Int))).1.size=S.1.size:=by simp[World.setCell]
 have b1:l<=(S.setCell (F w.1.size 1) (O (y.toNat:Int))).1.size:=by rw[i];exact cE C (cE a.size k.size)
 have u:=I (q v1 _ dT b1)
 have n:Hid ((S.setCell (F w.1.size 1) (O (y.toNat:Int))).rangeAt w.1.size 0 [Y t.ae,O (y.toNat:Int),.string ⟨t.az.toArray⟩,Y t.dY,Y t.start,Y t.fin,Y t.aD]/\(S.setCell (F w.1.size 1) (O (y.toNat:Int))).rangeAt (w.1.size+1) 0 s.cells):=⟨Sh T _,λj v d=>by
  rw[World.cell?_setCell_far _ _ _ _ (show w.1.size≠w.1.size+1 by omega)]
  exact X j v d⟩
 have r:Hid (w.grownBy (S.setCell (F w.1.size 1) (O (y.toNat:Int))) (some B)):=by
  have h:=iH (mK a B) k
  exact⟨h.os,h.tape,h.output,by rw[i];exact h.size,λb A d=>by
   rw[show(S.setCell (F w.1.size 1) (O (y.toNat:Int))).1[b]?=S.1[b]? from by simp[World.setCell,Array.getElem?_modify,show w.1.size≠b by omega]]
   exact h.block b A d⟩
 obtain⟨W1,d⟩:=aq (S.setCell (F w.1.size 1) (O (y.toNat:Int)))
 rw[d]at u n r
 have j:=I d
 have Lx:Hid (lE w.1.size v1):=λb A=>by have:=f b A;have:=a.size;omega
 clear o q V K k f T X L1 F1 i b1 d a m RE LT U
 go_wp2_with (first|(rw[j];fail_if_success done)|(go_at_call 144;refine u.mono ?_))
 clear j k1 f1
 rintro e w2 ⟨rfl,v2,j,f,i⟩
 have q:=I (J v2 _ j (cE C (cE r.size f.size)))
 have d:=I (cZ (rP n.1 f D) (rP n.2 f P))
 have a:=I (iH r f)
 clear u J j f i n r
 go_wp2_with fail
 refine q.mono ?_
 rintro e w3 ⟨rfl,v3,v,u,r⟩
 have f:Hid (TE w3.drew w.1.size (w.1.size+1) t y s):=(TE.mk (rP d.1 u D) (rP d.2 u P)).drew
 have lh:=I (iH a u)
 have ab:=I v
 have Tf:Hid (lE w.1.size v3):=λb A=>cE a.size (r b A)
 have i:Hid (w3.grownBy w3.drew none):=bg (cC _ _)
 obtain⟨V,n⟩:=aq (TK.plain {t with aO:=y})
 obtain⟨TB,j⟩:=aq (jW [dC s.name,bV s.aH,dC (Pure.eB s.key 2 d1 V)])
 obtain⟨X,o⟩:=aq (oV {t with aO:=y} bW s.be)
 obtain⟨IN,m⟩:=aq (jW [bV aH,dC (Pure.eB Q R d2 X)])
 obtain⟨GB,k⟩:=aq (jW [bV p,dC t.az,TB,IN])
 have XY:=I n
 have NZ:=I j
 have af:=I o
 have ae:=I m
 have ad:=I k
 have ag:Hid (mg p {t with aO:=y} s.be bW aH Q R d1 d2=GB):=by
  show _=_;rw[<-k,<-m,<-o,<-j,<-n];rfl
 clear n j o m k
 have k:=I (lF.nil w3.drew 100)
 have j:=I (lF.nil w3.drew 100000)
 clear q v u r d a L Lx
 obtain⟨s0,s1,s2,s3,s4,s5,s6⟩:=(f).s4
 go_wp2_with fail
 go_region_held3 (λw'=>w'.c w.1.size 0=some (Y t.ae)/\w'.c w.1.size 1=some (O (y.toNat:Int))/\w'.c w.1.size 2=some (.string ⟨t.az.toArray⟩)/\w'.c w.1.size 3=some (Y t.dY)/\w'.c w.1.size 4=some (Y t.start)/\w'.c w.1.size 5=some (Y t.fin)/\w'.c w.1.size 6=some (Y t.aD)) (first|(with_reducible exact TE.s4 f.o)|(with_reducible exact TE.s4 f.o.drew)|(with_reducible exact TE.s4 (f.o.alloc _))|(with_reducible exact TE.s4 (f.o.drew.alloc _))|go_keep) (first|(go_at_call 62;refine(bS _ _ (by assumption)).mono ?_;rintro e m ⟨n,rfl,d,a⟩;obtain⟨q,r,rfl⟩:=d.shape;replace k:=I (k.push a d (kE _ _ H));replace f:=I (f.grown a);replace j:=I (j.grown a);replace i:=I (aa i a);clear d a)|(go_at_call 82;refine(Qa _ _).mono ?_;rintro e m ⟨n,rfl,d,a⟩;obtain⟨q,r,rfl⟩:=d.shape;have K:=I (d);replace k:=I (k.grown a);replace f:=I (f.grown a);replace j:=I (j.grown a);replace i:=I (aa i a);clear d a)|(go_at_call 63;refine(mo _ _ _ K zb).mono ?_;rintro e m ⟨n,rfl,d,a⟩;obtain⟨q,r,rfl⟩:=d.shape;replace k:=I (k.push a d (Ku y _ H));replace f:=I (f.grown a);replace j:=I (j.grown a);replace i:=I (aa i a);clear K d a)|(go_at_call 61;refine(kY _ _ G).mono ?_;rintro e m ⟨n,rfl,d,a⟩;obtain⟨q,r,rfl⟩:=d.shape;replace k:=I (k.push a d (fP _ _ G));replace f:=I (f.grown a);replace j:=I (j.grown a);replace i:=I (aa i a);clear d a)|(go_at_call 60;refine(k.list _ 7 rfl rfl H H).mono ?_;rintro e m ⟨n,rfl,d,J,a⟩;have o:gQ m n V:=(by rw[<-XY];exact d);have v:V.length<=704:=(by rw[<-XY];exact J);clear d J;obtain⟨aP,cP,rfl⟩:=o.shape;replace j:=I (j.push a o (cE v H));have ah:=I (v);replace f:=I (f.grown a);replace i:=I (aa i a);clear k o v a))
 clear s0 s1 s2 s3 s4 s5 s6
 have ar:=ah.o
 have U:=I f.drew
 have T:=I (bg i)
 have u:=I (j.grown (bg (cC m none)))
 have k:=I (lF.nil m.drew 2000)
 clear f i j
 have f:=U
 have i:=T
 have j:=u
 clear U T u
 obtain⟨s0,s1,s2⟩:=f.s5
 go_wp2_with fail
 go_region_held3 (λw'=>w'.c (w.1.size+1) 1=some (.string ⟨s.name.toArray⟩)/\w'.c (w.1.size+1) 7=some (Y s.aH)/\w'.c (w.1.size+1) 8=some (O (s.key.toNat:Int))) (first|(with_reducible exact TE.s5 f.o)|(with_reducible exact TE.s5 f.o.drew)|(with_reducible exact TE.s5 (f.o.alloc _))|(with_reducible exact TE.s5 (f.o.drew.alloc _))|go_keep) (first|(go_at_call 61;refine(kY _ _ G).mono ?_;rintro e m ⟨n,rfl,d,a⟩;obtain⟨q,r,rfl⟩:=d.shape;replace k:=I (k.push a d (fP _ _ G));replace f:=I (f.grown a);replace j:=I (j.grown a);replace i:=I (aa i a);clear d a)|(go_at_call 62;refine(bS _ _ (by assumption)).mono ?_;rintro e m ⟨n,rfl,d,a⟩;obtain⟨q,r,rfl⟩:=d.shape;replace k:=I (k.push a d (kE _ _ H));replace f:=I (f.grown a);replace j:=I (j.grown a);replace i:=I (aa i a);clear d a)|(go_at_call 45;refine(Kv s.key 2 d1 2 V _ _ H H rfl G (j (Value.slice aP V.length cP,V) Z).1).mono ?_;rintro e m ⟨n,rfl,d,a⟩;obtain⟨q,r,rfl⟩:=d.shape;have L:=I (d);replace k:=I (k.grown a);replace f:=I (f.grown a);replace j:=I (j.grown a);replace i:=I (aa i a);clear d a)|(go_at_call 63;refine(mo _ _ _ L sX).mono ?_;rintro e m ⟨n,rfl,d,a⟩;obtain⟨q,r,rfl⟩:=d.shape;replace k:=I (k.push a d (fP _ _ sX));replace f:=I (f.grown a);replace j:=I (j.grown a);replace i:=I (aa i a);clear L d a)|(go_at_call 60;refine(k.list _ 3 rfl rfl H H).mono ?_;rintro e m ⟨n,rfl,d,J,a⟩;have o:gQ m n TB:=(by rw[<-NZ];exact d);have v:TB.length<=6004:=(by rw[<-NZ];exact J);have aj:=I v;clear d J;obtain⟨aK,cK,rfl⟩:=o.shape;replace j:=I (j.push a o (cE v H));replace f:=I (f.grown a);replace i:=I (aa i a);clear k o v a))
 clear s0 s1 s2
 have U:=I f.drew
 have T:=I (bg i)
 have u:=I (j.grown (bg (cC m none)))
 have k:=I (lF.nil m.drew 100)
 clear f i j
 have f:=U
 have i:=T
 have j:=u
 clear U T u
 obtain⟨s0,s1,s2,s3,s4,s5,s6⟩:=f.s6
 go_wp2_with fail
 go_region_held3 (λw'=>w'.c w.1.size 0=some (Y t.ae)/\w'.c w.1.size 1=some (O (y.toNat:Int))/\w'.c w.1.size 3=some (Y t.dY)/\w'.c w.1.size 4=some (Y t.start)/\w'.c w.1.size 5=some (Y t.fin)/\w'.c w.1.size 6=some (Y t.aD)/\w'.c (w.1.size+1) 1=some (.string ⟨s.name.toArray⟩)) (first|(with_reducible exact TE.s6 f.o)|(with_reducible exact TE.s6 f.o.drew)|(with_reducible exact TE.s6 (f.o.alloc _))|(with_reducible exact TE.s6 (f.o.drew.alloc _))|go_keep) (first|(go_at_call 82;refine(Qa _ _).mono ?_;rintro e m ⟨n,rfl,d,a⟩;obtain⟨q,r,rfl⟩:=d.shape;have K:=I (d);replace k:=I (k.grown a);replace f:=I (f.grown a);replace j:=I (j.grown a);replace i:=I (aa i a);clear d a)|(go_at_call 63;refine(mo _ _ _ K zb).mono ?_;rintro e m ⟨n,rfl,d,a⟩;obtain⟨q,r,rfl⟩:=d.shape;replace k:=I (k.push a d (Ku y _ H));replace f:=I (f.grown a);replace j:=I (j.grown a);replace i:=I (aa i a);clear K d a)|(go_at_call 62;refine(bS _ _ (by assumption)).mono ?_;rintro e m ⟨n,rfl,d,a⟩;obtain⟨q,r,rfl⟩:=d.shape;replace k:=I (k.push a d (kE _ _ H));replace f:=I (f.grown a);replace j:=I (j.grown a);replace i:=I (aa i a);clear d a)|(go_at_call 61;refine(kY _ _ G).mono ?_;rintro e m ⟨n,rfl,d,a⟩;obtain⟨q,r,rfl⟩:=d.shape;replace k:=I (k.push a d (fP _ _ G));replace f:=I (f.grown a);replace j:=I (j.grown a);replace i:=I (aa i a);clear d a)|(go_at_call 60;refine(k.list _ 8 rfl rfl H H).mono ?_;rintro e m ⟨n,rfl,d,J,a⟩;have o:gQ m n X:=(by rw[<-af];exact d);have v:X.length<=804:=(by rw[<-af];exact J);clear d J;obtain⟨aQ,cQ,rfl⟩:=o.shape;replace j:=I (j.push a o (cE v H));have ai:=I (v);replace f:=I (f.grown a);replace i:=I (aa i a);clear k o v a))
 clear s0 s1 s2 s3 s4 s5 s6
 have au:=ai.o
 have U:=I f.drew
 have T:=I (bg i)
 have u:=I (j.grown (bg (cC m none)))
 have k:=I (lF.nil m.drew 10000)
 have HB:=I (lF.nil m.drew 2000)
 clear f i j
 have f:=U
 have i:=T
 have j:=u
 clear U T u
 have T:TB.length<=10000:=cE aj H
 have s0:=f.s7
 have u:=I (λW=>bS p W i0)
 go_wp2_with fail
 go_region_held3 (λw'=>w'.c w.1.size 2=some (.string ⟨t.az.toArray⟩)) (first|(with_reducible exact TE.s7 f.o)|(with_reducible exact TE.s7 f.o.drew)|(with_reducible exact TE.s7 (f.o.alloc _))|(with_reducible exact TE.s7 (f.o.drew.alloc _))|go_keep) (first|(go_at_call 62;refine(u _).mono ?_;clear u;rintro e m ⟨n,rfl,d,a⟩;obtain⟨q,r,rfl⟩:=d.shape;replace k:=I (k.push a d (kE _ _ H));replace HB:=I (HB.grown a);replace f:=I (f.grown a);replace j:=I (j.grown a);replace i:=I (aa i a);clear d a)|(go_at_call 61;refine(kY _ _ G).mono ?_;rintro e m ⟨n,rfl,d,a⟩;obtain⟨q,r,rfl⟩:=d.shape;replace k:=I (k.push a d (fP _ _ G));replace HB:=I (HB.grown a);replace f:=I (f.grown a);replace j:=I (j.grown a);replace i:=I (aa i a);clear d a)|(go_at_call 62;refine(bS aH _ i2).mono ?_;rintro e m ⟨n,rfl,d,a⟩;obtain⟨q,r,rfl⟩:=d.shape;replace HB:=I (HB.push a d (kE _ _ H));replace k:=I (k.grown a);replace f:=I (f.grown a);replace j:=I (j.grown a);replace i:=I (aa i a);clear d a)|(go_at_call 45;refine(Kv Q R d2 x X _ _ al an HU G (j (Value.slice aQ X.length cQ,X) Z).1).mono ?_;rintro e m ⟨n,rfl,d,a⟩;obtain⟨q,r,rfl⟩:=d.shape;have L:=I (d);replace k:=I (k.grown a);replace HB:=I (HB.grown a);replace f:=I (f.grown a);replace j:=I (j.grown a);replace i:=I (aa i a);clear d a)|(go_at_call 63;refine(mo _ _ _ L sX).mono ?_;rintro e m ⟨n,rfl,d,a⟩;obtain⟨q,r,rfl⟩:=d.shape;replace HB:=I (HB.push a d (fP _ _ sX));replace k:=I (k.grown a);replace f:=I (f.grown a);replace j:=I (j.grown a);replace i:=I (aa i a);clear L d a)|(go_at_call 60;refine(HB.list _ 2 rfl rfl H H).mono ?_;rintro e m ⟨n,rfl,d,J,a⟩;have o:gQ m n IN:=(by rw[<-ae];exact d);have v:IN.length<=4004:=(by rw[<-ae];exact J);clear d J;obtain⟨q,r,rfl⟩:=o.shape;replace k:=I ((k.push a ((j (Value.slice aK TB.length cK,TB) Z).1.grown a) T).push (cC _ _) o (cE v H));replace f:=I (f.grown a);replace j:=I (j.grown a);replace i:=I (aa i a);clear HB o v a)|(go_at_call 60;refine(k.agY _ 4 rfl rfl H H).mono ?_;rintro e m ⟨n,rfl,d,J,a⟩;have o:mB w.1.size m n GB:=(by rw[<-ad];exact d.base (cE lh.size i.size));have v:GB.length<=40004:=(by rw[<-ad];exact J);clear d J;obtain⟨q,r,rfl⟩:=o.has.shape;have K:=I (o);replace f:=I (f.grown a);replace i:=I (aa i a);clear k j o v a))
 go_wp2
 go_ret
 refine⟨_,rfl,by rw[ag];exact K,⟨v3,?_,Tf⟩,iH lh (mK i B)⟩
 have h:=ab.keep (w':=m) (λb A=>i.block b (ab.o.lt b A).2 Z)
 rw[List.drop_drop,List.drop_drop]at h
 exact h
open Proofs.Tryz
variable {x:BE}{ax n now:Int}{l:LU}
def xD(ax now:Int)(x:BE)(n:Int)(z:LU):Int:=
 match (fe x.key 1 z).bind lg with
 |none=>24
 |some t=>if n≠x.aH then 24 else if ax<dW t now then 37 else 0
theorem XZ(h:n≠x.aH):xD ax now x n z=24:=by
 grind [xD]
theorem ab9(h:fe x.key 1 z=none):xD ax now x n z=24:=by
 unfold xD;rw[h];rfl
theorem Cj(h:fe x.key 1 z=some l)(a:lg l=none):xD ax now x n z=24:=by
 unfold xD;rw[h];show(match lg l with|none=>(24:Int)|some t=>_)=24;rw[a]
theorem aca{t:Int}(a:n=x.aH)(h:fe x.key 1 z=some l)(b:lg l=some t):xD ax now x n z=if ax<dW t now then 37 else 0:=by
 unfold xD;rw[h];show(match lg l with|none=>(24:Int)|some t=>_)=_;rw[b];show(if n≠x.aH then 24 else _)=_;rw[b' (λq=>q a)]
theorem Qd(h:Box.cut l=none):lg l=none:=by unfold lg;rw[h]
theorem Qe{i r:LU}{t:UInt8}(h:Box.cut l=some (t,i,r))(a:r≠[]):lg l=none:=by
 grind [lg]
theorem Ui{i:LU}{t:UInt8}(h:Box.cut l=some (t,i,[])):lg l=bG (t,i):=by unfold lg;rw[h]
theorem J'{p:Prop}(h:p:=by
 clear HS
 go_wp2_with fail
 go_quiet (first|(go_at_call 143;refine(C4 _).mono ?_;rintro e w' ⟨rfl,rfl⟩;exact⟨rfl,_,rfl⟩))
 go_wp2
 go_ret
 exact⟨bE HS2.o.symm,aN lh _⟩):p:=h
theorem AF{p:Prop}(h:p:=by
 go_wp2
 go_ret
 exact⟨bE HS.o.symm,lh⟩):p:=h
theorem Qf(A X)(M)(g)(e:RE)(now n)(z)(L)(w)(m:RD w A X M g)(p:xA w L z)(d:z.length<=900)(cO:bT now):Calls prog 101 #[π X 0,.agg e.arr,Y now,Y n,L] w λr w'=>r=.returned (Y (xD M.ax now e.be n z))/\w.grownBy w' none:=by
 have f:=cy w (.cells e.arr 166) none
 have k:=I f
 have j:=I (xC w e)
 have HB:=I (m.bU.blk.grown f Z)
 have i:Hid (Calls prog 47 #[υ (e.key.toNat:Int),Y 1,L] (w.alloc (.cells e.arr 166)) λr w'=>∃o,r=.returned (.tuple #[o,.bool (fe e.key 1 z).isSome])/\(∀l,fe e.key 1 z=some l->gQ w' o l/\l.length<=900)/\(fe e.key 1 z=none->o = σ)/\(w.alloc (.cells e.arr 166)).grownBy w' none):=yw e.key 1 1 z L _ H H rfl d (p.grown f)
 obtain⟨R,h⟩:=aq (xD M.ax now e.be n z)
 rw[h]
 obtain⟨V,b⟩:=aq M.ax
 rw[b]at HB h
 have a:=I h
 clear h b m p d f
 have f:(w.alloc (.cells e.arr 166)).c w.1.size 7=some (Y e.aH):=j 7 _ rfl
 have m:(w.alloc (.cells e.arr 166)).c w.1.size 8=some (υ (e.key.toNat:Int)):=j 8 _ rfl
 obtain⟨O,d⟩:=aq (fe e.key 1 z)
 have h:Hid (fe e.be.key 1 z=O):=d
 rw[d]at i
 clear d
 go_in
 go_wp2_with fail
 refine i.mono ?_
 rintro r w1 ⟨o,rfl,C,D,d⟩
 have K:=I (aa k d)
 have u:=I (HB.grown d Z)
 have y7:=d.cell f Z
 clear i k HB d f m j
 by_cases p:n=e.aH
 .have bn:(n != e.aH)=false:=by rw[bne_eq_false_iff_eq];exact p
  have f:Hid (n=e.be.aH):=p;clear p;cases O with
  |none=>
   obtain rfl:=D rfl;have HS:Hid (R=24):=(by show _=_;rw[<-a,ab9 h.o]);clear C D a f;simp only[Option.isSome_none];go_wp2;go_ret;exact⟨bE HS.o.symm,K⟩
  |some l=>
   obtain⟨d,i⟩:=C l rfl;have x:=I (P5 l o w1 d G);obtain⟨ao,co,rfl⟩:=d.shape;clear C D d i;obtain⟨cc,d⟩:=aq (Box.cut l);rw[d]at x;have j:=I d;clear d;simp only[du];go_wp2_with fail;refine x.mono ?_;rintro r W ⟨t,d,i,k,a2,T,c2,rfl,Q,U,k3,k4,k5,k6,J⟩;have P:=aM J (.cells #[.int .u8 (t.toNat:Int),.slice d i.length k] 117);have q:=I (aa K P);have m:=I ((u.grown J Z).alloc (.cells #[.int .u8 (t.toNat:Int),.slice d i.length k] 117));have B:Hid (Calls prog 68 #[.agg #[.int .u8 (t.toNat:Int),.slice d i.length k]] (W.alloc (.cells #[.int .u8 (t.toNat:Int),.slice d i.length k] 117)) λe w'=>∃v,e=.returned (.tuple #[Y v,.bool (bG (t,i)).isSome])/\(bT v/\∀y,bG (t,i)=some y->v=y)/\(W.alloc (.cells #[.int .u8 (t.toNat:Int),.slice d i.length k] 117)).grownBy w' none):=uR ⟨t,d,k,i⟩ _ (U.below (cy _ _ _));have S:=I Q;clear x K u J P Q U k3 k4 k5 k6 y7;obtain⟨N,J⟩:=aq (bG (t,i));rw[J]at B;have x:=I J;clear J;go_wp2_with fail;refine B.mono ?_;rintro r w3 ⟨v,rfl,U,J⟩;have Q:=I U;have lh:=I (aa q J);have P:=I (m.grown J Z);clear B q m J U;cases cc with
   |none=>
    have HS:Hid (R=24):=(by show _=_;rw[<-a,Cj h.o (Qd j.o)]);clear a f j S;simp only[Option.isSome_none];exact AF
   |some q=>
    obtain rfl:=S q rfl;clear S;simp only[du];by_cases J:T=[]
    .subst J;simp only[List.length_nil];have B:Hid (lg l=N):=(by show _=_;rw[Ui j.o,x]);clear j x;cases N with
     |none=>
      have HS:Hid (R=24):=(by show _=_;rw[<-a,Cj h.o B.o]);clear a f B;simp only[Option.isSome_none];exact AF
     |some y=>
      obtain rfl:=Q.2 y rfl;have HS:Hid (R=if V<dW v now then 37 else 0):=(by show _=_;rw[<-a,aca f.o h.o B.o]);have C4:=I (λm=>zN v now (w3.drewN m) Q.1 cO);have d0:=P.cell 0;simp only[cI,cH]at d0;obtain⟨U,m⟩:=aq (dW v now);rw[m]at C4 HS;clear a f B m h Q;simp only[du];by_cases b:V<U
      .have HS2:Hid (R=37):=(by show _=_;rw[HS,dQ b]);exact J'
      .have HS2:Hid (R=0):=(by show _=_;rw[HS,b' b]);exact J'
    .have HS:Hid (R=24):=(by show _=_;rw[<-a,Cj h.o (Qe j.o J)]);have y:(0:Int)<(T.length:Int):=by
      have:=gi.2 J;omega
     obtain⟨B,m⟩:=aq T.length;rw[m]at y⊢;clear a f j J m;exact AF
 .have bn:(n != e.aH)=true:=by rw[fs];exact p
  have HS:Hid (R=24):=by show _=_;rw[<-a];exact XZ p
  clear a p C D;go_wp2;go_ret;exact⟨bE HS.o.symm,K⟩
variable {fi fl rn:Int}{x:RE}
structure FW(w W:World)(old:TK)(x s:RE)(fl st fi rn:Int):Prop where
 oq:W.rangeAt w.1.size 0 old.cells
 x:W.rangeAt (w.1.size+1) 0 x.cells
 s:W.rangeAt (w.1.size+2) 0 s.cells
 r:b9 W (w.1.size+3) 7
 t:W.rangeAt (w.1.size+4) 0 [Y fl,O (old.aO.toNat:Int),.string ⟨old.az.toArray⟩,Y old.dY,Y st,Y fi,Y rn]
 lt:b9 W (w.1.size+4) 7
 g:w.grownBy W none
theorem FW.grown{b:World}{a:TK}{s:RE}{st:Int}(h:FW w W a x s fl st fi rn)(k:W.grownBy b none):FW w b a x s fl st fi rn:=
 ⟨aA h.oq k,aA h.x k,aA h.s k,h.r.grown k,aA h.t k,h.lt.grown k,aa h.g k⟩
theorem FW.drew{a:TK}{s:RE}{st:Int}(h:FW w W a x s fl st fi rn):FW w W.drew a x s fl st fi rn:=h.grown (bg (cC _ _))
theorem FW.set{a:TK}{s:RE}{st:Int}(h:FW w W a x s fl st fi rn)(k)(v)(hk:k<7):
  (W.s (w.1.size+4) k v).rangeAt w.1.size 0 a.cells/\(W.s (w.1.size+4) k v).rangeAt (w.1.size+1) 0 x.cells/\(W.s (w.1.size+4) k v).rangeAt (w.1.size+2) 0 s.cells/\b9 (W.s (w.1.size+4) k v) (w.1.size+3) 7/\b9 (W.s (w.1.size+4) k v) (w.1.size+4) 7/\w.grownBy (W.s (w.1.size+4) k v) none/\(W.s (w.1.size+4) k v).rangeAt (w.1.size+4) 0 ([Y fl,O (a.aO.toNat:Int),.string ⟨a.az.toArray⟩,Y a.dY,Y st,Y fi,Y rn].set k v):=
 ⟨gZ h.oq G _,gZ h.x G _,gZ h.s G _,dL h.r _,dL h.lt _,aB h.g G,rj h.t sG _⟩
theorem FW.Di{i:TK}{s:RE}{st:Int}(h:FW w W i x s fl st fi rn)(v):FW w (W.setCell (F (w.1.size+4) 0) (Y v)) i x s v st fi rn:=by
 obtain⟨a,b,c,d,e,f,g⟩:=h.set 0 (Y v) H;exact⟨a,b,c,d,g,e,f⟩
theorem FW.setSt{i:TK}{s:RE}{st:Int}(h:FW w W i x s fl st fi rn)(v):FW w (W.setCell (F (w.1.size+4) 4) (Y v)) i x s fl v fi rn:=by
 obtain⟨a,b,c,d,e,f,g⟩:=h.set 4 (Y v) H;exact⟨a,b,c,d,g,e,f⟩
theorem FW.zk{i:TK}{s:RE}{st:Int}(h:FW w W i x s fl st fi rn)(v):FW w (W.setCell (F (w.1.size+4) 5) (Y v)) i x s fl st v rn:=by
 obtain⟨a,b,c,d,e,f,g⟩:=h.set 5 (Y v) H;exact⟨a,b,c,d,g,e,f⟩
theorem FW.amB{i:TK}{s:RE}{st:Int}(h:FW w W i x s fl st fi rn)(v):FW w (W.setCell (F (w.1.size+4) 6) (Y v)) i x s fl st fi v:=by
 obtain⟨a,b,c,d,e,f,g⟩:=h.set 6 (Y v) H;exact⟨a,b,c,d,g,e,f⟩
theorem FW.tc{a:TK}{s:RE}{st:Int}(h:FW w W a x s fl st fi rn):W.cell? (F (w.1.size+4) 0)=some (Y fl)/\W.cell? (F (w.1.size+4) 1)=some (O (a.aO.toNat:Int))/\W.cell? (F (w.1.size+4) 2)=some (.string ⟨a.az.toArray⟩)/\W.cell? (F (w.1.size+4) 3)=some (Y a.dY)/\W.cell? (F (w.1.size+4) 4)=some (Y st)/\W.cell? (F (w.1.size+4) 5)=some (Y fi)/\W.cell? (F (w.1.size+4) 6)=some (Y rn):=
 ⟨h.t 0 _ rfl,h.t 1 _ rfl,h.t 2 _ rfl,h.t 3 _ rfl,h.t 4 _ rfl,h.t 5 _ rfl,h.t 6 _ rfl⟩
theorem FW.oc{a:TK}{s:RE}{st:Int}(h:FW w W a x s fl st fi rn):W.cell? (F w.1.size 0)=some (Y a.ae)/\W.cell? (F w.1.size 4)=some (Y a.start)/\W.cell? (F w.1.size 5)=some (Y a.fin)/\W.cell? (F w.1.size 6)=some (Y a.aD):=
 ⟨h.oq 0 _ rfl,h.oq 4 _ rfl,h.oq 5 _ rfl,h.oq 6 _ rfl⟩
theorem X5(l a b d g h i j k)(m u v w x)(Q:bG l.pair=some 10)(R:iN d m)(S:iN g u)(T:iN h v)(U:iN i w)(V:iN j x):
  (lM ([l,a,b,d,g,h,i,j,k].map Pc.pair)).isSome=((dz a.pair).isSome&&((dz b.pair).isSome&&(kD [d,g,h,i,j]&&(mO k.pair).isSome)))/\∀q,lM ([l,a,b,d,g,h,i,j,k].map Pc.pair)=some q->∃o,mO k.pair=some o/\q=⟨a.ins,b.ins,m,u,v,w,x,o⟩:=by
 have e:lM ([l,a,b,d,g,h,i,j,k].map Pc.pair)=(dz a.pair).bind λc=>(dz b.pair).bind λs=>(bG d.pair).bind λn=>(bG g.pair).bind λf=>(bG h.pair).bind λt=>(bG i.pair).bind λr=>(bG j.pair).bind λo=>(mO k.pair).bind λp=>some ⟨c,s,n,f,t,r,o,p⟩:=by
  show(bG l.pair).bind _=_;rw[Q];rfl
 have W:∀y,dz a.pair=some y->y=a.ins:=λy f=>xB f
 have X:∀y,dz b.pair=some y->y=b.ins:=λy f=>xB f
 rw[e]
 unfold iN at *
 simp only[kD,List.all_cons,List.all_nil,gh]
 cases C:dz a.pair with
 |none=>grind
 |some n=>
  have z1:=W n C;cases D:dz b.pair with
  |none=>grind
  |some p=>
   have z2:=X p D;cases J:bG d.pair with
   |none=>grind
   |some q=>
    have z3:=R.2 q J;cases K:bG g.pair with
    |none=>grind
    |some r=>
     have z4:=S.2 r K;cases L:bG h.pair with
     |none=>grind
     |some y=>
      have z5:=T.2 y L;cases M:bG i.pair with
      |none=>grind
      |some A=>
       have z6:=U.2 A M;cases P:bG j.pair with
       |none=>grind
       |some B=>
        have z7:=V.2 B P;cases c8:mO k.pair with
        |none=>exact⟨by simp,λt f=>by cases f⟩
        |some o=>
         refine⟨by simp,λt f=>⟨o,rfl,?_⟩⟩;grind
theorem X6{p:ry}{x:Int×LU}(h:mO p=some (some x)):x.2.length<=p.2.length:=by
 unfold mO at h;cases i:Ap p with
 |none=>rw[i]at h;cases h
 |some k=>
  rw[i]at h;have f:Box.dG p.2=some k:=by
   grind [Ap]
  cases k with
  |nil=>cases h
  |cons a r=>
   have d:(rz (a::r)).map some=some (some x):=h;cases b:rz (a::r)with
   |none=>rw[b]at d;cases d
   |some y=>
    rw[b]at d;injection d with d;injection d with d;subst d;by_cases l:(a::r).length=2
    .obtain⟨u,v,e⟩:=P6 l;rw[e]at b f;rw[MB]at b;cases g:bG u with
     |none=>rw[g]at b;cases b
     |some n=>
      rw[g]at b;cases j:jD v with
      |none=>rw[j]at b;cases b
      |some z=>
       rw[j]at b;injection b with b;subst b;have m:z=v.2:=by
        grind [jD]
       rw[m];exact Box.mq f v Z
    grind [Dh]
def nD(M:DM):Except Int GR->Int
 |.error c=>c
 |.ok _=>if M.aL.length<24 then 60 else 0
def Ee(base yb:Nat)(M:DM)(g:RG)(R:Except Int GR)(w w':World)(o:Value)(c:Int):Prop:=
 c=nD M R/\(c≠0->o = σ/\RD w' base yb M g/\w.grownBy w' none)/\(c=0->∃gr v,R=.ok gr/\mB w.1.size w' o (gr.box M.aL)/\RD w' base yb {M with aL:=M.aL.drop 24} {g with dv:=v}/\lE w.1.size v/\w.grownBy w' (some yb))
theorem iL{a f:Nat}{M:DM}{g:RG}{c:Int}{w e:World}(j:c≠0)(d:RD w a f M g)(k:w.grownBy e none):Ee a f M g (.error c) w e σ c:=
 ⟨rfl,λ_=>⟨rfl,d.keep (λb i=>k.block b (d.lt b i).2 Z),k⟩,λh=>absurd h j⟩
def ow(M:DM)(now:Int)(ps:List ry):Except Int GR:=
 match lM ps with
 |none=>.error 60
 |some q=>mS M now q
structure FS(w W:World)(base yb:Nat)(M:DM)(g:RG)(gv:Nat)(v0 v1 v2 v3 v4:Int)(z:Value)(o:Option (Int×LU)):Prop where
 d:RD W base yb M g
 v:W.rangeAt gv 0 [Y v0,Y v1,Y v2,Y v3,Y v4]
 z:∀x,o=some x->xA W z x.2/\x.2.length<=900
 g:w.grownBy W none
theorem FS.grown{w W d:World}{a p:Nat}{M:DM}{g:RG}{e:Nat}{i j l m n:Int}{z:Value}{o:Option (Int×LU)}(h:FS w W a p M g e i j l m n z o)(k:W.grownBy d none):FS w d a p M g e i j l m n z o:=
 ⟨h.d.keep (λb q=>k.block b (h.d.lt b q).2 Z),aA h.v k,λx f=>⟨(h.z x f).1.grown k,(h.z x f).2⟩,aa h.g k⟩
theorem uS(a)(l):(gG a l=-1/\BE.find (a.map RE.be) l=none)\/∃(i:Nat) (h:i<a.length),gG a l=(i:Int)/\BE.find (a.map RE.be) l=some a[i].be:=by
 have g:=Ve (a.map RE.be) l;have f:=U7 a l;cases b:a.findIdx? (λe=>e.name==l)with
 |none=>
  grind [E8]
 |some i=>
  have d:i<a.length:=by
   have:=List.findIdx?_eq_some_iff_findIdx_eq.1 b;exact this.1
  grind [Ao]
theorem uT{w:World}{a i:Nat}{M:DM}{g:RG}(h:RD w a i M g)(f:0<g.es.length):∃b d,g.bv = ς b 0 g.es.length d/\w.rangeAt b 0 (bL g.es):=by
 obtain⟨b,d,e,r,_⟩:=jR h.bU.aC f;exact⟨b,d,e,r⟩
theorem vS{w:World}{b:Nat}{a:List RE}(h:w.rangeAt b 0 (bL a))(i)(d:i<a.length):w.cell? (F b (i*10))=some (Y a[i].k)/\w.cell? (F b (i*10+1))=some (.string ⟨a[i].name.toArray⟩)/\w.cell? (F b (i*10+2))=some (O (a[i].Ak.toNat:Int))/\w.cell? (F b (i*10+3))=some (Y a[i].bH)/\w.cell? (F b (i*10+4))=some (Y a[i].aD)/\w.cell? (F b (i*10+5))=some (Y a[i].bB)/\w.cell? (F b (i*10+6))=some (Y a[i].ae)/\w.cell? (F b (i*10+7))=some (Y a[i].aH)/\w.cell? (F b (i*10+8))=some (O (a[i].key.toNat:Int))/\w.cell? (F b (i*10+9))=some (O (a[i].before.toNat:Int)):=by
 have f:∀j v,(a[i]).cells[j]?=some v->j<10->w.c b (i*10+j)=some v:=λj v g e=>by
  have:=h (i*10+j) v (by grind [iC]);rwa [cR]at this
 exact⟨f 0 _ rfl H,f 1 _ rfl H,f 2 _ rfl H,f 3 _ rfl H,f 4 _ rfl H,f 5 _ rfl H,f 6 _ rfl H,f 7 _ rfl H,f 8 _ rfl H,f 9 _ rfl H⟩
theorem yx(a b)(M)(g)(l)(w)(h:RD w a b M g)(f:M.aC.length<=20):Calls Tryz.prog 54 #[N b 0,.string ⟨l.toArray⟩] w λe d=>e=.returned (Y (gG g.es l))/\w.grownBy d none:=by
 have d:g.es.length<=20:=by
  grind [RD.aC]
 exact oP a b M.ax g.bv g.pv g.dv g.es M.aL l g.es.length _ w h.bU (I rfl) G (I rfl)
theorem Cm(b d a)(x)(f)(v)(w)(g:1<=x)(i:x<=5)(n:x=d.toNat)(m:f.length<=8388608)(h:gQ w v f):Calls Tryz.prog 45 #[O (b.toNat:Int),Y x,O (a.toNat:Int),v] w λe j=>∃o,e=.returned o/\gQ j o (Pure.eB b d a f)/\w.grownBy j none:=by
 obtain⟨j,e,rfl,o,p,k,l⟩:=h
 refine(Jw b d a x f f.length j e w ⟨g,i⟩ (I n) (I rfl) m k l).mono ?_
 grind [gQ.own,Pure.bR]
structure qH where
 kind:Int
 az:LU
 aV:LU
 bW:Int
 mG:Int
 dM:Int
 bY:Int
 options:Int
 pre:Int
 mD:Int
 ticket:Int
 hand:TK
 pO:Int
 yB:Int
 kJ:LU
 pQ:Int
 kP:Int
 uU:Int
 qW:Int
def qH.cells(a:qH):List Value:=[Y a.kind,.string ⟨a.az.toArray⟩,.string ⟨a.aV.toArray⟩,Y a.bW,Y a.mG,Y a.dM,Y a.bY,Y a.options,Y a.pre,Y a.mD,Y a.ticket,Y a.hand.ae,O (a.hand.aO.toNat:Int),.string ⟨a.hand.az.toArray⟩,Y a.hand.dY,Y a.hand.start,Y a.hand.fin,Y a.hand.aD,Y a.pO,Y a.yB,.string ⟨a.kJ.toArray⟩,Y a.pQ,Y a.kP,Y a.uU,Y a.qW]
def qH.arr(a:qH):Array Value:=a.cells.toArray
theorem qH.pK(a:qH):a.arr=#[Y a.kind,.string ⟨a.az.toArray⟩,.string ⟨a.aV.toArray⟩,Y a.bW,Y a.mG,Y a.dM,Y a.bY,Y a.options,Y a.pre,Y a.mD,Y a.ticket,Y a.hand.ae,O (a.hand.aO.toNat:Int),.string ⟨a.hand.az.toArray⟩,Y a.hand.dY,Y a.hand.start,Y a.hand.fin,Y a.hand.aD,Y a.pO,Y a.yB,.string ⟨a.kJ.toArray⟩,Y a.pQ,Y a.kP,Y a.uU,Y a.qW]:=rfl
structure qH.Ok(a:qH):Prop where
 kind:bT a.kind
 az:a.az.length<=1048576
 aV:a.aV.length<=1048576
 bW:bT a.bW
 mG:bT a.mG
 dM:bT a.dM
 bY:bT a.bY
 options:bT a.options
 pre:bT a.pre
 mD:bT a.mD
 ticket:bT a.ticket
 hand:a.hand.In
 zP:a.hand.az.length<=1048576
 pO:bT a.pO
 yB:bT a.yB
 kJ:a.kJ.length<=1048576
 pQ:bT a.pQ
 kP:bT a.kP
 uU:bT a.uU
 qW:bT a.qW
def UP(w w':World)(e:Ending):Prop:=∃(key:UInt64) (n:Int),e=.returned (.tuple #[O (key.toNat:Int),Y n])/\0<=n/\n<=4611686018427387904/\w.grownBy w' none
theorem Ho(f u)(M)(g)(l:LU)(w)(b:RD w f u M g)(h:gy 4611686018427387904 M.aC):Calls Tryz.prog 93 #[N u 0,.string ⟨l.toArray⟩] w λe a=>UP w a e:=by
 obtain⟨A,cb,a⟩:=bA b.bU.aC
 obtain⟨m,d⟩:=aq g.es.length
 have yP:m<=20:=by have:=h.len;grind [RD.aC]
 have j:=b.bU.blk.cell 1
 rw[a,d]at j
 simp only[cI,cH,cL]at j
 have x:=I b
 have y:=I d
 have v:=I a
 clear b d a
 obtain⟨S,a⟩:∃S:ByteArray,S=⟨l.toArray⟩:=⟨_,rfl⟩
 rw[<-a]
 have HS:=I a
 clear a
 go_enter Tryz.func93,Tryz.ntmps93
 go_wp2
 go_loopw [6] (λi wr=>∃k:Nat,k<=m/\i = Y k/\w.grownBy wr none) (λi _=>m-(intOf i).toNat)
 case atStart=>grind [cC]
 case round=>
  obtain⟨k,hk,rfl,b⟩:=hrel;have B:=b.cell j Z;by_cases o:k<m
  .have a:k<g.es.length:=(by rw[y];exact o);have K:(k:Int)<(m:Int):=G;have J:(0:Int)<=(k:Int):=G;obtain⟨D,C,i,d⟩:=uT x G;have n:A=some ⟨D,0,none⟩:=by
    grind [Hid.o]
   subst n;obtain⟨L,P,Q,R,U,V,W,x7,x8,X⟩:=vS (aA d b) k a;have e:(g.es[k]'a).be∈M.aC:=(by grind [RD.aC,Hid.o]);have q:1<=(g.es[k]'a).aH/\(g.es[k]'a).aH<=4611686018427387904:=h.num _ e;have t:=I q;obtain⟨T,r⟩:∃T:ByteArray,T=⟨(g.es[k]'a).name.toArray⟩:=⟨_,rfl⟩
   rw[<-r]at P;have p:=I b;clear L Q R U V W X d e q i r b;by_cases e:(T.toList==S.toList)=true
   .go_wp2_with fail;go_quiet (fail)
    go_wp2;go_ret2;exact⟨_,_,rfl,by have:=t.o;omega,t.2,aN p.o _⟩
   .have q:(T.toList==S.toList)=false:=(by simpa using e);clear e;go_wp2;go_roundw
    case rel=>exact⟨k+1,by omega,by go_num,p.o⟩
    case measure=>simp[intOf];omega
  .have e:k=m:=G;subst e;have K:¬ (k:Int)<(k:Int):=G;go_wp2;go_ret2;exact⟨0,1,rfl,by decide,by decide,b⟩
theorem D2{p:Prop}(h:p:=by rw[<-hW2];exact ownsRow_setCell_below hown (by show yb<w.1.size+1;omega) _):p:=h
theorem DS{p:Prop}(h:p:=by intro u hu;simp at hu;rcases hu with rfl|rfl|rfl<;>rfl):p:=h
variable {M:DM}{yb:Nat}{g:RG}
theorem Tryz.ai6:(prog.info? 283).map (λi=>(i.zero,i.size,i.bytes))=some (some (.agg #[ε,Y 0,Y 0]),3,32):=by kernel_rfl
theorem yC(l):∀(k j)(hk:k<l.length),j<3->(fQ l)[k*3+j]?=(l[k]).cells[j]?:=by
 unfold fQ;induction l with
 |nil=>intro k j hk;simp at hk
 |cons x l b=>
  intro k j hk a;rw[eN,eR];cases k with
  |zero=>rw[gj,cR,cX (by show j<3;exact a)];rfl
  |succ k=>
   rw[dr (by show 3<=(k+1)*3+j;omega),show(k+1)*3+j-x.cells.length=k*3+j from by show(k+1)*3+j-3=k*3+j;omega];exact b k j sG a
theorem Hq(l)(p):fQ (l++[p])=fQ l++p.cells:=by simp[fQ]
theorem Uo(b a)(l:List PF)(k)(d:k<l.length):iX b a (l.take (k+1))=iX b a (l.take k)++(if dW l[k].time a<=b then [l[k]] else []):=by
 unfold iX;rw[dy d,List.filter_append];congr 1;by_cases h:dW l[k].time a<=b
 .rw[dQ h];simp[h]
 .rw[b' h];simp[h]
theorem D'{p:Prop}(h:p:=by
 cases hv:v.ownBlock with
 |none=>exact .inl rfl
 |some b=>exact .inr Z):p:=h
theorem RD.zR{f:Nat}(h:RD w f yb M g){W:World}{v x:Value}{p:List PF}(m:w.grownBy W (some yb))(q:dm W yb #[Y M.ax,g.bv,x,g.dv])(l:W.ownsRow w.1.size 283 3 v p.length (fQ p))(a:f<=w.1.size):
  RD (W.setCell (F yb 2) v) f yb {M with aI:=p} {g with pv:=v}/\w.grownBy (W.setCell (F yb 2) v) (some yb)/\lE w.1.size v:=by
 have k:lE w.1.size v:=λb a=>(l.lt b a).1
 have i:∀b,g.foot yb b->v.ownBlock≠some b:=λb a e=>by have:=k b e;have:=(h.lt b a).2;omega
 have d:∀b,b≠yb->(W.setCell (F yb 2) v).1[b]?=W.1[b]?:=λb j=>by
  simp[World.setCell,Array.getElem?_modify,Ne.symm j]
 have n:=λb j o=>(d b j).trans (m.block b (h.lt b o).2 (λe=>j nF))
 have j:w.grownBy (W.setCell (F yb 2) v) (some yb):=by
  refine⟨m.os,m.tape,m.output,?_,λb a o=>?_⟩
  .rw[show(W.setCell (F yb 2) v).1.size=W.1.size from by simp[World.setCell]];exact m.size
  .rw[d b (λe=>o (by rw[e]))];exact m.block b a o
 refine⟨⟨⟨?_,dh h.bU.aC (λb a=>n b (λe=>h.bU.bne (by rw[a,e])) (.inr (.inl a))),dh h.bU.aL (λb a=>n b (λe=>h.bU.Wt (by rw[a,e])) (.inr (.inr (.inr a)))),h.bU.here,h.bU.bne,h.bU.Wt,h.bU.apart⟩,h.aC,dw (dh l (λb a=>d b (λe=>i yb (.inl rfl) (by rw[a,e])))) a,i yb (.inl rfl),?_,?_⟩,j,k⟩
 .have:=q.set 2 v;simpa using this
 .cases o:g.bv.ownBlock with
  |none=>
   exact D'
  |some b=>exact .inr (i b (.inr (.inl o)))
 .cases o:g.dv.ownBlock with
  |none=>
   exact D'
  |some b=>exact .inr (i b (.inr (.inr (.inr o))))
theorem RD.Ky{a:Nat}(e:RD w a yb M g){W:World}{v:Value}{d:List PF}(f:w.grownBy W none)(b:W.ownsRow w.1.size 283 3 v d.length (fQ d))(h:a<=w.1.size):
  RD (W.setCell (F yb 2) v) a yb {M with aI:=d} {g with pv:=v}/\w.grownBy (W.setCell (F yb 2) v) (some yb)/\lE w.1.size v:=e.zR (mK f yb) (e.bU.blk.grown f Z) b h
theorem RD.drewN{a:Nat}(b:RD w a yb M g)(m):RD (w.drewN m) a yb M g:=b.keep (λ_ _=>rfl)
theorem Kz{a b:World}{o:Obj}{r:Option Nat}(h:(a.alloc o).grownBy b r):a.grownBy b r:=by
 have f:(a.alloc o).1.size=a.1.size+1:=cG _ _;have g:=cy a o none;exact⟨h.os.trans g.os,h.tape.trans g.tape,h.output.trans g.output,by have:=h.size;omega,λi d e=>(h.block i G e).trans (g.block i d Z)⟩
theorem PA{a b:PF}:a=b↔a.az=b.az/\a.time=b.time/\a.count=b.count:=by
 constructor
 .intro h;subst h;exact⟨rfl,rfl,rfl⟩
 .intro⟨d,e,f⟩;cases a;cases b;simp_all
theorem MA{p:Prop}(h:p:=by
 intro v6 w6 h6 g6
 have hrow:=λb hb=>(Dg.o.lt b hb).1
 have gw:w.grownBy w6 (some yb):=by
  have g2:=mU.2.1
  refine⟨g6.os.trans g2.os,g6.tape.trans g2.tape,g6.output.trans g2.output,cE g2.size g6.size,λb hb hx=>(g6.block b (fW hb g2.size) (λe=>?_)).trans (g2.block b hb hx)⟩
  have:=hrow b e.symm
  omega
 have hB:=mU.1.bU.blk.grown g6 (λe=>by have:=hrow yb e.symm;omega)
 refine HD.zR gw hB ?_ hbase
 rw[Hq,cF,HLm]
 exact dw h6 (fj _)):p:=h
theorem L6{p:Prop}(h:p:=by
 have h8I:(8:Int)<=(j:Int):=G
 have HC:Hid (bM sk now M.aI p=60/\bK sk now M.aI p=L):=by
  have h60:bM sk now M.aI p=60:=by unfold bM;rw[HL,b' Uq.o,dQ (by rw[HLm];exact h8)]
  refine⟨h60,?_⟩
  unfold bK
  rw[h60,b' H,HL.o]
 clear HNo N7
 go_wp2
 go_ret
 exact⟨bE HC.1.symm,_,by rw[HC.2,<-HSk];exact HRD,⟨mU.2.1.os,mU.2.1.tape,mU.2.1.output,mU.2.1.size,mU.2.1.block⟩,mU.2.2⟩):p:=h
theorem BY{p:Prop}(h:p:=by
 go_wp2_with fail
 go_quiet (fail)
 go_wp2
 go_roundw
 case rel=>exact⟨j+1,q+nq,by omega,by go_num,Iy,by first|rfl|rw[World.drewN_drewN]⟩
 case measure=>simp[intOf];omega):p:=h
theorem Ln{p:Prop}(h:p:=by
 all_goals
  go_wp2
  go_ret
  exact⟨bE HC.1.symm,_,by rw[HC.2,<-HSk];exact HFin.1.keep (λ_ _=>rfl),⟨HFin.2.1.os,HFin.2.1.tape,HFin.2.1.output,HFin.2.1.size,HFin.2.1.block⟩,HFin.2.2⟩):p:=h
theorem JI{p:Prop}(h:p:=by
 have h0:bM sk now M.aI p=0:=by unfold bM;rw[HL,b' Uq.o,b' (by rw[HLm];exact h8)]
 refine⟨h0,?_⟩
 unfold bK
 rw[h0,dQ rfl,HL.o]):p:=h
theorem E'{p:Prop}(h:p:=by
 intro hp
 obtain⟨a,ha,e⟩:=List.getElem_of_mem hp
 exact HNo a ha (by have:=HLm.o;omega) e):p:=h
theorem ML(t yb)(M)(g)(p)(now)(w)(f:RD w t yb M g)(az:M.aI.length<=1000)(r:∀y∈M.aI,bT y.time)(cO:bT now)(hbase:t<=w.1.size):Calls prog 146 #[N yb 0,.agg p.cells.toArray,ι now] w λe D=>e=.returned (ι (bM M.ax now M.aI p))/\∃v,RD D t yb {M with aI:=bK M.ax now M.aI p} {g with pv:=v}/\w.grownBy D (some yb)/\lE w.1.size v:=by
 obtain⟨i0,V,ae,af,ag⟩:=info_parts Tryz.ai6
 have d:p.cells.toArray=#[.string ⟨p.az.toArray⟩,ι p.time,ι p.count]:=rfl
 rw[d]
 clear d
 have k:=cy w (.cells #[.string ⟨p.az.toArray⟩,ι p.time,ι p.count] 283) none
 have R:=I (aS w #[.string ⟨p.az.toArray⟩,ι p.time,ι p.count] 283)
 have bl:=f.bU.blk.lt
 have HD:=I f
 have c0:(w.alloc (.cells #[.string ⟨p.az.toArray⟩,ι p.time,ι p.count] 283)).cell? (F yb 0)=some (ι M.ax):=by
  have:=(f.bU.blk.grown k Z).cell 0;simpa using this
 obtain⟨pa,pc,h⟩:=bA f.aI
 obtain⟨n,m⟩:=aq M.aI.length
 have c2:(w.alloc (.cells #[.string ⟨p.az.toArray⟩,ι p.time,ι p.count] 283)).cell? (F yb 2)=some (.slice pa n pc):=by
  have:=(f.bU.blk.grown k Z).cell 2;rw[h,m]at this;simpa using this
 have Jm:Hid (0<n->∃x,pa=some ⟨x,0,none⟩/\(w.alloc (.cells #[.string ⟨p.az.toArray⟩,ι p.time,ι p.count] 283)).rangeAt x 0 (fQ M.aI)):=by
  intro h0;obtain⟨x,c,J,e2,_⟩:=jR f.aI (by rw[m];exact h0);rw[h]at J;injection J with J;exact⟨x,J,aA e2 k⟩
 have HN:=I m
 rw[m]at az
 have an:=I r
 obtain⟨sk,i⟩:=aq M.ax
 rw[i]at c0⊢
 have HSk:=I i
 obtain⟨W0,d⟩:=aq (w.alloc (.cells #[.string ⟨p.az.toArray⟩,ι p.time,ι p.count] 283))
 have s0:W0.1.size=w.1.size+1:=by rw[<-d];exact cG _ _
 rw[d]at k R c0 c2 Jm
 have l:=I d
 have sV:=I k
 clear d f h m r i k
 go_in
 go_wp2
 rw[l]
 clear l
 go_loopw [7,8] (λd i wr=>∃k:Nat,k<=n/\i = ι k/\wr.ownsRow (w.1.size+1) 283 3 d (iX sk now (M.aI.take k)).length (fQ (iX sk now (M.aI.take k)))/\W0.grownBy wr none) (λ_ i _=>n-(intOf i).toNat)
 case atStart=>exact⟨0,cS _,rfl,by simpa[iX,fQ]using World.ownsRow_nil _ _ _ _,cC _ _⟩
 case round=>
  obtain⟨k,hk,rfl,hown,l⟩:=hrel;have d0:=l.cell c0 Z;have d2:=l.cell c2 Z;have aj:=l.size;by_cases av:k<n
  .have nG:(k:Int)<(n:Int):=G;have X:(0:Int)<=(k:Int):=G;obtain⟨x,rfl,hrow⟩:=Jm G;have gN:k<M.aI.length:=(by rw[HN];exact av);have v:=aA hrow l;have A:Hid (∀W,wr.grownBy W none->W.cell? (F x (k*3+0))=some (.string ⟨M.aI[k].az.toArray⟩)/\W.cell? (F x (k*3+1))=some (ι M.aI[k].time)/\W.cell? (F x (k*3+2))=some (ι M.aI[k].count)):=by
    intro W d;have h:=aA v d;have h0:=h (k*3+0) _ (by rw[yC _ k 0 gN H];rfl);have B:=h (k*3+1) _ (by rw[yC _ k 1 gN H];rfl);have r:=h (k*3+2) _ (by rw[yC _ k 2 gN H];rfl);rw[cR]at h0 B r;exact⟨h0,B,r⟩
   have HS:=I (Uo sk now M.aI k gN);have d:=an M.aI[k] (eh gN);obtain⟨y,Q⟩:=aq (M.aI[k]);rw[Q]at A HS d;have P:=I (λm=>zN y.time now (wr.drewN m) d cO);obtain⟨e0,J,e2⟩:=A wr (cC _ _);rw[fN]at e0;obtain⟨W,f⟩:=aq (dW y.time now);rw[f]at P HS;clear hrow v Q d f A;by_cases f:W<=sk
   .have d:Hid (iX sk now (M.aI.take (k+1))=iX sk now (M.aI.take k)++[y]):=(by show _=_;rw[HS,dQ f]);have bk:(iX sk now (M.aI.take k)).length<=1000:=by
     have B:=List.length_filter_le (λp:PF=>decide (dW p.time now<=sk)) (M.aI.take k);have r:(iX sk now (M.aI.take k)).length<=(M.aI.take k).length:=B;rw[ew]at r;omega
    have ui:(iX sk now (M.aI.take k)).length+1<=maxLen:=lA;have K:((iX sk now (M.aI.take k)).length+1)*32<=140737488355328:=G;clear HS;go_wp2_with fail;go_quiet (first|(go_at_call 143;refine(P _).mono ?_;rintro e D ⟨rfl,rfl⟩;exact⟨rfl,_,rfl⟩))
    have Dg:Hid (∀m,(wr.drewN m).ownsRow (w.1.size+1) 283 3 u7 (iX sk now (M.aI.take k)).length (fQ (iX sk now (M.aI.take k)))/\W0.grownBy (wr.drewN m) none):=λm=>⟨hown.kept (aN (cC wr none) m) (fm _),aN l m⟩
    clear hown l;go_wp2_with (at_builtin;refine dN _ rfl _ _ 142 rfl (w.1.size+1) 283 i0 _ 3 32 underlying142 V ae af ag rfl H _ _ _ rfl ((Dg _).1.alloc _) ⟨wr.1.size,0,none⟩ 1 1 [.string ⟨y.az.toArray⟩,ι y.time,ι y.count] rfl rfl ?q1 DS G ui K iS ?_)
    case q1=>exact gX (wr.drewN _) 283 [.string ⟨y.az.toArray⟩,ι y.time,ι y.count]
    intro v2 T r C _;have S:Hid (W0.grownBy T none):=gI (aM (Dg _).2 _) C (λj hj=>by have:=((Dg 0).1.lt j hj).1;omega);have U:Hid (T.ownsRow (w.1.size+1) 283 3 v2 (iX sk now (M.aI.take (k+1))).length (fQ (iX sk now (M.aI.take (k+1))))):=(by rw[d,Hq,cF];exact r);clear r C Dg d e0 J e2 d0 d2;go_wp2;go_roundw
    case rel=>exact⟨k+1,by omega,by go_num,U.o,S.o⟩
    case measure=>simp[intOf];omega
   .have d:Hid (iX sk now (M.aI.take (k+1))=iX sk now (M.aI.take k)):=(by show _=_;rw[HS,b' f,gf]);have Dg:Hid (∀m,(wr.drewN m).ownsRow (w.1.size+1) 283 3 u7 (iX sk now (M.aI.take (k+1))).length (fQ (iX sk now (M.aI.take (k+1))))/\W0.grownBy (wr.drewN m) none):=λm=>⟨by rw[d];exact hown.kept (aN (cC wr none) m) (fm _),aN l m⟩
    clear hown l HS d;go_wp2_with fail;go_quiet (first|(go_at_call 143;refine(P _).mono ?_;rintro e D ⟨rfl,rfl⟩;exact⟨rfl,_,rfl⟩))
    go_wp2;go_roundw
    case rel=>exact⟨k+1,by omega,by go_num,(Dg.o _).1,(Dg.o _).2⟩
    case measure=>simp[intOf];omega
  .have au:k=n:=G;have nG:¬ (k:Int)<(n:Int):=G;subst au;have ab:=cW (by rw[HN];exact cA _);rw[ab]at hown;obtain⟨L,hL⟩:=aq (iX sk now M.aI);rw[hL]at hown;have HL:=I hL;have ar:L.length<=1000:=by
    have B:(iX sk now M.aI).length<=M.aI.length:=List.length_filter_le _ _;have:=HN.o;rw[hL]at B;omega
   obtain⟨la,A,rfl⟩:=bA hown;obtain⟨m,S⟩:=aq L.length;have HLm:=I S;rw[S]at hown ar⊢;have ai:=S;have U:(la=none/\Hid (m=0))\/∃v,la=some ⟨v,0,none⟩:=by
    rcases hown.2 with⟨d,_⟩|⟨v,r,f,d,_⟩
    .injection d with J e2 _;exact .inl ⟨J,I e2⟩
    .injection d with J _ _;exact .inr ⟨v,J⟩
   rcases U with⟨rfl,IE⟩|⟨v,rfl⟩
   .have C:=I (aA R l);have ku:=I (aa sV l);have ba:yb<wr.1.size:=G;have mU:=I (HD.Ky ku (dw (by rw[S];exact hown) (fj _)) hbase);clear ab hL S nG d0;have fz:=(HD.bU.blk.grown ku Z).frozen 2;obtain⟨d,hW2⟩:=aq (wr.setCell (F yb 2) (.slice none m A));have Dg:Hid (d.ownsRow (w.1.size+1) 283 3 (.slice none m A) m (fQ L)):=D2;have P:Hid (d.rangeAt w.1.size 0 [.string ⟨p.az.toArray⟩,ι p.time,ι p.count]):=(by rw[<-hW2];exact λj u hu=>by rw[World.cell?_setCell_far _ _ _ _ (show yb≠w.1.size by omega)];exact C j u hu);rw[hW2]at mU;clear ai;have D:=I hW2;clear hW2 hown C ku l aj;go_wp2;rw[D];clear D d2 fz;go_loopw [9] (λi wx=>∃j q:Nat,j<=m/\i = ι j/\Hid (∀a(ha:a<L.length),a<j->L[a]≠p)/\wx=d.drewN q) (λi _=>m-(intOf i).toNat)
    case atStart=>exact⟨0,0,cS _,rfl,I (λa _ ha=>by omega),rfl⟩
    case round=>
     obtain⟨j,q,hj,rfl,HNo,rfl⟩:=hrel;have HRD:=I (mU.1.drewN q);by_cases X:j<m
     .exact absurd X (by have:=IE.o;omega)
     .have W:j=m:=G;have N7:¬ (j:Int)<(m:Int):=G;have Uq:Hid (p∉L):=by
       exact E'
      subst W;by_cases h8:8<=j
      .exact L6
      .have h8I:¬ (8:Int)<=(j:Int):=G;have HC:Hid (bM sk now M.aI p=0/\bK sk now M.aI p=L++[p]):=by
        exact JI
       clear HNo N7 Uq;have y2:d.cell? (F yb 2)=some (.slice none j A):=by
        have:=mU.1.bU.blk.cell 2;simpa using this
       have p0:d.c w.1.size 0=some (.string ⟨p.az.toArray⟩):=P 0 _ rfl;have p1:d.c w.1.size 1=some (ι p.time):=P 1 _ rfl;have p2:d.c w.1.size 2=some (ι p.count):=P 2 _ rfl;have bb:=(cy (d.drewN (q+1)) (.cells #[.string ⟨p.az.toArray⟩,ι p.time,ι p.count] 283) none).cell y2 Z;have ak:w.1.size+1<=d.1.size:=(by have:=jN p0;omega);have ui:j+1<=maxLen:=lA;have K:(j+1)*32<=140737488355328:=G;have al:Hid (∀q',(d.drewN q').ownsRow (w.1.size+1) 283 3 (.slice none j A) j (fQ L)):=λq'=>Dg.kept (aN (cC d none) q') (fm _);have T:Hid (∀(v6)(w6),w6.ownsRow (w.1.size+1) 283 3 v6 (j+1) (fQ L++p.cells)->d.grownBy w6 (Value.slice none j A).ownBlock->RD (w6.setCell (F yb 2) v6) t yb {M with aI:=L++[p]} {g with pv:=v6}/\w.grownBy (w6.setCell (F yb 2) v6) (some yb)/\lE w.1.size v6):=by
        exact MA
       go_wp2_with fail;go_region_law (first|(refine mV rfl _ _ 142 rfl (w.1.size+1) 283 i0 _ 3 32 underlying142 V ae af ag rfl H (.slice none j A) j _ ?s1 (Dg.alloc _) ⟨d.1.size,0,none⟩ 1 1 [.string ⟨p.az.toArray⟩,ι p.time,ι p.count] ?s2 rfl ?s3 ?s4 G ui K ?s5 ?_;(case s1=>first|rfl|simp[Act.eval,Act.put]);(case s2=>first|rfl|simp[Act.eval,Act.put]);(case s3=>exact gX d _ _);(case s4=>intro u hu;simp at hu;rcases hu with rfl|rfl|rfl<;>rfl);(case s5=>simp;omega);intro v6 w6 f B x;obtain⟨a6,c6,ad⟩:=bA f;subst ad;have EW:(d.alloc (.cells #[.string ⟨p.az.toArray⟩,ι p.time,ι p.count] 283)).grownBy w6 (Value.slice none j A).ownBlock:=⟨B.os,B.tape,B.output,B.size,B.block⟩;have r:=Kz EW;have HFin:=I (T _ _ f r);have y6:=r.cell y2 (λe=>by have:=(Dg.o.lt yb e.symm).1;omega);have ao:=(mU.1.bU.blk.grown r (λe=>by have:=(Dg.o.lt yb e.symm).1;omega)).frozen 2;clear f B EW r x))
       all_goals exact Ln
   .have C:=I (aA R l);have ku:=I (aa sV l);have ba:yb<wr.1.size:=G;have mU:=I (HD.Ky ku (dw (by rw[S];exact hown) (fj _)) hbase);clear ab hL S nG d0;have fz:=(HD.bU.blk.grown ku Z).frozen 2;obtain⟨d,hW2⟩:=aq (wr.setCell (F yb 2) (ς v 0 m A));have Dg:Hid (d.ownsRow (w.1.size+1) 283 3 (ς v 0 m A) m (fQ L)):=D2;have P:Hid (d.rangeAt w.1.size 0 [.string ⟨p.az.toArray⟩,ι p.time,ι p.count]):=(by rw[<-hW2];exact λj u hu=>by rw[World.cell?_setCell_far _ _ _ _ (show yb≠w.1.size by omega)];exact C j u hu);rw[hW2]at mU;clear ai;have D:=I hW2;clear hW2 hown C ku l aj;go_wp2;rw[D];clear D d2 fz;go_loopw [9] (λi wx=>∃j q:Nat,j<=m/\i = ι j/\Hid (∀a(ha:a<L.length),a<j->L[a]≠p)/\wx=d.drewN q) (λi _=>m-(intOf i).toNat)
    case atStart=>exact⟨0,0,cS _,rfl,I (λa _ ha=>by omega),rfl⟩
    case round=>
     obtain⟨j,q,hj,rfl,HNo,rfl⟩:=hrel;have HRD:=I (mU.1.drewN q);by_cases X:j<m
     .have N7:(j:Int)<(m:Int):=G;have bf:(0:Int)<=(j:Int):=G;have i:j<L.length:=(by rw[HLm];exact X);have hrow:d.rangeAt v 0 (fQ L):=by
       obtain⟨D,S,C,hrow,_⟩:=jR Dg G;injection C with C;injection C with C;injection C with C;rw[C];exact hrow
      obtain⟨y,Q⟩:=aq (L[j]);have e0:d.cell? (F v (j*3))=some (.string ⟨y.az.toArray⟩):=by
       have h:=hrow (j*3+0) _ (by rw[yC _ j 0 i H];rfl);rw[cR,fN,Q]at h;exact h
      have J:d.cell? (F v (j*3+1))=some (ι y.time):=by
       have h:=hrow (j*3+1) _ (by rw[yC _ j 1 i H];rfl);rw[cR,Q]at h;exact h
      have e2:d.cell? (F v (j*3+2))=some (ι y.count):=by
       have h:=hrow (j*3+2) _ (by rw[yC _ j 2 i H];rfl);rw[cR,Q]at h;exact h
      have p0:d.c w.1.size 0=some (.string ⟨p.az.toArray⟩):=P 0 _ rfl;have p1:d.c w.1.size 1=some (ι p.time):=P 1 _ rfl;have p2:d.c w.1.size 2=some (ι p.count):=P 2 _ rfl;obtain⟨S,D⟩:∃S:ByteArray,S=⟨p.az.toArray⟩:=⟨_,rfl⟩
      obtain⟨Y,hY⟩:∃S:ByteArray,S=⟨y.az.toArray⟩:=⟨_,rfl⟩
      rw[<-hY]at e0;rw[<-D]at p0;have hq:=Dd hY D;have C:Hid (¬ y=p->∀a(ha),a<j+1->L[a]≠p):=by
       intro ax a ha bc;by_cases h:a<j
       .exact HNo a ha h
       .have:a=j:=by omega
        subst this;rw[Q];exact ax
      have Ra:Hid (y=p->p∈L):=λe=>by rw[<-e,<-Q];exact eh i
      clear hrow Q HNo;by_cases h:y.az=p.az
      .have b0:(Y.toList==S.toList)=true:=(by rw[hq,h];simp);by_cases q1:y.time=p.time
       .have b1:(y.time==p.time)=true:=(by rw[db];exact q1);by_cases Q:y.count=p.count
        .have b2:(y.count==p.count)=true:=(by rw[db];exact Q);have SI:=I (Ra (PA.2 ⟨h,q1,Q⟩));have HC:Hid (bM sk now M.aI p=34/\bK sk now M.aI p=L):=by
          have ah:bM sk now M.aI p=34:=(by unfold bM;rw[HL,dQ SI.o]);refine⟨ah,?_⟩;unfold bK;rw[ah,b' H,HL.o]
         clear h q1 Q hq D hY Ra C SI;go_wp2_with fail;go_quiet (fail)
         go_wp2;go_ret;exact⟨bE HC.1.symm,_,by rw[HC.2,<-HSk];exact(mU.1.drewN q).drewN _,⟨mU.2.1.os,mU.2.1.tape,mU.2.1.output,mU.2.1.size,mU.2.1.block⟩,mU.2.2⟩
        .have b2:(y.count==p.count)=false:=(by rw[cJ];exact Q);have Iy:=I (C (λe=>Q (by rw[e])));clear h q1 Q hq D hY Ra C;exact BY
       .have b1:(y.time==p.time)=false:=(by rw[cJ];exact q1);have Iy:=I (C (λe=>q1 (by rw[e])));clear h q1 hq D hY Ra C;exact BY
      .have b0:(Y.toList==S.toList)=false:=(by rw[hq];simpa using h);have Iy:=I (C (λe=>h (by rw[e])));clear h hq D hY Ra C;exact BY
     .have W:j=m:=G;have N7:¬ (j:Int)<(m:Int):=G;have Uq:Hid (p∉L):=by
       exact E'
      subst W;by_cases h8:8<=j
      .exact L6
      .have h8I:¬ (8:Int)<=(j:Int):=G;have HC:Hid (bM sk now M.aI p=0/\bK sk now M.aI p=L++[p]):=by
        exact JI
       clear HNo N7 Uq;have y2:d.cell? (F yb 2)=some (ς v 0 j A):=by
        have:=mU.1.bU.blk.cell 2;simpa using this
       have p0:d.c w.1.size 0=some (.string ⟨p.az.toArray⟩):=P 0 _ rfl;have p1:d.c w.1.size 1=some (ι p.time):=P 1 _ rfl;have p2:d.c w.1.size 2=some (ι p.count):=P 2 _ rfl;have bb:=(cy (d.drewN (q+1)) (.cells #[.string ⟨p.az.toArray⟩,ι p.time,ι p.count] 283) none).cell y2 Z;have ak:w.1.size+1<=d.1.size:=(by have:=jN p0;omega);have ui:j+1<=maxLen:=lA;have K:(j+1)*32<=140737488355328:=G;have al:Hid (∀q',(d.drewN q').ownsRow (w.1.size+1) 283 3 (ς v 0 j A) j (fQ L)):=λq'=>Dg.kept (aN (cC d none) q') (fm _);have T:Hid (∀(v6)(w6),w6.ownsRow (w.1.size+1) 283 3 v6 (j+1) (fQ L++p.cells)->d.grownBy w6 (Value.slice (some ⟨v,0,none⟩) j A).ownBlock->RD (w6.setCell (F yb 2) v6) t yb {M with aI:=L++[p]} {g with pv:=v6}/\w.grownBy (w6.setCell (F yb 2) v6) (some yb)/\lE w.1.size v6):=by
        exact MA
       go_wp2_with fail;go_region_law (first|(refine mV rfl _ _ 142 rfl (w.1.size+1) 283 i0 _ 3 32 underlying142 V ae af ag rfl H (ς v 0 j A) j _ ?s1 (Dg.alloc _) ⟨d.1.size,0,none⟩ 1 1 [.string ⟨p.az.toArray⟩,ι p.time,ι p.count] ?s2 rfl ?s3 ?s4 G ui K ?s5 ?_;(case s1=>first|rfl|simp[Act.eval,Act.put]);(case s2=>first|rfl|simp[Act.eval,Act.put]);(case s3=>exact gX d _ _);(case s4=>intro u hu;simp at hu;rcases hu with rfl|rfl|rfl<;>rfl);(case s5=>simp;omega);intro v6 w6 f B x;obtain⟨a6,c6,ad⟩:=bA f;subst ad;have EW:(d.alloc (.cells #[.string ⟨p.az.toArray⟩,ι p.time,ι p.count] 283)).grownBy w6 (Value.slice (some ⟨v,0,none⟩) j A).ownBlock:=⟨B.os,B.tape,B.output,B.size,B.block⟩;have r:=Kz EW;have HFin:=I (T _ _ f r);have y6:=r.cell y2 (λe=>by have:=(Dg.o.lt yb e.symm).1;omega);have ao:=(mU.1.bU.blk.grown r (λe=>by have:=(Dg.o.lt yb e.symm).1;omega)).frozen 2;clear f B EW r x))
       all_goals exact Ln
section
variable {q:NQ}{e:BE}{key:UInt64}{p:PF}
theorem Bh(h:q.gq=[116,103,115]\/jI q=true)(a:BE.find M.aC q.gq=some e)(b:e.keyOf q.oW=some key):jg M now q=match (fe key 2 q.dR).bind dU with
   |none=>.error 31
   |some t=>
    match (fe t.aO 4 q.proof).bind fJ with
    |none=>.error 31
    |some p=>if p.az≠t.az then .error 36 else if M.ax<dW p.time now then .error 37 else .ok (t,p):=by
 grind [ym,jg]
theorem VB(h:q.gq=[116,103,115]\/jI q=true)(a:BE.find M.aC q.gq=some e)(b:e.keyOf q.oW=some key)(d:(fe key 2 q.dR).bind dU=none):iM M now q=(.error 31,M):=by
 unfold iM;rw[Bh h a b,d]
theorem Qn(h:q.gq=[116,103,115]\/jI q=true)(a:BE.find M.aC q.gq=some e)(b:e.keyOf q.oW=some key)(d:(fe key 2 q.dR).bind dU=some t)(f:(fe t.aO 4 q.proof).bind fJ=none):iM M now q=(.error 31,M):=by
 unfold iM;rw[Bh h a b,d];dsimp only;rw[f]
theorem X8(h:q.gq=[116,103,115]\/jI q=true)(b:BE.find M.aC q.gq=some e)(d:e.keyOf q.oW=some key)(f:(fe key 2 q.dR).bind dU=some t)(g:(fe t.aO 4 q.proof).bind fJ=some p)(a:p.az≠t.az):iM M now q=(.error 36,M):=by
 unfold iM;rw[Bh h b d,f];dsimp only;rw[g];dsimp only;rw[dQ a]
theorem Uj(h:q.gq=[116,103,115]\/jI q=true)(b:BE.find M.aC q.gq=some e)(d:e.keyOf q.oW=some key)(f:(fe key 2 q.dR).bind dU=some t)(g:(fe t.aO 4 q.proof).bind fJ=some p)(a:p.az=t.az)(i:M.ax<dW p.time now):iM M now q=(.error 37,M):=by
 unfold iM;rw[Bh h b d,f];dsimp only;rw[g];dsimp only;rw[b' (λk=>k a),dQ i]
theorem T'(h:q.gq=[116,103,115]\/jI q=true)(b:BE.find M.aC q.gq=some e)(d:e.keyOf q.oW=some key)(f:(fe key 2 q.dR).bind dU=some t)(g:(fe t.aO 4 q.proof).bind fJ=some p)(a:p.az=t.az)(i:¬ M.ax<dW p.time now):
  iM M now q=if bM M.ax now M.aI p≠0 then(.error (bM M.ax now M.aI p),{M with aI:=bK M.ax now M.aI p}) else(.ok t,{M with aI:=bK M.ax now M.aI p}):=by
 unfold iM
 rw[Bh h b d,f]
 dsimp only
 rw[g]
 dsimp only
 rw[b' (λk=>k a),b' i]
end
def oC(base yb:Nat)(g:RG)(A:Except Int TK×DM)(w w':World)(t:TK)(c:Int):Prop:=
 t.In/\(∀c',A.1=.error c'->c=c')/\(∀t',A.1=.ok t'->c=0/\t=t')/\(∃v,RD w' base yb A.2 {g with pv:=v}/\(v=g.pv\/lE w.1.size v))/\w.grownBy w' (some yb)
theorem kQ{base yb:Nat}{M:DM}{g:RG}{w d:World}{t:TK}{c:Int}(f:t.In)(a:RD w base yb M g)(k:w.grownBy d none):oC base yb g (.error c,M) w d t c:=
 ⟨f,λi h=>(by injection h),λj h=>(by cases h),⟨g.pv,a.keep (λb e=>k.block b (a.lt b e).2 Z),.inl rfl⟩,mK k yb⟩
theorem mE{W:World}{b:Nat}{t:TK}(h:W.rangeAt b 0 t.cells):W.cell? (F b 0)=some (Y t.ae)/\W.cell? (F b 1)=some (O (t.aO.toNat:Int))/\W.cell? (F b 2)=some (.string ⟨t.az.toArray⟩)/\W.cell? (F b 3)=some (Y t.dY)/\W.cell? (F b 4)=some (Y t.start)/\W.cell? (F b 5)=some (Y t.fin)/\W.cell? (F b 6)=some (Y t.aD):=
 ⟨h 0 _ rfl,h 1 _ rfl,h 2 _ rfl,h 3 _ rfl,h 4 _ rfl,h 5 _ rfl,h 6 _ rfl⟩
theorem yD{W a:World}{b r:Nat}{d:List Value}(h:W.rangeAt b 0 d)(k:W.grownBy a (some r))(e:b≠r):a.rangeAt b 0 d:=λi v f=>k.cell (h i v f) (by simpa using e)
theorem Qo{W a:World}{b n r:Nat}(h:b9 W b n)(k:W.grownBy a (some r))(g:b≠r):b9 a b n:=by
 have f:=h.lt;obtain⟨cur,e,d,h2⟩:=h;exact AG
theorem nN{a b:World}{r g j:Nat}{u:Value}(h:a.grownBy b (some r))(d:a.1.size<=g):a.grownBy (b.setCell (F g j) u) (some r):=
 ⟨h.os,h.tape,h.output,by rw[World.size_setCell];exact h.size,(by grind [World.grownBy.block,RowKit.Below.heap_setCell])⟩
theorem RD.xG{V:World}{base yb:Nat}{M:DM}{g:RG}(h:RD V base yb M g){c k:Nat}{u:Value}(a:∀b,g.foot yb b->b≠c):RD (V.setCell (F c k) u) base yb M g:=(by grind [RD.keep,RowKit.Below.heap_setCell])
theorem Qp{base yb:Nat}{g:RG}{d:DM}{w e:World}{t:TK}{b:Int}{A:Except Int TK×DM}(a:A=if b≠0 then(.error b,d) else(.ok t,d))(i:t.In)(f:∃v,RD e base yb d {g with pv:=v}/\(v=g.pv\/lE w.1.size v))(k:w.grownBy e (some yb)):oC base yb g A w e t b:=by
 by_cases j:b=0
 .rw[b' (λh=>h j)]at a;subst a;exact⟨i,λl h=>(by cases h),dT,f,k⟩
 .rw[dQ j]at a;subst a;exact⟨i,λl h=>(by injection h),λm h=>(by cases h),f,k⟩
structure OW(w W:World)(base yb:Nat)(M:DM)(g:RG)(q:NQ)(z pv:Value)(t:TK):Prop where
 d:RD W base yb M g
 c:W.rangeAt w.1.size 0 [.string ⟨q.gq.toArray⟩,Y q.oW,z]
 r:b9 W (w.1.size+1) 7
 t:W.rangeAt (w.1.size+2) 0 t.cells
 lt:b9 W (w.1.size+2) 7
 z:xA W z q.dR
 p:xA W pv q.proof
 g:w.grownBy W none
section
variable {base:Nat}{q:NQ}{z pv:Value}
theorem OW.grown{a:World}(h:OW w W base yb M g q z pv t)(k:W.grownBy a none):OW w a base yb M g q z pv t:=
 ⟨h.d.keep (λb d=>k.block b (h.d.lt b d).2 Z),aA h.c k,h.r.grown k,aA h.t k,h.lt.grown k,h.z.grown k,h.p.grown k,aa h.g k⟩
theorem OW.drew(h:OW w W base yb M g q z pv t):OW w W.drew base yb M g q z pv t:=h.grown (bg (cC _ _))
theorem OW.tc(h:OW w W base yb M g q z pv t):W.cell? (F (w.1.size+2) 0)=some (Y t.ae)/\W.cell? (F (w.1.size+2) 1)=some (O (t.aO.toNat:Int))/\W.cell? (F (w.1.size+2) 2)=some (.string ⟨t.az.toArray⟩)/\W.cell? (F (w.1.size+2) 3)=some (Y t.dY)/\W.cell? (F (w.1.size+2) 4)=some (Y t.start)/\W.cell? (F (w.1.size+2) 5)=some (Y t.fin)/\W.cell? (F (w.1.size+2) 6)=some (Y t.aD):=
 ⟨h.t 0 _ rfl,h.t 1 _ rfl,h.t 2 _ rfl,h.t 3 _ rfl,h.t 4 _ rfl,h.t 5 _ rfl,h.t 6 _ rfl⟩
theorem OW.big(h:OW w W base yb M g q z pv t):w.1.size+3<=W.1.size:=h.lt.lt
theorem OW.arH(h:OW w W base yb M g q z pv t)(d:RD w base yb M g)(m:xA w z q.dR)(i:xA w pv q.proof)(a):OW w (((((((W.s (w.1.size+2) 0 (Y a.ae)).s (w.1.size+2) 1 (O (a.aO.toNat:Int))).s (w.1.size+2) 2 (.string ⟨a.az.toArray⟩)).s (w.1.size+2) 3 (Y a.dY)).s (w.1.size+2) 4 (Y a.start)).s (w.1.size+2) 5 (Y a.fin)).s (w.1.size+2) 6 (Y a.aD)) base yb M g q z pv a:=by
 have f:∀{V:World}{g:Nat}{b:List Value}(k)(v),w.1.size+2≠g->V.rangeAt g 0 b->(V.setCell (F (w.1.size+2) k) v).rangeAt g 0 b:=λk v e l=>gZ l e v;have G:=aB (j:=6) (u:=Y a.aD) (aB (j:=5) (u:=Y a.fin) (aB (j:=4) (u:=Y a.start) (aB (j:=3) (u:=Y a.dY) (aB (j:=2) (u:=.string ⟨a.az.toArray⟩) (aB (j:=1) (u:=O (a.aO.toNat:Int)) (aB (j:=0) (u:=Y a.ae) h.g (ep _ 2)) (ep _ 2)) (ep _ 2)) (ep _ 2)) (ep _ 2)) (ep _ 2)) (ep _ 2);refine⟨d.keep (λb e=>G.block b (d.lt b e).2 Z),?_,?_,fw h.lt _ _ _ _ _ _ _,?_,m.grown G,i.grown G,G⟩
 .exact f _ _ aZ (f _ _ aZ (f _ _ aZ (by grind [OW.c])))
 .exact dL (dL (dL (by grind [dL,OW.r]) _) _) _
 .exact dL (dL (dL (by grind [dL,OW.lt]) _) _) _
end
end Go.Proofs.YticfhckmhcaigaaGreatDoor
namespace Go.Proofs.YticfhckmhcaigaaGreatDoor
set_option maxHeartbeats 8000000
open Proofs.Tryz Go.RowKit
set_option maxRecDepth 100000
set_option linter.unusedSimpArgs false
variable {x:BE}{aR bY dM now:Int}{W:World}
def Eh(r:Except Int TK)(t:TK)(c:Int):Prop:=(∀c',r=.error c'->c=c')/\∀t',r=.ok t'->c=0/\t=t'
theorem xJ{c:Int}{t:TK}:Eh (.error c) t c:=⟨λa h=>by injection h,λb h=>by cases h⟩
theorem Hw{t:TK}:Eh (.ok t) t 0:=⟨λa h=>(by cases h),dT⟩
def wz(a b c:Bool):Int:=(if a=true then 64 else 0)+(if b=true then 128 else 0)+(if c=true then 256 else 0)
theorem T7(n):bits .and .i64 n 448=wz (aJ n 64) (aJ n 128) (aJ n 256):=No n
theorem acs(a b c):bits .or .i64 (wz a b c) 128=wz a true c:=by cases a<;>cases b<;>cases c<;>decide +kernel
theorem acu(a b c):bits .or .i64 (wz a b c) 256=wz a b true:=by cases a<;>cases b<;>cases c<;>decide +kernel
theorem T4(a b c):0<=wz a b c/\wz a b c<4096:=by cases a<;>cases b<;>cases c<;>decide
theorem acv{a:TK}{s:BE}(h:aJ aR 32=true)(b:now<a.start):fresh now a x s dM bY aR=.error 33:=by unfold fresh;rw[dQ h,dQ b]
theorem acw{a:TK}{s:BE}(h:aJ aR 32=true)(b:¬ now<a.start):fresh now a x s dM bY aR=.ok {a with ae:=if aJ a.ae 16=true then a.ae-16 else a.ae}:=by unfold fresh;rw[dQ h,b' b]
theorem acx{a:TK}{s:BE}(h:aJ aR 32=false)(b:aJ aR 16=true)(d:a.aD<=now):fresh now a x s dM bY aR=.error 32:=by unfold fresh;rw[b' (by rw[h];decide),dQ b,dQ d]
theorem acy{a:TK}{s:BE}(h:aJ aR 32=false)(b:aJ aR 16=true)(d:¬ a.aD<=now):fresh now a x s dM bY aR=.ok {a with start:=now,fin:=gU a.aD (aW now (gD a.fin a.start))}:=by unfold fresh;rw[b' (by rw[h];decide),dQ b,b' d]
theorem acz{a:TK}{s:BE}(h:aJ aR 32=false)(b:aJ aR 16=false)(d:iJ now dM a x s<=now):fresh now a x s dM bY aR=.error 11:=by unfold fresh;rw[b' (by rw[h];decide),b' (by rw[b];decide),dQ d]
theorem acA{a:TK}{s:BE}(h:aJ aR 32=false)(b:aJ aR 16=false)(d:¬ iJ now dM a x s<=now):fresh now a x s dM bY aR=.ok {a with start:=now,fin:=iJ now dM a x s,ae:=iR aR a x s,aD:=fE aR a.ae x s now (gU (kB bY) a.aD)}:=by unfold fresh;rw[b' (by rw[h];decide),b' (by rw[b];decide),b' d]
theorem Uu(aR)(a)(x s):iR aR a x s=wz (aJ a.ae 64) (aJ a.ae 128||aJ aR 64) (aJ a.ae 256||aJ aR 128)+iy aR a.ae x s:=by
 grind [iR,wz]
theorem Rb{P:Program}{c:Code}{Q:Exit->Act->World->Prop}{a:Act}(X:World->Prop)(b:X W)(h:∀V,X V->Code.wp P c Q a V):Code.wp P c Q a W:=h W b
theorem FW.sc{w:World}{a:TK}{x s:RE}{d st b e:Int}(h:FW w W a x s d st b e):W.cell? (F w.1.size 5)=some (Y a.fin)/\W.cell? (F (w.1.size+1) 3)=some (Y x.bH)/\W.cell? (F (w.1.size+2) 3)=some (Y s.bH):=⟨h.oq 5 _ rfl,h.x 3 _ rfl,h.s 3 _ rfl⟩
theorem FW.Uk{w:World}{e:TK}{x s:RE}{l st j m:Int}(h:FW w W e x s l st j m)(a b c d):FW w (((((((W.s (w.1.size+4) 0 (Y a)).s (w.1.size+4) 1 (O (e.aO.toNat:Int))).s (w.1.size+4) 2 (.string ⟨e.az.toArray⟩)).s (w.1.size+4) 3 (Y e.dY)).s (w.1.size+4) 4 (Y b)).s (w.1.size+4) 5 (Y c)).s (w.1.size+4) 6 (Y d)) e x s a b c d:=by
 have f:∀{V:World}{g:Nat}{i:List Value}(k)(v),w.1.size+4≠g->V.rangeAt g 0 i->(V.setCell (F (w.1.size+4) k) v).rangeAt g 0 i:=(by grind [gZ])
 refine⟨?_,?_,?_,?_,fw h.lt _ _ _ _ _ _ _,?_,?_⟩
 .exact f _ _ G (f _ _ G (f _ _ G (by grind [FW.oq])))
 .exact f _ _ G (f _ _ G (f _ _ G (by grind [FW.x])))
 .exact f _ _ G (f _ _ G (f _ _ G (by grind [FW.s])))
 .exact dL (dL (dL (by grind [dL,FW.r]) _) _) _
 .exact dL (dL (dL (by grind [dL,FW.lt]) _) _) _
 .exact aB (aB (aB (by grind [aB,FW.g]) G) G) G
theorem MS(aR b)(x s)(a d):(if Bg aR b x s 4 2=true then fE aR b x s a d else 0)=fE aR b x s a d:=by
 rw[vR];cases Bg aR b x s 4 2<;>rfl
theorem z'{p q:Prop}(k:q)(h:q->p:=by
  intro hq
  obtain⟨t0,t1,t2,t3,t4,t5,t6⟩:=HF.tc
  obtain⟨⟨dd0,kk0⟩,⟨dd1,kk1⟩,⟨dd2,kk2⟩,⟨dd3,kk3⟩,⟨dd4,kk4⟩,⟨dd5,kk5⟩,⟨dd6,kk6⟩,ff0,ff1,ff2,ff3,ff4,ff5,ff6⟩:=qD HF.r
  go_wp2
  refine bodyPost_ret (aG results111 _ _ _ (w.1.size+3) rfl _ (iK (fw HF.r _ _ _ _ _ _ _))) rfl ?_
  exact hq):p:=h k
theorem zE{p:Prop}(h:p:=by
  refine z' ?_
  exact⟨⟨_,_,_,_,_,_,_⟩,_,rfl,by rw[HS];first|exact xJ|exact Hw,XX HF.g G⟩):p:=h
theorem Yf(d)(now)(a)(x s:RE)(dM bY aR)(w)(hx:0<=x.ae/\x.ae<64)(hs:0<=s.ae/\s.ae<64)(ar:bT x.aD)(an:bT s.aD)(ao:bT x.bH)(al:bT s.bH)(cO:bT now)(ag:a.In):Calls prog 111 #[d,Y now,.agg a.cells.toArray,.agg x.arr,.agg s.arr,Y dM,Y bY,Y aR] w λe b=>∃t c,e=.returned (.tuple #[.agg t.cells.toArray,Y c])/\Eh (fresh now a x.be s.be dM bY aR) t c/\w.grownBy b none:=by
 obtain⟨R,f⟩:=aq (fresh now a x.be s.be dM bY aR)
 rw[f]
 have k:=I f
 clear f
 have j:FW w (((((w.alloc (.cells a.cells.toArray 43)).alloc (.cells x.arr 166)).alloc (.cells s.arr 166)).alloc (.cells #[Y 0,O 0,ε,Y 0,Y 0,Y 0,Y 0] 43)).alloc (.cells a.cells.toArray 43)) a x s a.ae a.start a.fin a.aD:=by
  exact⟨MG,MG,MG,MG,MG,MG,MG⟩
 rw[TK.pK a]at j⊢
 obtain⟨W0,f⟩:=aw (((((w.alloc (.cells #[Y a.ae,O (a.aO.toNat:Int),.string ⟨a.az.toArray⟩,Y a.dY,Y a.start,Y a.fin,Y a.aD] 43)).alloc (.cells x.arr 166)).alloc (.cells s.arr 166)).alloc (.cells #[Y 0,O 0,ε,Y 0,Y 0,Y 0,Y 0] 43)).alloc (.cells #[Y a.ae,O (a.aO.toNat:Int),.string ⟨a.az.toArray⟩,Y a.dY,Y a.start,Y a.fin,Y a.aD] 43))
 rw[<-f]at j
 have i:=I f
 have HF:=I j
 obtain⟨n0,n1,n2,n3,n4⟩:=ag
 clear j f
 have f:=I (λW=>eZ aR 32 5 W H H)
 have Y5:=I (λW=>eZ aR 16 4 W H H)
 obtain⟨b5,l⟩:=aq (aJ aR 32)
 obtain⟨b4,j⟩:=aq (aJ aR 16)
 have X:=I l
 have H4:=I j
 rw[l]at f
 rw[j]at Y5
 clear l j
 obtain⟨C,J,L,M⟩:=HF.oc
 go_in
 go_wp2_with (first|(rw[<-i];fail_if_success done)|fail)
 refine(f _).mono ?_
 rintro e b ⟨rfl,rfl⟩
 clear i f
 cases b5 with
 |true=>
  by_cases i:now<a.start
  .have HS:Hid (R=.error 33):=(by show _=_;rw[<-k,acv X.o i]);clear k;exact zE
  .have HS:Hid (R=.ok {a with ae:=if aJ a.ae 16=true then a.ae-16 else a.ae}):=(by show _=_;rw[<-k,acw X.o i]);have f:=I (AO a.ae n0);rw[<-f]at HS;clear k f;obtain⟨l,j⟩:=aq (bits .andNot .i64 a.ae 16);rw[j]at HS;have Y4:=HF.o.lt.frozen 0;have f:=I (HF.Di l);obtain⟨t0,t1,t2,t3,t4,t5,t6⟩:=HF.tc;obtain⟨⟨dd0,kk0⟩,⟨dd1,kk1⟩,⟨dd2,kk2⟩,⟨dd3,kk3⟩,⟨dd4,kk4⟩,⟨dd5,kk5⟩,⟨dd6,kk6⟩,ff0,ff1,ff2,ff3,ff4,ff5,ff6⟩:=qD HF.r;go_wp2;refine bodyPost_ret (aG results111 _ _ _ (w.1.size+3) rfl _ (iK (fw f.r _ _ _ _ _ _ _))) rfl ?_;exact⟨⟨l,a.aO,a.az,a.dY,a.start,a.fin,a.aD⟩,0,rfl,by rw[HS];exact Hw,(by grind [aB,FW.g,Hid.o])⟩
 |false=>
  have m:=HF.tc.2.2.2.2.1;have l:=HF.o.lt.frozen 4;have f:=I (HF.setSt now);obtain⟨W2,i⟩:=aw (b.setCell (F (w.1.size+4) 4) (Y now));rw[<-i]at f;have j:=I i;clear i HF C J L M;have HF:=f;clear f;go_wp2_with (first|(rw[<-j];fail_if_success done)|fail)
  refine(Y5 _).mono ?_;rintro e ah ⟨rfl,rfl⟩;clear j Y5 m l;obtain⟨C,J,L,M⟩:=HF.oc;cases b4 with
  |true=>
   by_cases t:a.aD<=now
   .have HS:Hid (R=.error 32):=(by show _=_;rw[<-k,acx X.o H4.o t]);clear k;refine z' ?_;exact⟨⟨a.ae,a.aO,a.az,a.dY,now,a.fin,a.aD⟩,32,rfl,by rw[HS];exact xJ,XX HF.g G⟩
   .have i:=I (λW=>Ch a.fin a.start W n3 n2);obtain⟨A,n⟩:=aq (gD a.fin a.start);have m:bT A:=(by rw[<-n];exact BU _);rw[n]at i;have j:=I (λW=>mR now A W cO m);obtain⟨B,u⟩:=aq (aW now A);rw[u]at j;have p:=I (λW=>kN a.aD B W);obtain⟨D,l⟩:=aq (gU a.aD B);rw[l]at p;have HS:Hid (R=.ok {a with start:=now,fin:=D}):=(by show _=_;rw[<-k,acy X.o H4.o t,n,u,l]);clear k n u l m;have U:=HF.tc.2.2.2.2.2.1;have q:=HF.o.lt.frozen 5;go_wp2_with fail;go_region_held3 (λb=>b.c w.1.size 0=some (Y a.ae)/\b.c w.1.size 4=some (Y a.start)/\b.c w.1.size 5=some (Y a.fin)/\b.c w.1.size 6=some (Y a.aD)) (first|(with_reducible exact FW.oc HF.o)|(with_reducible exact FW.oc HF.o.drew)|(with_reducible exact FW.oc (HF.o.zk _))|(with_reducible exact FW.oc (HF.o.zk _).drew)|go_keep) (first|(go_at_call 147;(with_reducible refine Calls.mono (i.o _) ?_);rintro e b ⟨rfl,rfl⟩)|(go_at_call 103;(with_reducible refine Calls.mono (j.o _) ?_);rintro e b ⟨rfl,rfl⟩)|(go_at_call 104;(with_reducible refine Calls.mono (p.o _) ?_);rintro e b ⟨rfl,rfl⟩));have f:=I (HF.zk D).drew;obtain⟨W3,m⟩:=aq ((ah.setCell (F (w.1.size+4) 5) (Y D)).drew);rw[m]at f⊢;clear m HF C J L M U q i j p;have HF:=f;clear f;exact zE
  |false=>
   have i:=I (λW=>vQ dM W);obtain⟨A,n⟩:=aq (kB dM);rw[n]at i;have j:=I (λW=>kN A a.fin W);obtain⟨B,u⟩:=aq (gU A a.fin);rw[u]at j;have p:=I (λW=>mR now x.bH W cO ao);obtain⟨X1,hX⟩:=aq (aW now x.bH);rw[hX]at p;have v:=I (λW=>mR now s.bH W cO al);obtain⟨S1,T⟩:=aq (aW now s.bH);rw[T]at v;have y:=I (λW=>kN X1 S1 W);obtain⟨E1,Q⟩:=aq (gU X1 S1);rw[Q]at y;have P:=I (λW=>kN B E1 W);obtain⟨D,l⟩:=aq (gU B E1);rw[l]at P;have t:Hid (iJ now dM a x.be s.be=D):=by
    show _=_;rw[<-l,<-Q,<-u,<-n,<-hX,<-T];rfl
   clear n u hX T Q l;have U:=HF.tc.2.2.2.2.2.1;have q:=HF.o.lt.frozen 5;obtain⟨n,u,Q⟩:=HF.sc;go_wp2_with fail;go_region_held3 (λb=>b.c w.1.size 5=some (Y a.fin)/\b.c (w.1.size+1) 3=some (Y x.bH)/\b.c (w.1.size+2) 3=some (Y s.bH)) (first|(with_reducible exact FW.sc HF.o)|(with_reducible exact FW.sc HF.o.drew)|(with_reducible exact FW.sc (HF.o.zk _))|(with_reducible exact FW.sc (HF.o.zk _).drew)|go_keep) (first|(go_at_call 105;(with_reducible refine Calls.mono (i.o _) ?_);rintro e b ⟨rfl,rfl⟩)|(go_at_call 103;(first|(with_reducible refine Calls.mono (p.o _) ?_)|(with_reducible refine Calls.mono (v.o _) ?_));rintro e b ⟨rfl,rfl⟩)|(go_at_call 104;(first|(with_reducible refine Calls.mono (j.o _) ?_)|(with_reducible refine Calls.mono (y.o _) ?_)|(with_reducible refine Calls.mono (P.o _) ?_));rintro e b ⟨rfl,rfl⟩));have f:=I (HF.zk D).drew;obtain⟨W3,m⟩:=aq ((ah.setCell (F (w.1.size+4) 5) (Y D)).drew);rw[m]at f⊢;clear m HF C J L M U q n u Q i j p v y P;have HF:=f;clear f;by_cases l:D<=now
   .have HS:Hid (R=.error 11):=(by show _=_;rw[<-k,acz X.o H4.o (by rw[t];exact l)]);clear k;refine z' ?_;exact⟨⟨a.ae,a.aO,a.az,a.dY,now,D,a.aD⟩,11,rfl,by rw[HS];exact xJ,XX HF.g G⟩
   .have HS:=I (acA (bY:=bY) X H4 (show ¬ iJ now dM a x.be s.be<=now by rw[t];exact l));rw[t,Uu]at HS;have q:=I (λW=>eZ aR 64 6 W H H);have Qt:=I (λW=>eZ aR 128 7 W H H);obtain⟨Q,h6⟩:=aq (aJ aR 64);obtain⟨b7,h7⟩:=aq (aJ aR 128);rw[h6]at q;rw[h7]at Qt;rw[h6,h7]at HS;obtain⟨fa,ad⟩:=aq (aJ a.ae 64);obtain⟨fb,WL⟩:=aq (aJ a.ae 128);obtain⟨fc,af⟩:=aq (aJ a.ae 256);have hk:=T7 a.ae;rw[ad,WL,af]at hk HS;have P:=I (T4 fa (fb||Q) (fc||b7));obtain⟨kf,v⟩:=aq (wz fa fb fc);obtain⟨kq,m⟩:=aq (wz fa (fb||Q) fc);obtain⟨n,y⟩:=aq (wz fa (fb||Q) (fc||b7));rw[v]at hk;rw[y]at HS P;have aj:Hid (Q=false->kq=kf):=λh=>by rw[<-m,<-v,h,Bool.or_false]
    have Gb:Hid (Q=true->bits .or .i64 kf 128=kq):=λh=>by rw[<-v,<-m,h,Bool.or_true];exact acs fa fb fc
    have ai:Hid (b7=false->n=kq):=λh=>by rw[<-m,<-y,h,Bool.or_false]
    have ab:Hid (b7=true->bits .or .i64 kq 256=n):=λh=>by rw[<-m,<-y,h,Bool.or_true];exact acu fa (fb||Q) fc
    clear h6 h7 ad WL af t v m y;have i:=I (λW=>vQ bY W);obtain⟨A2,V⟩:=aq (kB bY);rw[V]at i HS;have j:=I (λW=>kN A2 a.aD W);obtain⟨U,hU⟩:=aq (gU A2 a.aD);rw[hU]at j HS;obtain⟨MF,u⟩:=aq (iy aR a.ae x.be s.be);obtain⟨MR,T⟩:=aq (fE aR a.ae x.be s.be now U);have p:Hid (∀W,Calls prog 106 #[.agg #[Y n,O (a.aO.toNat:Int),.string ⟨a.az.toArray⟩,Y a.dY,Y now,Y D,Y 0],Y aR,Y a.ae,.agg x.arr,.agg s.arr,Y U] W λe b=>e=.returned (.agg #[Y (n+MF),O (a.aO.toNat:Int),.string ⟨a.az.toArray⟩,Y a.dY,Y now,Y D,Y MR])/\W.grownBy b none):=by
     intro W;have h:=Qg ⟨n,a.aO,a.az,a.dY,now,D,0⟩ aR a.ae U x s W hx hs ar an cO P.1 P.2;dsimp only at h;rw[MS,u,T]at h;exact h
    rw[u,T]at HS;clear V hU u T;obtain⟨C,J,L,M⟩:=HF.oc;obtain⟨t0,t1,t2,t3,t4,t5,t6⟩:=HF.tc;have Y4:=HF.o.lt.frozen 0;have au:=l;go_upto_if 81 with(go_at_call 102;(first|(with_reducible refine Calls.mono (q.o _) ?_)|(with_reducible refine Calls.mono (Qt.o _) ?_));rintro e b ⟨rfl,rfl⟩)
    go_cut [] (λu=>FW w u a x s kq now D a.aD)
    case first=>
     cases Q with
     |false=>
      go_wp2;go_meet;grind [FW.Di,Hid.o]
     |true=>
      have e1:=Gb rfl;go_wp2;go_meet
      case rel=>exact(HF.Di kf).Di kq
    case rest=>
     have f:=I hcut;clear hcut HF C J L M t0 t1 t2 t3 t4 t5 t6 Y4 hk aj Gb;have t0:=f.tc.1;have Y4:=f.o.lt.frozen 0;go_upto_if 87 with(go_at_call 102;(first|(with_reducible refine Calls.mono (q.o _) ?_)|(with_reducible refine Calls.mono (Qt.o _) ?_));rintro e b ⟨rfl,rfl⟩)
     go_cut [] (λu=>FW w u a x s n now D a.aD)
     case first=>
      cases b7 with
      |false=>
       go_wp2;exact oA
      |true=>
       have e1:=ab rfl;go_wp2;go_meet
       case rel=>exact f.Di n
     case rest=>
      have JY:=I hcut;clear hcut f t0 Y4 ai ab;have t6:=JY.tc.2.2.2.2.2.2;have ak:=JY.o.lt.frozen 6;go_upto_region 22 with fail
      refine Rb (λV=>FW w V a x s n now D 0) (JY.amB 0) ?_;intro W4 u;have T:=I u;clear u JY t6 ak;go_wp2_with fail;refine aF.start (S:=λV=>FW w V a x s n now D 0) 12 f' ?_;have eu:=I T.drew;refine aF.tk 0 [11,0] ?_ (hy:=by intro W hW;obtain⟨t0,t1,t2,t3,t4,t5,t6⟩:=hW.tc;exact kV);refine aF.tk 1 [11,1] ?_;refine aF.tk 2 [11,3,2] ?_;refine aF.tk 3 [11,3] ?_ (hy:=by intro W hW;obtain⟨C,J,L,M⟩:=hW.oc;exact kV);refine aF.tk 4 [11,4] ?_ (hy:=by intro W hW;obtain⟨e0,e1,e2,e3,e4,e5,e6,e7,e8,e9⟩:=eG hW.x;exact kV);refine aF.tk 5 [11,5] ?_ (hy:=by intro W hW;obtain⟨e0,e1,e2,e3,e4,e5,e6,e7,e8,e9⟩:=eG hW.s;exact kV);refine aF.tk 6 [11,10,7,6] ?_;refine aF.tk 8 [11,10,9,8] ?_;refine aF.tk 9 [11,10,9] ?_ (hy:=by intro W hW;obtain⟨C,J,L,M⟩:=hW.oc;exact kV);refine aF.on 7 ?_;intro K hK;refine Calls.mono (i _) ?_;rintro e b ⟨rfl,rfl⟩;go_wp2_with fail;refine qF ?_;clear hK K i;refine aF.on 10 ?_;intro K hK;refine Calls.mono (j _) ?_;rintro e b ⟨rfl,rfl⟩;go_wp2_with fail;refine qF ?_;clear hK K j;refine aF.on 11 ?_;intro K hK;refine Calls.mono (p _) ?_;rintro e w5 ⟨rfl,g5⟩;have u:=I (eu.grown g5);clear g5;go_wp2_with fail;refine mA u ?_;clear hK K p;obtain⟨⟨e0,j0⟩,⟨e1,j1⟩,⟨e2,j2⟩,⟨e3,j3⟩,⟨e4,j4⟩,⟨e5,j5⟩,⟨e6,j6⟩,l0,l1,l2,l3,l4,l5,l6⟩:=qD u.o.lt;refine aF.on 12 ?_;intro K hK;refine hK.out _ _ (.inl f') ?_;clear hK K;refine aF.Hd (λV=>FW w V a x s (n+MF) now D MR) f' (u.Uk (n+MF) now D MR) ?_;clear e0 e1 e2 e3 e4 e5 e6 j0 j1 j2 j3 j4 j5 j6 l0 l1 l2 l3 l4 l5 l6 u eu T q Qt;intro T u;have HF:=I u;clear u;have u:=HS;clear HS;have HS:Hid (R=_):=k.o.symm.trans u.o;exact zE
