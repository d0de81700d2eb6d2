import Derived.Test.YtlfifnpjeangmaaGreatDoorGEDeskE
namespace Go.Proofs.YtlfifnpjeangmaaGreatDoor
set_option maxHeartbeats 2000000
open Go.RowKit
set_option maxRecDepth 100000
variable {p:Prop}
theorem rh(h:p:=by grind [RE.fQ]):p:=h
theorem RE.fQ(e:RE):e.cells.length=10:=rfl
theorem lT(y)(a):bK (y::a)=y.cells++bK a:=by simp[bK]
theorem oX(a b:List Value)(j)(v)(h:j<a.length):(a++b).set j v=a.set j v++b:=by rw[List.set_append,dT h]
def RE.jo(x:RE)(key:UInt64):RE:=⟨x.k,x.name,x.zm,x.bI,x.aC,x.bB,x.ae,x.aH+1,key,x.key⟩
theorem Gb(b):∀(a)(i)(d:i<a.length),(((bK a).set (i*10+7) (Y (a[i].aH+1))).set (i*10+8) (H (b.toNat:Int))).set (i*10+9) (H (a[i].key.toNat:Int))=bK (a.set i (a[i].jo b)):=by
 intro a;induction a with
 |nil=>intro i d;simp at d
 |cons y a e=>
  intro i d;cases i with
  |zero=>
   rw[lT,gf,cN,cN,cN,oX _ _ 7 _ (by rw[RE.fQ];omega),oX _ _ 8 _ rh,oX _ _ 9 _ rh];show _=bK (y.jo b::a);rw[lT];rfl
  |succ i=>
   grind [RE.fQ,lT]
theorem Co{w:World}{g i:Nat}{x:RE}(a:∀j,j<10->w.c g (i*10+j)=x.cells[j]?):w.cell? (F g (i*10))=some (Y x.k)/\w.cell? (F g (i*10+1))=some (.string ⟨x.name.toArray⟩)/\w.cell? (F g (i*10+2))=some (H (x.zm.toNat:Int))/\w.cell? (F g (i*10+3))=some (Y x.bI)/\w.cell? (F g (i*10+4))=some (Y x.aC)/\w.cell? (F g (i*10+5))=some (Y x.bB)/\w.cell? (F g (i*10+6))=some (Y x.ae)/\w.cell? (F g (i*10+7))=some (Y x.aH)/\w.cell? (F g (i*10+8))=some (H (x.key.toNat:Int))/\w.cell? (F g (i*10+9))=some (H (x.before.toNat:Int)):=
 ⟨a 0 G,a 1 G,a 2 G,a 3 G,a 4 G,a 5 G,a 6 G,a 7 G,a 8 G,a 9 G⟩
theorem vv(h:p:=by
 rw[hbk.cellAt (i*10+j) G,iw es i j DL hj]):p:=h
theorem Hn(h:p:=by
 go_wp2_with fail
 go_region
 all_goals
  go_wp2
  go_ret
  refine⟨rfl,?_⟩
  have h:=HRD.o
  rw[HW3]at h
  exact h):p:=h
theorem Ju(k v)(J)(d M)(U D)(es)(P)(m i:Nat)(a:mE)(w)(p:iP w k v J (ς d 0 m M) U D es P)(X:Hid (es.length=m))(yg:m<=20)(ah:a.kind=3)(b:gu es a.name=(i:Int))(ba:i<m)(DL:i<es.length)(jL:es[i].aH<4611686018427387904)(ab:0<=es[i].aH):Calls Tryz.prog 30 #[π v 0,.agg a.cells] w λr e=>r=.returned (Y 0)/\iP e k v J (ς d 0 m M) U D (es.set i (es[i].jo a.key)) P/\iU w e (λg=>g=d):=by
 have t:=λw=>mY a w
 have hF:=λw n=>oh k v J (ς d 0 m M) U D es P a.name m ⟨a.name.toArray⟩ w n X G (I rfl)
 rw[b]at hF
 generalize a.qm=pl at t
 obtain⟨ak,an,f,bI,aC,bB,ae⟩:=a
 obtain rfl:ak=3:=ah
 simp only[mE.cells]at t hF⊢
 have G0:w.grownBy (w.alloc (.cells #[Y 3,.string ⟨an.toArray⟩,H (f.toNat:Int),Y bI,Y aC,Y bB,Y ae] 41)) none:=cx w _ none
 have ag:=dz.new w #[Y 3,.string ⟨an.toArray⟩,H (f.toNat:Int),Y bI,Y aC,Y bB,Y ae] 41
 have q:=hF _ (p.grown G0)
 clear hF b
 go_enter Tryz.func30,Tryz.ntmps30
 go_wp2_with fail
 refine q.mono ?_
 rintro e w1 ⟨rfl,l⟩
 have b:=ag.grown l Z
 have G1:=aa G0 l
 have Q:=b.cell 0
 have u:=b.cell 1
 have R:=b.cell 2
 have x:=b.cell 3
 have y:=b.cell 4
 have B:=b.cell 5
 have C:=b.cell 6
 simp only[cH,cG,cI]at Q u R x y B C
 clear q l
 go_wp2_with fail
 refine(t _).mono ?_
 rintro e r ⟨rfl,l⟩
 have S:=b.grown l Z
 have A:=aa G1 l
 have q:=p.grown A
 clear Q u R x y B C t l b
 have Q:=S.cell 0
 have R:=S.cell 2
 have c1:=q.blk.cell 1
 simp only[cH,cG,cI]at Q R c1
 have hbk:=q.aF
 rw[X]at hbk
 have hc:∀j,j<10->r.cell? (F d (i*10+j))=(es[i]).cells[j]?:=λj hj=>by
  exact vv
 obtain⟨x,n⟩:=aw (es[i])
 have HX:=I n
 rw[<-n]at hc jL ab
 clear n
 obtain⟨d0,d1,d2,d3,d4,d5,d6,d7,d8,d9⟩:=Co hc
 have OL:(i:Int)<(m:Int):=G
 have ay:(0:Int)<=(i:Int):=G
 have bb:¬ (i:Int)<0:=G
 have V:=cx r (.cells x.arr 166) none
 have ad:=V.cell c1 Z
 have au:=V.cell Q Z
 have af:=V.cell R Z
 have al:=V.cell d7 Z
 have av:(r.alloc (.cells x.arr 166)).frozen? (F d (i*10+7))=false:=ou (hbk.alloc _) _
 have aj:=(p.aF.lt d rfl).2
 have l:v≠d:=λe=>p.bne (by rw[e];rfl)
 have bc:=A.size
 have K:=hbk.alloc (.cells x.arr 166)
 have B:=mH K (i*10+7) (Y (x.aH+1))
 have ai:(bK es).length=m*10:=by rw[fe,X]
 have n:∀(W:World)(j)(u)(b o)(y),b≠d->W.cell? (F b o)=y->(W.setCell (F d j) u).cell? (F b o)=y:=λW j u b o y t C=>by
  rw[show(W.setCell (F d j) u).cell? (F b o)=W.cell? (F b o) from by simp[World.cell?,Below.heap_setCell W ⟨d,j,none⟩ u b t]];exact C
 have z1:=n _ (i*10+7) (Y (x.aH+1)) v 1 _ l ad
 have z2:=n _ (i*10+7) (Y (x.aH+1)) w.1.size 2 _ G af
 have z8:((r.alloc (.cells x.arr 166)).setCell (F d (i*10+7)) (Y (x.aH+1))).cell? (F r.1.size 8)=some (H (x.key.toNat:Int)):=n _ _ _ _ _ _ G (by rw[World.cell?_alloc_at (hn:=rfl)];rfl)
 have e8:((r.alloc (.cells x.arr 166)).setCell (F d (i*10+7)) (Y (x.aH+1))).cell? (F d (i*10+8))=some (H (x.key.toNat:Int)):=by
  rw[B.cellAt (i*10+8) G,List.getElem?_set_ne G,iw es i 8 DL G,<-HX];rfl
 have e9:((r.alloc (.cells x.arr 166)).setCell (F d (i*10+7)) (Y (x.aH+1))).cell? (F d (i*10+9))=some (H (x.before.toNat:Int)):=by
  rw[B.cellAt (i*10+9) G,List.getElem?_set_ne G,iw es i 9 DL G,<-HX];rfl
 have ao:=ou B (i*10+8)
 have ar:=ou B (i*10+9)
 have L:=mH B (i*10+8) (H (f.toNat:Int))
 have W:=mH L (i*10+9) (H (x.key.toNat:Int))
 have u:D.ownBlock≠some d:=λe=>by
  rcases p.apart with h|h
  .cases h
  .exact h (by rw[e];rfl)
 have t:(((bK es).set (i*10+7) (Y (x.aH+1))).set (i*10+8) (H (f.toNat:Int))).set (i*10+9) (H (x.key.toNat:Int))=bK (es.set i (es[i].jo f)):=by
  rw[HX];exact Gb f es i DL
 rw[t]at W
 have RD:∃C,C=((((r.alloc (.cells x.arr 166)).setCell (F d (i*10+7)) (Y (x.aH+1))).setCell (F d (i*10+8)) (H (f.toNat:Int))).setCell (F d (i*10+9)) (H (x.key.toNat:Int)))/\iP C k v J (ς d 0 m M) U D (es.set i (es[i].jo f)) P/\iU w C (λg=>g=d):=by
  refine⟨_,rfl,⟨(((q.blk.alloc _).other _ _ l).other _ _ l).other _ _ l,by rw[eL,X];exact W,ownsRow_setCell_other (ownsRow_setCell_other (ownsRow_setCell_other (q.aL.alloc _) u _) u _) u _,p.here,p.bne,p.T9,p.apart⟩,⟨A.os,A.tape,A.output,by simp only[World.size_setCell,cF];omega,λg y b=>?_⟩⟩;rw[Below.heap_setCell _ _ _ _ b,Below.heap_setCell _ _ _ _ b,Below.heap_setCell _ _ _ _ b,Below.heap_alloc r _ g G,A.block g y Z]
 obtain⟨C,T,b,y⟩:=RD
 have HW3:=I T
 have HRD:Hid (iP C.drew.drew k v J (ς d 0 m M) U D (es.set i (es[i].jo f)) P/\iU w C.drew.drew (λg=>g=d)):=⟨⟨b.blk.drew.drew,b.aF,b.aL,b.here,b.bne,b.T9,b.apart⟩,⟨y.os,y.tape,y.output,y.size,y.block⟩⟩
 clear T b y t
 clear hc B L W K n
 go_wp2_with fail
 go_region
 exact Hn
def RE.ry(x:RE)(a:mE):RE:=⟨a.kind,a.name,a.key,a.bI,a.aC,a.bB,a.ae,x.aH,x.key,x.before⟩
theorem Gd(a):∀(b)(i)(d:i<b.length),((((((((bK b).set (i*10) (Y a.kind)).set (i*10+1) (.string ⟨a.name.toArray⟩)).set (i*10+2) (H (a.key.toNat:Int))).set (i*10+3) (Y a.bI)).set (i*10+4) (Y a.aC)).set (i*10+5) (Y a.bB)).set (i*10+6) (Y a.ae))=bK (b.set i (b[i].ry a)):=by
 intro b;induction b with
 |nil=>intro i d;simp at d
 |cons y b e=>
  intro i d;cases i with
  |zero=>
   rw[lT];simp only[gf,cN];rw[oX _ _ 0 _ (by rw[RE.fQ];omega),oX _ _ 1 _ rh,oX _ _ 2 _ rh,oX _ _ 3 _ rh,oX _ _ 4 _ rh,oX _ _ 5 _ rh,oX _ _ 6 _ (by simp only[eL,RE.fQ];omega)];show _=bK (y.ry a::b);rw[lT];rfl
  |succ i=>
   grind [RE.fQ,lT]
theorem Jv(f J)(P)(d Q)(pv M)(es)(R)(m i:Nat)(a)(w)(q:iP w f J P (ς d 0 m Q) pv M es R)(hm:Hid (es.length=m))(yg:m<=20)(ao:a.kind=4)(b:gu es a.name=(i:Int))(cj:i<m)(DL:i<es.length)(e:a.qm=true):Calls Tryz.prog 30 #[π J 0,.agg a.cells] w λr k=>r=.returned (Y 0)/\iP k f J P (ς d 0 m Q) pv M (es.set i (es[i].ry a)) R/\iU w k (λg=>g=d):=by
 have t:=λw=>mY a w
 have hF:=λw n=>oh f J P (ς d 0 m Q) pv M es R a.name m ⟨a.name.toArray⟩ w n hm G (I rfl)
 rw[b]at hF
 rw[e]at t
 clear e
 obtain⟨ak,A,p,C,v,B,y⟩:=a
 obtain rfl:ak=4:=ao
 simp only[mE.cells]at t hF⊢
 have G0:w.grownBy (w.alloc (.cells #[Y 4,.string ⟨A.toArray⟩,H (p.toNat:Int),Y C,Y v,Y B,Y y] 41)) none:=cx w _ none
 have al:=dz.new w #[Y 4,.string ⟨A.toArray⟩,H (p.toNat:Int),Y C,Y v,Y B,Y y] 41
 have l:=hF _ (q.grown G0)
 clear hF b
 go_enter Tryz.func30,Tryz.ntmps30
 go_wp2_with fail
 refine l.mono ?_
 rintro e w1 ⟨rfl,k⟩
 have b:=al.grown k Z
 have G1:=aa G0 k
 have S:=b.cell 0
 have T:=b.cell 1
 have U:=b.cell 2
 have V:=b.cell 3
 have W:=b.cell 4
 have X:=b.cell 5
 have f6:=b.cell 6
 simp only[cH,cG,cI]at S T U V W X f6
 clear l k
 go_wp2_with fail
 refine(t _).mono ?_
 rintro e w2 ⟨rfl,k⟩
 have l:=b.grown k Z
 have G2:=aa G1 k
 have r:=q.grown G2
 clear S T U V W X f6 t k b
 have S:=l.cell 0
 have T:=l.cell 1
 have U:=l.cell 2
 have V:=l.cell 3
 have W:=l.cell 4
 have X:=l.cell 5
 have f6:=l.cell 6
 have c1:=r.blk.cell 1
 simp only[cH,cG,cI]at S T U V W X f6 c1
 have hbk:=r.aF
 rw[hm]at hbk
 have hc:∀j,j<10->w2.cell? (F d (i*10+j))=(es[i]).cells[j]?:=λj hj=>by
  exact vv
 obtain⟨x,n⟩:=aw (es[i])
 have HX:=I n
 rw[<-n]at hc
 clear n
 obtain⟨d0,d1,d2,d3,d4,d5,d6,d7,d8,d9⟩:=Co hc
 have OL:(i:Int)<(m:Int):=G
 have ch:(0:Int)<=(i:Int):=G
 have ck:¬ (i:Int)<0:=G
 have k:=cx w2 (.cells x.arr 166) none
 have au:=k.cell c1 Z
 have bl:=k.cell S Z
 have bm:=k.cell T Z
 have bn:=k.cell U Z
 have bo:=k.cell V Z
 have bp:=k.cell W Z
 have bq:=k.cell X Z
 have bs:=k.cell f6 Z
 have av:=k.cell d0 Z
 have ay:=k.cell d1 Z
 have ba:=k.cell d2 Z
 have bb:=k.cell d3 Z
 have bc:=k.cell d4 Z
 have bf:=k.cell d5 Z
 have bk:=k.cell d6 Z
 have u:=λj=>ou (hbk.alloc (.cells x.arr 166)) j
 have bt:=u (i*10)
 have bu:=u (i*10+1)
 have bx:=u (i*10+2)
 have bz:=u (i*10+3)
 have ca:=u (i*10+4)
 have cc:=u (i*10+5)
 have cd:=u (i*10+6)
 have ar:=(q.aF.lt d rfl).2
 have b:J≠d:=λe=>q.bne (by rw[e];rfl)
 have cl:=G2.size
 have ad:=mH (hbk.alloc (.cells x.arr 166)) (i*10) (Y 4)
 have af:=mH ad (i*10+1) (.string ⟨A.toArray⟩)
 have ag:=mH af (i*10+2) (H (p.toNat:Int))
 have ah:=mH ag (i*10+3) (Y C)
 have ai:=mH ah (i*10+4) (Y v)
 have aj:=mH ai (i*10+5) (Y B)
 have D:=mH aj (i*10+6) (Y y)
 have n:M.ownBlock≠some d:=λe=>by
  rcases q.apart with h|h
  .cases h
  .exact h (by rw[e];rfl)
 rw[Gd ⟨4,A,p,C,v,B,y⟩ es i DL]at D
 have RD:∃L,L=((((((((w2.alloc (.cells x.arr 166)).setCell (F d (i*10)) (Y 4)).setCell (F d (i*10+1)) (.string ⟨A.toArray⟩)).setCell (F d (i*10+2)) (H (p.toNat:Int))).setCell (F d (i*10+3)) (Y C)).setCell (F d (i*10+4)) (Y v)).setCell (F d (i*10+5)) (Y B)).setCell (F d (i*10+6)) (Y y))/\iP L f J P (ς d 0 m Q) pv M (es.set i (es[i].ry ⟨4,A,p,C,v,B,y⟩)) R/\iU w L (λg=>g=d):=by
  refine⟨_,rfl,⟨((((((((r.blk.alloc _).other _ _ b).other _ _ b).other _ _ b).other _ _ b).other _ _ b).other _ _ b).other _ _ b),by rw[eL,hm];exact D,(ownsRow_setCell_other (ownsRow_setCell_other (ownsRow_setCell_other (ownsRow_setCell_other (ownsRow_setCell_other (ownsRow_setCell_other (ownsRow_setCell_other (r.aL.alloc _) n _) n _) n _) n _) n _) n _) n _),q.here,q.bne,q.T9,q.apart⟩,?_⟩;iterate 7 refine iU.set (g:=d) (ex:=λg=>g=d) ?_ (Eq.refl d) _ _
  exact iU.lM (aa G2 k) _
 obtain⟨L,ab,t,K⟩:=RD
 have HW3:=I ab
 have HRD:Hid (iP L.drew f J P (ς d 0 m Q) pv M (es.set i (es[i].ry ⟨4,A,p,C,v,B,y⟩)) R/\iU w L.drew (λg=>g=d)):=⟨⟨t.blk.drew,t.aF,t.aL,t.here,t.bne,t.T9,t.apart⟩,⟨K.os,K.tape,K.output,K.size,K.block⟩⟩
 clear ab t K hc ad af ag ah ai aj D u
 exact Hn
open Proofs.Tryz
theorem PZ(d pb)(aA)(l t)(pv dv)(es)(ds)(m i:Nat)(a:mE)(w)(hD:iP w d pb aA (ς l 0 m t) pv dv es ds)(y:Hid (es.length=m))(yg:m<=20)(ai:a.kind=2)(b:gu es a.name=(i:Int))(bl:i<m)(DL:i<es.length)(aj:d<=w.1.size):Calls prog 30 #[π pb 0,.agg a.cells] w λr h=>r=.returned (Y 0)/\∃f,iP h d pb aA f pv dv (es.take i++es.drop (i+1)) ds/\w.grownBy h (some pb)/\k' w.1.size f:=by
 obtain⟨ie,q,Q,p,R⟩:=info_parts Tryz.XM
 have h:=λw=>mY a w
 have hF:=λw hx=>oh d pb aA (ς l 0 m t) pv dv es ds a.name m ⟨a.name.toArray⟩ w hx y G (I rfl)
 rw[b]at hF
 generalize a.qm=pl at h
 obtain⟨ak,an,V,bI,aC,bB,ae⟩:=a
 obtain rfl:ak=2:=ai
 simp only[mE.cells]at h hF⊢
 have G0:w.grownBy (w.alloc (.cells #[Y 2,.string ⟨an.toArray⟩,H (V.toNat:Int),Y bI,Y aC,Y bB,Y ae] 41)) none:=cx w _ none
 have ah:=dz.new w #[Y 2,.string ⟨an.toArray⟩,H (V.toNat:Int),Y bI,Y aC,Y bB,Y ae] 41
 have k:=hF _ (hD.grown G0)
 clear hF b
 go_in
 go_wp2_with fail
 refine k.mono ?_
 rintro e w1 ⟨rfl,f⟩
 have b:=ah.grown f Z
 have G1:=aa G0 f
 have K:=b.cell 0
 have o:=b.cell 1
 have f2:=b.cell 2
 have r:=b.cell 3
 have u:=b.cell 4
 have x:=b.cell 5
 have A:=b.cell 6
 simp only[cH,cG,cI]at K o f2 r u x A
 clear k f
 go_wp2_with fail
 refine(h _).mono ?_
 rintro e w2 ⟨rfl,f⟩
 have n:=b.grown f Z
 have G2:=aa G1 f
 have v:=hD.grown G2
 clear K o f2 r u x A h f b
 have K:=n.cell 0
 have f2:=n.cell 2
 have c1:=v.blk.cell 1
 simp only[cH,cG,cI]at K f2 c1
 have hbk:=v.aF
 rw[y]at hbk
 have b:∀j,j<10->w2.cell? (F l (i*10+j))=(es[i]).cells[j]?:=λj hj=>by
  exact vv
 obtain⟨x,hx⟩:=aw (es[i])
 have HX:=I hx
 rw[<-hx]at b
 clear hx
 obtain⟨d0,d1,d2,d3,d4,d5,d6,d7,d8,d9⟩:=Co b
 have OL:(i:Int)<(m:Int):=G
 have bk:(0:Int)<=(i:Int):=G
 have bm:¬ (i:Int)<0:=G
 have Ka:=cx w2 (.cells x.arr 166) none
 have bc:=Ka.cell c1 Z
 have bf:=Ka.cell K Z
 have Gx:=aa G2 Ka
 have bn:=hD.blk.lt
 have ay:=(hD.aF.lt l rfl).2
 have bo:=G2.size
 have L:=hD.grown Gx
 have k:=L.aF
 rw[y]at k
 have A:=nC k
 have M:=Jj k
 have Uc:Hid ((bK es).length=m*10):=by show _=_;rw[fe,y]
 have W:=λw=>Sj (P:=prog) 141 166 ie 10 underlying141 q p (some ⟨l,0,none⟩) m t i (i:Int) rfl G w
 obtain⟨af,ba,LG,D⟩:=Hy (P:=prog) 141 166 ie 10 underlying141 q p (some ⟨l,0,none⟩) m t (i+1) ((i:Int)+1) G G M.1 Uc.o
 have f:ql (w2.alloc (.cells x.arr 166)) (some ⟨l,0,none⟩) (bK (es.take i)):=by
  rw[<-zo es i G];exact A.take _
 have al:(bK (es.take i)).length=i*10:=by rw[fe,ep];congr 1;omega
 have S:(some (⟨l,0,none⟩:Addr))=none->t=0/\i=0:=λh=>by cases h
 have au:0+i<=maxLen:=kO
 have av:(0+i)*88<=140737488355328:=G
 clear b
 go_wp2_with (at_builtin;refine fH _ rfl _ _ 141 rfl (w.1.size+1) 166 ie _ 10 88 underlying141 q Q p R rfl O σ 0 [] rfl (World.ownsRow_nil _ _ _ _) (some ⟨l,0,none⟩) i t (bK (es.take i)) rfl al f S (pO _) au av ?b1 ?_)
 case b1=>have:=n.lt;simp;omega
 intro v3 w3 b C;have r:(w2.alloc (.cells x.arr 166)).grownBy w3 none:=by simpa[Value.ownBlock]using C
 have B:=aa Gx r;have X:w3.ownsRow (w.1.size+1) 166 10 v3 i (bK (es.take i)):=by simpa using b
 obtain⟨a3,k3,rfl⟩:=bA X;have o:=hD.grown B;have ad:=o.blk.cell 1;simp only[cH,cG,cI]at ad;have u:=o.aF;rw[y]at u;have DI:=LG w3 (nC u);rw[zq es (i+1) G]at DI;have ao:(bK (es.drop (i+1))).length=(m-(i+1))*10:=by rw[fe,dr,y]
 have T:af=none->t-(i+1)=0/\m-(i+1)=0:=λh=>⟨D (λh=>by cases h) h,by have:=D (λh=>by cases h) h;omega⟩
 have U:i+(m-(i+1))<=maxLen:=kO;have ab:(i+(m-(i+1)))*88<=140737488355328:=G;have ar:w.1.size+1<=w3.1.size:=by have h1:=r.size;have h2:=n.lt;simp at h1;omega
 have J:∀g,g<w.1.size+1->some g≠(Value.slice a3 i k3).ownBlock:=λg hg e=>by have:=(X.lt g e.symm).1;omega
 clear b C f S W A k LG;go_wp2_with (at_builtin;refine fH _ rfl _ _ 141 rfl (w.1.size+1) 166 ie _ 10 88 underlying141 q Q p R rfl O (.slice a3 i k3) i (bK (es.take i)) rfl X af (m-(i+1)) (t-(i+1)) (bK (es.drop (i+1))) rfl ao DI T (pO _) U ab ar ?_)
 intro v4 W iV b;obtain⟨k,A,rfl⟩:=bA iV;have f:=o.blk.grown b (J _ G);have ag:=f.cell 1;have bb:=f.frozen 1;simp only[cH,cG,cI]at ag;have C:∀g,g<w.1.size->W.1[g]?=w.1[g]?:=λg hg=>by
  rw[b.block g G (J g G),B.block g hg Z]
 have bp:=b.size;have S:(es.take i++es.drop (i+1)).length=i+(m-(i+1)):=by simp[y.o];omega
 have hrow:W.ownsRow (w.1.size+1) 166 10 (.slice k (i+(m-(i+1))) A) (i+(m-(i+1))) (bK (es.take i++es.drop (i+1))):=by
  rw[rA];exact iV
 have GB:w.grownBy (W.setCell (F pb 1) (.slice k (i+(m-(i+1))) A)) (some pb):=
  ⟨b.os.trans B.os,b.tape.trans B.tape,b.output.trans B.output,by rw[World.size_setCell];omega,λg hg hr=>(Below.heap_setCell W _ _ g (by show g≠pb;intro e;exact hr (by rw[e]))).trans (C g hg)⟩
 have RD:iP (W.setCell (F pb 1) (.slice k (i+(m-(i+1))) A)) d pb aA (.slice k (i+(m-(i+1))) A) pv dv (es.take i++es.drop (i+1)) ds:=by
  refine⟨by simpa using f.set 1 (.slice k (i+(m-(i+1))) A),?_,hD.aL.kept GB (.inr hD.T9),hD.here,λh=>by have:=(hrow.lt _ h).1;omega,hD.T9,?_⟩
  .rw[S];exact Ds
  .cases hx:(Value.slice k (i+(m-(i+1))) A).ownBlock with
   |none=>exact .inl rfl
   |some g=>
    exact DD
 have NA:k' w.1.size (.slice k (i+(m-(i+1))) A):=λg h=>by have:=(hrow.lt g h).1;omega
 have HR:=I (dN RD GB);clear hD v o L hrow f C RD GB iV X b DI u;go_wp2;go_ret;exact⟨rfl,_,HR.1,HR.2,NA⟩
theorem Jy(f C)(K)(y S)(X U)(es)(T)(m i:Nat)(a:mE)(w)(V:iP w f C K (ς y 0 m S) X U es T)(W:Hid (es.length=m))(yg:m<=20)(B:a.kind=4)(b:gu es a.name=(i:Int))(af:i<m)(DL:i<es.length)(d:a.qm=false):Calls prog 30 #[π C 0,.agg a.cells] w λr e=>r=.returned (Y 1)/\w.grownBy e none:=by
 have v:=λw=>mY a w
 have hF:=λw l=>oh f C K (ς y 0 m S) X U es T a.name m ⟨a.name.toArray⟩ w l W G (I rfl)
 rw[b]at hF
 rw[d]at v
 clear d
 obtain⟨ak,P,n,R,L,Q,M⟩:=a
 obtain rfl:ak=4:=B
 simp only[mE.cells]at v hF⊢
 have D:w.grownBy (w.alloc (.cells #[Y 4,.string ⟨P.toArray⟩,H (n.toNat:Int),Y R,Y L,Y Q,Y M] 41)) none:=cx w _ none
 have A:=dz.new w #[Y 4,.string ⟨P.toArray⟩,H (n.toNat:Int),Y R,Y L,Y Q,Y M] 41
 have g:=hF _ (V.grown D)
 clear hF b
 go_in
 go_wp2_with fail
 refine g.mono ?_
 rintro e w1 ⟨rfl,d⟩
 have b:=A.grown d Z
 have G1:=aa D d
 have h:=b.cell 0
 have o:=b.cell 1
 have p:=b.cell 2
 have q:=b.cell 3
 have r:=b.cell 4
 have t:=b.cell 5
 have u:=b.cell 6
 simp only[cH,cG,cI]at h o p q r t u
 clear g d
 go_wp2_with fail
 refine(v _).mono ?_
 rintro e w2 ⟨rfl,g⟩
 have d:=b.grown g Z
 have J:=aa G1 g
 have k:=V.grown J
 clear h o p q r t u v g b
 have h:=d.cell 0
 have o:=d.cell 1
 have p:=d.cell 2
 have q:=d.cell 3
 have r:=d.cell 4
 have t:=d.cell 5
 have u:=d.cell 6
 have v:=k.blk.cell 1
 simp only[cH,cG,cI]at h o p q r t u v
 have hbk:=k.aF
 rw[W]at hbk
 have b:∀j,j<10->w2.cell? (F y (i*10+j))=(es[i]).cells[j]?:=λj hj=>by
  exact vv
 obtain⟨x,l⟩:=aw (es[i])
 have HX:=I l
 rw[<-l]at b
 clear l
 obtain⟨d0,d1,d2,d3,d4,d5,d6,d7,d8,d9⟩:=Co b
 have OL:(i:Int)<(m:Int):=G
 have ad:(0:Int)<=(i:Int):=G
 have ag:¬ (i:Int)<0:=G
 have g:=cx w2 (.cells x.arr 166) none
 have ab:=g.cell h Z
 have l:=aa J g
 clear b
 go_wp2
 go_ret
 exact⟨rfl,l⟩
theorem Gf(t:List E)(u:List Int)(n)(j k m o)(a b d f)(r l)(w)(L:Hid (t.length=n))(M:Hid (u.length=n))(K:n<=1000000)(y:ql w j (t.map λl=>.string ⟨l.toArray⟩))(A:ql w m (t.map λl=>.string ⟨l.toArray⟩))(B:ql w k (u.map λx=>Y x))(C:ql w o (u.map λx=>Y x)):Calls Tryz.prog 37 #[.agg #[.slice j n a,.slice k n b,Y r,Y l],.agg #[.slice m n d,.slice o n f,Y r,Y l]] w λe g=>e=.returned (.bool true)/\w.grownBy g none:=by
 have v:w.grownBy ((w.alloc (.cells #[.slice j n a,.slice k n b,Y r,Y l] 101)).alloc (.cells #[.slice m n d,.slice o n f,Y r,Y l] 101)) none:=aM (cx w _ none) _
 have q:=(dz.new w #[.slice j n a,.slice k n b,Y r,Y l] 101).alloc (.cells #[.slice m n d,.slice o n f,Y r,Y l] 101)
 have p:=dz.new (w.alloc (.cells #[.slice j n a,.slice k n b,Y r,Y l] 101)) #[.slice m n d,.slice o n f,Y r,Y l] 101
 rw[cF]at p
 have J:=BR t n j m a d _ L K (y.below v) (A.below v)
 go_enter Tryz.func37,Tryz.ntmps37
 go_wp2_with fail
 refine J.mono ?_
 rintro e P ⟨rfl,g⟩
 have x:=aa v g
 have h:=q.grown g Z
 have i:=p.grown g Z
 have Q:=h.cell 1
 have T:=i.cell 1
 simp only[cH,cG,cI]at Q T
 have D:=Jt u n k o b f P M K (B.below x) (C.below x)
 clear J g q p
 go_wp2_with fail
 refine D.mono ?_
 rintro e W ⟨rfl,g⟩
 have J:=aa x g
 have p:=h.grown g Z
 have q:=i.grown g Z
 have R:=p.cell 2
 have U:=q.cell 2
 have S:=p.cell 3
 have V:=q.cell 3
 simp only[cH,cG,cI]at R U S V
 clear D g h i y A B C
 go_wp2
 go_ret
 exact⟨rfl,J⟩
def RE.be(e:RE):BE:=⟨e.name,e.aH,e.key,e.before,e.bI,e.aC,e.bB,e.ae⟩
theorem Sv(a:List RE)(l):BE.pq (a.map RE.be) l=a.findIdx? (λe=>e.name==l):=by
 rw[BE.pq,List.findIdx?_map];rfl
theorem OT(a)(l):BE.ins (a.map RE.be) l=tO a l:=by
 induction a with
 |nil=>rfl
 |cons e a b=>simp only[eE,BE.ins,tO,b];rfl
theorem oR(h:p:=by injection e):p:=h
variable {M:DM}{yb:Nat}{w w':World}
def PF.cells(p:PF):List Value:=[.string ⟨p.ay.toArray⟩,Y p.time,Y p.count]
def fM(l:List PF):List Value:=(l.map PF.cells).flatten
structure RG where
 bv:Value
 pv:Value
 dv:Value
 es:List RE
def RG.foot(g:RG)(yb b:Nat):Prop:=b=yb\/g.bv.ownBlock=some b\/g.pv.ownBlock=some b\/g.dv.ownBlock=some b
structure RD(w:World)(base yb:Nat)(M:DM)(g:RG):Prop where
 bP:iP w base yb M.aA g.bv g.pv g.dv g.es M.aL
 aF:g.es.map RE.be=M.aF
 aJ:w.ownsRow base 283 3 g.pv M.aJ.length (fM M.aJ)
 pne:g.pv.ownBlock≠some yb
 pb:g.pv.ownBlock=none\/g.pv.ownBlock≠g.bv.ownBlock
 pd:g.pv.ownBlock=none\/g.pv.ownBlock≠g.dv.ownBlock
theorem iP.keep{a f:Nat}{g:Int}{d l e:Value}{j:List RE}{i:E}(h:iP w a f g d l e j i)(k:∀b,b=f\/d.ownBlock=some b\/e.ownBlock=some b->w'.1[b]?=w.1[b]?):iP w' a f g d l e j i:=
 ⟨h.blk.kept (k _ (.inl rfl)),cB h.aF fA,cB h.aL fA,h.here,h.bne,h.T9,h.apart⟩
theorem RD.keep{a:Nat}{g:RG}(h:RD w a yb M g)(k:∀b,g.foot yb b->w'.1[b]?=w.1[b]?):RD w' a yb M g:=
 ⟨h.bP.keep (λb d=>k b (by rcases d with e|e|e;exact .inl e;exact .inr (.inl e);exact .inr (.inr (.inr e)))),h.aF,cB h.aJ (λb d=>k b (.inr (.inr (.inl d)))),h.pne,h.pb,h.pd⟩
theorem RD.lt{a:Nat}{g:RG}(h:RD w a yb M g)(b)(d:g.foot yb b):a<=b/\b<w.1.size:=by
 rcases d with e|e|e|e
 .subst e;exact⟨h.bP.here,h.bP.blk.lt⟩
 .exact h.bP.aF.lt b e
 .exact h.aJ.lt b e
 .exact h.bP.aL.lt b e
theorem RD.down{b a:Nat}{g:RG}(h:RD w b yb M g)(d:a<=b):RD w a yb M g:=
 ⟨⟨h.bP.blk,dC h.bP.aF d,dC h.bP.aL d,cE d h.bP.here,h.bP.bne,h.bP.T9,h.bP.apart⟩,h.aF,dC h.aJ d,h.pne,h.pb,h.pd⟩
theorem Tu(b)(a):(fD (b.map RE.be) a).2=rC b a:=by
 unfold fD rC;rw[Sv];have f:(b.map RE.be).length=b.length:=cR _;rw[f];unfold gu;cases h:b.findIdx? (λe=>e.name==a.name)with
 |none=>
  by_cases d:a.kind=1
  .simp only[d,if_true];grind
  .simp only[d,if_false];split<;>simp
 |some i=>
  have g:=(List.findIdx?_eq_some_iff_getElem.1 h).1;by_cases d:a.kind=1
  .simp only[d,if_true];grind
  .simp only[d,if_false];grind
theorem XR(b)(a)(h:(fD b a).2≠0):(fD b a).1=b:=by
 grind [fD]
theorem zt(a)(l)(i:Nat)(h:a.findIdx? (λe=>e.name==l)=some i):gu a l=(i:Int):=by rw[gu,h]
theorem DN(a)(l)(h:a.findIdx? (λe=>e.name==l)=none):gu a l=-1:=by rw[gu,h]
def iK(base yb:Nat)(M:DM)(g:RG)(a:mE)(w w':World):Prop:=
 ∃g',RD w' base yb {M with aF:=(fD M.aF a).1} g'/\iU w w' (g.foot yb)/\∀b,g'.foot yb b->g.foot yb b\/w.1.size<=b
theorem iK.new{d:Nat}{g:RG}{a:mE}(i:RD w d yb M g){j:Value}{f:List RE}(m:iP w' d yb M.aA j g.pv g.dv f M.aL)(n:f.map RE.be=(fD M.aF a).1)(h:w.grownBy w' (some yb))(l:k' w.1.size j):iK d yb M g a w w':=by
 refine⟨⟨j,g.pv,g.dv,f⟩,⟨m,n,cB i.aJ (λb k=>h.block b (i.aJ.lt b k).2 (by grind [RD.pne])),i.pne,?_,i.pd⟩,⟨h.os,h.tape,h.output,h.size,λb k o=>h.block b k (λe=>o (.inl oR))⟩,?_⟩
 .cases k:g.pv.ownBlock with
  |none=>exact .inl rfl
  |some p=>
   refine .inr (λe=>?_);have:=l p e.symm;have:=(i.aJ.lt p k).2;omega
 .rintro b (e|e|e|e)
  .exact .inl (.inl e)
  .exact .inr (l b e)
  .exact .inl (.inr (.inr (.inl e)))
  .exact .inl (.inr (.inr (.inr e)))
theorem iK.inPlace{d:Nat}{g:RG}{a:mE}(i:RD w d yb M g){k:Nat}{f:List RE}(n:iP w' d yb M.aA g.bv g.pv g.dv f M.aL)(o:f.map RE.be=(fD M.aF a).1)(l:iU w w' λb=>b=k)(m:g.bv.ownBlock=some k):iK d yb M g a w w':=by
 refine⟨⟨g.bv,g.pv,g.dv,f⟩,⟨n,o,cB i.aJ (λb j=>l.block b (i.aJ.lt b j).2 (λe=>?_)),i.pne,i.pb,i.pd⟩,l.mono (λb _ e=>.inr (.inl (by rw[m,e]))),λb j=>.inl j⟩;rcases i.pb with h|h
 .rw[h]at j;cases j
 .exact h (by rw[j,m,e])
theorem iK.same{d:Nat}{g:RG}{a:mE}(h:RD w d yb M g)(i:(fD M.aF a).1=M.aF)(f:w.grownBy w' none):iK d yb M g a w w':=by
 refine⟨g,?_,iU.lM f _,λb e=>.inl e⟩;rw[i];exact h.keep (λb e=>f.block b (h.lt b e).2 Z)
theorem EV(h:p:=by
 rcases hde.aF.2 with⟨_,h2⟩|⟨g,cap,cur,h,_⟩
 .omega
 .rw[hbv]at h;simp at h;exact⟨g,h.1⟩):p:=h
theorem Fu(h:p:=by
 rintro r w' ⟨rfl,OQ,r1,r2,r3⟩
 exact⟨by rw[hres],iK.new hD r1 (by rw[hres]) r2 r3⟩):p:=h
theorem DG(h:p:=by
 rintro r w' ⟨rfl,r1,r2⟩
 exact⟨by rw[hres],iK.inPlace hD r1 (by rw[hres]) r2 rfl⟩):p:=h
theorem P5(n d yb)(M)(g)(a)(w)(hD:RD w d yb M g)(P:fZ n M.aF)(hn:n<4611686018427387904)(L:a.name.length<=9223372036854775807)(m:d<=w.1.size):Calls Tryz.prog 30 #[π yb 0,.agg a.cells] w λr w'=>r=.returned (Y (fD M.aF a).2)/\iK d yb M g a w w':=by
 obtain⟨V,x,t,b⟩:=g
 have C:b.map RE.be=M.aF:=hD.aF
 have hde:iP w d yb M.aA V x t b M.aL:=hD.bP
 have j:b.length<=20:=by rw[<-cR (f:=RE.be),C];exact P.len
 have S:=Tu b a
 rw[C]at S
 obtain⟨X,T,hbv⟩:=bA hde.aF
 by_cases v:rC b a=0
 .by_cases R:a.kind=1
  .have k:=v;rw[rC,dT R]at k;have y:di a.name=true:=(by cases h:di a.name<;>simp_all);have l:a.qm=true:=(by cases h:a.qm<;>simp_all);have o:gu b a.name=-1:=by
    rcases Js b a.name with h|h
    .rw[y,l]at k;by_cases i:0<=gu b a.name
     .simp[i]at k
     .omega
    .exact h
   have p:b.length<20:=by
    rw[y,l,o]at k;by_cases i:20<=b.length
    .simp[i]at k
    .omega
   have q:b.findIdx? (λe=>e.name==a.name)=none:=by
    cases h:b.findIdx? (λe=>e.name==a.name)with
    |none=>rfl
    |some i=>rw[zt b a.name i h]at o;omega
   have hres:(fD M.aF a)=((PT b (XP a)).map RE.be,0):=by
    rw[<-C,fD,dT R,Sv,q,y,l,cR,OT];simp only[Bool.true_eq_false,if_false,Option.isSome_none,fL,cZ (show ¬ 20<=b.length by omega)];rw[PT];simp[XP,BE.new,RE.be,List.map_take,List.map_drop]
   refine(PY d yb M.aA V x t b M.aL b.length a w hde (I rfl) p L ⟨R,y,l,o⟩ m).mono ?_;exact Fu
  .have k:=v;rw[rC,cZ R]at k;have y:a.kind=2\/a.kind=3\/a.kind=4:=by
    by_cases h:a.kind=2\/a.kind=3\/a.kind=4
    .exact h
    .rw[cZ h]at k;omega
   rw[dT y]at k;cases h:b.findIdx? (λe=>e.name==a.name)with
   |none=>rw[DN b _ h]at k;simp at k
   |some i=>
    have A:=zt b a.name i h;obtain⟨o,J,_⟩:=List.findIdx?_eq_some_iff_getElem.1 h;obtain⟨q,u⟩:∃q,X=some ⟨q,0,none⟩:=by
     exact EV
    subst u;subst hbv;have K:b[i].be∈M.aF:=(by rw[<-C];exact eK (eg o));have jL:=P.num _ K;have ad:1<=b[i].aH/\b[i].aH<=(n:Int):=jL;have D:(b.map RE.be)[i]?=some b[i].be:=(by simp[o]);have l:fD M.aF a=if a.kind=2 then((b.map RE.be).take i++(b.map RE.be).drop (i+1),0) else if a.kind=3 then((b.map RE.be).set i (b[i].be.jo a.key),0) else if a.qm=false then(b.map RE.be,1) else((b.map RE.be).set i (b[i].be.ry a),0):=by
     rw[<-C,fD,cZ R,dT y,Sv,h];simp only[D]
    by_cases U:a.kind=2
    .have hres:fD M.aF a=((b.take i++b.drop (i+1)).map RE.be,0):=by
      rw[l,dT U];simp[List.map_take,List.map_drop]
     refine(PZ d yb M.aA q T x t b M.aL b.length i a w hde (I rfl) j U A o o m).mono ?_;exact Fu
    .by_cases W:a.kind=3
     .have hres:fD M.aF a=((b.set i (b[i].jo a.key)).map RE.be,0):=by
       rw[l,cZ U,dT W];simp[List.map_set,RE.jo,BE.jo,RE.be]
      refine(Ju d yb M.aA q T x t b M.aL b.length i a w hde (I rfl) j W A o o G G).mono ?_;exact DG
     .have B:a.kind=4:=G;have Q:a.qm=true:=by
       rw[A]at k;cases h:a.qm with
       |true=>rfl
       |false=>simp[h,B]at k;omega
      have hres:fD M.aF a=((b.set i (b[i].ry a)).map RE.be,0):=by
       rw[l,cZ U,cZ W,Q];have p:b[i].name=a.name:=(by simpa using J);simp[List.map_set,RE.ry,BE.ry,RE.be,p]
      refine(Jv d yb M.aA q T x t b M.aL b.length i a w hde (I rfl) j B A o o Q).mono ?_;exact DG
 .have p:=XR M.aF a (by rw[S];exact v);by_cases B:a.kind=4/\0<=gu b a.name
  .have k:=v;cases h:b.findIdx? (λe=>e.name==a.name)with
   |none=>have:=DN b _ h;omega
   |some i=>
    have A:=zt b a.name i h;obtain⟨o,J,_⟩:=List.findIdx?_eq_some_iff_getElem.1 h;obtain⟨q,u⟩:∃q,X=some ⟨q,0,none⟩:=by
     exact EV
    subst u;subst hbv;have l:rC b a=if a.qm=false then 1 else 0:=by
     rw[rC,cZ G,dT G,cZ G];simp[B.1]
    have Q:a.qm=false:=by
     cases h:a.qm with
     |false=>rfl
     |true=>rw[l,h]at v;simp at v
    have y:(fD M.aF a).2=1:=(by rw[S,l,Q];rfl);refine(Jy d yb M.aA q T x t b M.aL b.length i a w hde (I rfl) j B.1 A o o Q).mono ?_;rintro r w' ⟨rfl,r1⟩;exact⟨by rw[y],iK.same hD p r1⟩
  .refine(PW d yb M.aA V x t b M.aL b.length a w hde (I rfl) G L (I v) (I (λh=>?_))).mono ?_
   .by_cases h2:0<=gu b a.name
    .exact absurd ⟨h,h2⟩ B
    .omega
   .rintro r w' ⟨rfl,r1⟩;exact⟨by rw[S],iK.same hD p r1⟩
