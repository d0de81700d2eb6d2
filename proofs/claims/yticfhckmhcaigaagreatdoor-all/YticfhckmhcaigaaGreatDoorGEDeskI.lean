import Derived.Test.YticfhckmhcaigaaGreatDoorGEDeskE
import Derived.Test.YticfhckmhcaigaaGreatDoorGESep
namespace Go.Proofs.YticfhckmhcaigaaGreatDoor
set_option maxHeartbeats 2000000
open Go.RowKit
set_option maxRecDepth 100000
variable {p:Prop}
theorem rm(h:p:=by grind [RE.fZ]):p:=h
theorem RE.fZ(e:RE):e.cells.length=10:=rfl
theorem mf(y)(a):bL (y::a)=y.cells++bL a:=by simp[bL]
theorem pN(a b:List Value)(j)(v)(h:j<a.length):(a++b).set j v=a.set j v++b:=by rw[List.set_append,dQ h]
def RE.jC(x:RE)(key:UInt64):RE:=⟨x.k,x.name,x.Ak,x.bH,x.aD,x.bB,x.ae,x.aH+1,key,x.key⟩
theorem IQ(b):∀(a)(i)(d:i<a.length),(((bL a).set (i*10+7) (Y (a[i].aH+1))).set (i*10+8) (O (b.toNat:Int))).set (i*10+9) (O (a[i].key.toNat:Int))=bL (a.set i (a[i].jC b)):=by
 intro a;induction a with
 |nil=>intro i d;simp at d
 |cons y a e=>
  intro i d;cases i with
  |zero=>
   rw[mf,gj,cR,cR,cR,pN _ _ 7 _ (by rw[RE.fZ];omega),pN _ _ 8 _ rm,pN _ _ 9 _ rm];show _=bL (y.jC b::a);rw[mf];rfl
  |succ i=>
   grind [RE.fZ,mf]
theorem D6{w:World}{g i:Nat}{x:RE}(a:∀j,j<10->w.c g (i*10+j)=x.cells[j]?):w.cell? (F g (i*10))=some (Y x.k)/\w.cell? (F g (i*10+1))=some (.string ⟨x.name.toArray⟩)/\w.cell? (F g (i*10+2))=some (O (x.Ak.toNat:Int))/\w.cell? (F g (i*10+3))=some (Y x.bH)/\w.cell? (F g (i*10+4))=some (Y x.aD)/\w.cell? (F g (i*10+5))=some (Y x.bB)/\w.cell? (F g (i*10+6))=some (Y x.ae)/\w.cell? (F g (i*10+7))=some (Y x.aH)/\w.cell? (F g (i*10+8))=some (O (x.key.toNat:Int))/\w.cell? (F g (i*10+9))=some (O (x.before.toNat:Int)):=
 ⟨a 0 G,a 1 G,a 2 G,a 3 G,a 4 G,a 5 G,a 6 G,a 7 G,a 8 G,a 9 G⟩
theorem wk(h:p:=by
 rw[hbk.cellAt (i*10+j) G,iC es i j E5 hj]):p:=h
theorem Hk(h:p:=by
 go_wp2_with fail
 go_region
 all_goals
  go_wp2
  go_ret
  refine⟨rfl,?_⟩
  have h:=HRD.o
  rw[HW3]at h
  exact h):p:=h
theorem Lp(k v)(M)(d P)(V J)(es)(Q)(m i:Nat)(a:nC)(w)(p:iW w k v M (ς d 0 m P) V J es Q)(hm:Hid (es.length=m))(yP:m<=20)(ah:a.kind=3)(b:gG es a.name=(i:Int))(az:i<m)(E5:i<es.length)(fV:es[i].aH<4611686018427387904)(ab:0<=es[i].aH):Calls Tryz.prog 30 #[N v 0,.agg a.cells] w λr e=>r=.returned (Y 0)/\iW e k v M (ς d 0 m P) V J (es.set i (es[i].jC a.key)) Q/\iO w e (λg=>g=d):=by
 have t:=λw=>nK a w
 have hF:=λw n=>oP k v M (ς d 0 m P) V J es Q a.name m ⟨a.name.toArray⟩ w n hm G (I rfl)
 rw[b]at hF
 generalize a.qQ=pl at t
 obtain⟨ak,an,f,bH,aD,bB,ae⟩:=a
 obtain rfl:ak=3:=ah
 simp only[nC.cells]at t hF⊢
 have G0:w.grownBy (w.alloc (.cells #[Y 3,.string ⟨an.toArray⟩,O (f.toNat:Int),Y bH,Y aD,Y bB,Y ae] 41)) none:=cy w _ none
 have ag:=dm.new w #[Y 3,.string ⟨an.toArray⟩,O (f.toNat:Int),Y bH,Y aD,Y bB,Y ae] 41
 have q:=hF _ (p.grown G0)
 clear hF b
 go_enter Tryz.func30,Tryz.ntmps30
 go_wp2_with fail
 refine q.mono ?_
 rintro e w1 ⟨rfl,l⟩
 have b:=ag.grown l Z
 have G1:=aa G0 l
 have R:=b.cell 0
 have u:=b.cell 1
 have S:=b.cell 2
 have x:=b.cell 3
 have y:=b.cell 4
 have B:=b.cell 5
 have C:=b.cell 6
 simp only[cI,cH,cL]at R u S x y B C
 clear q l
 go_wp2_with fail
 refine(t _).mono ?_
 rintro e r ⟨rfl,l⟩
 have T:=b.grown l Z
 have A:=aa G1 l
 have q:=p.grown A
 clear R u S x y B C t l b
 have R:=T.cell 0
 have S:=T.cell 2
 have c1:=q.blk.cell 1
 simp only[cI,cH,cL]at R S c1
 have hbk:=q.aC
 rw[hm]at hbk
 have hc:∀j,j<10->r.cell? (F d (i*10+j))=(es[i]).cells[j]?:=λj hj=>by
  exact wk
 obtain⟨x,n⟩:=aw (es[i])
 have HX:=I n
 rw[<-n]at hc fV ab
 clear n
 obtain⟨d0,d1,d2,d3,d4,d5,d6,d7,d8,d9⟩:=D6 hc
 have QX:(i:Int)<(m:Int):=G
 have av:(0:Int)<=(i:Int):=G
 have ba:¬ (i:Int)<0:=G
 have X:=cy r (.cells x.arr 166) none
 have ad:=X.cell c1 Z
 have ar:=X.cell R Z
 have af:=X.cell S Z
 have al:=X.cell d7 Z
 have au:(r.alloc (.cells x.arr 166)).frozen? (F d (i*10+7))=false:=oQ (hbk.alloc _) _
 have aj:=(p.aC.lt d rfl).2
 have l:v≠d:=λe=>p.bne (by rw[e];rfl)
 have bb:=A.size
 have K:=hbk.alloc (.cells x.arr 166)
 have B:=mX K (i*10+7) (Y (x.aH+1))
 have ai:(bL es).length=m*10:=by rw[fq,hm]
 have n:∀(W:World)(j)(u)(b o)(y),b≠d->W.cell? (F b o)=y->(W.setCell (F d j) u).cell? (F b o)=y:=λW j u b o y t C=>by
  rw[show(W.setCell (F d j) u).cell? (F b o)=W.cell? (F b o) from by simp[World.cell?,Below.heap_setCell W ⟨d,j,none⟩ u b t]];exact C
 have z1:=n _ (i*10+7) (Y (x.aH+1)) v 1 _ l ad
 have z2:=n _ (i*10+7) (Y (x.aH+1)) w.1.size 2 _ G af
 have z8:((r.alloc (.cells x.arr 166)).setCell (F d (i*10+7)) (Y (x.aH+1))).cell? (F r.1.size 8)=some (O (x.key.toNat:Int)):=n _ _ _ _ _ _ G (by rw[World.cell?_alloc_at (hn:=rfl)];rfl)
 have e8:((r.alloc (.cells x.arr 166)).setCell (F d (i*10+7)) (Y (x.aH+1))).cell? (F d (i*10+8))=some (O (x.key.toNat:Int)):=by
  rw[B.cellAt (i*10+8) G,fg G,iC es i 8 E5 G,<-HX];rfl
 have e9:((r.alloc (.cells x.arr 166)).setCell (F d (i*10+7)) (Y (x.aH+1))).cell? (F d (i*10+9))=some (O (x.before.toNat:Int)):=by
  rw[B.cellAt (i*10+9) G,fg G,iC es i 9 E5 G,<-HX];rfl
 have W:=oQ B (i*10+8)
 have ao:=oQ B (i*10+9)
 have L:=mX B (i*10+8) (O (f.toNat:Int))
 have u:=mX L (i*10+9) (O (x.key.toNat:Int))
 have y:J.ownBlock≠some d:=λe=>by
  rcases p.apart with h|h
  .cases h
  .exact h (by rw[e];rfl)
 have t:(((bL es).set (i*10+7) (Y (x.aH+1))).set (i*10+8) (O (f.toNat:Int))).set (i*10+9) (O (x.key.toNat:Int))=bL (es.set i (es[i].jC f)):=by
  rw[HX];exact IQ f es i E5
 rw[t]at u
 have RD:∃C,C=((((r.alloc (.cells x.arr 166)).setCell (F d (i*10+7)) (Y (x.aH+1))).setCell (F d (i*10+8)) (O (f.toNat:Int))).setCell (F d (i*10+9)) (O (x.key.toNat:Int)))/\iW C k v M (ς d 0 m P) V J (es.set i (es[i].jC f)) Q/\iO w C (λg=>g=d):=by
  refine⟨_,rfl,⟨(((q.blk.alloc _).other _ _ l).other _ _ l).other _ _ l,by rw[eA,hm];exact u,ownsRow_setCell_other (ownsRow_setCell_other (ownsRow_setCell_other (q.aL.alloc _) y _) y _) y _,p.here,p.bne,p.Wt,p.apart⟩,⟨A.os,A.tape,A.output,by simp only[World.size_setCell,cG];omega,λg D b=>?_⟩⟩;rw[Below.heap_setCell _ _ _ _ b,Below.heap_setCell _ _ _ _ b,Below.heap_setCell _ _ _ _ b,Below.heap_alloc r _ g G,A.block g D Z]
 obtain⟨C,U,b,D⟩:=RD
 have HW3:=I U
 have HRD:Hid (iW C.drew.drew k v M (ς d 0 m P) V J (es.set i (es[i].jC f)) Q/\iO w C.drew.drew (λg=>g=d)):=⟨⟨b.blk.drew.drew,b.aC,b.aL,b.here,b.bne,b.Wt,b.apart⟩,⟨D.os,D.tape,D.output,D.size,D.block⟩⟩
 clear U b D t
 clear hc B L u K n
 go_wp2_with fail
 go_region
 exact Hk
def RE.si(x:RE)(a:nC):RE:=⟨a.kind,a.name,a.key,a.bH,a.aD,a.bB,a.ae,x.aH,x.key,x.before⟩
theorem IV(a):∀(b)(i)(d:i<b.length),((((((((bL b).set (i*10) (Y a.kind)).set (i*10+1) (.string ⟨a.name.toArray⟩)).set (i*10+2) (O (a.key.toNat:Int))).set (i*10+3) (Y a.bH)).set (i*10+4) (Y a.aD)).set (i*10+5) (Y a.bB)).set (i*10+6) (Y a.ae))=bL (b.set i (b[i].si a)):=by
 intro b;induction b with
 |nil=>intro i d;simp at d
 |cons y b e=>
  intro i d;cases i with
  |zero=>
   rw[mf];simp only[gj,cR];rw[pN _ _ 0 _ (by rw[RE.fZ];omega),pN _ _ 1 _ rm,pN _ _ 2 _ rm,pN _ _ 3 _ rm,pN _ _ 4 _ rm,pN _ _ 5 _ rm,pN _ _ 6 _ (by simp only[eA,RE.fZ];omega)];show _=bL (y.si a::b);rw[mf];rfl
  |succ i=>
   grind [RE.fZ,mf]
theorem Lr(f J)(P)(d Q)(pv M)(es)(R)(m i:Nat)(a)(w)(q:iW w f J P (ς d 0 m Q) pv M es R)(hm:Hid (es.length=m))(yP:m<=20)(ao:a.kind=4)(b:gG es a.name=(i:Int))(cj:i<m)(E5:i<es.length)(e:a.qQ=true):Calls Tryz.prog 30 #[N J 0,.agg a.cells] w λr k=>r=.returned (Y 0)/\iW k f J P (ς d 0 m Q) pv M (es.set i (es[i].si a)) R/\iO w k (λg=>g=d):=by
 have t:=λw=>nK a w
 have hF:=λw n=>oP f J P (ς d 0 m Q) pv M es R a.name m ⟨a.name.toArray⟩ w n hm G (I rfl)
 rw[b]at hF
 rw[e]at t
 clear e
 obtain⟨ak,A,p,C,v,B,y⟩:=a
 obtain rfl:ak=4:=ao
 simp only[nC.cells]at t hF⊢
 have G0:w.grownBy (w.alloc (.cells #[Y 4,.string ⟨A.toArray⟩,O (p.toNat:Int),Y C,Y v,Y B,Y y] 41)) none:=cy w _ none
 have al:=dm.new w #[Y 4,.string ⟨A.toArray⟩,O (p.toNat:Int),Y C,Y v,Y B,Y y] 41
 have l:=hF _ (q.grown G0)
 clear hF b
 go_enter Tryz.func30,Tryz.ntmps30
 go_wp2_with fail
 refine l.mono ?_
 rintro e w1 ⟨rfl,k⟩
 have b:=al.grown k Z
 have G1:=aa G0 k
 have S:=b.cell 0
 have T:=b.cell 1
 have U:=b.cell 2
 have V:=b.cell 3
 have W:=b.cell 4
 have X:=b.cell 5
 have f6:=b.cell 6
 simp only[cI,cH,cL]at S T U V W X f6
 clear l k
 go_wp2_with fail
 refine(t _).mono ?_
 rintro e w2 ⟨rfl,k⟩
 have l:=b.grown k Z
 have G2:=aa G1 k
 have r:=q.grown G2
 clear S T U V W X f6 t k b
 have S:=l.cell 0
 have T:=l.cell 1
 have U:=l.cell 2
 have V:=l.cell 3
 have W:=l.cell 4
 have X:=l.cell 5
 have f6:=l.cell 6
 have c1:=r.blk.cell 1
 simp only[cI,cH,cL]at S T U V W X f6 c1
 have hbk:=r.aC
 rw[hm]at hbk
 have hc:∀j,j<10->w2.cell? (F d (i*10+j))=(es[i]).cells[j]?:=λj hj=>by
  exact wk
 obtain⟨x,n⟩:=aw (es[i])
 have HX:=I n
 rw[<-n]at hc
 clear n
 obtain⟨d0,d1,d2,d3,d4,d5,d6,d7,d8,d9⟩:=D6 hc
 have QX:(i:Int)<(m:Int):=G
 have ch:(0:Int)<=(i:Int):=G
 have ck:¬ (i:Int)<0:=G
 have k:=cy w2 (.cells x.arr 166) none
 have au:=k.cell c1 Z
 have bl:=k.cell S Z
 have bm:=k.cell T Z
 have bn:=k.cell U Z
 have bo:=k.cell V Z
 have bp:=k.cell W Z
 have bq:=k.cell X Z
 have bs:=k.cell f6 Z
 have av:=k.cell d0 Z
 have az:=k.cell d1 Z
 have ba:=k.cell d2 Z
 have bb:=k.cell d3 Z
 have bc:=k.cell d4 Z
 have bf:=k.cell d5 Z
 have bk:=k.cell d6 Z
 have u:=λj=>oQ (hbk.alloc (.cells x.arr 166)) j
 have bt:=u (i*10)
 have bu:=u (i*10+1)
 have bx:=u (i*10+2)
 have bz:=u (i*10+3)
 have ca:=u (i*10+4)
 have cc:=u (i*10+5)
 have cd:=u (i*10+6)
 have ar:=(q.aC.lt d rfl).2
 have b:J≠d:=λe=>q.bne (by rw[e];rfl)
 have cl:=G2.size
 have ad:=mX (hbk.alloc (.cells x.arr 166)) (i*10) (Y 4)
 have af:=mX ad (i*10+1) (.string ⟨A.toArray⟩)
 have ag:=mX af (i*10+2) (O (p.toNat:Int))
 have ah:=mX ag (i*10+3) (Y C)
 have ai:=mX ah (i*10+4) (Y v)
 have aj:=mX ai (i*10+5) (Y B)
 have D:=mX aj (i*10+6) (Y y)
 have n:M.ownBlock≠some d:=λe=>by
  rcases q.apart with h|h
  .cases h
  .exact h (by rw[e];rfl)
 rw[IV ⟨4,A,p,C,v,B,y⟩ es i E5]at D
 have RD:∃K,K=((((((((w2.alloc (.cells x.arr 166)).setCell (F d (i*10)) (Y 4)).setCell (F d (i*10+1)) (.string ⟨A.toArray⟩)).setCell (F d (i*10+2)) (O (p.toNat:Int))).setCell (F d (i*10+3)) (Y C)).setCell (F d (i*10+4)) (Y v)).setCell (F d (i*10+5)) (Y B)).setCell (F d (i*10+6)) (Y y))/\iW K f J P (ς d 0 m Q) pv M (es.set i (es[i].si ⟨4,A,p,C,v,B,y⟩)) R/\iO w K (λg=>g=d):=by
  refine⟨_,rfl,⟨((((((((r.blk.alloc _).other _ _ b).other _ _ b).other _ _ b).other _ _ b).other _ _ b).other _ _ b).other _ _ b),by rw[eA,hm];exact D,(ownsRow_setCell_other (ownsRow_setCell_other (ownsRow_setCell_other (ownsRow_setCell_other (ownsRow_setCell_other (ownsRow_setCell_other (ownsRow_setCell_other (r.aL.alloc _) n _) n _) n _) n _) n _) n _) n _),q.here,q.bne,q.Wt,q.apart⟩,?_⟩;iterate 7 refine iO.set (g:=d) (ex:=λg=>g=d) ?_ (Eq.refl d) _ _
  exact iO.mY (aa G2 k) _
 obtain⟨K,ab,t,L⟩:=RD
 have HW3:=I ab
 have HRD:Hid (iW K.drew f J P (ς d 0 m Q) pv M (es.set i (es[i].si ⟨4,A,p,C,v,B,y⟩)) R/\iO w K.drew (λg=>g=d)):=⟨⟨t.blk.drew,t.aC,t.aL,t.here,t.bne,t.Wt,t.apart⟩,⟨L.os,L.tape,L.output,L.size,L.block⟩⟩
 clear ab t L hc ad af ag ah ai aj D u
 exact Hk
open Proofs.Tryz
theorem Sr(d pb)(ax)(l t)(pv dv)(es)(ds)(m i:Nat)(a:nC)(w)(hD:iW w d pb ax (ς l 0 m t) pv dv es ds)(y:Hid (es.length=m))(yP:m<=20)(ai:a.kind=2)(b:gG es a.name=(i:Int))(bl:i<m)(E5:i<es.length)(aj:d<=w.1.size):Calls prog 30 #[N pb 0,.agg a.cells] w λr h=>r=.returned (Y 0)/\∃f,iW h d pb ax f pv dv (es.take i++es.drop (i+1)) ds/\w.grownBy h (some pb)/\lE w.1.size f:=by
 obtain⟨ie,q,Q,p,R⟩:=info_parts Tryz.aaa
 have h:=λw=>nK a w
 have hF:=λw hx=>oP d pb ax (ς l 0 m t) pv dv es ds a.name m ⟨a.name.toArray⟩ w hx y G (I rfl)
 rw[b]at hF
 generalize a.qQ=pl at h
 obtain⟨ak,an,V,bH,aD,bB,ae⟩:=a
 obtain rfl:ak=2:=ai
 simp only[nC.cells]at h hF⊢
 have G0:w.grownBy (w.alloc (.cells #[Y 2,.string ⟨an.toArray⟩,O (V.toNat:Int),Y bH,Y aD,Y bB,Y ae] 41)) none:=cy w _ none
 have ah:=dm.new w #[Y 2,.string ⟨an.toArray⟩,O (V.toNat:Int),Y bH,Y aD,Y bB,Y ae] 41
 have k:=hF _ (hD.grown G0)
 clear hF b
 go_in
 go_wp2_with fail
 refine k.mono ?_
 rintro e w1 ⟨rfl,f⟩
 have b:=ah.grown f Z
 have G1:=aa G0 f
 have K:=b.cell 0
 have o:=b.cell 1
 have f2:=b.cell 2
 have r:=b.cell 3
 have u:=b.cell 4
 have x:=b.cell 5
 have A:=b.cell 6
 simp only[cI,cH,cL]at K o f2 r u x A
 clear k f
 go_wp2_with fail
 refine(h _).mono ?_
 rintro e w2 ⟨rfl,f⟩
 have n:=b.grown f Z
 have G2:=aa G1 f
 have v:=hD.grown G2
 clear K o f2 r u x A h f b
 have K:=n.cell 0
 have f2:=n.cell 2
 have c1:=v.blk.cell 1
 simp only[cI,cH,cL]at K f2 c1
 have hbk:=v.aC
 rw[y]at hbk
 have b:∀j,j<10->w2.cell? (F l (i*10+j))=(es[i]).cells[j]?:=λj hj=>by
  exact wk
 obtain⟨x,hx⟩:=aw (es[i])
 have HX:=I hx
 rw[<-hx]at b
 clear hx
 obtain⟨d0,d1,d2,d3,d4,d5,d6,d7,d8,d9⟩:=D6 b
 have QX:(i:Int)<(m:Int):=G
 have bk:(0:Int)<=(i:Int):=G
 have bm:¬ (i:Int)<0:=G
 have Ka:=cy w2 (.cells x.arr 166) none
 have bc:=Ka.cell c1 Z
 have bf:=Ka.cell K Z
 have Gx:=aa G2 Ka
 have bn:=hD.blk.lt
 have az:=(hD.aC.lt l rfl).2
 have bo:=G2.size
 have L:=hD.grown Gx
 have k:=L.aC
 rw[y]at k
 have A:=nP k
 have M:=Lj k
 have Ww:Hid ((bL es).length=m*10):=by show _=_;rw[fq,y]
 have W:=λw=>U4 (P:=prog) 141 166 ie 10 underlying141 q p (some ⟨l,0,none⟩) m t i (i:Int) rfl G w
 obtain⟨af,ba,N8,D⟩:=JM (P:=prog) 141 166 ie 10 underlying141 q p (some ⟨l,0,none⟩) m t (i+1) ((i:Int)+1) G G M.1 Ww.o
 have f:qR (w2.alloc (.cells x.arr 166)) (some ⟨l,0,none⟩) (bL (es.take i)):=by
  rw[<-Al es i G];exact A.take _
 have al:(bL (es.take i)).length=i*10:=by rw[fq,ew];congr 1;omega
 have S:(some (⟨l,0,none⟩:Addr))=none->t=0/\i=0:=λh=>by cases h
 have au:0+i<=maxLen:=lA
 have av:(0+i)*88<=140737488355328:=G
 clear b
 go_wp2_with (at_builtin;refine fI _ rfl _ _ 141 rfl (w.1.size+1) 166 ie _ 10 88 underlying141 q Q p R rfl H σ 0 [] rfl (World.ownsRow_nil _ _ _ _) (some ⟨l,0,none⟩) i t (bL (es.take i)) rfl al f S (qx _) au av ?b1 ?_)
 case b1=>have:=n.lt;simp;omega
 intro v3 w3 b C;have r:(w2.alloc (.cells x.arr 166)).grownBy w3 none:=by simpa[Value.ownBlock]using C
 have B:=aa Gx r;have X:w3.ownsRow (w.1.size+1) 166 10 v3 i (bL (es.take i)):=by simpa using b
 obtain⟨a3,k3,rfl⟩:=bA X;have o:=hD.grown B;have ad:=o.blk.cell 1;simp only[cI,cH,cL]at ad;have u:=o.aC;rw[y]at u;have EX:=N8 w3 (nP u);rw[Am es (i+1) G]at EX;have ao:(bL (es.drop (i+1))).length=(m-(i+1))*10:=by rw[fq,ef,y]
 have T:af=none->t-(i+1)=0/\m-(i+1)=0:=λh=>⟨D (λh=>by cases h) h,by have:=D (λh=>by cases h) h;omega⟩
 have U:i+(m-(i+1))<=maxLen:=lA;have ab:(i+(m-(i+1)))*88<=140737488355328:=G;have ar:w.1.size+1<=w3.1.size:=by have h1:=r.size;have h2:=n.lt;simp at h1;omega
 have J:∀g,g<w.1.size+1->some g≠(Value.slice a3 i k3).ownBlock:=λg hg e=>by have:=(X.lt g e.symm).1;omega
 clear b C f S W A k N8;go_wp2_with (at_builtin;refine fI _ rfl _ _ 141 rfl (w.1.size+1) 166 ie _ 10 88 underlying141 q Q p R rfl H (.slice a3 i k3) i (bL (es.take i)) rfl X af (m-(i+1)) (t-(i+1)) (bL (es.drop (i+1))) rfl ao EX T (qx _) U ab ar ?_)
 intro v4 W jf b;obtain⟨k,A,rfl⟩:=bA jf;have f:=o.blk.grown b (J _ G);have ag:=f.cell 1;have bb:=f.frozen 1;simp only[cI,cH,cL]at ag;have C:∀g,g<w.1.size->W.1[g]?=w.1[g]?:=λg hg=>by
  rw[b.block g G (J g G),B.block g hg Z]
 have bp:=b.size;have S:(es.take i++es.drop (i+1)).length=i+(m-(i+1)):=by simp[y.o];omega
 have hrow:W.ownsRow (w.1.size+1) 166 10 (.slice k (i+(m-(i+1))) A) (i+(m-(i+1))) (bL (es.take i++es.drop (i+1))):=by
  rw[su];exact jf
 have GB:w.grownBy (W.setCell (F pb 1) (.slice k (i+(m-(i+1))) A)) (some pb):=
  ⟨b.os.trans B.os,b.tape.trans B.tape,b.output.trans B.output,by rw[World.size_setCell];omega,λg hg hr=>(Below.heap_setCell W _ _ g (by show g≠pb;intro e;exact hr (by rw[e]))).trans (C g hg)⟩
 have RD:iW (W.setCell (F pb 1) (.slice k (i+(m-(i+1))) A)) d pb ax (.slice k (i+(m-(i+1))) A) pv dv (es.take i++es.drop (i+1)) ds:=by
  refine⟨by simpa using f.set 1 (.slice k (i+(m-(i+1))) A),?_,hD.aL.kept GB (.inr hD.Wt),hD.here,λh=>by have:=(hrow.lt _ h).1;omega,hD.Wt,?_⟩
  .rw[S];exact Hb
  .cases hx:(Value.slice k (i+(m-(i+1))) A).ownBlock with
   |none=>exact .inl rfl
   |some g=>
    exact F'
 have NA:lE w.1.size (.slice k (i+(m-(i+1))) A):=λg h=>by have:=(hrow.lt g h).1;omega
 have HR:=I (cZ RD GB);clear hD v o L hrow f C RD GB jf X b EX u;go_wp2;go_ret;exact⟨rfl,_,HR.1,HR.2,NA⟩
theorem Lt(f C)(P)(y S)(X U)(es)(T)(m i:Nat)(a:nC)(w)(V:iW w f C P (ς y 0 m S) X U es T)(W:Hid (es.length=m))(yP:m<=20)(B:a.kind=4)(b:gG es a.name=(i:Int))(af:i<m)(E5:i<es.length)(d:a.qQ=false):Calls prog 30 #[N C 0,.agg a.cells] w λr e=>r=.returned (Y 1)/\w.grownBy e none:=by
 have v:=λw=>nK a w
 have hF:=λw l=>oP f C P (ς y 0 m S) X U es T a.name m ⟨a.name.toArray⟩ w l W G (I rfl)
 rw[b]at hF
 rw[d]at v
 clear d
 obtain⟨ak,M,n,R,K,Q,L⟩:=a
 obtain rfl:ak=4:=B
 simp only[nC.cells]at v hF⊢
 have D:w.grownBy (w.alloc (.cells #[Y 4,.string ⟨M.toArray⟩,O (n.toNat:Int),Y R,Y K,Y Q,Y L] 41)) none:=cy w _ none
 have A:=dm.new w #[Y 4,.string ⟨M.toArray⟩,O (n.toNat:Int),Y R,Y K,Y Q,Y L] 41
 have g:=hF _ (V.grown D)
 clear hF b
 go_in
 go_wp2_with fail
 refine g.mono ?_
 rintro e w1 ⟨rfl,d⟩
 have b:=A.grown d Z
 have G1:=aa D d
 have h:=b.cell 0
 have o:=b.cell 1
 have p:=b.cell 2
 have q:=b.cell 3
 have r:=b.cell 4
 have t:=b.cell 5
 have u:=b.cell 6
 simp only[cI,cH,cL]at h o p q r t u
 clear g d
 go_wp2_with fail
 refine(v _).mono ?_
 rintro e w2 ⟨rfl,g⟩
 have d:=b.grown g Z
 have J:=aa G1 g
 have k:=V.grown J
 clear h o p q r t u v g b
 have h:=d.cell 0
 have o:=d.cell 1
 have p:=d.cell 2
 have q:=d.cell 3
 have r:=d.cell 4
 have t:=d.cell 5
 have u:=d.cell 6
 have v:=k.blk.cell 1
 simp only[cI,cH,cL]at h o p q r t u v
 have hbk:=k.aC
 rw[W]at hbk
 have b:∀j,j<10->w2.cell? (F y (i*10+j))=(es[i]).cells[j]?:=λj hj=>by
  exact wk
 obtain⟨x,l⟩:=aw (es[i])
 have HX:=I l
 rw[<-l]at b
 clear l
 obtain⟨d0,d1,d2,d3,d4,d5,d6,d7,d8,d9⟩:=D6 b
 have QX:(i:Int)<(m:Int):=G
 have ad:(0:Int)<=(i:Int):=G
 have ag:¬ (i:Int)<0:=G
 have g:=cy w2 (.cells x.arr 166) none
 have ab:=g.cell h Z
 have l:=aa J g
 clear b
 go_wp2
 go_ret
 exact⟨rfl,l⟩
theorem IW(t:List E)(u:List Int)(n)(j k m o)(a b d f)(r l)(w)(L:Hid (t.length=n))(M:Hid (u.length=n))(K:n<=1000000)(y:qR w j (t.map λl=>.string ⟨l.toArray⟩))(A:qR w m (t.map λl=>.string ⟨l.toArray⟩))(B:qR w k (u.map λx=>Y x))(C:qR w o (u.map λx=>Y x)):Calls Tryz.prog 37 #[.agg #[.slice j n a,.slice k n b,Y r,Y l],.agg #[.slice m n d,.slice o n f,Y r,Y l]] w λe g=>e=.returned (.bool true)/\w.grownBy g none:=by
 have v:w.grownBy ((w.alloc (.cells #[.slice j n a,.slice k n b,Y r,Y l] 101)).alloc (.cells #[.slice m n d,.slice o n f,Y r,Y l] 101)) none:=aM (cy w _ none) _
 have q:=(dm.new w #[.slice j n a,.slice k n b,Y r,Y l] 101).alloc (.cells #[.slice m n d,.slice o n f,Y r,Y l] 101)
 have p:=dm.new (w.alloc (.cells #[.slice j n a,.slice k n b,Y r,Y l] 101)) #[.slice m n d,.slice o n f,Y r,Y l] 101
 rw[cG]at p
 have J:=Dw t n j m a d _ L K (y.below v) (A.below v)
 go_enter Tryz.func37,Tryz.ntmps37
 go_wp2_with fail
 refine J.mono ?_
 rintro e P ⟨rfl,g⟩
 have x:=aa v g
 have h:=q.grown g Z
 have i:=p.grown g Z
 have Q:=h.cell 1
 have T:=i.cell 1
 simp only[cI,cH,cL]at Q T
 have D:=Lm u n k o b f P M K (B.below x) (C.below x)
 clear J g q p
 go_wp2_with fail
 refine D.mono ?_
 rintro e W ⟨rfl,g⟩
 have J:=aa x g
 have p:=h.grown g Z
 have q:=i.grown g Z
 have R:=p.cell 2
 have U:=q.cell 2
 have S:=p.cell 3
 have V:=q.cell 3
 simp only[cI,cH,cL]at R U S V
 clear D g h i y A B C
 go_wp2
 go_ret
 exact⟨rfl,J⟩
def RE.be(e:RE):BE:=⟨e.name,e.aH,e.key,e.before,e.bH,e.aD,e.bB,e.ae⟩
theorem U7(a:List RE)(l):BE.pY (a.map RE.be) l=a.findIdx? (λe=>e.name==l):=by
 rw[BE.pY,List.findIdx?_map];rfl
theorem SO(a)(l):BE.ins (a.map RE.be) l=uH a l:=by
 induction a with
 |nil=>rfl
 |cons e a b=>simp only[eN,BE.ins,uH,b];rfl
theorem nF(h:p:=by injection e):p:=h
variable {M:DM}{yb:Nat}{w w':World}
def PF.cells(p:PF):List Value:=[.string ⟨p.az.toArray⟩,Y p.time,Y p.count]
def fQ(l:List PF):List Value:=(l.map PF.cells).flatten
structure RG where
 bv:Value
 pv:Value
 dv:Value
 es:List RE
def RG.foot(g:RG)(yb b:Nat):Prop:=b=yb\/g.bv.ownBlock=some b\/g.pv.ownBlock=some b\/g.dv.ownBlock=some b
structure RD(w:World)(base yb:Nat)(M:DM)(g:RG):Prop where
 bU:iW w base yb M.ax g.bv g.pv g.dv g.es M.aL
 aC:g.es.map RE.be=M.aC
 aI:w.ownsRow base 283 3 g.pv M.aI.length (fQ M.aI)
 pne:g.pv.ownBlock≠some yb
 pb:g.pv.ownBlock=none\/g.pv.ownBlock≠g.bv.ownBlock
 pd:g.pv.ownBlock=none\/g.pv.ownBlock≠g.dv.ownBlock
theorem iW.keep{a f:Nat}{g:Int}{d l e:Value}{j:List RE}{i:E}(h:iW w a f g d l e j i)(k:∀b,b=f\/d.ownBlock=some b\/e.ownBlock=some b->w'.1[b]?=w.1[b]?):iW w' a f g d l e j i:=
 ⟨h.blk.kept (k _ (.inl rfl)),dh h.aC dT,dh h.aL dT,h.here,h.bne,h.Wt,h.apart⟩
theorem RD.keep{a:Nat}{g:RG}(h:RD w a yb M g)(k:∀b,g.foot yb b->w'.1[b]?=w.1[b]?):RD w' a yb M g:=
 ⟨h.bU.keep (λb d=>k b (by rcases d with e|e|e;exact .inl e;exact .inr (.inl e);exact .inr (.inr (.inr e)))),h.aC,dh h.aI (λb d=>k b (.inr (.inr (.inl d)))),h.pne,h.pb,h.pd⟩
theorem RD.lt{a:Nat}{g:RG}(h:RD w a yb M g)(b)(d:g.foot yb b):a<=b/\b<w.1.size:=by
 rcases d with e|e|e|e
 .subst e;exact⟨h.bU.here,h.bU.blk.lt⟩
 .exact h.bU.aC.lt b e
 .exact h.aI.lt b e
 .exact h.bU.aL.lt b e
theorem RD.down{b a:Nat}{g:RG}(h:RD w b yb M g)(d:a<=b):RD w a yb M g:=
 ⟨⟨h.bU.blk,dw h.bU.aC d,dw h.bU.aL d,cE d h.bU.here,h.bU.bne,h.bU.Wt,h.bU.apart⟩,h.aC,dw h.aI d,h.pne,h.pb,h.pd⟩
theorem Wk(b)(a):(fD (b.map RE.be) a).2=sw b a:=by
 unfold fD sw;rw[U7];have f:(b.map RE.be).length=b.length:=cU _;rw[f];unfold gG;cases h:b.findIdx? (λe=>e.name==a.name)with
 |none=>
  by_cases d:a.kind=1
  .simp only[d,if_true];grind
  .simp only[d,if_false];split<;>simp
 |some i=>
  have g:=(List.findIdx?_eq_some_iff_getElem.1 h).1;by_cases d:a.kind=1
  .simp only[d,if_true];grind
  .simp only[d,if_false];grind
theorem aaf(b)(a)(h:(fD b a).2≠0):(fD b a).1=b:=by
 grind [fD]
theorem Ao(a)(l)(i:Nat)(h:a.findIdx? (λe=>e.name==l)=some i):gG a l=(i:Int):=by rw[gG,h]
theorem E8(a)(l)(h:a.findIdx? (λe=>e.name==l)=none):gG a l=-1:=by rw[gG,h]
def iQ(base yb:Nat)(M:DM)(g:RG)(a:nC)(w w':World):Prop:=
 ∃g',RD w' base yb {M with aC:=(fD M.aC a).1} g'/\iO w w' (g.foot yb)/\∀b,g'.foot yb b->g.foot yb b\/w.1.size<=b
theorem iQ.new{d:Nat}{g:RG}{a:nC}(i:RD w d yb M g){j:Value}{f:List RE}(m:iW w' d yb M.ax j g.pv g.dv f M.aL)(n:f.map RE.be=(fD M.aC a).1)(h:w.grownBy w' (some yb))(l:lE w.1.size j):iQ d yb M g a w w':=by
 refine⟨⟨j,g.pv,g.dv,f⟩,⟨m,n,dh i.aI (λb k=>h.block b (i.aI.lt b k).2 (by grind [RD.pne])),i.pne,?_,i.pd⟩,⟨h.os,h.tape,h.output,h.size,λb k o=>h.block b k (λe=>o (.inl nF))⟩,?_⟩
 .cases k:g.pv.ownBlock with
  |none=>exact .inl rfl
  |some p=>
   refine .inr (λe=>?_);have:=l p e.symm;have:=(i.aI.lt p k).2;omega
 .rintro b (e|e|e|e)
  .exact .inl (.inl e)
  .exact .inr (l b e)
  .exact .inl (.inr (.inr (.inl e)))
  .exact .inl (.inr (.inr (.inr e)))
theorem iQ.inPlace{d:Nat}{g:RG}{a:nC}(i:RD w d yb M g){k:Nat}{f:List RE}(n:iW w' d yb M.ax g.bv g.pv g.dv f M.aL)(o:f.map RE.be=(fD M.aC a).1)(l:iO w w' λb=>b=k)(m:g.bv.ownBlock=some k):iQ d yb M g a w w':=by
 refine⟨⟨g.bv,g.pv,g.dv,f⟩,⟨n,o,dh i.aI (λb j=>l.block b (i.aI.lt b j).2 (λe=>?_)),i.pne,i.pb,i.pd⟩,l.mono (λb _ e=>.inr (.inl (by rw[m,e]))),λb j=>.inl j⟩;rcases i.pb with h|h
 .rw[h]at j;cases j
 .exact h (by rw[j,m,e])
theorem iQ.same{d:Nat}{g:RG}{a:nC}(h:RD w d yb M g)(i:(fD M.aC a).1=M.aC)(f:w.grownBy w' none):iQ d yb M g a w w':=by
 refine⟨g,?_,iO.mY f _,λb e=>.inl e⟩;rw[i];exact h.keep (λb e=>f.block b (h.lt b e).2 Z)
theorem FL(h:p:=by
 rcases hde.aC.2 with⟨_,h2⟩|⟨g,cap,cur,h,_⟩
 .omega
 .rw[hbv]at h;simp at h;exact⟨g,h.1⟩):p:=h
theorem Gw(h:p:=by
 rintro r w' ⟨rfl,QY,r1,r2,r3⟩
 exact⟨by rw[hres],iQ.new hD r1 (by rw[hres]) r2 r3⟩):p:=h
theorem Gk(h:p:=by
 rintro r w' ⟨rfl,r1,r2⟩
 exact⟨by rw[hres],iQ.inPlace hD r1 (by rw[hres]) r2 rfl⟩):p:=h
theorem E9(n d yb)(M)(g)(a)(w)(hD:RD w d yb M g)(P:gy n M.aC)(hn:n<4611686018427387904)(L:a.name.length<=9223372036854775807)(m:d<=w.1.size):Calls Tryz.prog 30 #[N yb 0,.agg a.cells] w λr w'=>r=.returned (Y (fD M.aC a).2)/\iQ d yb M g a w w':=by
 obtain⟨V,x,t,b⟩:=g
 have C:b.map RE.be=M.aC:=hD.aC
 have hde:iW w d yb M.ax V x t b M.aL:=hD.bU
 have j:b.length<=20:=by rw[<-cU (f:=RE.be),C];exact P.len
 have S:=Wk b a
 rw[C]at S
 obtain⟨X,T,hbv⟩:=bA hde.aC
 by_cases v:sw b a=0
 .by_cases R:a.kind=1
  .have k:=v;rw[sw,dQ R]at k;have y:dx a.name=true:=(by cases h:dx a.name<;>simp_all);have l:a.qQ=true:=(by cases h:a.qQ<;>simp_all);have o:gG b a.name=-1:=by
    rcases Ll b a.name with h|h
    .rw[y,l]at k;by_cases i:0<=gG b a.name
     .simp[i]at k
     .omega
    .exact h
   have p:b.length<20:=by
    rw[y,l,o]at k;by_cases i:20<=b.length
    .simp[i]at k
    .omega
   have q:b.findIdx? (λe=>e.name==a.name)=none:=by
    cases h:b.findIdx? (λe=>e.name==a.name)with
    |none=>rfl
    |some i=>rw[Ao b a.name i h]at o;omega
   have hres:(fD M.aC a)=((Si b (ux a)).map RE.be,0):=by
    rw[<-C,fD,dQ R,U7,q,y,l,cU,SO];simp only[Bool.true_eq_false,if_false,Option.isSome_none,fS,b' (show ¬ 20<=b.length by omega)];rw[Si];simp[ux,BE.new,RE.be,List.map_take,List.map_drop]
   refine(Sq d yb M.ax V x t b M.aL b.length a w hde (I rfl) p L ⟨R,y,l,o⟩ m).mono ?_;exact Gw
  .have k:=v;rw[sw,b' R]at k;have y:a.kind=2\/a.kind=3\/a.kind=4:=by
    by_cases h:a.kind=2\/a.kind=3\/a.kind=4
    .exact h
    .rw[b' h]at k;omega
   rw[dQ y]at k;cases h:b.findIdx? (λe=>e.name==a.name)with
   |none=>rw[E8 b _ h]at k;simp at k
   |some i=>
    have A:=Ao b a.name i h;obtain⟨o,J,_⟩:=List.findIdx?_eq_some_iff_getElem.1 h;obtain⟨q,u⟩:∃q,X=some ⟨q,0,none⟩:=by
     exact FL
    subst u;subst hbv;have K:b[i].be∈M.aC:=(by rw[<-C];exact eS (eh o));have fV:=P.num _ K;have ad:1<=b[i].aH/\b[i].aH<=(n:Int):=fV;have D:(b.map RE.be)[i]?=some b[i].be:=(by simp[o]);have l:fD M.aC a=if a.kind=2 then((b.map RE.be).take i++(b.map RE.be).drop (i+1),0) else if a.kind=3 then((b.map RE.be).set i (b[i].be.jC a.key),0) else if a.qQ=false then(b.map RE.be,1) else((b.map RE.be).set i (b[i].be.si a),0):=by
     rw[<-C,fD,b' R,dQ y,U7,h];simp only[D]
    by_cases U:a.kind=2
    .have hres:fD M.aC a=((b.take i++b.drop (i+1)).map RE.be,0):=by
      rw[l,dQ U];simp[List.map_take,List.map_drop]
     refine(Sr d yb M.ax q T x t b M.aL b.length i a w hde (I rfl) j U A o o m).mono ?_;exact Gw
    .by_cases W:a.kind=3
     .have hres:fD M.aC a=((b.set i (b[i].jC a.key)).map RE.be,0):=by
       rw[l,b' U,dQ W];simp[List.map_set,RE.jC,BE.jC,RE.be]
      refine(Lp d yb M.ax q T x t b M.aL b.length i a w hde (I rfl) j W A o o G G).mono ?_;exact Gk
     .have B:a.kind=4:=G;have Q:a.qQ=true:=by
       rw[A]at k;cases h:a.qQ with
       |true=>rfl
       |false=>simp[h,B]at k;omega
      have hres:fD M.aC a=((b.set i (b[i].si a)).map RE.be,0):=by
       rw[l,b' U,b' W,Q];have p:b[i].name=a.name:=(by simpa using J);simp[List.map_set,RE.si,BE.si,RE.be,p]
      refine(Lr d yb M.ax q T x t b M.aL b.length i a w hde (I rfl) j B A o o Q).mono ?_;exact Gk
 .have p:=aaf M.aC a (by rw[S];exact v);by_cases B:a.kind=4/\0<=gG b a.name
  .have k:=v;cases h:b.findIdx? (λe=>e.name==a.name)with
   |none=>have:=E8 b _ h;omega
   |some i=>
    have A:=Ao b a.name i h;obtain⟨o,J,_⟩:=List.findIdx?_eq_some_iff_getElem.1 h;obtain⟨q,u⟩:∃q,X=some ⟨q,0,none⟩:=by
     exact FL
    subst u;subst hbv;have l:sw b a=if a.qQ=false then 1 else 0:=by
     rw[sw,b' G,dQ G,b' G];simp[B.1]
    have Q:a.qQ=false:=by
     cases h:a.qQ with
     |false=>rfl
     |true=>rw[l,h]at v;simp at v
    have y:(fD M.aC a).2=1:=(by rw[S,l,Q];rfl);refine(Lt d yb M.ax q T x t b M.aL b.length i a w hde (I rfl) j B.1 A o o Q).mono ?_;rintro r w' ⟨rfl,r1⟩;exact⟨by rw[y],iQ.same hD p r1⟩
  .refine(Sm d yb M.ax V x t b M.aL b.length a w hde (I rfl) G L (I v) (I (λh=>?_))).mono ?_
   .by_cases h2:0<=gG b a.name
    .exact absurd ⟨h,h2⟩ B
    .omega
   .rintro r w' ⟨rfl,r1⟩;exact⟨by rw[S],iQ.same hD p r1⟩
