import Derived.Test.YtlfifnpjeangmaaGreatDoorGEDeskE
namespace Go.Proofs.YtlfifnpjeangmaaGreatDoor
set_option maxHeartbeats 2000000
open Go.RowKit
set_option maxRecDepth 100000
variable {p:Prop}
theorem aih(h:p:=by grind [RE.fO]):p:=h
theorem RE.fO(e:RE):e.cells.length=10:=rfl
theorem lT(y)(a):bK (y::a)=y.cells++bK a:=by simp[bK]
theorem set_left(a b:List Value)(j)(v)(h:j<a.length):(a++b).set j v=a.set j v++b:=by rw[List.set_append,if_pos h]
def RE.jk(x:RE)(key:UInt64):RE:=⟨x.k,x.name,x.zk,x.bI,x.aC,x.bB,x.ae,x.aH+1,key,x.key⟩
theorem F8(key):∀(a)(i)(b:i<a.length),(((bK a).set (i*10+7) (ι (a[i].aH+1))).set (i*10+8) (υ key.toNat)).set (i*10+9) (υ (a[i].key.toNat:Int))=bK (a.set i (a[i].jk key)):=by
 intro a;induction a with
 |nil=>intro i b;simp at b
 |cons y a c=>
  intro i b;cases i with
  |zero=>
   rw[lT,gf,cN,cN,cN,set_left _ _ 7 _ (by rw[RE.fO];omega),set_left _ _ 8 _ aih,set_left _ _ 9 _ aih];show _=bK (y.jk key::a);rw[lT];rfl
  |succ i=>
   grind [RE.fO,lT]
theorem Cj{w:World}{g i:Nat}{x:RE}(a:∀j,j<10->w.cell? (g,i*10+j)=x.cells[j]?):w.cell? (g,i*10)=some (ι x.k)/\w.cell? (g,i*10+1)=some (.string x.name)/\w.cell? (g,i*10+2)=some (υ x.zk.toNat)/\w.cell? (g,i*10+3)=some (ι x.bI)/\w.cell? (g,i*10+4)=some (ι x.aC)/\w.cell? (g,i*10+5)=some (ι x.bB)/\w.cell? (g,i*10+6)=some (ι x.ae)/\w.cell? (g,i*10+7)=some (ι x.aH)/\w.cell? (g,i*10+8)=some (υ x.key.toNat)/\w.cell? (g,i*10+9)=some (υ x.before.toNat):=
 ⟨a 0 agE,a 1 agE,a 2 agE,a 3 agE,a 4 agE,a 5 agE,a 6 agE,a 7 agE,a 8 agE,a 9 agE⟩
theorem aeh(h:p:=by
 rw[hbk.cellAt (i*10+j) agE,ik es i j DJ hj]):p:=h
theorem aey(h:p:=by
 go_wp2_with fail
 go_region
 all_goals
  go_wp2
  go_ret
  refine⟨rfl,?_⟩
  have h:=HRD.o
  rw[HW3.o]at h
  exact h):p:=h
theorem Jq(base q:Nat)(aA)(c M:Nat)(pv dv)(es)(ds)(m i:Nat)(a:mW)(w)(l:iP w base q aA (.slice (some (c,0)) m M) pv dv es ds)(O:Hid (es.length=m))(xY:m<=20)(Y:a.kind=3)(G:fZ es a.name=(i:Int))(ao:i<m)(DJ:i<es.length)(jK:es[i].aH<4611686018427387904)(X:0<=es[i].aH):
  Calls Tryz.prog 30 #[(q,0),.agg a.cells] w λr w'=>r=.returned (ι 0)/\iP w' base q aA (.slice (some (c,0)) m M) pv dv (es.set i (es[i].jk a.key)) ds/\iZ w w' (λg=>g=c):=by
 have P:=λw=>mX a w
 have hF:=λw L=>og base q aA (.slice (some (c,0)) m M) pv dv es ds a.name m ⟨a.name.toArray⟩ w L O agE (hid rfl)
 rw[G]at hF
 generalize a.ql=pl at P
 obtain⟨ak,an,key,bI,aC,Z,ae⟩:=a
 obtain rfl:ak=3:=Y
 simp only[mW.cells]at P hF⊢
 have G0:w.grownBy (w.alloc (.cells #[ι 3,.string an,υ key.toNat,ι bI,ι aC,ι Z,ι ae] 41)) none:=cx w _ none
 have Q:=dB.new w #[ι 3,.string an,υ key.toNat,ι bI,ι aC,ι Z,ι ae] 41
 have F7:=hF _ (l.grown G0)
 clear hF G
 go_enter Tryz.func30,Tryz.ntmps30
 go_wp2_with fail
 refine F7.mono ?_
 rintro e w1 ⟨rfl,z⟩
 have d:=Q.grown z agI
 have G1:=aa G0 z
 have I:=d.cell 0
 have f1:=d.cell 1
 have E:=d.cell 2
 have f3:=d.cell 3
 have f4:=d.cell 4
 have f5:=d.cell 5
 have f6:=d.cell 6
 simp only[cH,cG,cI]at I f1 E f3 f4 f5 f6
 clear F7 z
 go_wp2_with fail
 refine(P _).mono ?_
 rintro e w2 ⟨rfl,s⟩
 have J:=d.grown s agI
 have C:=aa G1 s
 have k:=l.grown C
 clear I f1 E f3 f4 f5 f6 P s d
 have I:=J.cell 0
 have E:=J.cell 2
 have c1:=k.blk.cell 1
 simp only[cH,cG,cI]at I E c1
 have hbk:=k.aG
 rw[O.o]at hbk
 have R:∀j,j<10->w2.cell? (c,i*10+j)=(es[i]).cells[j]?:=λj hj=>by
  exact aeh
 obtain⟨x,L⟩:=aw (es[i])
 have U:=hid L
 rw[<-L]at R jK X
 clear L
 obtain⟨d0,d1,d2,d3,d4,d5,d6,d7,d8,d9⟩:=Cj R
 have OD:(i:Int)<(m:Int):=agE
 have aj:(0:Int)<=(i:Int):=agE
 have ar:¬ (i:Int)<0:=agE
 have N:=cx w2 (.cells x.arr 166) none
 have T:=N.cell c1 agI
 have aq:=N.cell I agI
 have S:=N.cell E agI
 have ah:=N.cell d7 agI
 have ai:(w2.alloc (.cells x.arr 166)).frozen? (c,i*10+7)=false:=oh (hbk.alloc _) _
 have ad:=(l.aG.lt c rfl).2
 have f:q≠c:=λe=>l.bne (by rw[e];rfl)
 have af:=C.size
 have K:=hbk.alloc (.cells x.arr 166)
 have D:=mG K (i*10+7) (ι (x.aH+1))
 have ab:(bK es).length=m*10:=by rw[eY,O.o]
 have far:∀(W:World)(j)(u)(b o)(y),b≠c->W.cell? ⟨b,o,none⟩=y->(W.setCell ⟨c,j,none⟩ u).cell? ⟨b,o,none⟩=y:=λW j u b o y hb hy=>by
  rw[show(W.setCell (c,j) u).cell? (b,o)=W.cell? (b,o) from by simp[World.cell?,Below.heap_setCell W ⟨c,j,none⟩ u b hb]];exact hy
 have z1:=far _ (i*10+7) (ι (x.aH+1)) q 1 _ f T
 have z2:=far _ (i*10+7) (ι (x.aH+1)) w.heap.size 2 _ agE S
 have z8:((w2.alloc (.cells x.arr 166)).setCell (c,i*10+7) (ι (x.aH+1))).cell? (w2,8)=some (υ x.key.toNat):=far _ _ _ _ _ _ agE (by rw[World.cell?_alloc_at (hn:=rfl)];rfl)
 have e8:((w2.alloc (.cells x.arr 166)).setCell (c,i*10+7) (ι (x.aH+1))).cell? (c,i*10+8)=some (υ x.key.toNat):=by
  rw[D.cellAt (i*10+8) agE,List.getElem?_set_ne agE,ik es i 8 DJ agE,<-U.o];rfl
 have e9:((w2.alloc (.cells x.arr 166)).setCell (c,i*10+7) (ι (x.aH+1))).cell? (c,i*10+9)=some (υ x.before.toNat):=by
  rw[D.cellAt (i*10+9) agE,List.getElem?_set_ne agE,ik es i 9 DJ agE,<-U.o];rfl
 have ag:=oh D (i*10+8)
 have al:=oh D (i*10+9)
 have H:=mG D (i*10+8) (υ key.toNat)
 have V:=mG H (i*10+9) (υ x.key.toNat)
 have t:dv.ownBlock≠some c:=λe=>by
  rcases l.apart with h|h
  ·cases h
  ·exact h (by rw[e];rfl)
 have n:(((bK es).set (i*10+7) (ι (x.aH+1))).set (i*10+8) (υ key.toNat)).set (i*10+9) (υ x.key.toNat)=bK (es.set i (es[i].jk key)):=by
  rw[U.o];exact F8 key es i DJ
 rw[n]at V
 have RD:∃B,B=((((w2.alloc (.cells x.arr 166)).setCell (c,i*10+7) (ι (x.aH+1))).setCell (c,i*10+8) (υ key.toNat)).setCell (c,i*10+9) (υ x.key.toNat))/\iP B base q aA (.slice (some (c,0)) m M) pv dv (es.set i (es[i].jk key)) ds/\iZ w B (λg=>g=c):=by
  refine⟨_,rfl,⟨(((k.blk.alloc _).other _ _ f).other _ _ f).other _ _ f,by rw[eL,O.o];exact V,ownsRow_setCell_other (ownsRow_setCell_other (ownsRow_setCell_other (k.aL.alloc _) t _) t _) t _,l.here,l.bne,l.TN,l.apart⟩,⟨C.os,C.tape,C.output,by simp only[World.size_setCell,cF];omega,λg hg v=>?_⟩⟩;rw[Below.heap_setCell _ _ _ _ v,Below.heap_setCell _ _ _ _ v,Below.heap_setCell _ _ _ _ v,Below.heap_alloc w2 _ g agE,C.block g hg agI]
 obtain⟨B,F,p,A⟩:=RD
 have HW3:=hid F
 have HRD:Hid (iP B.drew.drew base q aA (.slice (some (c,0)) m M) pv dv (es.set i (es[i].jk key)) ds/\iZ w B.drew.drew (λg=>g=c)):=⟨⟨p.blk.drew.drew,p.aG,p.aL,p.here,p.bne,p.TN,p.apart⟩,⟨A.os,A.tape,A.output,A.size,A.block⟩⟩
 clear F p A n
 clear R D H V K far
 go_wp2_with fail
 go_region
 exact aey
def RE.rq(x:RE)(a:mW):RE:=⟨a.kind,a.name,a.key,a.bI,a.aC,a.bB,a.ae,x.aH,x.key,x.before⟩
theorem F9(a):∀(b)(i)(c:i<b.length),((((((((bK b).set (i*10) (ι a.kind)).set (i*10+1) (.string ⟨a.name.toArray⟩)).set (i*10+2) (υ a.key.toNat)).set (i*10+3) (ι a.bI)).set (i*10+4) (ι a.aC)).set (i*10+5) (ι a.bB)).set (i*10+6) (ι a.ae))=bK (b.set i (b[i].rq a)):=by
 intro b;induction b with
 |nil=>intro i c;simp at c
 |cons y b d=>
  intro i c;cases i with
  |zero=>
   rw[lT];simp only[gf,cN];rw[set_left _ _ 0 _ (by rw[RE.fO];omega),set_left _ _ 1 _ aih,set_left _ _ 2 _ aih,set_left _ _ 3 _ aih,set_left _ _ 4 _ aih,set_left _ _ 5 _ aih,set_left _ _ 6 _ (by simp only[eL,RE.fO];omega)];show _=bK (y.rq a::b);rw[lT];rfl
  |succ i=>
   grind [RE.fO,lT]
theorem Jr(base A:Nat)(aA)(c T:Nat)(pv dv)(es)(ds)(m i:Nat)(a)(w)(p:iP w base A aA (.slice (some (c,0)) m T) pv dv es ds)(Z:Hid (es.length=m))(xY:m<=20)(ab:a.kind=4)(K:fZ es a.name=(i:Int))(aH:i<m)(DJ:i<es.length)(BL:a.ql=true):
  Calls Tryz.prog 30 #[(A,0),.agg a.cells] w λr w'=>r=.returned (ι 0)/\iP w' base A aA (.slice (some (c,0)) m T) pv dv (es.set i (es[i].rq a)) ds/\iZ w w' (λg=>g=c):=by
 have V:=λw=>mX a w
 have hF:=λw Q=>og base A aA (.slice (some (c,0)) m T) pv dv es ds a.name m ⟨a.name.toArray⟩ w Q Z agE (hid rfl)
 rw[K]at hF
 rw[BL]at V
 clear BL
 obtain⟨ak,y,key,v,aC,t,ae⟩:=a
 obtain rfl:ak=4:=ab
 simp only[mW.cells]at V hF⊢
 have G0:w.grownBy (w.alloc (.cells #[ι 4,.string y,υ key.toNat,ι v,ι aC,ι t,ι ae] 41)) none:=cx w _ none
 have W:=dB.new w #[ι 4,.string y,υ key.toNat,ι v,ι aC,ι t,ι ae] 41
 have F7:=hF _ (p.grown G0)
 clear hF K
 go_enter Tryz.func30,Tryz.ntmps30
 go_wp2_with fail
 refine F7.mono ?_
 rintro e w1 ⟨rfl,B⟩
 have d:=W.grown B agI
 have G1:=aa G0 B
 have N:=d.cell 0
 have L:=d.cell 1
 have E:=d.cell 2
 have J:=d.cell 3
 have H:=d.cell 4
 have F:=d.cell 5
 have R:=d.cell 6
 simp only[cH,cG,cI]at N L E J H F R
 clear F7 B
 go_wp2_with fail
 refine(V _).mono ?_
 rintro e w2 ⟨rfl,u⟩
 have l:=d.grown u agI
 have Y:=aa G1 u
 have n:=p.grown Y
 clear N L E J H F R V u d
 have N:=l.cell 0
 have L:=l.cell 1
 have E:=l.cell 2
 have J:=l.cell 3
 have H:=l.cell 4
 have F:=l.cell 5
 have R:=l.cell 6
 have c1:=n.blk.cell 1
 simp only[cH,cG,cI]at N L E J H F R c1
 have hbk:=n.aG
 rw[Z.o]at hbk
 have X:∀j,j<10->w2.cell? (c,i*10+j)=(es[i]).cells[j]?:=λj hj=>by
  exact aeh
 obtain⟨x,Q⟩:=aw (es[i])
 have HX:=hid Q
 rw[<-Q]at X
 clear Q
 obtain⟨d0,d1,d2,d3,d4,d5,d6,d7,d8,d9⟩:=Cj X
 have OD:(i:Int)<(m:Int):=agE
 have ay:(0:Int)<=(i:Int):=agE
 have aO:¬ (i:Int)<0:=agE
 have f:=cx w2 (.cells x.arr 166) none
 have av:=f.cell c1 agI
 have aJ:=f.cell N agI
 have al:=f.cell L agI
 have au:=f.cell E agI
 have aM:=f.cell J agI
 have ar:=f.cell H agI
 have aj:=f.cell F agI
 have ai:=f.cell R agI
 have aD:=f.cell d0 agI
 have aP:=f.cell d1 agI
 have aB:=f.cell d2 agI
 have af:=f.cell d3 agI
 have aI:=f.cell d4 agI
 have aN:=f.cell d5 agI
 have ao:=f.cell d6 agI
 have q:=λj=>oh (hbk.alloc (.cells x.arr 166)) j
 have aE:=q (i*10)
 have aF:=q (i*10+1)
 have aK:=q (i*10+2)
 have ax:=q (i*10+3)
 have az:=q (i*10+4)
 have ah:=q (i*10+5)
 have aq:=q (i*10+6)
 have ad:=(p.aG.lt c rfl).2
 have b:A≠c:=λe=>p.bne (by rw[e];rfl)
 have ag:=Y.size
 have I:=mG (hbk.alloc (.cells x.arr 166)) (i*10) (ι 4)
 have P:=mG I (i*10+1) (.string y)
 have S:=mG P (i*10+2) (υ key.toNat)
 have U:=mG S (i*10+3) (ι v)
 have M:=mG U (i*10+4) (ι aC)
 have O:=mG M (i*10+5) (ι t)
 have z:=mG O (i*10+6) (ι ae)
 have k:dv.ownBlock≠some c:=λe=>by
  rcases p.apart with h|h
  ·cases h
  ·exact h (by rw[e];rfl)
 rw[F9 ⟨4,y,key,v,aC,t,ae⟩ es i DJ]at z
 have RD:∃D,D=((((((((w2.alloc (.cells x.arr 166)).setCell (c,i*10) (ι 4)).setCell (c,i*10+1) (.string y)).setCell (c,i*10+2) (υ key.toNat)).setCell (c,i*10+3) (ι v)).setCell (c,i*10+4) (ι aC)).setCell (c,i*10+5) (ι t)).setCell (c,i*10+6) (ι ae))/\iP D base A aA (.slice (some (c,0)) m T) pv dv (es.set i (es[i].rq ⟨4,y,key,v,aC,t,ae⟩)) ds/\iZ w D (λg=>g=c):=by
  refine⟨_,rfl,⟨((((((((n.blk.alloc _).other _ _ b).other _ _ b).other _ _ b).other _ _ b).other _ _ b).other _ _ b).other _ _ b),by rw[eL,Z.o];exact z,(ownsRow_setCell_other (ownsRow_setCell_other (ownsRow_setCell_other (ownsRow_setCell_other (ownsRow_setCell_other (ownsRow_setCell_other (ownsRow_setCell_other (n.aL.alloc _) k _) k _) k _) k _) k _) k _) k _),p.here,p.bne,p.TN,p.apart⟩,?_⟩;iterate 7 refine iZ.set (g:=c) (ex:=λg=>g=c) ?_ (Eq.refl c) _ _
  exact iZ.lM (aa Y f) _
 obtain⟨D,G,s,C⟩:=RD
 have HW3:=hid G
 have HRD:Hid (iP D.drew base A aA (.slice (some (c,0)) m T) pv dv (es.set i (es[i].rq ⟨4,y,key,v,aC,t,ae⟩)) ds/\iZ w D.drew (λg=>g=c)):=⟨⟨s.blk.drew,s.aG,s.aL,s.here,s.bne,s.TN,s.apart⟩,⟨C.os,C.tape,C.output,C.size,C.block⟩⟩
 clear G s C X I P S U M O z q
 exact aey
open Proofs.Tryz
theorem PM(base pb:Nat)(aA)(t v:Nat)(pv dv)(es)(ds)(m i:Nat)(a:mW)(w)(hD:iP w base pb aA (.slice (some (t,0)) m v) pv dv es ds)(C:Hid (es.length=m))(xY:m<=20)(av:a.kind=2)(L:fZ es a.name=(i:Int))(aI:i<m)(DJ:i<es.length)(ar:base<=w.heap.size):
  Calls prog 30 #[(pb,0),.agg a.cells] w λr w'=>r=.returned (ι 0)/\∃OH,iP w' base pb aA OH pv dv (es.take i++es.drop (i+1)) ds/\w.grownBy w' (some pb)/\NewAt w.heap.size OH:=by
 obtain⟨X,n,U,s,H⟩:=info_parts Tryz.Xr
 have qM:=λw=>mX a w
 have hF:=λw hx=>og base pb aA (.slice (some (t,0)) m v) pv dv es ds a.name m ⟨a.name.toArray⟩ w hx C agE (hid rfl)
 rw[L]at hF
 generalize a.ql=pl at qM
 obtain⟨ak,an,key,bI,aC,bB,ae⟩:=a
 obtain rfl:ak=2:=av
 simp only[mW.cells]at qM hF⊢
 have G0:w.grownBy (w.alloc (.cells #[ι 2,.string an,υ key.toNat,ι bI,ι aC,ι bB,ι ae] 41)) none:=cx w _ none
 have ad:=dB.new w #[ι 2,.string an,υ key.toNat,ι bI,ι aC,ι bB,ι ae] 41
 have F7:=hF _ (hD.grown G0)
 clear hF L
 go_enter func30,ntmps30
 go_wp2_with fail
 refine F7.mono ?_
 rintro e w1 ⟨rfl,D⟩
 have b:=ad.grown D agI
 have G1:=aa G0 D
 have O:=b.cell 0
 have f1:=b.cell 1
 have Y:=b.cell 2
 have f3:=b.cell 3
 have f4:=b.cell 4
 have f5:=b.cell 5
 have f6:=b.cell 6
 simp only[cH,cG,cI]at O f1 Y f3 f4 f5 f6
 clear F7 D
 go_wp2_with fail
 refine(qM _).mono ?_
 rintro e w2 ⟨rfl,A⟩
 have q:=b.grown A agI
 have G2:=aa G1 A
 have y:=hD.grown G2
 clear O f1 Y f3 f4 f5 f6 qM A b
 have O:=q.cell 0
 have Y:=q.cell 2
 have c1:=y.blk.cell 1
 simp only[cH,cG,cI]at O Y c1
 have hbk:=y.aG
 rw[C.o]at hbk
 have hc:∀j,j<10->w2.cell? (t,i*10+j)=(es[i]).cells[j]?:=λj hj=>by
  exact aeh
 obtain⟨x,hx⟩:=aw (es[i])
 have HX:=hid hx
 rw[<-hx]at hc
 clear hx
 obtain⟨d0,d1,d2,d3,d4,d5,d6,d7,d8,d9⟩:=Cj hc
 have OD:(i:Int)<(m:Int):=agE
 have aF:(0:Int)<=(i:Int):=agE
 have aK:¬ (i:Int)<0:=agE
 have Ka:=cx w2 (.cells x.arr 166) none
 have aE:=Ka.cell c1 agI
 have aJ:=Ka.cell O agI
 have Gx:=aa G2 Ka
 have aD:=hD.blk.lt
 have ay:=(hD.aG.lt t rfl).2
 have az:=G2.size
 have G:=hD.grown Gx
 have l:=G.aG
 rw[C.o]at l
 have W:=nA l
 have T:=Jf l
 have TR:Hid ((bK es).length=m*10):=by show _=_;rw[eY,C.o]
 have ao:=λw=>RZ (P:=prog) 141 166 X 10 underlying141 n s (some ⟨t,0,none⟩) m v i (i:Int) rfl agE w
 obtain⟨af,ax,Lt,N⟩:=Hr (P:=prog) 141 166 X 10 underlying141 n s (some ⟨t,0,none⟩) m v (i+1) ((i:Int)+1) agE agE T.1 TR.o
 have f:qj (w2.alloc (.cells x.arr 166)) (some ⟨t,0,none⟩) (bK (es.take i)):=by
  rw[<-zl es i agE];exact W.take _
 have aq:(bK (es.take i)).length=i*10:=by rw[eY,ep];congr 1;omega
 have J:(some (⟨t,0,none⟩:Addr))=none->v=0/\i=0:=λh=>by cases h
 have al:0+i<=maxLen:=ag1
 have ag:(0+i)*88<=140737488355328:=agE
 clear hc
 go_wp2_with (at_builtin;refine fF _ rfl _ _ 141 rfl (w.heap.size+1) 166 X _ 10 88 underlying141 n U s H rfl agF (.slice none 0 0) 0 [] rfl (World.ownsRow_nil _ _ _ _) (some ⟨t,0,none⟩) i v (bK (es.take i)) rfl aq f J (pK _) al ag ?b1 ?_)
 case b1=>have:=q.lt;simp;omega
 intro v3 w3 d S;have u:(w2.alloc (.cells x.arr 166)).grownBy w3 none:=by simpa[Value.ownBlock]using S
 have M:=aa Gx u;have Z:w3.ownsRow (w.heap.size+1) 166 10 v3 i (bK (es.take i)):=by simpa using d
 obtain⟨a3,k3,rfl⟩:=bA Z;have k:=hD.grown M;have ai:=k.blk.cell 1;simp only[cH,cG,cI]at ai;have z:=k.aG;rw[C.o]at z;have DD:=Lt w3 (nA z);rw[zm es (i+1) agE]at DD;have au:(bK (es.drop (i+1))).length=(m-(i+1))*10:=by rw[eY,dr,C.o]
 have Q:af=none->v-(i+1)=0/\m-(i+1)=0:=λh=>⟨N (λh=>by cases h) h,by have:=N (λh=>by cases h) h;omega⟩
 have V:i+(m-(i+1))<=maxLen:=ag1;have ah:(i+(m-(i+1)))*88<=140737488355328:=agE;have ab:w.heap.size+1<=w3.heap.size:=by have h1:=u.size;have h2:=q.lt;simp at h1;omega
 have I:∀g,g<w.heap.size+1->some g≠(Value.slice a3 i k3).ownBlock:=λg hg e=>by have:=(Z.lt g e.symm).1;omega
 clear d S f J ao W l Lt;go_wp2_with (at_builtin;refine fF _ rfl _ _ 141 rfl (w.heap.size+1) 166 X _ 10 88 underlying141 n U s H rfl agF (.slice a3 i k3) i (bK (es.take i)) rfl Z af (m-(i+1)) (v-(i+1)) (bK (es.drop (i+1))) rfl au DD Q (pK _) V ah ab ?_)
 intro v4 R iU c;obtain⟨B,E,rfl⟩:=bA iU;have p:=k.blk.grown c (I _ agE);have aj:=p.cell 1;have aB:=p.frozen 1;simp only[cH,cG,cI]at aj;have K:∀g,g<w.heap.size->R.heap[g]?=w.heap[g]?:=λg hg=>by
  rw[c.block g agE (I g agE),M.block g hg agI]
 have aH:=c.size;have F:(es.take i++es.drop (i+1)).length=i+(m-(i+1)):=by simp[C.o];omega
 have hrow:R.ownsRow (w.heap.size+1) 166 10 (.slice B (i+(m-(i+1))) E) (i+(m-(i+1))) (bK (es.take i++es.drop (i+1))):=by
  rw[ry];exact iU
 have GB:w.grownBy (R.setCell (pb,1) (.slice B (i+(m-(i+1))) E)) (some pb):=
  ⟨c.os.trans M.os,c.tape.trans M.tape,c.output.trans M.output,by rw[World.size_setCell];omega,λg hg hr=>(Below.heap_setCell R _ _ g (by show g≠pb;intro e;exact hr (by rw[e]))).trans (K g hg)⟩
 have RD:iP (R.setCell (pb,1) (.slice B (i+(m-(i+1))) E)) base pb aA (.slice B (i+(m-(i+1))) E) pv dv (es.take i++es.drop (i+1)) ds:=by
  refine⟨by simpa using p.set 1 (.slice B (i+(m-(i+1))) E),?_,hD.aL.kept GB (.inr hD.TN),hD.here,λh=>by have:=(hrow.lt _ h).1;omega,hD.TN,?_⟩
  ·rw[F];exact af2
  ·cases hx:(Value.slice B (i+(m-(i+1))) E).ownBlock with
   |none=>exact .inl rfl
   |some g=>
    exact afO
 have NA:NewAt w.heap.size (.slice B (i+(m-(i+1))) E):=λg h=>by have:=(hrow.lt g h).1;omega
 have HR:=hid (And.intro RD GB);clear hD y k G hrow p K RD GB iU Z c DD z;go_wp2;go_ret;exact⟨rfl,_,HR.o.1,HR.o.2,NA⟩
theorem Jt(base y:Nat)(aA)(B J:Nat)(pv dv)(es)(ds)(m i:Nat)(a:mW)(w)(G:iP w base y aA (.slice (some (B,0)) m J) pv dv es ds)(D:Hid (es.length=m))(xY:m<=20)(C:a.kind=4)(h:fZ es a.name=(i:Int))(O:i<m)(DJ:i<es.length)(E:a.ql=false):
  Calls prog 30 #[(y,0),.agg a.cells] w λr w'=>r=.returned (ι 1)/\w.grownBy w' none:=by
 have u:=λw=>mX a w
 have hF:=λw k=>og base y aA (.slice (some (B,0)) m J) pv dv es ds a.name m ⟨a.name.toArray⟩ w k D agE (hid rfl)
 rw[h]at hF
 rw[E]at u
 clear E
 obtain⟨S,F,key,M,aC,I,ae⟩:=a
 obtain rfl:S=4:=C
 simp only[mW.cells]at u hF⊢
 have H:w.grownBy (w.alloc (.cells #[ι 4,.string F,υ key.toNat,ι M,ι aC,ι I,ι ae] 41)) none:=cx w _ none
 have z:=dB.new w #[ι 4,.string F,υ key.toNat,ι M,ι aC,ι I,ι ae] 41
 have L:=hF _ (G.grown H)
 clear hF h
 go_enter func30,ntmps30
 go_wp2_with fail
 refine L.mono ?_
 rintro e w1 ⟨rfl,d⟩
 have b:=z.grown d agI
 have V:=aa H d
 have g:=b.cell 0
 have s:=b.cell 1
 have q:=b.cell 2
 have p:=b.cell 3
 have n:=b.cell 4
 have t:=b.cell 5
 have v:=b.cell 6
 simp only[cH,cG,cI]at g s q p n t v
 clear L d
 go_wp2_with fail
 refine(u _).mono ?_
 rintro e w2 ⟨rfl,f⟩
 have c:=b.grown f agI
 have K:=aa V f
 have l:=G.grown K
 clear g s q p n t v u f b
 have g:=c.cell 0
 have s:=c.cell 1
 have q:=c.cell 2
 have p:=c.cell 3
 have n:=c.cell 4
 have t:=c.cell 5
 have v:=c.cell 6
 have P:=l.blk.cell 1
 simp only[cH,cG,cI]at g s q p n t v P
 have hbk:=l.aG
 rw[D.o]at hbk
 have A:∀j,j<10->w2.cell? (B,i*10+j)=(es[i]).cells[j]?:=λj hj=>by
  exact aeh
 obtain⟨x,k⟩:=aw (es[i])
 have HX:=hid k
 rw[<-k]at A
 clear k
 obtain⟨Y,W,d2,d3,d4,Z,X,d7,d8,d9⟩:=Cj A
 have OD:(i:Int)<(m:Int):=agE
 have T:(0:Int)<=(i:Int):=agE
 have U:¬ (i:Int)<0:=agE
 have N:=cx w2 (.cells x.arr 166) none
 have R:=N.cell g agI
 have Q:=aa K N
 clear A
 go_wp2
 go_ret
 exact⟨rfl,Q⟩
theorem Gb(ss:List (List UInt8))(us:List Int)(n)(j o m k)(c a d b)(r l)(w)(I:Hid (ss.length=n))(H:Hid (us.length=n))(y:n<=1000000)(B:qj w j (ss.map λl=>.string ⟨l.toArray⟩))(v:qj w m (ss.map λl=>.string ⟨l.toArray⟩))(C:qj w o (us.map λx=>ι x))(A:qj w k (us.map λx=>ι x)):
  Calls Tryz.prog 37 #[.agg #[.slice j n c,.slice o n a,ι r,ι l],.agg #[.slice m n d,.slice k n b,ι r,ι l]] w λe w'=>e=.returned (.bool true)/\w.grownBy w' none:=by
 have t:w.grownBy ((w.alloc (.cells #[.slice j n c,.slice o n a,ι r,ι l] 101)).alloc (.cells #[.slice m n d,.slice k n b,ι r,ι l] 101)) none:=aM (cx w _ none) _
 have z:=(dB.new w #[.slice j n c,.slice o n a,ι r,ι l] 101).alloc (.cells #[.slice m n d,.slice k n b,ι r,ι l] 101)
 have s:=dB.new (w.alloc (.cells #[.slice j n c,.slice o n a,ι r,ι l] 101)) #[.slice m n d,.slice k n b,ι r,ι l] 101
 rw[cF]at s
 have hS:=BM ss n j m c d _ I y (B.below t) (v.below t)
 go_enter Tryz.func37,Tryz.ntmps37
 go_wp2_with fail
 refine hS.mono ?_
 rintro e L ⟨rfl,f⟩
 have u:=aa t f
 have h:=z.grown f agI
 have i:=s.grown f agI
 have M:=h.cell 1
 have K:=i.cell 1
 simp only[cH,cG,cI]at M K
 have D:=Jp us n o k a b L H y (C.below u) (A.below u)
 clear hS f z s
 go_wp2_with fail
 refine D.mono ?_
 rintro e w2 ⟨rfl,g⟩
 have J:=aa u g
 have p:=h.grown g agI
 have q:=i.grown g agI
 have G:=p.cell 2
 have F:=q.cell 2
 have N:=p.cell 3
 have E:=q.cell 3
 simp only[cH,cG,cI]at G F N E
 clear D g h i B v C A
 go_wp2
 go_ret
 exact⟨rfl,J⟩
def RE.be(e:RE):BE:=⟨e.name,e.aH,e.key,e.before,e.bI,e.aC,e.bB,e.ae⟩
theorem Sg(a:List RE)(l):BE.o9 (a.map RE.be) l=a.findIdx? (λe=>e.name==l):=by
 rw[BE.o9,List.findIdx?_map];rfl
theorem afd(a)(l):BE.ins (a.map RE.be) l=tL a l:=by
 induction a with
 |nil=>rfl
 |cons e a b=>simp only[eE,BE.ins,tL,b];rfl
theorem aho(h:p:=by injection e):p:=h
variable {M:DM}{yb:Nat}{w w':World}
def PF.cells(p:PF):List Value:=[.string p.ay,ι p.time,ι p.count]
def fJ(l:List PF):List Value:=(l.map PF.cells).flatten
structure RG where
 bv:Value
 pv:Value
 dv:Value
 es:List RE
def RG.foot(g:RG)(yb b:Nat):Prop:=b=yb\/g.bv.ownBlock=some b\/g.pv.ownBlock=some b\/g.dv.ownBlock=some b
structure RD(w:World)(base yb:Nat)(M:DM)(g:RG):Prop where
 bP:iP w base yb M.aA g.bv g.pv g.dv g.es M.aL
 aG:g.es.map RE.be=M.aG
 aJ:w.ownsRow base 283 3 g.pv M.aJ.length (fJ M.aJ)
 pne:g.pv.ownBlock≠some yb
 pb:g.pv.ownBlock=none\/g.pv.ownBlock≠g.bv.ownBlock
 pd:g.pv.ownBlock=none\/g.pv.ownBlock≠g.dv.ownBlock
theorem iP.keep{base a:Nat}{aA:Int}{c pv dv:Value}{d:List RE}{ds:List UInt8}(h:iP w base a aA c pv dv d ds)(k:∀b,b=a\/c.ownBlock=some b\/dv.ownBlock=some b->w'.heap[b]?=w.heap[b]?):iP w' base a aA c pv dv d ds:=
 ⟨h.blk.kept (k _ (.inl rfl)),bZ h.aG agM,bZ h.aL agM,h.here,h.bne,h.TN,h.apart⟩
theorem RD.keep{base:Nat}{g:RG}(h:RD w base yb M g)(k:∀b,g.foot yb b->w'.heap[b]?=w.heap[b]?):RD w' base yb M g:=
 ⟨h.bP.keep (λb a=>k b (by rcases a with e|e|e;exact .inl e;exact .inr (.inl e);exact .inr (.inr (.inr e)))),h.aG,bZ h.aJ (λb a=>k b (.inr (.inr (.inl a)))),h.pne,h.pb,h.pd⟩
theorem RD.lt{base:Nat}{g:RG}(h:RD w base yb M g)(b)(a:g.foot yb b):base<=b/\b<w.heap.size:=by
 rcases a with e|e|e|e
 ·subst e;exact⟨h.bP.here,h.bP.blk.lt⟩
 ·exact h.bP.aG.lt b e
 ·exact h.aJ.lt b e
 ·exact h.bP.aL.lt b e
theorem RD.down{base a:Nat}{g:RG}(h:RD w base yb M g)(b:a<=base):RD w a yb M g:=
 ⟨⟨h.bP.blk,dC h.bP.aG b,dC h.bP.aL b,cE b h.bP.here,h.bP.bne,h.bP.TN,h.bP.apart⟩,h.aG,dC h.aJ b,h.pne,h.pb,h.pd⟩
theorem abF(b)(a):(fB (b.map RE.be) a).2=rz b a:=by
 unfold fB rz;rw[Sg];have d:(b.map RE.be).length=b.length:=cR _;rw[d];unfold fZ;cases h:b.findIdx? (λe=>e.name==a.name)with
 |none=>
  by_cases c:a.kind=1
  ·simp only[c,if_true];grind
  ·simp only[c,if_false];split<;>simp
 |some i=>
  have f:=(List.findIdx?_eq_some_iff_getElem.1 h).1;by_cases c:a.kind=1
  ·simp only[c,if_true];grind
  ·simp only[c,if_false];grind
theorem Xx(b)(a)(h:(fB b a).2≠0):(fB b a).1=b:=by
 grind [fB]
theorem zo(a)(l)(i:Nat)(h:a.findIdx? (λe=>e.name==l)=some i):fZ a l=(i:Int):=by rw[fZ,h]
theorem DK(a)(l)(h:a.findIdx? (λe=>e.name==l)=none):fZ a l=-1:=by rw[fZ,h]
def iK(base yb:Nat)(M:DM)(g:RG)(a:mW)(w w':World):Prop:=
 ∃g',RD w' base yb {M with aG:=(fB M.aG a).1} g'/\iZ w w' (g.foot yb)/\∀b,g'.foot yb b->g.foot yb b\/w.heap.size<=b
theorem iK.new{base:Nat}{g:RG}{a:mW}(f:RD w base yb M g){i:Value}{c:List RE}(k:iP w' base yb M.aA i g.pv g.dv c M.aL)(m:c.map RE.be=(fB M.aG a).1)(d:w.grownBy w' (some yb))(j:NewAt w.heap.size i):iK base yb M g a w w':=by
 refine⟨⟨i,g.pv,g.dv,c⟩,⟨k,m,bZ f.aJ (λb h=>d.block b (f.aJ.lt b h).2 (by grind [RD.pne])),f.pne,?_,f.pd⟩,⟨d.os,d.tape,d.output,d.size,λb h l=>d.block b h (λe=>l (.inl aho))⟩,?_⟩
 ·cases n:g.pv.ownBlock with
  |none=>exact .inl rfl
  |some p=>
   refine .inr (λe=>?_);have:=j p e.symm;have:=(f.aJ.lt p n).2;omega
 ·rintro b (e|e|e|e)
  ·exact .inl (.inl e)
  ·exact .inr (j b e)
  ·exact .inl (.inr (.inr (.inl e)))
  ·exact .inl (.inr (.inr (.inr e)))
theorem iK.inPlace{base:Nat}{g:RG}{a:mW}(f:RD w base yb M g){i:Nat}{c:List RE}(l:iP w' base yb M.aA g.bv g.pv g.dv c M.aL)(m:c.map RE.be=(fB M.aG a).1)(j:iZ w w' λb=>b=i)(k:g.bv.ownBlock=some i):iK base yb M g a w w':=by
 refine⟨⟨g.bv,g.pv,g.dv,c⟩,⟨l,m,bZ f.aJ (λb d=>j.block b (f.aJ.lt b d).2 (λe=>?_)),f.pne,f.pb,f.pd⟩,j.mono (λb _ e=>.inr (.inl (by rw[k,e]))),λb d=>.inl d⟩;rcases f.pb with h|h
 ·rw[h]at d;cases d
 ·exact h (by rw[d,k,e])
theorem iK.same{base:Nat}{g:RG}{a:mW}(e:RD w base yb M g)(f:(fB M.aG a).1=M.aG)(d:w.grownBy w' none):iK base yb M g a w w':=by
 refine⟨g,?_,iZ.lM d _,λb c=>.inl c⟩;rw[f];exact e.keep (λb c=>d.block b (e.lt b c).2 agI)
theorem ae1(h:p:=by
 rcases hde.aG.2 with⟨_,h2⟩|⟨g,cap,cur,h,_⟩
 ·omega
 ·rw[hbv]at h;simp at h;exact⟨g,h.1⟩):p:=h
theorem afu(h:p:=by
 rintro r w' ⟨rfl,OH,r1,r2,r3⟩
 exact⟨by rw[hres],iK.new hD r1 (by rw[hres]) r2 r3⟩):p:=h
theorem afA(h:p:=by
 rintro r w' ⟨rfl,r1,r2⟩
 exact⟨by rw[hres],iK.inPlace hD r1 (by rw[hres]) r2 rfl⟩):p:=h
theorem PO(n base yb:Nat)(M)(g)(a)(w)(hD:RD w base yb M g)(x:fU n M.aG)(hn:n<4611686018427387904)(B:a.name.length<=9223372036854775807)(l:base<=w.heap.size):
  Calls Tryz.prog 30 #[(yb,0),.agg a.cells] w λr w'=>r=.returned (ι (fB M.aG a).2)/\iK base yb M g a w w':=by
 obtain⟨L,pv,dv,b⟩:=g
 have C:b.map RE.be=M.aG:=hD.aG
 have hde:iP w base yb M.aA L pv dv b M.aL:=hD.bP
 have c:b.length<=20:=by rw[<-cR (f:=RE.be),C];exact x.len
 have H:=abF b a
 rw[C]at H
 obtain⟨O,G,hbv⟩:=bA hde.aG
 by_cases p:rz b a=0
 ·by_cases v:a.kind=1
  ·have d:=p;rw[rz,if_pos v]at d;have s:cO a.name=true:=(by cases h:cO a.name<;>simp_all);have F:a.ql=true:=(by cases h:a.ql<;>simp_all);have N:fZ b a.name=-1:=by
    rcases Jo b a.name with h|h
    ·rw[s,F]at d;by_cases J:0<=fZ b a.name
     ·simp[J]at d
     ·omega
    ·exact h
   have U:b.length<20:=by
    rw[s,F,N]at d;by_cases J:20<=b.length
    ·simp[J]at d
    ·omega
   have T:b.findIdx? (λe=>e.name==a.name)=none:=by
    cases h:b.findIdx? (λe=>e.name==a.name)with
    |none=>rfl
    |some i=>rw[zo b a.name i h]at N;omega
   have hres:(fB M.aG a)=((PD b (Xv a)).map RE.be,0):=by
    rw[<-C,fB,if_pos v,Sg,T,s,F,cR,afd];simp only[Bool.true_eq_false,if_false,Option.isSome_none,fL,if_neg (show ¬ 20<=b.length by omega)];rw[PD];simp[Xv,BE.new,RE.be,List.map_take,List.map_drop]
   refine(PK base yb M.aA L pv dv b M.aL b.length a w hde (hid rfl) U B ⟨v,s,F,N⟩ l).mono ?_;exact afu
  ·have d:=p;rw[rz,if_neg v]at d;have s:a.kind=2\/a.kind=3\/a.kind=4:=by
    by_cases h:a.kind=2\/a.kind=3\/a.kind=4
    ·exact h
    ·rw[if_neg h]at d;omega
   rw[if_pos s]at d;cases h:b.findIdx? (λe=>e.name==a.name)with
   |none=>rw[DK b _ h]at d;simp at d
   |some i=>
    have t:=zo b a.name i h;obtain⟨m,D,_⟩:=List.findIdx?_eq_some_iff_getElem.1 h;obtain⟨o,q⟩:∃o,O=some ⟨o,0,none⟩:=by
     exact ae1
    subst q;subst hbv;have z:b[i].be∈M.aG:=(by rw[<-C];exact eK (ef m));have R:=x.num _ z;have Q:1<=b[i].aH/\b[i].aH<=(n:Int):=R;have y:(b.map RE.be)[i]?=some b[i].be:=(by simp[m]);have k:fB M.aG a=if a.kind=2 then((b.map RE.be).take i++(b.map RE.be).drop (i+1),0) else if a.kind=3 then((b.map RE.be).set i (b[i].be.jk a.key),0) else if a.ql=false then(b.map RE.be,1) else((b.map RE.be).set i (b[i].be.rq a),0):=by
     rw[<-C,fB,if_neg v,if_pos s,Sg,h];simp only[y]
    by_cases E:a.kind=2
    ·have hres:fB M.aG a=((b.take i++b.drop (i+1)).map RE.be,0):=by
      rw[k,if_pos E];simp[List.map_take,List.map_drop]
     refine(PM base yb M.aA o G pv dv b M.aL b.length i a w hde (hid rfl) c E t m m l).mono ?_;exact afu
    ·by_cases I:a.kind=3
     ·have hres:fB M.aG a=((b.set i (b[i].jk a.key)).map RE.be,0):=by
       rw[k,if_neg E,if_pos I];simp[List.map_set,RE.jk,BE.jk,RE.be]
      refine(Jq base yb M.aA o G pv dv b M.aL b.length i a w hde (hid rfl) c I t m m agE agE).mono ?_;exact afA
     ·have u:a.kind=4:=agE;have A:a.ql=true:=by
       rw[t]at d;cases h:a.ql with
       |true=>rfl
       |false=>simp[h,u]at d;omega
      have hres:fB M.aG a=((b.set i (b[i].rq a)).map RE.be,0):=by
       rw[k,if_neg E,if_neg I,A];have K:b[i].name=a.name:=(by simpa using D);simp[List.map_set,RE.rq,BE.rq,RE.be,K]
      refine(Jr base yb M.aA o G pv dv b M.aL b.length i a w hde (hid rfl) c u t m m A).mono ?_;exact afA
 ·have j:=Xx M.aG a (by rw[H];exact p);by_cases u:a.kind=4/\0<=fZ b a.name
  ·have d:=p;cases h:b.findIdx? (λe=>e.name==a.name)with
   |none=>have:=DK b _ h;omega
   |some i=>
    have t:=zo b a.name i h;obtain⟨m,D,_⟩:=List.findIdx?_eq_some_iff_getElem.1 h;obtain⟨o,q⟩:∃o,O=some ⟨o,0,none⟩:=by
     exact ae1
    subst q;subst hbv;have P:rz b a=if a.ql=false then 1 else 0:=by
     rw[rz,if_neg agE,if_pos agE,if_neg agE];simp[u.1]
    have A:a.ql=false:=by
     cases h:a.ql with
     |false=>rfl
     |true=>rw[P,h]at p;simp at p
    have S:(fB M.aG a).2=1:=(by rw[H,P,A];rfl);refine(Jt base yb M.aA o G pv dv b M.aL b.length i a w hde (hid rfl) c u.1 t m m A).mono ?_;rintro r w' ⟨rfl,r1⟩;exact⟨by rw[S],iK.same hD j r1⟩
  ·refine(PH base yb M.aA L pv dv b M.aL b.length a w hde (hid rfl) agE B (hid p) (hid (λh=>?_))).mono ?_
   ·by_cases h2:0<=fZ b a.name
    ·exact absurd ⟨h,h2⟩ u
    ·omega
   ·rintro r w' ⟨rfl,r1⟩;exact⟨by rw[H],iK.same hD j r1⟩
end Go.Proofs.YtlfifnpjeangmaaGreatDoor
