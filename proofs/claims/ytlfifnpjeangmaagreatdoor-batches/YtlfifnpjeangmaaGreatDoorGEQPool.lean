import Derived.Test.YtlfifnpjeangmaaGreatDoorGEQLookB
namespace Go.Proofs.YtlfifnpjeangmaaGreatDoor
set_option maxHeartbeats 1000000
open Proofs.Tryz Go.RowKit
set_option maxRecDepth 100000
structure lF(w:World)(g o:Nat)(t0 t1:Bool):Prop where
 live:Live w g (o+602)
 c0:w.cell? (g,o+300)=some (.bool t0)
 c1:w.cell? (g,o+601)=some (.bool t1)
theorem lF.cf{w w':World}{ex:Nat->Nat->Prop}{g o:Nat}{b a:Bool}(h:lF w g o b a)(k:CF w w' ex)(d:¬ ex g (o+300))(c:¬ ex g (o+601)):lF w' g o b a:=⟨h.live.cf k,k.cell h.c0 d,k.cell h.c1 c⟩
theorem lF.grown{w w':World}{g o:Nat}{b a:Bool}(h:lF w g o b a)(k:w.grownBy w' none):lF w' g o b a:=h.cf (CF.bF k (λ_ _=>False)) (λe=>e) (λe=>e)
theorem Qc(g o:Nat)(c)(w)(h:lF w g o false c):
  Calls prog 283 #[(g,o)] w λe w'=>e=.returned (.pointer (some (g,o)))/\lF w' g o true c/\CF w w' (λb y=>b=g/\y=o+300):=by
 have f:=h.c0
 have j:=h.live.frozen (o+300)
 have a:Hid (CF w (w.setCell (g,o+300) (.bool true)) (λb y=>b=g/\y=o+300)):=(CF.refl _ _).setCell g (o+300) _ (λ_=>⟨rfl,rfl⟩)
 have d:Hid (lF (w.setCell (g,o+300) (.bool true)) g o true c):=⟨h.live.cf a.o,World.cell?_setCell_same _ _ _ f,a.o.cell h.c1 (λe=>by omega)⟩
 clear h
 go_enter func283,ntmps283
 go_wp2
 go_loopw [3,4,5] (λ_ _ i wr=>i = ι 0/\wr=w) (λ_ _ i _=>2-(intOf i).toNat)
 case atStart=>exact⟨rfl,rfl⟩
 case round=>
  obtain⟨rfl,rfl⟩:=hrel;go_wp2;go_ret;exact⟨rfl,d.o,a.o⟩
theorem aeI{p:Prop}(h:p:=by
 go_wp2
 go_roundw
 case rel=>grind
 case measure=>simp[intOf]):p:=h
theorem Ml(g o:Nat)(w)(h:lF w g o true false):
  Calls prog 283 #[(g,o)] w λe w'=>e=.returned (.pointer (some (g,o+301)))/\lF w' g o true true/\CF w w' (λb y=>b=g/\y=o+601):=by
 have j:=h.c0
 have d:=h.c1
 have f:=h.live.frozen (o+601)
 have a:Hid (CF w (w.setCell (g,o+601) (.bool true)) (λb y=>b=g/\y=o+601)):=(CF.refl _ _).setCell g (o+601) _ (λ_=>⟨rfl,rfl⟩)
 have c:Hid (lF (w.setCell (g,o+601) (.bool true)) g o true true):=⟨h.live.cf a.o,a.o.cell h.c0 (λe=>by omega),World.cell?_setCell_same _ _ _ d⟩
 clear h
 go_enter func283,ntmps283
 go_wp2
 go_loopw [3,4,5] (λ_ _ i wr=>(i = ι 0\/i = ι 1)/\wr=w) (λ_ _ i _=>2-(intOf i).toNat)
 case atStart=>exact⟨.inl rfl,rfl⟩
 case round=>
  obtain⟨rfl|rfl,rfl⟩:=hrel
  ·exact aeI
  ·go_wp2;go_ret;exact⟨rfl,c.o,a.o⟩
theorem X4(g o:Nat)(w)(h:lF w g o false false):
  Calls prog 119 #[(g,o)] w λe w'=>e=.returned (ι 2)/\w'=w:=by
 have a:=h.c0
 have b:=h.c1
 clear h
 go_enter func119,ntmps119
 go_wp2
 go_loopw [2,3,4] (λf _ i wr=>(i = ι 0/\f = ι 0\/i = ι 1/\f = ι 1\/i = ι 2/\f = ι 2)/\wr=w) (λ_ _ i _=>2-(intOf i).toNat)
 case atStart=>grind
 case round=>
  obtain⟨⟨rfl,rfl⟩|⟨rfl,rfl⟩|⟨rfl,rfl⟩,rfl⟩:=hrel
  ·exact aeI
  ·exact aeI
  ·exact aaE
theorem X5(g o:Nat)(w):
  Calls prog 285 #[(g,o)] w λe w'=>e=.returned (.slice (some (g,o)) 0 300)/\w=w':=by
 go_enter func285,ntmps285
 exact aaE
theorem Tryz.ab1:zeroCells150.size=301:=by kernel_rfl
theorem Tryz.Qd:zeroCells150.all (·.oneCell')=true:=by kernel_rfl
theorem Tryz.Qe:zeroCells150.toList[300]?=some (.bool false):=by kernel_rfl
theorem zH(g o:Nat)(u)(w)(h:Live w g (o+301)):
  CallsD prog 284 #[(g,o)] u w λe l w'=>l=u/\(e=.returned (.tuple #[])/\w'.cell? (g,o+300)=some (.bool false)/\CF w w' (λb y=>b=g/\o<=y/\y<o+301)):=by
 have a:zeroCells150.toList.length=301:=by rw[cV,Tryz.ab1]
 have i:=Gp (P:=prog) o zeroCells150.toList h (by rw[a];exact cy _) (λv k=>by have:=Tryz.Qd;rw[Array.all_eq_true_iff_forall_mem]at this;exact this v (Array.mem_toList_iff.1 k))
 have d:Hid (CF w (w.setCells g o zeroCells150.toList) (λb y=>b=g/\o<=y/\y<o+301)):=CF.setCells g _ o w (CF.refl _ _) (λj c _=>⟨rfl,by omega,by rw[a]at c;omega⟩)
 have f:=hid (World.rangeAt_setCells_same w g o zeroCells150.toList (h.there o _ (by rw[a];exact cy _)))
 clear a h
 go_enter_d func284,ntmps284
 go_wp2
 go_end0
 exact⟨rfl,f.o 300 _ Tryz.Qe,d.o⟩
set_option maxHeartbeats 2000000
variable {es ls:List BE}{g nx:Nat}{W W' w:World}
def wW(W:World)(g:Nat)(es:List BE):Prop:=∃ls nx,jF W g 188 ls nx/\∀e∈ls,BE.find es e.name=some e
theorem wW.cf{ex:Nat->Nat->Prop}(h:wW W g es)(k:CF W W' ex)(b:∀j,188<=j->j<222->¬ ex g j):wW W' g es:=by
 obtain⟨ls,nx,a,c⟩:=h;exact⟨ls,nx,a.cf k b,c⟩
abbrev exL(g:Nat)(b y:Nat):Prop:=b=g/\188<=y/\y<222
abbrev exQ(g:Nat)(b y:Nat):Prop:=¬ (b=g/\(2<=y/\y<163\/188<=y/\y<222))
def QJ(g:Nat)(es:List BE)(W:World):Prop:=bS W g 2 es/\wW W g es
theorem QJ.cf{ex:Nat->Nat->Prop}(h:QJ g es W)(k:CF W W' ex)(a:∀j,(2<=j/\j<163\/188<=j/\j<222)->¬ ex g j):QJ g es W':=
 ⟨h.1.cf k agM,h.2.cf k agM⟩
theorem Ed(w)(b:Nat)(v0 v1 v2 v3 v4 v5 v6 v7 u0 u1 u2 u3 u4 u5 u6 u7)(h:Live w b 8):
  ((((((((((((((((w.setCell (b,0) v0).setCell (b,1) v1).setCell (b,2) v2).setCell (b,3) v3).setCell (b,4) v4).setCell (b,5) v5).setCell (b,6) v6).setCell (b,7) v7).setCell (b,0) u0).setCell (b,1) u1).setCell (b,2) u2).setCell (b,3) u3).setCell (b,4) u4).setCell (b,5) u5).setCell (b,6) u6).setCell (b,7) u7).rangeAt b 0 [u0,u1,u2,u3,u4,u5,u6,u7]:=by
 obtain⟨⟨v,l⟩,⟨t,i⟩,⟨B,d⟩,⟨A,p⟩,⟨y,q⟩,⟨x,o⟩,⟨u,s⟩,⟨z,e⟩,_⟩:=gG h
 obtain⟨a,c,k,n,r,m,f,j⟩:=jX (jo w b v0 v1 v2 v3 v4 v5 v6 v7 l i d p q o s e)
 exact jo _ b u0 u1 u2 u3 u4 u5 u6 u7 a c k n r m f j
theorem Ee{l:List UInt8}{e:BE}(h:BE.find es l=some e):e.name=l/\e∈es:=by
 have:=List.find?_some h;exact⟨by simpa using this,List.mem_of_find?_eq_some h⟩
theorem Uk(g:Nat)(ls)(nx)(l)(e)(w)(h:jF w g 188 ls nx)(j:BE.find ls l=some e):
  Calls prog 281 #[(g,0),.string ⟨l.toArray⟩] w λr w'=>r=.returned (nM (some e))/\w.grownBy w' none:=by
 have d:=cx w (.cells noEntry 126) none
 have a:=Iw g 188 ls nx l _ (h.grown d)
 rw[j]at a
 obtain⟨v0,v1,v2,v3,v4,v5,v6,v7,i,f⟩:=uC e
 clear f
 simp only[nM,rE,dj]at a⊢
 rw[i]at a
 rw[i]
 have HB:=hid a
 have k:=hid d
 have m:=hid (Live.new w noEntry 126)
 clear a d i h j
 go_enter func281,ntmps281
 go_wp2_with (first|(go_at_call 286;refine HB.o.mono ?_;clear HB;rintro r q ⟨rfl,b⟩;have n:=hid (aa k.o b);have c:=m.o.grown b;clear b;obtain⟨⟨A,J⟩,⟨t,F⟩,⟨L,y⟩,⟨K,O⟩,⟨D,P⟩,⟨B,N⟩,⟨v,Q⟩,⟨I,z⟩,u,E,C,x,s,G,M,H⟩:=gG c;have p:=hid c;clear c))
 refine bodyPost_ret (aF results281 _ _ _ w.heap.size rfl _ (eG (Ed q w.heap.size _ _ _ _ _ _ _ _ _ _ _ _ _ _ _ _ p.o) 126 _ underlying126 rfl Tryz.iT)) rfl ⟨rfl,?_⟩
 repeat refine az ?_ (cy _)
 exact n.o
structure QK(w:World)(g:Nat)(es ls:List BE)(nx:Nat)(W:World):Prop where
 aG:bS W g 2 es
 look:jF W g 188 ls nx
 live:Live W w.heap.size 8
 gb:w.grownBy W none
theorem QK.grown(h:QK w g es ls nx W)(k:W.grownBy W' none):QK w g es ls nx W':=⟨h.aG.grown k,h.look.grown k,h.live.grown k,aa h.gb k⟩
theorem QK.done(h:QK w g es ls nx W)(a:∀e∈ls,BE.find es e.name=some e):QJ g es W/\CF w W (exL g):=⟨⟨h.aG,ls,nx,h.look,a⟩,CF.bF h.gb _⟩
theorem QK.am0(h:QK w g es ls nx W)(a:g<w.heap.size)(v0 v1 v2 v3 v4 v5 v6 v7):QK w g es ls nx ((((((((W.setCell (w,0) v0).setCell (w,1) v1).setCell (w,2) v2).setCell (w,3) v3).setCell (w,4) v4).setCell (w,5) v5).setCell (w,6) v6).setCell (w,7) v7):=by
 have k:CF W ((((((((W.setCell (w,0) v0).setCell (w,1) v1).setCell (w,2) v2).setCell (w,3) v3).setCell (w,4) v4).setCell (w,5) v5).setCell (w,6) v6).setCell (w,7) v7) (λb _=>b=w.heap.size):=by
  exact aa2
 refine⟨h.aG.cf k (λ_ _ _ e=>by omega),h.look.cf k (λ_ _ _ e=>by omega),h.live.cf k,?_⟩;repeat refine az ?_ (cy _)
 exact h.gb
theorem Qf(g:Nat)(es ls)(nx)(l)(w)(hb:bS w g 2 es)(hs:es.Pairwise (λx y=>Op.bytesLess x.name y.name=true))(h:jF w g 188 ls nx)(hf:BE.find ls l=none)(hg:∀e∈ls,BE.find es e.name=some e):
  Calls prog 281 #[(g,0),.string ⟨l.toArray⟩] w λr w'=>r=.returned (nM (BE.find es l))/\QJ g es w'/\CF w w' (exL g):=by
 have O:=cx w (.cells noEntry 126) none
 have n:=h.live.lt
 have I:Hid (QK w g es ls nx (w.alloc (.cells noEntry 126))):=⟨hb.grown O,h.grown O,Live.new w noEntry _,O⟩
 have S:=Iw g 188 ls nx l _ (h.grown O)
 rw[hf]at S
 have i:Hid (∀W,QK w g es ls nx W->Calls prog 277 #[(g,0),.string l] W λe w'=>e=.returned (nM (BE.find es l))/\W.grownBy w' none):=λW k=>JH g es l W k.aG hs
 obtain⟨x,c⟩:=aq (BE.find es l)
 rw[c]at i
 rw[c]
 have HX:=hid c
 obtain⟨v0,v1,v2,v3,v4,v5,v6,v7,T⟩:=iM x
 simp only[nM]at i S⊢
 rw[T]at i
 rw[T]
 have HV:=hid T
 have HB:Hid (Calls prog 286 #[(g,188),.string l] (w.alloc (.cells noEntry 126)) λe w'=>e=.returned (.tuple #[.agg #[.string ⟨#[]⟩,ι 0,υ 0,υ 0,ι 0,ι 0,ι 0,ι 0],.bool false])/\(w.alloc (.cells noEntry 126)).grownBy w' none):=S
 have a:Hid (∀W v0 v1 v2 v3 v4 v5 v6 v7,QK w g es ls nx W->QK w g es ls nx ((((((((W.setCell (w,0) v0).setCell (w,1) v1).setCell (w,2) v2).setCell (w,3) v3).setCell (w,4) v4).setCell (w,5) v5).setCell (w,6) v6).setCell (w,7) v7)):=λW v0 v1 v2 v3 v4 v5 v6 v7 k=>k.am0 n v0 v1 v2 v3 v4 v5 v6 v7
 have R:=hid hg
 have v:=hid n
 clear S O T h hf hb hs hg c n
 cases x with
 |none=>
  simp only[Option.isSome_none]at i⊢;go_enter func281,ntmps281
  go_wp2_with (first
   |(go_at_call 286;refine HB.o.mono ?_;clear HB;rintro r w1 ⟨rfl,N⟩;have j:=hid (I.o.grown N);clear N;obtain⟨⟨d0,F⟩,⟨X,C⟩,⟨d2,u⟩,⟨d3,J⟩,⟨d4,K⟩,⟨d5,H⟩,⟨Y,L⟩,⟨d7,s⟩,p,z,t,q,m,B,G,D⟩:=gG j.o.live)
   |(go_at_call 277;refine(i.o _ (a.o _ _ _ _ _ _ _ _ _ j.o)).mono ?_;rintro r w2 ⟨rfl,Q⟩;have M:=hid ((a.o _ _ _ _ _ _ _ _ _ j.o).grown Q);clear Q F C u J K H L s p z t q m B G D;obtain⟨⟨d0,F⟩,⟨X,C⟩,⟨d2,u⟩,⟨d3,J⟩,⟨d4,K⟩,⟨d5,H⟩,⟨Y,L⟩,⟨d7,s⟩,p,z,t,q,m,B,G,D⟩:=gG M.o.live))
  refine bodyPost_ret (aF results281 _ _ _ w.heap.size rfl _ (eG (Ed w2 w.heap.size _ _ _ _ _ _ _ _ _ _ _ _ _ _ _ _ M.o.live) 126 _ underlying126 rfl Tryz.iT)) rfl ⟨rfl,(a.o _ _ _ _ _ _ _ _ _ (a.o _ _ _ _ _ _ _ _ _ M.o)).done R.o⟩
 |some e=>
  simp only[dj]at i⊢;go_enter func281,ntmps281
  go_wp2_with (first
   |(go_at_call 286;refine HB.o.mono ?_;clear HB;rintro r w1 ⟨rfl,N⟩;have j:=hid (I.o.grown N);clear N;obtain⟨⟨d0,F⟩,⟨X,C⟩,⟨d2,u⟩,⟨d3,J⟩,⟨d4,K⟩,⟨d5,H⟩,⟨Y,L⟩,⟨d7,s⟩,p,z,t,q,m,B,G,D⟩:=gG j.o.live)
   |(go_at_call 277;refine(i.o _ (a.o _ _ _ _ _ _ _ _ _ j.o)).mono ?_;rintro r w2 ⟨rfl,Q⟩;have M:=hid ((a.o _ _ _ _ _ _ _ _ _ j.o).grown Q);clear Q F C u J K H L s p z t q m B G D;obtain⟨⟨d0,F⟩,⟨X,C⟩,⟨d2,u⟩,⟨d3,J⟩,⟨d4,K⟩,⟨d5,H⟩,⟨Y,L⟩,⟨d7,s⟩,p,z,t,q,m,B,G,D⟩:=gG M.o.live))
  obtain⟨W3,E⟩:=aw (((((((((w2.setCell (w,0) (.string v0)).setCell (w,1) (ι v1)).setCell (w,2) (υ v2)).setCell (w,3) (υ v3)).setCell (w,4) (ι v4)).setCell (w,5) (ι v5)).setCell (w,6) (ι v6)).setCell (w,7) (ι v7)));rw[<-E];have d:Hid (QK w g es ls nx W3):=by
   grind [RowKit.Hid.o]
  have P:Hid (W3.rangeAt w.heap.size 0 [.string v0,ι v1,υ v2,υ v3,ι v4,ι v5,ι v6,ι v7]):=by
   show World.rangeAt _ _ _ _;rw[E];exact jo w2 w.heap.size _ _ _ _ _ _ _ _ F C u J K H L s
  clear E F C u J K H L s p z t q m B G D M j I i;obtain⟨x0,x1,x2,x3,Z,x5,x6,x7⟩:=jX P.o;have HM:Hid (∀W,QK w g es ls nx W->Calls prog 287 #[(g,188),.agg #[.string v0,ι v1,υ v2,υ v3,ι v4,ι v5,ι v6,ι v7]] W λr w'=>r=.returned (.tuple #[])/\(∃A,jF w' g 188 (Mk ls nx e) A)/\CF W w' (λb y=>b=g/\188<=y/\y<188+34)):=λW k=>by
   have h1:=Gr g 188 ls nx e W k.look;have h2:e.bE=[.string v0,ι v1,υ v2,υ v3,ι v4,ι v5,ι v6,ι v7]:=HV.o;rw[h2]at h1;exact h1
  go_wp2_with fail;go_region_held3 (λw'=>w'.cell? ⟨w.heap.size,0,none⟩=some (.string v0)/\w'.cell? ⟨w.heap.size,1,none⟩=some (ι v1)/\w'.cell? ⟨w.heap.size,2,none⟩=some (υ v2)/\w'.cell? ⟨w.heap.size,3,none⟩=some (υ v3)/\w'.cell? ⟨w.heap.size,4,none⟩=some (ι v4)/\w'.cell? ⟨w.heap.size,5,none⟩=some (ι v5)/\w'.cell? ⟨w.heap.size,6,none⟩=some (ι v6)/\w'.cell? ⟨w.heap.size,7,none⟩=some (ι v7)) (go_keep) (first|(go_at_call 287;refine(HM.o _ (d.o.grown (aR (cC _ _) 1))).mono ?_;rintro r w4 ⟨rfl,f,V⟩;have ab:=hid f;have U:=hid V.dM;have ad:=hid (V.dM.range P.o (λ_ _ e=>by have:=v.o;omega));clear f V x0 x1 x2 x3 Z x5 x6 x7;obtain⟨x0,x1,x2,x3,Z,x5,x6,x7⟩:=jX ad.o;have aa:=hid (d.o.live.cf U.o);obtain⟨_,_,_,_,_,_,_,_,p,z,t,q,m,B,G,D⟩:=gG aa.o));go_wp2;have C9:∀W,CF w4 W (λb _=>b=w.heap.size)->QJ g es W/\CF w W (exL g):=λW k=>by
   have c1:CF w w4 (exL g):=(CF.bF d.o.gb _).trans U.o (λ_ _ _ e=>e);obtain⟨A,f⟩:=ab.o;refine⟨⟨(d.o.aG.cf U.o (λ_ _ _ e=>by omega)).cf k (λ_ _ _ e=>by have:=v.o;omega),_,A,f.cf k (λ_ _ _ e=>by have:=v.o;omega),λx c=>?_⟩,c1.trans k (λ_ _ h e=>by omega)⟩;rcases X3 c with c|c
   ·exact R.o x c
   ·rw[c,(Ee HX.o).1];exact HX.o
  refine bodyPost_ret (aF results281 _ _ _ w.heap.size rfl _ (eG (jo w4 w.heap.size _ _ _ _ _ _ _ _ x0 x1 x2 x3 Z x5 x6 x7) 126 _ underlying126 rfl Tryz.iT)) rfl ⟨rfl,C9 _ ?_⟩;exact aa2
theorem Mm(g:Nat)(es)(m:es.Pairwise (λx y=>Op.bytesLess x.name y.name=true)):Finds (findF 247) (QJ g es) (exL g) (exQ g) (.pointer (some (g,0))) es:=by
 refine⟨λW k l=>?_,(by grind [QJ.cf])⟩;have e:findF 247=281:=rfl;rw[e];obtain⟨f,ls,nx,c,d⟩:=k;cases b:BE.find ls l with
 |none=>exact Qf g es ls nx l W f m c b d
 |some x=>
  refine(Uk g ls nx l x W c b).mono ?_;rintro r w' ⟨rfl,a⟩;obtain⟨i,j⟩:=Ee b;have h:=d x j;rw[i]at h;rw[h];exact⟨rfl,⟨f.grown a,ls,nx,c.grown a,d⟩,CF.bF a _⟩
theorem Qg(g:Nat):∀W,(method 520 247 (.pointer (some (g,0))) "Find").run prog W=.ok (findF 247,.pointer (some (g,0))) W:=λ_=>by kernel_rfl
set_option maxHeartbeats 4000000
variable {dp:Option Pl}{w':World}
structure eX(w:World)(g:Nat)(dp:Option Pl)(M:DM):Prop where
 bP:dE w g 0 dp M
 look:wW w g M.aG
 pool:lF w g 222 false false
theorem eX.cf{ex:Nat->Nat->Prop}{M:DM}(h:eX w g dp M)(k:CF w w' ex)(a:∀y,¬ ex g y)(b:∀q,dp=some q->∀y,¬ ex q.g y):eX w' g dp M:=
 ⟨h.bP.cf k (λ_ _ _=>a _) (λq c _ _=>b q c _),h.look.cf k (λ_ _ _=>a _),h.pool.cf k (a _) (a _)⟩
theorem eX.grown{M:DM}(h:eX w g dp M)(k:w.grownBy w' none):eX w' g dp M:=h.cf (CF.bF k (λ_ _=>False)) (λ_ e=>e) (λ_ _ _ e=>e)
theorem Y7(w)(g:Nat)(dp)(M)(l:dE w g 0 dp M)(t:∀q,dp=some q->q.g≠g)(f:∀e∈M.aG,e.In)(a:M.aG.Pairwise (λx y=>Op.bytesLess x.name y.name=true)):
  HS (w.heap.size+1) g (w.heap.size+2) 247 (.pointer (some (g,0))) (.pointer (some (g,0))) (some ⟨g,222,300⟩) (some ⟨g,523,300⟩) dp (QJ g M.aG) (exL g) (exQ g) M.aG:=by
 have u:=l.live.lt
 have c:∀(o b y),Pl.has (some ⟨g,o,300⟩) b y->b=g/\o<=y/\y<o+300:=λo b y h=>by
  obtain⟨q,i,d,k,r⟩:=h;injection i with i;subst i;exact⟨d,k,r⟩
 refine⟨Qg g,Mm g M.aG a,λy e=>by have:=e.1;omega,λb y n e=>by have:=e.1;omega,λb y n e=>by have:=e.1;omega,λb y h e=>by have:=c _ _ _ h;omega,λb y h e=>by have:=c _ _ _ h;omega,λe=>by omega,λy d k e=>by omega,(λq h=>by injection h with h;subst h;show w.heap.size+1≠g;omega),(λq h=>by injection h with h;subst h;show w.heap.size+1≠g;omega),λj m h=>by have:=c _ _ _ h;omega,λj m h=>by have:=c _ _ _ h;omega,λy hy e=>by omega,by omega,λp s=>?_,by omega,by omega,f,a⟩
 have d:=l.KU s
 grind
theorem Y8(M)(now)(R):(dz M now R).2.aG=M.aG:=by
 unfold dz;grind
theorem Nk(M)(now)(a):(dG M now a).2.aG=M.aG:=by
 grind [Y8,tO,dG]
structure Nl(w w':World)(g:Nat)(dp:Option Pl)(v':Value)(R:List UInt8×DM):Prop where
 out:∃p',Out w' v' p' R.1/\Pl.fresh w.heap.size p'
 bP:∃pV,eX w' g pV R.2/\∀q',pV=some q'->∃q,dp=some q/\q.g=q'.g
 cf:CF w w' (λb _=>b=g)
theorem Nl.o{a:Value}{R:List UInt8×DM}(h:Nl w w' g dp a R):∃p',Out w' a p' R.1/\Pl.fresh w.heap.size p':=h.out
theorem UZ(v)(p)(a)(n)(w)(h:Out w v p a)(hn:Hid (a.length=n))(m:n<=140737488355328):
  Calls prog 131 #[v] w λe w'=>∃f c,e=.returned (.slice f n c)/\(∃p',Out w' (.slice f n c) p' a/\Pl.fresh w.heap.size p')/\w.grownBy w' none:=by
 rcases h with⟨_,t,l⟩|⟨q,u,t,G,E,F,C⟩
 ·rw[t];have k:n=0:=by rw[<-hn.o,l];rfl
  refine(Tryz.bytes_Clone_nil 0 0 w).mono ?_;rintro e x ⟨rfl,rfl⟩;exact⟨none,0,by rw[k],⟨none,.inl ⟨rfl,by rw[k],l⟩,λq u=>by cases u⟩,cC _ _⟩
 ·rw[t,hn.o];refine(Tryz.bytes_Clone_at ⟨q.g,q.off,none⟩ n q.cap (a.map λz=>(z.toNat:Int)) w agR m (λi A=>?_)).mono ?_
  ·have r:i<a.length:=(by rw[hn.o];exact A);have e:(a.map λz=>(z.toNat:Int)).getD i 0=(a[i].toNat:Int):=by
    grind
   rw[e,Addr.add_lit];exact C i _ (by rw[eA,cL r];rfl)
  ·rintro e x ⟨v,rfl,own,D,j⟩;obtain⟨f,c,rfl⟩:=bA own;rw[List.map_map]at own;have d:x.ownsRow w.heap.size 5 1 (.slice f n c) n (a.map U8):=own;obtain⟨dp,B,y⟩:=Out.own d;exact⟨f,c,rfl,⟨dp,B,y⟩,⟨j.os,j.tape,j.output,j.size,λb s _=>j.block b s⟩⟩
theorem BU(g:Nat)(dp)(M)(now)(r)(n)(i)(cap)(w)(d:eX w g dp M)(U:∀q,dp=some q->q.g≠g)(N:∀e∈M.aG,e.In)(E:M.aG.Pairwise (λx y=>Op.bytesLess x.name y.name=true))(hn:Hid (r.length=n))(hs:At w i r)(C:∀b off,i=some ⟨b,off,none⟩->b≠g)(hb:Bs (i,r) (.slice i n cap) r)(dA:In64 now)(H:In64 M.aA)(Ag:∀y∈M.aJ,In64 y.time)(l:(dG M now r).1.length<=900):
  Calls prog 280 #[(g,0),ι now,.slice i n cap] w λe w'=>∃s,e=.returned s/\Nl w w' g dp s (dG M now r):=by
 obtain⟨R,hR⟩:=aq (dG M now r)
 obtain⟨m,hm⟩:=aq R.1.length
 have O:R.2.aG=M.aG:=by grind [Nk]
 rw[hR]at l⊢
 have J:=hid (Qc g 222 false w d.pool)
 have L:Hid (∀W,lF W g 222 true false->Calls prog 283 #[(g,222)] W λe w'=>e=.returned (.pointer (some (g,523)))/\lF w' g 222 true true/\CF W w' (λb y=>b=g/\y=823)):=λW h=>Ml g 222 W h
 have HD:Hid (∀W,CF w W (λb y=>b=g/\222<=y)->dE W g 0 dp M/\QJ g M.aG W/\At W i r/\Live W g 824):=λW k=>
  ⟨d.bP.cf k (λj _ hj e=>by omega) agM,⟨d.bP.aG.cf k (λj I D e=>by omega),d.look.cf k (λj I D e=>by omega)⟩,(by grind [At.cf]),d.pool.live.cf k⟩
 have HA:Hid (∀W,CF w W (λb y=>b=g/\222<=y)->Calls prog 95 #[(g,0),.agg #[.iface 247 (.pointer (some (g,0))),.slice (some (g,222)) 0 300,.slice (some (g,523)) 0 300],ι now,.slice i n cap] W λe w'=>∃s,e=.returned s/\Fin W w' g (some ⟨g,222,300⟩) (some ⟨g,523,300⟩) dp (exL g) s R/\QJ g M.aG w'):=by
  intro W k;obtain⟨I,D,h3,h4⟩:=HD.o W k;rw[<-hR];exact JZ g 247 (.pointer (some ⟨g,0,none⟩)) (.pointer (some ⟨g,0,none⟩)) (.slice (some ⟨g,222,none⟩) 0 300) (.slice (some ⟨g,523,none⟩) 0 300) (some ⟨g,222,300⟩) (some ⟨g,523,300⟩) dp _ _ _ M now (i,r) r n i cap W (Y7 W g dp M I U N E) I D (.inr ⟨_,rfl,rfl,cS _,by unfold maxLen;show 300<=_;decide,h4.mono (by show 222+300<=824;omega),λj v hv=>by simp at hv⟩) (.inr ⟨_,rfl,rfl,cS _,by unfold maxLen;show 300<=_;decide,h4.mono (by show 523+300<=824;omega),λj v hv=>by simp at hv⟩) hn h3 hb (λb off e j hj=>⟨λh=>by obtain⟨q,z,Y,_⟩:=h;injection z with z;subst z;exact C b off e Y,λh=>C b off e h.1⟩) dA H Ag
 have HL:=hid l
 have HM:=hid hm
 have JD:=hid O
 have HQ:=hid (And.intro d U)
 clear d U N E hn hs C hb dA H Ag l hR hm O
 go_enter_defers func280,ntmps280
 go_wp2_with (first
  |(go_at_call 283;refine J.o.mono ?_;clear J;rintro e w1 ⟨rfl,p1,C1⟩;have F:=hid p1;have sO:=hid C1;clear p1 C1)
  |(go_at_call 283;refine(L.o _ F.o).mono ?_;clear L;rintro e w2 ⟨rfl,p2,C2⟩;have V3:=hid p2;have yL:Hid (CF w w2 (λb y=>b=g/\222<=y)):=(sO.o.mono agE).trans C2 agE;clear p2 C2 F sO)
  |(go_at_call 285;refine(X5 _ _ _).mono ?_;rintro e w3 ⟨rfl,rfl⟩))
 obtain⟨t,G⟩:=aw (w2.alloc (.cells #[.iface 247 (.pointer (some (g,0))),.slice (some (g,222)) 0 300,.slice (some (g,523)) 0 300] 217))
 rw[<-G]
 have kR:Hid (w2.grownBy t none):=by show World.grownBy _ _ _;grind [cx]
 have u:Hid (t.rangeAt w2.heap.size 0 [.iface 247 (.pointer (some (g,0))),.slice (some (g,222)) 0 300,.slice (some (g,523)) 0 300]):=by show World.rangeAt _ _ _ _;grind [aS]
 clear G
 have x0:t.cell? (w2,0)=some (.iface 247 (.pointer (some (g,0)))):=u.o 0 _ rfl
 have x1:t.cell? (w2,1)=some (.slice (some (g,222)) 0 300):=u.o 1 _ rfl
 have x2:t.cell? (w2,2)=some (.slice (some (g,523)) 0 300):=u.o 2 _ rfl
 have Q:Hid (CF w t (λb y=>b=g/\222<=y)):=yL.o.trans (CF.bF kR.o (λ_ _=>False)) (λ_ _ _ e=>e.elim)
 have ah:Hid (g<w2.heap.size):=by grind [RowKit.Hid.o,Live.lt]
 have ab:Hid (∀w' s,Fin (t.drewN 1) w' g (some ⟨g,222,300⟩) (some ⟨g,523,300⟩) dp (exL g) s R->(∃a c,s=.slice a m c)/\CF t w' (λb _=>b=g)/\(w'.cell? (w2,0)=some (.iface 247 (.pointer (some (g,0))))/\w'.cell? (w2,1)=some (.slice (some (g,222)) 0 300)/\w'.cell? (w2,2)=some (.slice (some (g,523)) 0 300))):=λw' s h=>by
  have hc:=h.cf.jM.mono (λb y _ e=>by
   rcases e with e|(e|e)|e
   ·exact e.1
   ·exact e.1
   ·obtain⟨q,d,Y,_⟩:=e;grind
   ·obtain⟨q,d,Y,_⟩:=e;grind)
  grind [RowKit.Hid.o,CF.cell,Fin.o,Out.shape]
 have Gi:Hid (∀(W)a c p,Out W (.slice a m c) p R.1->Calls prog 131 #[.slice a m c] W λe w'=>∃i c,e=.returned (.slice i m c)/\(∃p',Out w' (.slice i m c) p' R.1/\Pl.fresh W.heap.size p')/\W.grownBy w' none):=λW a c p h=>UZ _ p R.1 m W h HM (by have:=HL.o;have:=HM.o;omega)
 go_region_held3 (λw'=>w'.cell? ⟨w2.heap.size,0,none⟩=some (.iface 247 (.pointer (some ⟨g,0,none⟩)))/\w'.cell? ⟨w2.heap.size,1,none⟩=some (.slice (some ⟨g,222,none⟩) 0 300)/\w'.cell? ⟨w2.heap.size,2,none⟩=some (.slice (some ⟨g,523,none⟩) 0 300)) (go_keep) (first
  |(go_at_call 95;refine(HA.o _ (Q.o.trans (CF.bF (aR (cC _ _) 1) (λ_ _=>False)) (λ_ _ _ e=>e.elim))).mono ?_;rintro e w4 ⟨v4,rfl,P,j4⟩;have X:=hid P;have S:=hid j4;obtain⟨⟨a4,c4,aa⟩,C4,y0,y1,y2⟩:=ab.o _ _ P;have Z:=hid C4;subst aa;obtain⟨p4,o4,_⟩:=P.o;have ad:=hid o4;clear P j4 C4 o4)
  |(go_at_call 131;refine(Gi.o _ _ _ _ ad.o).mono ?_;rintro e w5 ⟨a5,c5,rfl,o5,K⟩;have V:=hid o5;have MP:=hid K;have z0:=K.cell y0 agI;have z1:=K.cell y1 agI;have z2:=K.cell y2 agI;clear o5 K))
 go_wp2
 have A:Live w5 g 824:=(by grind [Live.grown,RowKit.Hid.o,Live.cf])
 refine leaves_cons (f:=284) (args:=#[.pointer (some (g,523))]) agI aiM ?_
 refine(zH g 523 .returning _ (A.mono agF)).mono ?_
 rintro e u' w6 ⟨rfl,rfl,c6,C6⟩
 refine leaves_cons (f:=284) (args:=#[.pointer (some (g,222))]) (by simp[settle]) aiM ?_
 refine(zH g 222 _ _ ((A.cf C6).mono agF)).mono ?_
 rintro e u' w7 ⟨rfl,rfl,c7,C7⟩
 refine⟨_,results_tmp rfl _ _ _,_,rfl,?_⟩
 have ag:CF w5 w6 (λb y=>b=g/\222<=y):=(by grind [CF.mono])
 have B:CF w5 w7 (λb y=>b=g/\222<=y):=(by grind [CF.trans])
 have T:=(CF.bF MP.o _).trans B (λ_ _ _ e=>e)
 have ae:=((HD.o _ Q.o).2.2.2.cf Z.o).lt
 have s4:=cE Q.o.size Z.o.size
 refine⟨?_,?_,?_⟩
 ·obtain⟨p',ho,hf⟩:=V.o;exact⟨p',ho.cf B (λq d j _ e=>by have:=hf q d;omega),λq d=>cE s4 (hf q d)⟩
 ·obtain⟨pV,hd,hs⟩:=X.o.bP;have af:∀q,pV=some q->q.g≠g:=agR;refine⟨pV,⟨(by grind [dE.cf]),?_,?_⟩,hs⟩
  ·rw[JD.o];obtain⟨ls,nx,I,D⟩:=S.o.2;exact⟨ls,nx,(by grind [jF.cf]),D⟩
  ·exact⟨A.cf B,c7,(by grind [CF.cell])⟩
 ·exact(((Q.o.mono (λ_ _ _ e=>e.1)).trans Z.o (λ_ _ _ e=>e)).trans T (λ_ _ _ e=>e.1))
theorem dE.acP{w w':World}{g:Nat}{dp:Option Pl}{d:DM}{a:List BE}(h:dE w g 0 dp d)(k:CF w w' (KL g 2))(b:bS w' g 2 a)(l:∀q,dp=some q->q.g≠g):dE w' g 0 dp {d with aG:=a}:=by
 obtain⟨v,f,c⟩:=h.aL;refine⟨h.live.cf k,k.cell h.aA (λe=>by have:=e.2.1;omega),⟨v,k.cell f (λe=>by have:=e.2.1;omega),c.cf k (λq i j _ e=>l q i e.1)⟩,b,k.range h.aJ (λj _ e=>by have:=e.2.2;omega),k.cell h.count (λe=>by have:=e.2.2;omega),h.few⟩
theorem U0{b:List BE}{a:mW}(h:(fB b a).2≠0):(fB b a).1=b:=by
 grind [fB]
theorem EJ(g:Nat)(dp)(M)(n)(a)(w)(m:eX w g dp M)(F:∀q,dp=some q->q.g≠g)(l:fU n M.aG)(hn:n<=4611686018427387904)(x:-9223372036854775808<=a.ae)(A:a.ae<=9223372036854775807)(L:a.name.length<=9223372036854775807):
  Calls prog 279 #[(g,0),.agg a.cells] w λe w'=>e=.returned (ι (fB M.aG a).2)/\eX w' g dp {M with aG:=(fB M.aG a).1}/\CF w w' (λb _=>b=g):=by
 have p:=hid (λw h=>Gj g 0 M.aG a w h l.sorted (λe D=>⟨(l.num e D).1,by have:=(l.num e D).2;omega⟩) x A L)
 have E:=hid (cx w (.cells a.cells 41) none)
 have HB:=hid (m.bP.aG.grown E.o)
 have aa:=m.bP.live.lt
 have c:w.heap.size≠g:=λe=>by omega
 obtain⟨S,J,R,N,P,T,U⟩:=xL.new w a 41
 obtain⟨r,B⟩:=aq ((fB M.aG a).2)
 obtain⟨f,i⟩:∃f,(fB M.aG a).1=f:=⟨_,rfl⟩
 have u:Hid (r≠0->f=M.aG):=λh=>by rw[<-i];exact U0 (by rw[B];exact h)
 rw[B,i]at p
 rw[B,i]
 have Q:Hid (∀W,CF w W (KL g 2)->bS W g 2 f->dE W g 0 dp {M with aG:=f}/\lF W g 222 false false/\wW W g M.aG/\Live W g (188+34)):=λW k hb=>
  ⟨m.bP.acP k hb F,m.pool.cf k (λe=>by have:=e.2;omega) (λe=>by have:=e.2;omega),m.look.cf k (λj h1 h2 e=>by have:=e.2;omega),m.pool.live.mono agF |>.cf k⟩
 have H:=hid F
 clear m l hn x A L B i F
 by_cases C:r=0
 ·subst C;go_enter func279,ntmps279;go_wp2_with fail;go_region_held3 (λw'=>w'.cell? ⟨w.heap.size,0,none⟩=some (ι a.kind)/\w'.cell? ⟨w.heap.size,1,none⟩=some (.string a.name)/\w'.cell? ⟨w.heap.size,2,none⟩=some (υ a.key.toNat)/\w'.cell? ⟨w.heap.size,3,none⟩=some (ι a.bI)/\w'.cell? ⟨w.heap.size,4,none⟩=some (ι a.aC)/\w'.cell? ⟨w.heap.size,5,none⟩=some (ι a.bB)/\w'.cell? ⟨w.heap.size,6,none⟩=some (ι a.ae)) (go_keep) (first|(go_at_call 53;refine(p.o _ (HB.o.drewN 1)).mono ?_;rintro e Z ⟨rfl,z,d⟩;have t:=hid z;have I:=hid d.dM;have e0:=d.dM.cell S (λq=>c q.1);have e1:=d.dM.cell J (λq=>c q.1);have V:=d.dM.cell R (λq=>c q.1);have e3:=d.dM.cell N (λq=>c q.1);have Y:=d.dM.cell P (λq=>c q.1);have e5:=d.dM.cell T (λq=>c q.1);have e6:=d.dM.cell U (λq=>c q.1);clear z d));have y:=hid (CF.before E.o I.o);have s:=hid (Q.o _ y.o t.o);go_wp2_with (go_at_call 282;refine(Qb g 188 _ s.o.2.2.2).mono ?_;rintro e w7 ⟨rfl,K,O⟩;have G:=hid K;have v:=hid O;clear K O)
  go_ret;refine⟨rfl,⟨s.o.1.cf v.o (λj _ hj e=>by omega) (λq m j _ e=>?_),⟨[],0,G.o,λe D=>by cases D⟩,s.o.2.1.cf v.o (λe=>by omega) (λe=>by omega)⟩,(y.o.mono (λ_ _ _ e=>e.1)).trans v.o (λ_ _ _ e=>e.1)⟩;exact H.o q m e.1
 ·have ab:(r==0)=false:=by simpa using C
  have X:=hid C;clear C;go_enter func279,ntmps279;go_wp2_with fail;go_region_held3 (λw'=>w'.cell? ⟨w.heap.size,0,none⟩=some (ι a.kind)/\w'.cell? ⟨w.heap.size,1,none⟩=some (.string a.name)/\w'.cell? ⟨w.heap.size,2,none⟩=some (υ a.key.toNat)/\w'.cell? ⟨w.heap.size,3,none⟩=some (ι a.bI)/\w'.cell? ⟨w.heap.size,4,none⟩=some (ι a.aC)/\w'.cell? ⟨w.heap.size,5,none⟩=some (ι a.bB)/\w'.cell? ⟨w.heap.size,6,none⟩=some (ι a.ae)) (go_keep) (first|(go_at_call 53;refine(p.o _ (HB.o.drewN 1)).mono ?_;rintro e Z ⟨rfl,z,d⟩;have t:=hid z;have I:=hid d.dM;have e0:=d.dM.cell S (λq=>c q.1);have e1:=d.dM.cell J (λq=>c q.1);have V:=d.dM.cell R (λq=>c q.1);have e3:=d.dM.cell N (λq=>c q.1);have Y:=d.dM.cell P (λq=>c q.1);have e5:=d.dM.cell T (λq=>c q.1);have e6:=d.dM.cell U (λq=>c q.1);clear z d));have y:=hid (CF.before E.o I.o);have s:=hid (Q.o _ y.o t.o);go_wp2;go_ret;refine⟨rfl,⟨s.o.1,?_,s.o.2.1⟩,y.o.mono (λ_ _ _ e=>e.1)⟩;rw[u.o X.o];exact s.o.2.2.1
theorem EK(g:Nat):∀W,(method 520 247 (.pointer (some (g,0))) "Admin").run prog W=.ok (279,.pointer (some (g,0))) W:=λ_=>by kernel_rfl
theorem Bv(g:Nat):∀W,(method 520 247 (.pointer (some (g,0))) "Answer").run prog W=.ok (280,.pointer (some (g,0))) W:=λ_=>by kernel_rfl
abbrev gI(a:mW)(now:Int)(v:Value):Array Value:=#[ι a.kind,.string a.name,υ a.key.toNat,ι a.bI,ι a.aC,ι a.bB,ι a.ae,ι now,v]
theorem Tryz.Nn:(prog.info? 110).map (·.size)=some 2:=by kernel_rfl
theorem QW(w:World)(b:Nat)(v0 v1){d f:Value}(c:w.cell? (b,0)=some d)(q1:w.cell? (b,1)=some f):((w.setCell (b,0) v0).setCell (b,1) v1).rangeAt b 0 [v0,v1]:=by
 intro j v a;match j,a with
 |0,a=>
  injection a with a;subst a;rw[World.cell?_setCell_other _ _ _ _ (λe=>by injection e with _ e;omega)];exact World.cell?_setCell_same _ _ _ c
 |1,a=>
  injection a with a;subst a;exact ael
 |j+2,a=>simp at a
theorem Nl.shape{w w':World}{g:Nat}{dp:Option Pl}{b:Value}{R:List UInt8×DM}(h:Nl w w' g dp b R):∃a c,b=.slice a R.1.length c:=by
 grind [Nl.o,Out.shape]
theorem Nl.after{w W i w2:World}{g:Nat}{dp:Option Pl}{f:Value}{R:List UInt8×DM}(h:Nl W i g dp f R)(G:w.grownBy W none)(c)(r:w.heap.size<=c)(o:c<W.heap.size)(t:g<w.heap.size)(s:∀q,dp=some q->q.g<w.heap.size)(k:CF i w2 (λb _=>b=c)):Nl w w2 g dp f R:=by
 obtain⟨p',p,d⟩:=h.out;obtain⟨m,a,n⟩:=h.bP;refine⟨⟨p',p.cf k (λq a j _ e=>by have:=d q a;omega),λq a=>cE G.size (d q a)⟩,⟨m,a.cf k (λ_ e=>by omega) (λq a _ e=>?_),n⟩,(CF.before G h.cf).trans k (λ_ _ l e=>by omega)⟩;grind
theorem Za(g:Nat)(dp)(M)(n)(a)(now)(v)(w)(p:eX w g dp M)(E:∀q,dp=some q->q.g≠g)(k:fU n M.aG)(hn:n<=4611686018427387904)(m:-9223372036854775808<=a.ae)(s:a.ae<=9223372036854775807)(B:a.name.length<=9223372036854775807)(Q:(a.kind==0)=false):
  Calls prog 149 #[.iface 247 (.pointer (some (g,0))),.agg (gI a now v)] w λe w'=>e=.returned (.agg #[.slice none 0 0,ι (fB M.aG a).2])/\eX w' g dp {M with aG:=(fB M.aG a).1}/\CF w w' (λb _=>b=g):=by
 obtain⟨c,l⟩:=aw ((w.alloc (.cells (gI a now v) 194)).alloc (.cells #[.slice none 0 0,ι 0] 110))
 have x:w.grownBy c none:=by grind [aM,cx]
 have d:c.rangeAt w.heap.size 0 (gI a now v).toList:=by grind [gX,cx,aS]
 have C:Live c (w.heap.size+1) 2:=by
  grind [cF,Live.new]
 have X:c.cell? (w,0)=some (ι a.kind):=d 0 _ rfl
 have O:c.cell? (w,1)=some (.string a.name):=d 1 _ rfl
 have U:c.cell? (w,2)=some (υ a.key.toNat):=d 2 _ rfl
 have V:c.cell? (w,3)=some (ι a.bI):=d 3 _ rfl
 have k4:c.cell? (w,4)=some (ι a.aC):=d 4 _ rfl
 have Z:c.cell? (w,5)=some (ι a.bB):=d 5 _ rfl
 have k6:c.cell? (w,6)=some (ι a.ae):=d 6 _ rfl
 have u:=hid (EJ g dp M n a c (p.grown x) E k hn m s B)
 have H:=hid (EK g)
 have R:=EK g
 have j:=p.bP.live.lt
 have I:=hid C
 have P:=hid x
 have A:=hid l
 have G:Hid (∀q,dp=some q->q.g<w.heap.size):=λq h=>p.bP.KU h
 obtain⟨r,t⟩:=aq ((fB M.aG a).2)
 obtain⟨D,f⟩:∃D,({M with aG:=(fB M.aG a).1}:DM)=D:=⟨_,rfl⟩
 rw[t,f]at u
 rw[t,f]
 have z:=hid j
 clear p E k hn m s B d C x l t f j H
 go_enter func149,ntmps149
 go_wp2_with (first|(rw[<-A.o];fail_if_success done)|(go_at_call 279;refine u.o.mono ?_;clear u;rintro e N ⟨rfl,F,y⟩;have J:=hid F;have sO:=hid y;have i:=I.o.cf y;obtain⟨W,L⟩:=cA.1 (i.some 0 agF);obtain⟨S,K⟩:=cA.1 (i.some 1 agF);have T:=i.frozen 0;have Y:=i.frozen 1;clear F y i))
 refine bodyPost_ret (fP results149 _ _ _ (w.heap.size+1) rfl _ (eG (QW N (w.heap.size+1) _ _ L K) 110 _ underlying110 rfl Tryz.Nn)) rfl ⟨rfl,?_,?_⟩
 ·refine J.o.cf (ex:=λb _=>b=w.heap.size+1) ?_ (λ_ e=>by have:=z.o;omega) (λq p _ e=>?_)
  ·grind [CF.refl,CF.setCell]
  grind [RowKit.Hid.o]
 grind [CF.before,RowKit.Hid.o,CF.setCell]
theorem U4(g:Nat)(dp)(M)(a)(now)(f)(n)(c)(cap)(w)(z:eX w g dp M)(N:∀q,dp=some q->q.g≠g)(s:∀e∈M.aG,e.In)(p:M.aG.Pairwise (λx y=>Op.bytesLess x.name y.name=true))(hn:Hid (f.length=n))(L:At w c f)(t:∀b off,c=some ⟨b,off,none⟩->b≠g)(O:Bs (c,f) (.slice c n cap) f)(P:In64 now)(r:In64 M.aA)(H:∀y∈M.aJ,In64 y.time)(d:(dG M now f).1.length<=900)(Y:(a.kind==0)=true):
  Calls prog 149 #[.iface 247 (.pointer (some (g,0))),.agg (gI a now (.slice c n cap))] w λe w'=>∃G,e=.returned (.agg #[G,ι 0])/\Nl w w' g dp G (dG M now f):=by
 obtain⟨i,m⟩:=aw ((w.alloc (.cells (gI a now (.slice c n cap)) 194)).alloc (.cells #[.slice none 0 0,ι 0] 110))
 have u:w.grownBy i none:=by grind [cx,aM]
 have v:i.rangeAt w.heap.size 0 (gI a now (.slice c n cap)).toList:=by grind [cx,aS,gX]
 have K:Live i (w.heap.size+1) 2:=by
  grind [Live.new,cF]
 have k0:i.cell? (w,0)=some (ι a.kind):=v 0 _ rfl
 have k7:i.cell? (w,7)=some (ι now):=v 7 _ rfl
 have k8:i.cell? (w,8)=some (.slice c n cap):=v 8 _ rfl
 have B:=hid (BU g dp M now f n c cap i (z.grown u) N s p hn (L.below u) t O P r H d)
 have S:=hid (Bv g)
 have Z:=Bv g
 have k:=z.bP.live.lt
 have J:=hid K
 have Q:=hid u
 have F:=hid m
 have C:Hid (∀q,dp=some q->q.g<w.heap.size):=λq h=>z.bP.KU h
 obtain⟨R,I⟩:=aq (dG M now f)
 rw[I]at B⊢
 have D:=hid k
 clear z N s p hn L t O P r H d v K u m I k S
 go_enter func149,ntmps149
 go_wp2_with (first|(rw[<-F.o];fail_if_success done)|(go_at_call 280;refine B.o.mono ?_;clear B;rintro e V ⟨v1,rfl,A⟩;obtain⟨W,X,E⟩:=A.shape;subst E;have l:=hid A;have j:=J.o.cf A.cf;obtain⟨d0,U⟩:=cA.1 (j.some 0 agF);obtain⟨d1,T⟩:=cA.1 (j.some 1 agF);have f0:=j.frozen 0;have f1:=j.frozen 1;clear A j))
 refine bodyPost_ret (fP results149 _ _ _ (w.heap.size+1) rfl _ (eG (QW V (w.heap.size+1) _ _ U T) 110 _ underlying110 rfl Tryz.Nn)) rfl ⟨_,rfl,?_⟩
 refine l.o.after Q.o (w.heap.size+1) (fg _) (by have h1:=J.o.lt;have h2:=l.o.cf.size;omega) D.o C.o ?_
 grind [CF.refl,CF.setCell]
theorem EL(g:Nat)(dp)(d)(w)(h:dE w g 0 dp d):
  Calls prog 78 #[(g,0)] w λe w'=>∃a b,e=.returned (.agg #[.slice (some ⟨a,0,none⟩) d.aG.length d.aG.length,.slice (some ⟨b,0,none⟩) d.aG.length d.aG.length,ι d.aJ.length,ι d.aL.length])/\w'.ownsRow w.heap.size 9 1 (.slice (some ⟨a,0,none⟩) d.aG.length d.aG.length) d.aG.length (d.aG.map λx=>.string x.name)/\w'.ownsRow w.heap.size 3 1 (.slice (some ⟨b,0,none⟩) d.aG.length d.aG.length) d.aG.length (d.aG.map λx=>ι x.aH)/\w.grownBy w' none:=by
 have f:=hid (cx w (.cells #[.slice none 0 0,.slice none 0 0,ι 0,ι 0] 101) none)
 have n:=hid (h.grown f.o)
 have q:Hid (Live (w.alloc (.cells #[.slice none 0 0,.slice none 0 0,ι 0,ι 0] 101)) w.heap.size 4):=Live.new w _ _
 clear h
 go_enter func78,ntmps78
 go_wp2_with fail
 refine(Gl g 0 dp d _ n.o).mono ?_
 rintro e u ⟨a,b,rfl,i,j,c⟩
 have L:=q.o.grown c
 obtain⟨D,t⟩:=cA.1 (L.some 0 agF)
 obtain⟨y,r⟩:=cA.1 (L.some 1 agF)
 obtain⟨G,p⟩:=cA.1 (L.some 2 agF)
 obtain⟨F,v⟩:=cA.1 (L.some 3 agF)
 have z:=L.frozen 0
 have E:=L.frozen 1
 have C:=L.frozen 2
 have B:=L.frozen 3
 have A:=hid (aa f.o c)
 have l:=hid i
 have m:=hid j
 clear L c i j
 go_wp2
 have s0:w.heap.size<w.heap.size+1:=fY _
 have k:w.heap.size+1<=(w.alloc (.cells #[.slice none 0 0,.slice none 0 0,ι 0,ι 0] 101)).heap.size:=aiZ
 have oN1:=dC l.o k
 have s:=dC m.o k
 refine bodyPost_ret (fP results78 _ _ _ w.heap.size rfl _ (eG (JE u w.heap.size _ _ _ _ t r p v) 101 _ underlying101 rfl Tryz.Ao)) rfl ⟨a,b,rfl,?_,?_,?_⟩
 ·exact afk
 ·exact dC (by grind [gK]) (fg _)
 grind [az,RowKit.Hid.o]
theorem uY(g:Nat)(dp)(d)(w)(h:dE w g 0 dp d):
  Calls prog 42 #[(g,0)] w λe w'=>∃a b,e=.returned (.agg #[.slice (some ⟨a,0,none⟩) d.aG.length d.aG.length,.slice (some ⟨b,0,none⟩) d.aG.length d.aG.length,ι d.aJ.length,ι d.aL.length])/\w'.ownsRow w.heap.size 9 1 (.slice (some ⟨a,0,none⟩) d.aG.length d.aG.length) d.aG.length (d.aG.map λx=>.string x.name)/\w'.ownsRow w.heap.size 3 1 (.slice (some ⟨b,0,none⟩) d.aG.length d.aG.length) d.aG.length (d.aG.map λx=>ι x.aH)/\w.grownBy w' none:=by
 have f:=hid (cx w (.cells #[.slice none 0 0,.slice none 0 0,ι 0,ι 0] 101) none)
 have n:=hid (h.grown f.o)
 have q:Hid (Live (w.alloc (.cells #[.slice none 0 0,.slice none 0 0,ι 0,ι 0] 101)) w.heap.size 4):=Live.new w _ _
 clear h
 go_enter func42,ntmps42
 go_wp2_with fail
 refine(EL g dp d _ n.o).mono ?_
 rintro e u ⟨a,b,rfl,i,j,c⟩
 have L:=q.o.grown c
 obtain⟨D,t⟩:=cA.1 (L.some 0 agF)
 obtain⟨y,r⟩:=cA.1 (L.some 1 agF)
 obtain⟨G,p⟩:=cA.1 (L.some 2 agF)
 obtain⟨F,v⟩:=cA.1 (L.some 3 agF)
 have z:=L.frozen 0
 have E:=L.frozen 1
 have C:=L.frozen 2
 have B:=L.frozen 3
 have A:=hid (aa f.o c)
 have l:=hid i
 have m:=hid j
 clear L c i j
 go_wp2
 have s0:w.heap.size<w.heap.size+1:=fY _
 have k:w.heap.size+1<=(w.alloc (.cells #[.slice none 0 0,.slice none 0 0,ι 0,ι 0] 101)).heap.size:=aiZ
 have oN1:=dC l.o k
 have s:=dC m.o k
 refine bodyPost_ret (fP results42 _ _ _ w.heap.size rfl _ (eG (JE u w.heap.size _ _ _ _ t r p v) 101 _ underlying101 rfl Tryz.Ao)) rfl ⟨a,b,rfl,?_,?_,?_⟩
 ·exact afk
 ·exact dC (by grind [gK]) (fg _)
 grind [az,RowKit.Hid.o]
theorem Tryz.Np:(prog.info? 107).map (·.size)=some 3:=by kernel_rfl
theorem Zb(w:World)(b:Nat)(v0 v1 v2){g f e:Value}(d:w.cell? (b,0)=some g)(h:w.cell? (b,1)=some f)(q2:w.cell? (b,2)=some e):(((w.setCell (b,0) v0).setCell (b,1) v1).setCell (b,2) v2).rangeAt b 0 [v0,v1,v2]:=by
 intro j v a;have c:=QW w b v0 v1 d h;match j,a with
 |0,a=>
  rw[World.cell?_setCell_other _ _ _ _ agM];exact c 0 v a
 |1,a=>
  rw[World.cell?_setCell_other _ _ _ _ agM];exact c 1 v a
 |2,a=>
  injection a with a;subst a;exact aea
 |j+3,a=>simp at a
def Nq(w:World)(e:Ending)(w':World):Prop:=∃k:Nat,k<=4/\e=.returned (.agg #[ι 2,ι 2,ι k])/\w.grownBy w' none
theorem GJ(g:Nat)(dp)(M)(w)(h:eX w g dp M):
  Calls prog 77 #[(g,0)] w λe w'=>Nq w e w':=by
 have n:=hid (bg (cx w (.cells #[ι 0,ι 0,ι 0] 107) none))
 have p:Hid (Live (w.alloc (.cells #[ι 0,ι 0,ι 0] 107)).drew w.heap.size 3):=(Live.new w _ _).drew
 have f:=hid (h.grown n.o)
 obtain⟨i,j,a,_⟩:=f.o.look
 have m:=hid a
 obtain⟨k,b⟩:=aq i.length
 have c:=hid b
 have q:=hid (X4 g 222 _ f.o.pool)
 have d:=hid (Qa g 188 i j _ a)
 rw[b]at d
 have L:=p.o
 obtain⟨v,z⟩:=cA.1 (L.some 0 agF)
 obtain⟨r,y⟩:=cA.1 (L.some 1 agF)
 obtain⟨A,t⟩:=cA.1 (L.some 2 agF)
 have s:=L.frozen 0
 have x:=L.frozen 1
 have u:=L.frozen 2
 clear h a b L
 go_enter func77,ntmps77
 go_wp2_with fail
 go_region_held3 (λ_=>True) (trivial) (first|(go_at_call 119;refine q.o.mono ?_;rintro e B ⟨rfl,rfl⟩)|(go_at_call 120;refine d.o.mono ?_;rintro e w2 ⟨rfl,rfl⟩))
 go_wp2
 have l:(w.alloc (.cells #[ι 2,ι 2,ι k] 107)).drew.rangeAt w.heap.size 0 [ι 2,ι 2,ι k]:=aS w #[ι 2,ι 2,ι k] 107
 refine bodyPost_ret (fP results77 _ _ _ w.heap.size rfl _ (eG l 107 _ underlying107 rfl Tryz.Np)) rfl ⟨k,?_,rfl,bg (cx w _ none)⟩
 rw[<-c.o];exact m.o.len
theorem EM(g:Nat)(dp)(M)(w)(h:eX w g dp M):
  Calls prog 41 #[(g,0)] w λe w'=>Nq w e w':=by
 have f:=hid (cx w (.cells #[ι 0,ι 0,ι 0] 107) none)
 have n:Hid (Live (w.alloc (.cells #[ι 0,ι 0,ι 0] 107)) w.heap.size 3):=Live.new w _ _
 have c:=hid (GJ g dp M _ (h.grown f.o))
 clear h
 go_enter func41,ntmps41
 go_wp2_with fail
 refine c.o.mono ?_
 rintro e v ⟨k,d,rfl,a⟩
 have L:=n.o.grown a
 obtain⟨t,i⟩:=cA.1 (L.some 0 agF)
 obtain⟨r,m⟩:=cA.1 (L.some 1 agF)
 obtain⟨q,j⟩:=cA.1 (L.some 2 agF)
 have u:=L.frozen 0
 have p:=L.frozen 1
 have s:=L.frozen 2
 have l:=hid (aa f.o a)
 have b:=hid d
 clear L a c d
 go_wp2
 refine bodyPost_ret (fP results41 _ _ _ w.heap.size rfl _ (eG (Zb _ w.heap.size _ _ _ i m j) 107 _ underlying107 rfl Tryz.Np)) rfl ⟨k,b.o,rfl,?_⟩
 repeat refine az ?_ (cy _)
 exact l.o
theorem aiX{p:Prop}(h:p:=by rw[hw2];exact gQ w1.heap.size (cy _) cs.toList 0 _ (cx w1 _ none)):p:=h
theorem Tryz.AP:(prog.info? 155).map (·.size)=some 824:=by kernel_rfl
theorem Tryz.mY:zeroCells155.size=824:=by kernel_rfl
theorem Tryz.EN:zeroCells159.size=824:=by kernel_rfl
theorem Tryz.zR:zeroCells155.all (·.oneCell')=true:=by kernel_rfl
theorem Tryz.J4:zeroCells155[220]?=some (ι 0):=by kernel_rfl
theorem Tryz.J5:zeroCells155[221]?=some (ι 0):=by kernel_rfl
theorem Tryz.J6:zeroCells155[522]?=some (.bool false):=by kernel_rfl
theorem Tryz.J7:zeroCells155[823]?=some (.bool false):=by kernel_rfl
theorem AQ(Z cs:Array Value)(n)(h:cs.size=n)(g:n<=Z.size):(Array.foldl (λcs x=>cs.setIfInBounds x.snd x.fst) Z cs.zipIdx 0 n).size=Z.size/\∀i,(Array.foldl (λ(cs:Array Value) (x:Value×Nat)=>cs.setIfInBounds x.snd x.fst) Z cs.zipIdx 0 n)[i]?=if i<n then cs[i]? else Z[i]?:=by
 have e:Array.foldl (λ(cs:Array Value) (x:Value×Nat)=>cs.setIfInBounds x.snd x.fst) Z cs.zipIdx 0 n=(cs.toList.zipIdx 0).foldl (λ(b:Array Value) (x:Value×Nat)=>b.setIfInBounds x.snd x.fst) Z:=by
  rw[<-Array.toList_zipIdx,Array.foldl_toList,Array.size_zipIdx,h]
 have c:∀i,(Array.foldl (λ(cs:Array Value) (x:Value×Nat)=>cs.setIfInBounds x.snd x.fst) Z cs.zipIdx 0 n)[i]?=if i<n then cs[i]? else Z[i]?:=(by grind [Zc])
 refine⟨?_,c⟩;have a:∀i,i<(Array.foldl (λ(cs:Array Value) (x:Value×Nat)=>cs.setIfInBounds x.snd x.fst) Z cs.zipIdx 0 n).size↔i<Z.size:=λi=>by
  have:=c i;grind
 have d:=a Z.size;have f:=a (Array.foldl (λ(cs:Array Value) (x:Value×Nat)=>cs.setIfInBounds x.snd x.fst) Z cs.zipIdx 0 n).size;omega
structure AU(X:Array Value)(aA:Int)(dv:Value):Prop where
 size:X.size=824
 one:∀v∈X.toList,v.oneCell'=true
 bP:∀j,j<188->X[j]?=(iX zeroCells136.toList aA dv)[j]?
 rest:∀j,188<=j->X[j]?=zeroCells155[j]?
theorem AU.made{X cs:Array Value}{aA:Int}{dv:Value}(a:cs=(iX zeroCells136.toList aA dv).toArray)(j:dv.oneCell'=true)(g:Array.foldl (λcs x=>cs.setIfInBounds x.snd x.fst) zeroCells155 cs.zipIdx 0 188=X):AU X aA dv:=by
 have e:cs.size=188:=by rw[a,List.size_toArray,lD]
 obtain⟨b,c⟩:=AQ zeroCells155 cs 188 e (by rw[Tryz.mY];omega);rw[g]at b c;refine⟨by rw[b,Tryz.mY],λv f=>?_,agM,agM⟩;obtain⟨i,h,rfl⟩:=List.getElem_of_mem f;have d:i<X.size:=agE;have k:=c i;grind [Tryz.zR,vP]
theorem U5{W:World}{b:Nat}{X:Array Value}{aA:Int}{dv:Value}{dp:Option Pl}{n:List UInt8}(m:dB W b X)(f:AU X aA dv)(q:Out W dv dp n):eX W b dp ⟨aA,[],[],n⟩:=by
 have d:=λj=>m.cell j;have c:Live W b 824:=by
  obtain⟨e,g⟩:=m;exact⟨_,e,g,by grind [AU.size]⟩
 have r:zeroCells136.toList.length=188:=by rw[cV,Tryz.pO]
 have s:∀j,1<j->j<188->W.cell? ⟨b,j,none⟩=zeroCells136[j]?:=λj l p=>by
  rw[d,f.bP j p,iX,List.getElem?_set_ne agE,List.getElem?_set_ne agE,Array.getElem?_toList]
 have a:∀j v,188<=j->zeroCells155[j]?=some v->W.cell? ⟨b,j,none⟩=some v:=λj v l h=>by rw[d,f.rest j l,h]
 refine⟨⟨c.mono agF,?_,⟨dv,?_,q⟩,⟨c.mono agF,λj u i=>by simp[dP]at i,?_,by simp⟩,λj u i=>by simp[bY]at i,?_,by simp⟩,⟨[],0,⟨c.mono agF,λk o=>absurd o agI,a 220 _ agF Tryz.J4,a 221 _ agF Tryz.J5,by simp,by decide,λ_=>rfl⟩,λe g=>by cases g⟩,⟨c,a 522 _ agF Tryz.J6,a 823 _ agF Tryz.J7⟩⟩
 ·rw[d,f.bP 0 agF,iX,List.getElem?_set_ne agE,ee agE]
 ·rw[d,f.bP 1 agF,iX,ee (by rw[eL];omega)]
 ·grind [Tryz.Nr]
 grind [Tryz.Ns]
theorem Nt(aA)(v)(n)(l)(w)(F:0<=aA)(J:aA<=300)(C:∀w1,w.grownBy w1 none->Calls prog 91 #[v] w1 λe w'=>∃d c,e=.returned (.agg #[.slice d n c])/\w'.ownsRow w1.heap.size 5 1 (.slice d n c) n l/\w1.grownBy w' none):
  Calls prog 52 #[ι aA,v] w λe w'=>∃X d c,e=.returned (.tuple #[.agg X,ι 0])/\AU X aA (.slice d n c)/\w'.ownsRow (w.heap.size+1) 5 1 (.slice d n c) n l/\w.grownBy w' none:=by
 have D:=hid (cx w (.cells zeroCells155 155) none)
 have r:Hid (Live (w.alloc (.cells zeroCells155 155)) w.heap.size 824):=by
  have h:=Live.new w zeroCells155 155;rw[Tryz.mY]at h;exact h
 have E:=hid (PW aA v n l (w.alloc (.cells zeroCells155 155)) F J (λw1 k=>C w1 (aa D.o k)))
 clear C F J
 go_enter func52,ntmps52
 go_wp2_with fail
 refine E.o.mono ?_
 rintro e w1 ⟨d,c,rfl,own,g⟩
 obtain⟨cs,f⟩:∃cs:Array Value,Hid (cs=(iX zeroCells136.toList aA (.slice d n c)).toArray):=⟨_,hid rfl⟩
 rw[<-f.o]
 have m:=Live.new w1 zeroCells136 136
 rw[Tryz.pO]at m
 have i:cs.size=188:=by rw[f.o,List.size_toArray,lD]
 have z:=eF (P:=prog) cs.toList m (by rw[cV,i];exact cy _) (λv I=>vP _ _ rfl v (by rw[f.o]at I;exact I))
 have s:=World.rangeAt_setCells_same (w1.alloc (.cells zeroCells136 136)) w1.heap.size 0 cs.toList (m.there 0 _ (by rw[cV,i];omega))
 have B:(prog.info? 136).map (·.size)=some cs.toList.length:=by rw[Tryz.zD,cV,i]
 obtain⟨w2,hw2⟩:=aw ((w1.alloc (.cells zeroCells136 136)).setCells w1.heap.size 0 cs.toList)
 have GW:w1.grownBy w2 none:=aiX
 rw[<-hw2]at s z
 obtain⟨X,N⟩:=aq (Array.foldl (λcs x=>cs.setIfInBounds x.snd x.fst) zeroCells155 cs.zipIdx 0 188)
 have j:=AU.made f.o rfl N
 have u:=(r.o.grown g).grown GW
 have R:=eF (P:=prog) X.toList u (by rw[cV,j.size];exact cy _) j.one
 have RB:=World.rangeAt_setCells_same w2 w.heap.size 0 X.toList (u.there 0 _ (by rw[cV,j.size];omega))
 have Q:=hid (eG RB 155 _ underlying155 rfl (by rw[Tryz.AP,cV,j.size]))
 have M:=hid j
 have H:=hid (And.intro s B)
 have t:=hid (gQ w.heap.size (cy _) X.toList 0 w2 (aa (aa D.o g) GW))
 have G:w1.ownsRow (w.heap.size+1) 5 1 (.slice d n c) n l:=dC own (by rw[cF];omega)
 have L:Hid ((w2.setCells w.heap.size 0 X.toList).ownsRow (w.heap.size+1) 5 1 (.slice d n c) n l):=by
  have A:=World.ownsRow.kept G GW (eR _);refine bZ A (λb O=>?_);have y:=A.lt b O;exact(CF.setCells (a:=w2) (ex:=λq _=>q=w.heap.size) w.heap.size _ 0 w2 (CF.refl _ _) (λ_ _ _=>rfl)).block b y.2 (λ_ q=>by omega)
 have p:=hid hw2
 have K:=j.size
 clear s B m u RB own G g GW j hw2 E
 go_wp2_with (first|(rw[<-p.o];fail_if_success done)|(refine wpList_load_mid rfl 136 _ rfl w1.heap.size 0 rfl cs.toList _ H.o.1 underlying136 rfl H.o.2 ?_))
 exact bodyPost_ret (aF results52 _ _ _ w.heap.size rfl _ Q.o) rfl ⟨X,d,c,rfl,M.o,L.o,t.o⟩
theorem Nu(aA)(v)(n)(t)(w)(B:0<=aA)(G:aA<=300)(C:∀a,w.grownBy a none->Calls prog 91 #[v] a λe w'=>∃s c,e=.returned (.agg #[.slice s n c])/\w'.ownsRow a.heap.size 5 1 (.slice s n c) n (t.map U8)/\a.grownBy w' none):
  Calls prog 28 #[ι aA,v] w λe w'=>∃b dp,e=.returned (.tuple #[.pointer (some ⟨b,0,none⟩),ι 0])/\eX w' b dp ⟨aA,[],[],t⟩/\w.heap.size<=b/\Pl.fresh w.heap.size dp/\(∀q,dp=some q->q.g≠b)/\w.grownBy w' none:=by
 have z:=hid (Nt aA v n (t.map U8) w B G C)
 clear C B G
 go_enter func28,ntmps28
 go_wp2_with fail
 refine z.o.mono ?_
 rintro e a ⟨X,s,c,rfl,l,own,j⟩
 have d:=l.size
 have k:=Live.new a zeroCells155 155
 rw[Tryz.mY]at k
 have u:=eF (P:=prog) X.toList k (by rw[cV,d];exact cy _) l.one
 have p:=World.rangeAt_setCells_same (a.alloc (.cells zeroCells155 155)) a.heap.size 0 X.toList (k.there 0 _ (by rw[cV,d];omega))
 have y:(prog.info? 155).map (·.size)=some X.toList.length:=by rw[Tryz.AP,cV,d]
 obtain⟨w2,f⟩:=aw ((a.alloc (.cells zeroCells155 155)).setCells a.heap.size 0 X.toList)
 have GW:a.grownBy w2 none:=by rw[f];exact gQ a.heap.size (cy _) X.toList 0 _ (cx a _ none)
 rw[<-f]at p u
 have Q:Array.foldl (λcs x=>cs.setIfInBounds x.snd x.fst) zeroCells159 X.zipIdx 0 824=X:=by
  obtain⟨O,I⟩:=AQ zeroCells159 X 824 d (by rw[Tryz.EN];exact cy _);refine Array.ext_getElem? λi=>?_;rw[I i];by_cases E:i<824
  ·rw[if_pos E]
  ·rw[if_neg E,fm (by rw[Tryz.EN];omega),fm agE]
 have M:=hid l
 have F:=hid (And.intro p y)
 have m:=hid f
 have h:=hid (And.intro j GW)
 have K:=hid own
 clear p y k own j GW l f z
 go_wp2_with (first|(rw[<-m.o];fail_if_success done)|(refine wpList_load_mid rfl 155 _ rfl a.heap.size 0 rfl X.toList _ F.o.1 underlying155 rfl F.o.2 ?_))
 have A:=cx w2 (.cells X 159) none
 obtain⟨dp,D,r⟩:=Out.own K.o
 have L:=D.grown (aa h.o.2 A)
 have N:=λq e=>D.KU q e
 have H:=h.o.1.size
 have J:=h.o.2.size
 go_ret2
 exact⟨_,dp,rfl,U5 (dB.new w2 X _) M.o L,by omega,λq e=>by have:=r q e;omega,λq e=>by have:=N q e;omega,aa (aa h.o.1 h.o.2) A⟩
theorem of_nil(n c)(w):Calls prog 91 #[.slice none n c] w λe w'=>e=.returned (.agg #[.slice none 0 0])/\w.grownBy w' none:=by
 have b:=hid (cx w (.cells #[.slice none 0 0] 122) none);have L:Live (w.alloc (.cells #[.slice none 0 0] 122)) w.heap.size 1:=Live.new w _ _;have d:=L.frozen 0;clear L;go_enter func91,ntmps91;go_wp2_with fail;refine(Tryz.bytes_Clone_nil n c _).mono ?_;rintro e f ⟨rfl,rfl⟩;go_wp2;refine bodyPost_ret (fP results91 _ _ _ w.heap.size rfl _ (eG (cs:=[.slice none 0 0]) (λj u a=>?_) 122 _ underlying122 rfl Tryz.Il)) rfl ⟨rfl,?_⟩
 ·match j,a with
  |0,a=>injection a with a;subst a;rw[World.cell?_alloc_at (hn:=rfl)];rfl
  |j+1,a=>simp at a
 ·exact b.o
theorem GK(aA)(zs)(n)(a)(cap)(gB)(r w)(p:0<=aA)(j:aA<=300)(hn:Hid (zs.length=n))(l:n<=140737488355328)(h:nk r w a cap zs gB):
  Calls prog 28 #[ι aA,.slice a n cap] w λe w'=>∃b dp,e=.returned (.tuple #[.pointer (some ⟨b,0,none⟩),ι 0])/\eX w' b dp ⟨aA,[],[],zs⟩/\w.heap.size<=b/\Pl.fresh w.heap.size dp/\(∀q,dp=some q->q.g≠b)/\w.grownBy w' none:=by
 refine Nu aA _ n zs w p j (λf k=>?_)
 have d:=(h.grown k).at
 rcases h with⟨rfl,rfl,rfl,_⟩|⟨g,rfl,_⟩
 ·obtain rfl:0=n:=hn.o;refine(of_nil 0 0 f).mono ?_;grind [World.ownsRow_nil]
 ·refine(aiv ⟨g,0,none⟩ n cap zs f hn l (λi m=>?_)).mono ?_
  ·have c:i<zs.length:=(by rw[hn.o];exact m);have:=d.cells i c;grind [Addr.add_lit]
  grind [bA]
theorem Zd{Z cs X:Array Value}{n:Nat}(h:cs.size=n)(f:n<=Z.size)(d:Array.foldl (λ(cs:Array Value) (x:Value×Nat)=>cs.setIfInBounds x.snd x.fst) Z cs.zipIdx 0 n=X)(g:∀v∈cs.toList,v.oneCell'=true)(k:∀v∈Z.toList,v.oneCell'=true):X.size=Z.size/\∀v∈X.toList,v.oneCell'=true:=by
 obtain⟨b,a⟩:=AQ Z cs n h f;rw[d]at b a;refine⟨b,λv c=>?_⟩;obtain⟨i,j,rfl⟩:=List.getElem_of_mem c;have e:=a i;grind
theorem J8(aA)(v)(w)(h:aA<0\/300<aA):
  Calls prog 52 #[ι aA,v] w λe w'=>∃X,X.size=824/\(∀v∈X.toList,v.oneCell'=true)/\e=.returned (.tuple #[.agg X,ι 1])/\w.grownBy w' none:=by
 have t:=hid (cx w (.cells zeroCells155 155) none)
 have g:Hid (Live (w.alloc (.cells zeroCells155 155)) w.heap.size 824):=by
  have h:=Live.new w zeroCells155 155;rw[Tryz.mY]at h;exact h
 have p:=hid (LX aA v (w.alloc (.cells zeroCells155 155)) h)
 clear h
 go_enter func52,ntmps52
 go_wp2_with fail
 refine p.o.mono ?_
 rintro e w1 ⟨cs,a,l,rfl,c⟩
 have d:=Live.new w1 zeroCells136 136
 rw[Tryz.pO]at d
 have m:=eF (P:=prog) cs.toList d (by rw[cV,a];exact cy _) l
 have i:=World.rangeAt_setCells_same (w1.alloc (.cells zeroCells136 136)) w1.heap.size 0 cs.toList (d.there 0 _ (by rw[cV,a];omega))
 have n:(prog.info? 136).map (·.size)=some cs.toList.length:=by rw[Tryz.zD,cV,a]
 obtain⟨w2,hw2⟩:=aw ((w1.alloc (.cells zeroCells136 136)).setCells w1.heap.size 0 cs.toList)
 have GW:w1.grownBy w2 none:=aiX
 rw[<-hw2]at i m
 obtain⟨X,y⟩:=aq (Array.foldl (λcs x=>cs.setIfInBounds x.snd x.fst) zeroCells155 cs.zipIdx 0 188)
 have b:=Zd a (by rw[Tryz.mY];decide) y l (λv u=>by have:=Tryz.zR;rw[Array.all_eq_true_iff_forall_mem]at this;exact this v (Array.mem_toList_iff.1 u))
 rw[Tryz.mY]at b
 have k:=(g.o.grown c).grown GW
 have A:=eF (P:=prog) X.toList k (by rw[cV,b.1];exact cy _) b.2
 have RB:=World.rangeAt_setCells_same w2 w.heap.size 0 X.toList (k.there 0 _ (by rw[cV,b.1];omega))
 have z:=hid (eG RB 155 _ underlying155 rfl (by rw[Tryz.AP,cV,b.1]))
 have q:=hid b
 have r:=hid (And.intro i n)
 have j:=hid (gQ w.heap.size (cy _) X.toList 0 w2 (aa (aa t.o c) GW))
 have f:=hid hw2
 have s:=b.1
 clear i n d k RB l c GW b hw2 p
 go_wp2_with (first|(rw[<-f.o];fail_if_success done)|(refine wpList_load_mid rfl 136 _ rfl w1.heap.size 0 rfl cs.toList _ r.o.1 underlying136 rfl r.o.2 ?_))
 exact bodyPost_ret (aF results52 _ _ _ w.heap.size rfl _ z.o) rfl ⟨X,q.o.1,q.o.2,rfl,j.o⟩
theorem J9(aA)(v)(w)(h:aA<0\/300<aA):
  Calls prog 28 #[ι aA,v] w λe w'=>e=.returned (.tuple #[.pointer none,ι 1])/\w.grownBy w' none:=by
 have g:=hid (J8 aA v w h)
 clear h
 go_enter func28,ntmps28
 go_wp2_with fail
 refine g.o.mono ?_
 rintro e d ⟨cs,c,f,rfl,a⟩
 have b:=Live.new d zeroCells155 155
 rw[Tryz.mY]at b
 have i:=eF (P:=prog) cs.toList b (by rw[cV,c];exact cy _) f
 have GW:=hid (aa a (gQ d.heap.size (cy _) cs.toList 0 _ (cx d (.cells zeroCells155 155) none)))
 clear b a f g
 go_wp2
 go_ret2
 exact⟨rfl,GW.o⟩
abbrev U6:=mW×Int×Value
def U6.cells(j:U6):List Value:=(gI j.1 j.2.1 j.2.2).toList
def eH(js:List U6):List Value:=(js.map U6.cells).flatten
def fC(ds:List (Value×Int)):List Value:=(ds.map λd=>[d.1,ι d.2]).flatten
theorem sI:∀ds,(fC ds).length=ds.length*2
 | []=>rfl
 |d::ds=>by
  have h:=sI ds
  grind [fC]
theorem BV(ds)(v)(r):fC (ds++[(v,r)])=fC ds++[v,ι r]:=by simp[fC]
theorem xR:∀(a)(i j)(b:i<a.length),j<9->(eH a)[i*9+j]?=(a[i]).cells[j]?:=by
 intro a;induction a with
 |nil=>intro i j b;simp at b
 |cons y a d=>
  intro i j b c;have hy:y.cells.length=9:=rfl;cases i with
  |zero=>
   grind [eH]
  |succ i=>
   show(y.cells++eH a)[(i+1)*9+j]?=_;grind
theorem U7{W:World}{b k:Nat}{cs:List Value}{f e:Value}(h:W.rangeAt b 0 cs)(m:cs.length=k*2)(g:W.cell? (b,k*2)=some f)(n:W.cell? (b,k*2+1)=some e)(v0 v1):((W.setCell (b,k*2) v0).setCell (b,k*2+1) v1).rangeAt b 0 (cs++[v0,v1]):=by
 intro j u a;have c:∀i,i≠k*2->(⟨b,k*2,none⟩:Addr)≠⟨b,i,none⟩:=agM;have d:∀i,i≠k*2+1->(⟨b,k*2+1,none⟩:Addr)≠⟨b,i,none⟩:=agM;rw[cN];by_cases l:j<k*2
 ·rw[cW agE]at a;rw[World.cell?_setCell_other _ _ _ _ (d j agE),World.cell?_setCell_other _ _ _ _ (c j agE)];have:=h j u a;rwa [cN]at this
 exact aeF
theorem Kb{w w':World}{b o:Nat}{cs:List Value}(h:w.rangeAt b o cs)(k:w.grownBy w' none):w'.rangeAt b o cs:=λi v a=>k.cell (h i v a) agI
def EO(w:World)(g n:Nat)(I:List (Value×Int)->World->Prop)(e:Ending)(w':World):Prop:=
 ∃(ob:Nat) (ds:List (Value×Int)),e=.returned (.tuple #[.slice (some (ob,0)) n n,ι 0])/\ob=w.heap.size/\Live w' ob (n*2)/\ds.length=n/\I ds w'/\w'.rangeAt ob 0 (fC ds)/\CF w w' (λb _=>b=g)
theorem Tryz.Ze:(prog.info? 110).map (λi=>(i.zero,i.size,i.bytes))=some (some (.agg #[.slice none 0 0,ι 0]),2,32):=by kernel_rfl
theorem Nv(g A:Nat)(n cap)(l)(w)(I:List (Value×Int)->World->Prop)(hn:Hid (l.length=n))(ag:n<=16)(hv:∀j∈l,∃B m c,j.2.2=.slice B m c)(hj:w.rangeAt A 0 (eH l))(M:A<w.heap.size)(R:A≠g)(hg:g<w.heap.size)(K:I [] w)(hI:∀ds W W',I ds W->CF W W' (λb _=>b=w.heap.size)->I ds W')(step:∀ds W(h:ds.length<l.length),w.heap.size<W.heap.size->I ds W->Calls prog 149 #[.iface 247 (.pointer (some (g,0))),.agg (gI (l[ds.length]).1 (l[ds.length]).2.1 (l[ds.length]).2.2)] W λe w'=>∃Y G F r,e=.returned (.agg #[.slice Y G F,ι r])/\I (ds++[(.slice Y G F,r)]) w'/\CF W w' (λb _=>b=g)):
  Calls prog 118 #[.iface 247 (.pointer (some (g,0))),.slice (some (A,0)) n cap] w λe w'=>EO w g n I e w':=by
 obtain⟨i0,C,E,t,D⟩:=info_parts Tryz.Ze
 have q:=run_makeSlice (P:=prog) w 66 110 i0 _ underlying66 C E .i64 .i64 (n:Int) (n:Int) agE (Int.le_refl _) (by rw[t];omega) (by rw[D];omega) agE
 rw[t]at q
 simp only[Int.toNat_natCast]at q
 obtain⟨Z,hZ⟩:=aq (madeCells (Value.agg #[.slice none 0 0,ι 0]).cells (n*2))
 have N:Z.size=n*2:=by rw[<-hZ];exact size_madeCells _ _
 rw[hZ]at q
 obtain⟨L,s⟩:=aq (w.alloc (.cells Z 110))
 have G1:w.grownBy L none:=by rw[<-s];exact cx w _ none
 have Dc:Hid (Live L w.heap.size (n*2)):=by show Live _ _ _;rw[<-s,<-N];exact Live.new w _ _
 have ad:Hid (I [] L):=hI [] w L K (CF.bF G1 _)
 have sO:Hid (CF w L (λb _=>b=g)):=CF.bF G1 _
 rw[s]at q
 have HJ:=hid hj
 have HI:=hid hI
 have kH:=hid step
 have HV:=hid hv
 have Hn:=hid hn.o
 have Hg:=hid (And.intro M (And.intro R hg))
 clear hZ N s G1 hj hI step hv K hn M R hg C E t D
 have ah:¬ (16:Int)<(n:Int):=agE
 go_enter func118,ntmps118
 go_wp2
 go_loopw [7,8,17] (λ_ _ i wr=>∃(k:Nat) (ds:List (Value×Int)),k<=n/\i = ι k/\ds.length=k/\I ds wr/\Live wr w.heap.size (n*2)/\wr.rangeAt w.heap.size 0 (fC ds)/\CF w wr (λb _=>b=g)) (λ_ _ i _=>n-(intOf i).toNat)
 case atStart=>exact⟨0,[],cS _,rfl,rfl,ad.o,Dc.o,λj v hv=>by simp[fC]at hv,sO.o⟩
 case round=>
  obtain⟨k,ds,hk,rfl,Q,V,J,T,O⟩:=hrel;have f:=hid (And.intro Q (And.intro V (And.intro J (And.intro T O))));clear Q V J T O;by_cases X:k<n
  ·have hkl:ds.length<l.length:=(by rw[f.o.1,Hn.o];exact X);have S:k<l.length:=(by rw[Hn.o];exact X);obtain⟨⟨a,now,v⟩,hx⟩:∃x,l[k]=x:=⟨_,rfl⟩
   obtain⟨B,m,c,U⟩:=HV.o _ (ef S);rw[hx]at U;obtain rfl:v=.slice B m c:=U;have d:∀j u,((gI a now (.slice B m c)).toList)[j]?=some u->wr.cell? (A,k*9+j)=some u:=λj u hu=>by
    have aa:j<9:=(cM.1 hu).1;have h:=(f.o.2.2.2.2.range HJ.o (λ_ _ e=>Hg.o.2.1 e)) (k*9+j) u (by rw[xR l k j S aa,hx];exact hu);rwa [cN]at h
   have e0:wr.cell? (A,k*9)=some (ι a.kind):=d 0 _ rfl;have e1:=d 1 _ rfl;have e2:=d 2 _ rfl;have e3:=d 3 _ rfl;have e4:=d 4 _ rfl;have e5:=d 5 _ rfl;have e6:=d 6 _ rfl;have e7:=d 7 _ rfl;have e8:=d 8 _ rfl;have p:=hid (cx wr (.cells (gI a now (.slice B m c)) 194) none);have y:=kH.o ds _ hkl (fN f.o.2.2.1.lt p.o.size) (HI.o ds wr _ f.o.2.1 (CF.bF p.o _));have H:l[ds.length]=(a,now,.slice B m c):=(by rw[<-hx];congr 1;exact f.o.1);rw[H]at y;have HD:=hid y;have mU:(k:Int)<(n:Int):=agE;have ai:(0:Int)<=(k:Int):=agE;clear y H d hx hkl;go_wp2_with (first|(go_at_call 149;refine HD.o.mono ?_;clear HD;rintro e w2 ⟨Y,G,F,r,rfl,P2,C2⟩;have V3:=hid P2;have yL:=hid C2;have z:=(f.o.2.2.1.grown p.o).cf C2;obtain⟨d0,q0⟩:=cA.1 (z.some (k*2) agE);obtain⟨d1,q1⟩:=cA.1 (z.some (k*2+1) agE);have f0:=z.frozen (k*2);have f1:=z.frozen (k*2+1);have ae:=hid z;clear P2 C2 z))
   go_roundw
   case rel=>
    have hS:CF w2 ((w2.setCell (w,k*2) (.slice Y G F)).setCell (w,k*2+1) (ι r)) (λb _=>b=w.heap.size):=((CF.refl w2 (λb _=>b=w.heap.size)).setCell w.heap.size (k*2) _ (λ_=>rfl)).setCell w.heap.size (k*2+1) _ (λ_=>rfl);have af:=(yL.o.range (Kb (f.o.2.2.2.1) p.o) (λ_ _ e=>by have:=Hg.o.2.2;omega))
    refine⟨k+1,ds++[(.slice Y G F,r)],by omega,by go_num,by simp[f.o.1],HI.o _ _ _ V3.o hS,ae.o.cf hS,?_,?_⟩
    ·rw[BV];exact U7 af (by rw[sI,f.o.1]) q0 q1 _ _
    ·exact((f.o.2.2.2.2.trans (CF.bF p.o (λb _=>b=g)) (λ_ _ _ e=>e)).trans yL.o (λ_ _ _ e=>e)).trans hS (λ_ _ hb e=>by omega)
   case measure=>simp[intOf];omega
  ·have ab:k=n:=agE;subst ab;go_wp2;go_ret2;exact⟨_,ds,rfl,rfl,f.o.2.2.1,f.o.1,f.o.2.1,f.o.2.2.2.1,f.o.2.2.2.2⟩
end Go.Proofs.YtlfifnpjeangmaaGreatDoor
