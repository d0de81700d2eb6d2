import Derived.Test.YticfhckmhcaigaaGreatDoorGEBRep
namespace Go.Proofs.YticfhckmhcaigaaGreatDoor
set_option maxHeartbeats 20000000
open Proofs.Tryz Go.RowKit
set_option maxRecDepth 100000
variable {p:Prop}
theorem yn(h:p:=by have:=(aa sV HG7).size;omega):p:=h
theorem yp(h:p:=by rw[HMs.2,<-Hdl];exact hi):p:=h
variable {base wb:Nat}
theorem Tryz.QR:(prog.info? 192).map (·.size)=some 34:=by kernel_rfl
abbrev Bo:Array Value:=#[Y 0,ε,O 0,Y 0,Y 0,Y 0,Y 0,Y 0,ε,Y 0,ε,ε,Y 0,Y 0,Y 0,Y 0,Y 0,Y 0,Y 0,Y 0,Y 0,O 0,ε,Y 0,Y 0,Y 0,Y 0,Y 0,Y 0,ε,Y 0,Y 0,Y 0,Y 0]
theorem Tryz.agd:(prog.info? 194).map (λi=>(i.zero,i.size,i.bytes))=some (some (.agg #[Y 0,ε,O 0,Y 0,Y 0,Y 0,Y 0,Y 0,σ]),9,96):=by kernel_rfl
theorem Tryz.an5(w):(binOp .eql 37 σ σ).run prog w=.ok (.bool true) w:=by kernel_rfl
theorem Tryz.an6(w):(binOp .eql 66 σ σ).run prog w=.ok (.bool true) w:=by kernel_rfl
theorem QS(t:lD):t.cells.length=34/\∀v∈t.cells,v.oneCell'=true:=by
 refine⟨rfl,?_⟩;intro v a;simp[lD.cells,qH.cells]at a;rcases a with rfl|rfl|rfl|rfl|rfl|rfl|rfl|rfl|rfl|rfl|rfl|rfl|rfl|rfl|rfl|rfl|rfl|rfl|rfl|rfl|rfl|rfl|rfl|rfl|rfl|rfl|rfl|rfl|rfl|rfl|rfl|rfl|rfl|rfl<;>rfl
theorem Il(t:lD)(i:Nat)(v)(h:t.a.cells.toList[i]?=some v):t.cells[i]?=some v:=by
 unfold lD.cells;rw[cX (cM.1 h).1];exact h
theorem S6(a)(b)(u)(i:Nat)(v)(h:a.cells.toList[i]?=some v):(gT a b u).toList[i]?=some v:=by
 have e:(gT a b u).toList=a.cells.toList++[Y b,u]:=rfl;rw[e,cX (cM.1 h).1];exact h
theorem QT(t:lD)(i)(v)(h:t.ask.cells[i]?=some v):t.cells[9+i]?=some v:=by
 unfold lD.cells;rw[dr (by show 7<=9+i;omega),dr (by show 2<=9+i-7;omega)];rw[show 9+i-(t.a.cells.toList).length-([Value.int .i64 t.now,.string ⟨t.s.toArray⟩]).length=i from by show 9+i-7-2=i;omega];exact h
theorem ac5(wr:World)(T:lD):∃a,a=(wr.alloc (.cells Bo 192)).setCells wr.1.size 0 T.cells/\(storeCells ⟨wr.1.size,0,none⟩ T.cells).run prog (wr.alloc (.cells Bo 192))=.ok () a/\wr.grownBy a none/\∀i v,T.cells[i]?=some v->a.c wr.1.size i=some v:=by
 have a:=QS T;have b:b9 (wr.alloc (.cells Bo 192)) wr.1.size 34:=b9.new wr Bo 192;refine⟨_,rfl,dZ (P:=prog) T.cells b (by rw[a.1];exact cA _) a.2,fK wr.1.size (cA _) T.cells 0 _ (cy wr _ none),λi v d=>?_⟩;have h:=World.rangeAt_setCells_same (wr.alloc (.cells Bo 192)) wr.1.size 0 T.cells (b.there 0 _ (by rw[a.1];omega)) i v d;rwa [cR]at h
theorem S5(a)(b)(x)(n c):∀u∈(gT a b (.slice x n c)).toList,u.oneCell'=true:=by
 intro u d;simp at d;rcases d with rfl|rfl|rfl|rfl|rfl|rfl|rfl|rfl|rfl<;>rfl
theorem LD(h:p:=by
 rw[<-HMs.1]at hm
 obtain⟨y,hy,rfl⟩:=List.mem_map.1 hm
 have o:=qw y.t (by
  have h:=HJ.1.tk
  rw[DV,cW (by rw[hnt];exact cA _)]at h
  rw[<-h]
  exact eS hy)
 exact⟨o.bH,o.aD,o.ae,by have:=o.name;show y.t.a.name.length<=_;omega,o.now⟩):p:=h
theorem I3(h:p:=by
 have h:=HJ.1.tk
 rw[DV,cW (by rw[hnt];exact cA _)]at h
 have h2:(xs.map LJ.t)[j]?=ts[j]?:=by rw[h]
 rw[eJ,hx,cN hjt]at h2
 injection h2 with h2
 exact h2.symm):p:=h
theorem QU(d:BW true)(N k A xb)(dp)(C)(rg)(M)(sv)(kl)(cs)(ta)(l tc)(ts)(w)(hk:d.qs[k]?=some ⟨A,xb,dp,C,rg,M,M,sv,kl⟩)(kk:cs[40]?=some (.slice ta l tc))(hnt:Hid (ts.length=l))(px:l<=1048576)(lp:qh w ta ts)(hc:∀b Q,ta=some ⟨b,Q,none⟩->0<ts.length->b<base)(bm:∀t∈ts,t.Ok)(hM:dK M N)(kh:1<=N)(hN:N+16<4611686018427387904)(gN:kl.length+16<=1073741824)(la:((d.le 0).length+16)*112<=140737488355328)(lb:((d.le 3).length+1)*112<=140737488355328)(hI:jS base wb d w):Calls prog 40 #[π wb 0,.agg cs,π A 0] w λe w'=>oJ base wb 16 d w e w' (λqs=>∃p',qs=d.qs.set k p'/\p'.pb=A/\p'.N=p'.M/\dK p'.M (N+16)/\p'.kl.length<=kl.length+16):=by
 obtain⟨ij,ku,kv,kx,kz⟩:=info_parts Tryz.agd
 obtain⟨is,oq,pe,pf,ph⟩:=info_parts Tryz.U0
 obtain⟨X,hW0⟩:=aw (w.alloc (.cells cs 48))
 have G0:w.grownBy X none:=tB
 have s0:X.1.size=w.1.size+1:=vl
 have hz:X.cell? (F w.1.size 40)=some (.slice ta l tc):=by rw[hW0,World.cell?_alloc_at (hn:=rfl)];exact kk
 have hp:=hI.part hk
 have HP:Hid (∀V,X.grownBy V none->∀j,QD.C true ⟨A,xb,dp,C,rg,M,M,sv,kl⟩ j V):=λV g j=>QD.loc (hp j) (λb B=>(aa G0 g).block b (QD.lt (hp j) B) Z)
 have HT:Hid (∀V,X.grownBy V none->qh V ta ts):=λV g=>lp.below (uB (aa G0 g))
 have HI:=I (cZ hI hk)
 have qw:=I bm
 have HM:=I (cZ hM (cZ kh hN))
 have HL:=I (cZ gN (cZ la lb))
 have sV:=I G0
 have Y7:=I hc
 have nh:=I (hM.aC.mono (m:=4611686018427387904) G)
 have jt:=I hz
 clear hp hI hk bm hM kh hN gN la lb lp hc kk G0 hz
 go_in
 go_wp2
 rw[<-hW0]
 clear hW0
 go_loopw [7,8,9,10,11,12] (λjv hv i _ _ _ wr=>∃xs:List LJ,xs.length<=l/\i = Y xs.length/\JB X wr ts xs jv hv/\X.grownBy wr none) (λ_ _ i _ _ _ _=>l-(intOf i).toNat)
 case atStart=>exact⟨[],cS _,rfl,JB.nil X X ts,cC _ _⟩
 case round=>
  obtain⟨xs,hj,rfl,hJ,gw⟩:=hrel;obtain⟨j,hg⟩:=aq xs.length;have bk:wr.c w.1.size 40=some (.slice ta l tc):=bP gw jt.o;have HJ:=I (cZ hJ gw);have DV:=I hg;rw[hg]at hj⊢;clear hJ gw hg;by_cases af:j<l
  .have N7:(j:Int)<(l:Int):=G;have ju:(0:Int)<=(j:Int):=G;have hjt:j<ts.length:=(by rw[hnt];exact af);obtain⟨tb,Q,cp,cu,D⟩:=HT wr HJ.2 j hjt;obtain⟨T,hT⟩:=aq (ts[j]);rw[hT]at D;subst cp;have fv:Hid (ts[j]?=some T/\T.Ok):=⟨by rw[<-hT];exact cN hjt,qw T (by rw[<-hT];exact eh hjt)⟩
   have t1:=QS T;obtain⟨Y9,UH⟩:=aq T.cells;rw[UH]at D t1;have L1:b9 (wr.alloc (.cells Bo 192)) wr.1.size 34:=b9.new wr Bo 192;have bn:=dZ (P:=prog) Y9 L1 (by rw[t1.1];exact cA _) t1.2;have RA:=World.rangeAt_setCells_same (wr.alloc (.cells Bo 192)) wr.1.size 0 Y9 (L1.there 0 _ (by rw[t1.1];omega));have SZ:(prog.info? 192).map (·.size)=some Y9.length:=(by rw[Tryz.QR,t1.1]);obtain⟨W2,ao⟩:=aw ((wr.alloc (.cells Bo 192)).setCells wr.1.size 0 Y9);have GW:wr.grownBy W2 none:=(by rw[ao];exact fK wr.1.size (cA _) Y9 0 _ (cy wr _ none));rw[<-ao]at RA bn;have kf:Y9.length=34:=t1.1;have fb:=I (cZ GW RA);have nj:=I UH;have dn:=I ao;clear L1 RA GW t1 hT UH ao;go_wp2_with (first|(refine wpList_load_mid rfl 192 _ rfl tb (Q+j*34) rfl Y9 _ D underlying192 rfl SZ ?_)|(rw[<-dn];fail_if_success done))
   have bl:=aa HJ.2 fb.1;have q1:W2.c A 1=some (π C 0):=dm.cell (HP _ bl 0) 1;have RT:∀i v,T.cells[i]?=some v->W2.c wr.1.size i=some v:=λi v hv=>by
    have:=fb.2 i v (by rw[<-nj];exact hv);rwa [cR]at this
   have c8:W2.c wr.1.size 8=some (.string ⟨T.s.toArray⟩):=RT 8 _ rfl;have Dz:Hid (W2.rangeAt wr.1.size 9 T.ask.cells):=λi v hv=>RT (9+i) v (QT T i v hv);have bf:=I RT;have pn:=I bl
   have sU:Hid (Calls prog 31 #[π A 2,π C 0,.string ⟨T.s.toArray⟩,.agg T.ask.cells.toArray] (W2.drewN 1) λe w'=>∃r:E,e=.returned (.string ⟨r.toArray⟩)/\r.length<=300000000/\(W2.drewN 1).grownBy w' none):=
    Bi 0 C M rg T.ask T.s A 2 sv kl _ (HP _ (aN bl 1) 2) nh fv.2.ask fv.2.s (QD.said (HP _ (aN bl 1) 0) (HP _ (aN bl 1) 3))
   clear RT bn D SZ bl;go_wp2_with fail;refine wp_region_held_drew (S:=(λw'=>w'.c A 1=some (π C 0)/\w'.c wr.1.size 8=some (.string ⟨T.s.toArray⟩)/\w'.rangeAt wr.1.size 9 T.ask.cells)) f' ⟨q1,c8,Dz⟩ (λhHeld=>?_);refine mM 0 (π A 0) ?_;refine mM 1 (π A 0) ?_;refine mM 2 (π A 2) ?_;refine mM 3 (π A 0) ?_;refine mM 4 (π A 0) ?_;refine mM 5 (π A 1) ?_;refine mM 6 (π C 0) ?_;refine mM 7 (π wr.1.size 8) ?_;refine mM 8 (.string ⟨T.s.toArray⟩) ?_;refine mM 9 (π wr.1.size 9) ?_;refine eH 10 (.agg T.ask.cells.toArray) ?_ (hy:=yieldsIf_load_mid (by rfl) _ _ rfl wr.1.size 9 rfl T.ask.cells _ (λw' h=>h.2.2) underlying45 rfl Tryz.yE);refine mT (i:=11) rfl f' (λK hK=>?_);go_simp;refine sU.mono ?_;rintro e w3 ⟨r,rfl,ll,kd⟩;have g3:=pR kd;clear kd;have ih:Hid (w3.c A 1=some (π C 0)/\w3.c wr.1.size 8=some (.string ⟨T.s.toArray⟩)/\w3.rangeAt wr.1.size 9 T.ask.cells):=⟨g3.cell q1 Z,g3.cell c8 Z,iw Dz g3⟩
   go_wp2_with fail;refine hK.out _ _ ih (λhHeld=>?_);clear hK K;refine mM 12 (.string ⟨r.toArray⟩) ?_;refine wpAnyH_done f' ?_ _;have jr:r.length<=140737488351232:=G;have my:=I ll;have lh:=I (aa fb.1 g3);have nc:=I g3;clear ih hHeld sU Dz q1 c8 ll g3;go_wp2_with fail;refine(rT r _ _ jr).mono ?_;rintro e w4 ⟨al,cl,gB,rfl,hL,g4⟩;obtain⟨rn,av⟩:=aq r.length;have jc:=I av;have dt:=aa lh g4;have mj:Hid (lI wr w4 al cl r gB):=hL.anm lh.size;obtain⟨ah,ch,bz⟩:=bA HJ.1.hrow;obtain⟨aj,cj,cb⟩:=bA HJ.1.M4;rw[DV]at bz cb;subst bz cb;have pd:w4.ownsRow X.1.size 9 1 (.slice ah j ch) j (xs.map λx=>.string ⟨x.r.toArray⟩):=by
    have h:=(HJ.1.grown dt).hrow;rw[DV]at h;exact h
   have qe:X.1.size<=w4.1.size:=cE HJ.2.size dt.size;have cc:j+1<=maxLen:=lA;have ox:(j+1)*16<=140737488355328:=G;have Yl:(j+1)*96<=140737488355328:=G;have mu:Hid (∀i v,T.cells[i]?=some v->w4.c wr.1.size i=some v):=λi v hv=>g4.cell (nc.cell (bf i v hv) Z) Z;have nm:(Value.slice ah j ch).ownBlock≠some wr.1.size:=λe=>by have:=(HJ.1.hrow.lt _ e).2;omega
   have jx:=I dt;rw[av];clear hL dt g4 av jr bf;have mw:Hid (∀V,(w4.alloc (.cells #[.string ⟨r.toArray⟩] 9)).grownBy V (Value.slice ah j ch).ownBlock->V.ownsRow X.1.size 194 9 (.slice aj j cj) j (eX (xs.map LJ.Y8))):=λV gV=>by
    have h:=(HJ.1.grown jx).M4;rw[DV]at h;exact dh (h.alloc _) (λb B=>gV.block b (by rw[cG];have:=(h.lt b B).2;omega) (λe=>HJ.1.jh b B e.symm))
   have ot:=S5 T.a T.now al rn cl;go_wp2_with (first|(at_builtin;refine dN _ rfl (.tmp 54) (.tmp 56) 62 rfl X.1.size 9 is _ 1 16 underlying62 oq pe pf ph rfl H (.slice ah j ch) j _ rfl (pd.alloc _) ⟨w4.1.size,0,none⟩ 1 1 [.string ⟨r.toArray⟩] rfl rfl (gX w4 _ _) (by intro u hu;rw[eC.1 hu];rfl) G cc ox (by rw[cG];omega) ?_;intro qn J bb qI gr;obtain⟨pr,pz,np⟩:=bA bb;subst np;have Y6:=I (cZ bb (cZ qI gr));clear bb qI gr;have ix:Hid (∀i v,T.cells[i]?=some v->J.c wr.1.size i=some v):=(λi v hv=>Y6.2.1.cell (bP (cy w4 _ none) (mu i v hv)) (λe=>nm e.symm));have ai:J.rangeAt wr.1.size 0 T.a.cells.toList:=(λi v hv=>by rw[cR];exact ix i v (Il T i v hv));have e7:J.c wr.1.size 7=some (Y T.now):=ix 7 _ rfl;have et:J.ownsRow X.1.size 194 9 (.slice aj j cj) j (eX (xs.map LJ.Y8)):=mw _ Y6.2.1;have gr:X.1.size<=J.1.size:=(by have:=Y6.2.1.size;rw[cG]at this;omega))|(refine wpList_load_mid rfl 41 _ rfl wr.1.size 0 rfl T.a.cells.toList _ ai underlying41 rfl Tryz.uW ?_)|(at_builtin;refine dN _ rfl (.tmp 58) (.tmp 65) 190 rfl X.1.size 194 ij _ 9 96 underlying190 ku kv kx kz rfl H (.slice aj j cj) j _ rfl (et.alloc _) ⟨J.1.size,0,none⟩ 1 1 (gT T.a T.now (.slice al rn cl)).toList rfl rfl (gX J _ _) ot G cc Yl (by rw[cG];omega) ?_;intro pj w8 yQ VU kj;obtain⟨js,ax,gd⟩:=bA yQ;subst gd;have fc:=I (cZ yQ (cZ VU kj));clear yQ VU kj))
   go_roundw
   case rel=>
    have R:=HJ.1.push (x:=⟨T,al,cl,r,gB⟩) (w2:=w4) (by rw[DV];exact fv.1) HJ.2.size jx mj my (cy w4 _ none) (by rw[DV];exact Y6.1) Y6.2.1 Y6.2.2 (cy J _ none) (by rw[DV];show World.ownsRow _ _ _ _ _ _ (_++(gT T.a T.now (.slice al r.length cl)).toList);rw[jc];exact fc.1) fc.2.1 fc.2.2;exact⟨xs++[⟨T,al,cl,r,gB⟩],by rw[cF,eL,DV];omega,by rw[cF,eL,DV.o];go_num,R.1,R.2 HJ.2⟩
   case measure=>simp[intOf];omega
  .have ca:l=j:=G;subst ca;have N7:¬ (l:Int)<(l:Int):=G;obtain⟨ah,ch,bz⟩:=bA HJ.1.hrow;obtain⟨aj,cj,cb⟩:=bA HJ.1.M4;rw[DV]at bz cb;subst bz cb;have et:wr.ownsRow X.1.size 194 9 (.slice aj l cj) l (eX (xs.map LJ.Y8)):=by
    have h:=HJ.1.M4;rw[DV]at h;exact h
   have od:X.1.size<=wr.1.size:=HJ.2.size;have cc:l+1<=maxLen:=lA;have Yl:(l+1)*96<=140737488355328:=G;have jz:∀u∈VG,u.oneCell'=true:=H;go_wp2_with (at_builtin;refine dN _ rfl (.tmp 67) (.tmp 69) 190 rfl X.1.size 194 ij _ 9 96 underlying190 ku kv kx kz rfl H (.slice aj l cj) l _ rfl (et.alloc _) ⟨wr.1.size,0,none⟩ 1 1 VG rfl rfl (gX wr _ _) jz G cc Yl (by rw[cG];omega) ?_;intro pj w7 tH ks ki;obtain⟨js,ax,gd⟩:=bA tH;subst gd;have bp:=I (cZ tH (cZ ks ki));clear tH ks ki)
   obtain⟨jb,oa,hX,kt⟩:=HJ.1.last (c:=ax) (aj:=js) (cy wr _ none) (by rw[DV];exact bp.1) bp.2.1 (by rw[DV];exact bp.2.2);subst oa;have G7:=kt HJ.2;have q0:w7.c A 0=some (π xb 0):=dm.cell (HP _ G7 0) 0;have jj:Hid (∀b,b=xb\/Pl.blk dp=some b->b<w.1.size):=λb B=>QD.lt (HI.1.part HI.2 1) B;have mm:Hid (A≠xb):=λe=>by
    have h:=HI.1.one (4,k) (5,k) A ⟨_,HI.2,rfl⟩ ⟨_,HI.2,.inl e⟩;simp at h
   have ie:=I (UA X xs l jb ax N xb (.slice ah l ch) dp M (w7.drewN 1) (hX.kept (λ_ _ _=>rfl)) (HP _ (aN G7 1) 1) (λb B=>by have:=jj b B;omega) HM.1 HM.2.1 (Nat.le_of_lt HM.2.2) DV.o (λx hx=>qw.o x.t (by
    have h:=HJ.1.tk;rw[DV,cW (by rw[hnt];exact cA _)]at h;rw[<-h]
    exact eS hx)))
   have pk:l<=ax:=cE (fj _) (Lj bp.1).1;have HX:=I hX;have HG7:=I G7;clear hX kt G7 et od cc Yl jz bp N7;refine wp_region_held_drew (S:=(λw'=>w'.c A 0=some (π xb 0)/\True)) f' ⟨q0,trivial⟩ (λhHeld=>?_);refine eH 0 (π A 0) ?_;refine eH 1 (π A 0) ?_;refine eH 2 (π A 0) ?_;refine eH 3 (π xb 0) ?_;refine eH 4 (ς jb 0 (l+1) ax) ?_;refine eH 5 (.slice ah l ch) ?_;refine eH 6 (Y (l:Int)) ?_;refine eH 7 (ς jb 0 l ax) ?_;refine mT (i:=8) rfl f' (λK hK=>?_);go_simp;refine ie.mono ?_;rintro e w9 ⟨lv,ev,rfl,ht⟩;have B9:=ht.iE;clear ht;have iu:Hid (w9.c A 0=some (π xb 0)/\True):=⟨B9.1.cell q0 mm,trivial⟩
   have Y3:=I B9;clear B9;go_wp2_with fail;refine hK.out _ _ iu (λhHeld=>?_);clear hK K;refine eH 9 (.tuple #[lv,Y ev]) ?_;refine eH 10 lv ?_;refine eH 11 (Y ev) ?_;refine eH 12 lv ?_;refine eH 13 (Y ev) ?_;refine wpAnyH_done f' ?_ _;have U:Hid (w.1.size<X.1.size/\xb<w.1.size/\base<=xb/\base<=w.1.size):=⟨by omega,jj.o xb (.inl rfl),HI.1.base (5,k) xb ⟨_,HI.2,.inl rfl⟩,HI.1.room⟩
   have qb:Hid (JX X w9 xs jb (.slice ah l ch)):=HX.kept (λb h1 h2=>Y3.1.block b h2 (λo e=>by have:=U.o;omega));have x7:=qb.j7.1;have x8:=qb.j7.2;rw[DV]at x7 x8;have ib:Hid (w9.c w.1.size 40=some (.slice ta l tc)):=Y3.1.cell (bP HG7 jt) (λe=>by have:=U.o;omega)
   have jh:Hid (∀V,w9.1.size<=V.1.size->(∀b,b<base->V.1[b]?=w9.1[b]?)->qh V ta ts):=λV hs hV=>(HT w7 HG7).kept Y7 (cE Y3.1.size hs) (λb B=>by
    have:=U.o;have:=HG7.size
    rw[hV b B,Y3.1.block b G (λo e=>by omega)])
   have oz:(l:Int)<((l+1:Nat):Int):=G;have oy:(0:Int)<=(l:Int):=G;have pv:=Tryz.an5;clear ie iu hHeld q0;go_wp2;clear x7 x8 oz oy;go_loopw [15,16,17,18,19,20] (λo i _ _ _ _ wr=>∃j:Nat,j<=l/\i = Y j/\o=.bool true/\J2 X w9 wr xs jb j) (λ_ i _ _ _ _ _=>l-(intOf i).toNat)
   case atStart=>exact⟨0,cS _,rfl,rfl,J2.start qb⟩
   case round=>
    obtain⟨j,hj,rfl,rfl,h2⟩:=hrel;have H2:=I h2;clear h2;by_cases af:j<l
    .have N7:(j:Int)<(l:Int):=G;have py:(j:Int)<(l:Int)+1:=G;have ju:(0:Int)<=(j:Int):=G;have gx:j<xs.length:=(by rw[DV];exact af);obtain⟨x,hx⟩:∃x,xs[j]?=some x:=⟨_,cN gx⟩
     have hjt:j<ts.length:=(by rw[hnt];exact af);have cv:ts[j]=x.t:=by
      exact I3
     obtain⟨tb,Q,cp,cu,D⟩:=jh wr H2.f.size (λb B=>H2.low qb (by have:=U.o;omega)) j hjt;rw[cv]at D;subst cp;have hc:=Y7 tb Q rfl G;obtain⟨B,rfl,c1,qk,oj⟩:=H2.had qb DV hx;have bk:wr.cell? (F w.1.size 40)=some (ς tb Q l tc):=by
      rw[World.cell?_of_block (w:=w9) (w':=wr) (a:=⟨w.1.size,40,none⟩) (H2.o.low qb.o U.o.1)];exact ib.o
     have dq:=H2.Y8 qb hx;obtain⟨rn,av⟩:=aq x.r.length;rw[av]at dq;have c8:wr.c jb (j*9+8)=some (.slice x.a rn x.c):=dq 8 _ rfl;have ea:x.g≠some jb:=λe=>(qb.Yn x (eE hx) jb e).1 rfl;have oi:x.g≠some B:=oj x (eE hx);have jc:=I av;have mc:=I (rU x.r rn x.a x.c x.g X (wr.drewN 1) (I av) (by have:=(qb.tq x (eE hx)).2;omega) ((H2.ln j x (cA _) hx).grown (aN (cC _ none) 1)));have ka:=I dq;have jf:=I D;have Hx:=I hx;have po:=I cu;clear dq D hx cv av cu;go_wp2_with fail;refine wp_region_held_drew (S:=(λw'=>w'.c jb (j*9+8)=some (.slice x.a rn x.c)/\w'.c B j=some (.string ⟨x.r.toArray⟩))) f' ⟨c8,c1⟩ (λhHeld=>?_);refine eH 0 (ς jb 0 (l+1) ax) ?_;refine eH 1 (Y (j:Int)) ?_;refine eH 2 (π jb (j*9)) ?_;refine eH 3 (π jb (j*9+8)) ?_;refine eH 4 (.slice x.a rn x.c) ?_;refine eH 5 (ς B 0 l ch) ?_;refine eH 6 (Y (j:Int)) ?_;refine eH 7 (π B j) ?_;refine eH 8 (.string ⟨x.r.toArray⟩) ?_;refine mT (i:=9) rfl f' (λK hK=>?_);go_simp;refine mc.mono ?_;rintro e w2 ⟨rfl,kc⟩;have g2:=pR kc;clear kc;have J6:Hid (w2.c jb (j*9+8)=some (.slice x.a rn x.c)/\w2.c B j=some (.string ⟨x.r.toArray⟩)):=⟨g2.cell c8 (λe=>ea e.symm),g2.cell c1 (λe=>oi e.symm)⟩
     go_wp2_with fail;refine hK.out _ _ J6 (λhHeld=>?_);clear hK K;refine eH 10 (.bool true) ?_;refine wpAnyH_done f' ?_ _;have hf:∀b,b<X.1.size->x.g≠some b:=λb B e=>by have:=((qb.tq x (eE Hx)).1.Yo b e).1;omega
     have lr:tb<X.1.size:=(by have:=U.o;omega);have ra:w2.rangeAt jb (j*9) x.t.a.cells.toList:=λi v hv=>g2.cell (ka i v (S6 _ _ _ i v hv)) (λe=>ea e.symm);have rt:w2.rangeAt tb (Q+j*34) x.t.a.cells.toList:=λi v hv=>g2.cell (jf i v (Il x.t i v hv)) (λe=>hf tb lr e.symm);have gg:w2.c w.1.size 40=some (ς tb Q l tc):=g2.cell bk (λe=>hf _ U.1 e.symm);have n7:w2.c jb (j*9+7)=some (Y x.t.now):=g2.cell (ka 7 _ rfl) (λe=>ea e.symm);have t7:w2.c tb (Q+j*34+7)=some (Y x.t.now):=g2.cell (jf 7 _ rfl) (λe=>hf tb lr e.symm);have l2:b9 w2 jb ((l+1)*9):=(by have h:=VC H2.lv g2 ea;rwa [DV]at h);have GA:=cy w2 (.cells x.t.a.cells 41) none;have nr:=bP GA gg;have ly:=iw rt GA;have nb:=I g2;have df:=I (cZ n7 (cZ t7 (cZ l2 gg)));clear J6 hHeld bk c8 c1 g2 n7 t7 l2 rt;go_upto_region 20 with(first|(refine wpList_load_mid rfl 41 _ rfl jb (j*9) rfl x.t.a.cells.toList _ ra underlying41 rfl Tryz.uW ?_)|(refine wpList_load_mid rfl 41 _ rfl tb (Q+j*34) rfl x.t.a.cells.toList _ ly underlying41 rfl Tryz.uW ?_))
     refine Ef (λV=>w2.grownBy V none/\V.rangeAt w2.1.size 0 x.t.a.cells.toList/\V.rangeAt (w2.1.size+1) 0 x.t.a.cells.toList) ⟨aa (cy w2 _ none) (cy _ _ none),iw (aS w2 x.t.a.cells _) (cy _ _ none),by have h:=aS (w2.alloc (.cells x.t.a.cells 41)) x.t.a.cells 41;rwa [cG]at h⟩ ?_;rintro V ⟨gV,r1,r2⟩;have a0:=r1 0 _ rfl;have a1:=r1 1 _ rfl;have a2:=r1 2 _ rfl;have a3:=r1 3 _ rfl;have a4:=r1 4 _ rfl;have a5:=r1 5 _ rfl;have a6:=r1 6 _ rfl;have b0:=r2 0 _ rfl;have b1:=r2 1 _ rfl;have b2:=r2 2 _ rfl;have b3:=r2 3 _ rfl;have b4:=r2 4 _ rfl;have b5:=r2 5 _ rfl;have b6:=r2 6 _ rfl;have n7:=bP gV df.1;have t7:=bP gV df.2.1;have bk:=bP gV df.2.2.2;have jl:=I gV;clear r1 r2 ra ly GA gg nr gV;go_wp2_with fail;clear a0 a1 a2 a3 a4 a5 a6 b0 b1 b2 b3 b4 b5 b6;go_quiet (fail)
     have L:=(df.2.2.1).grown (aN jl nq);obtain⟨⟨d0,q0⟩,⟨d1,q1⟩,⟨d2,q2⟩,⟨d3,q3⟩,⟨d4,q4⟩,⟨d5,q5⟩,⟨d6,q6⟩,⟨d7,q7⟩,⟨d8,q8⟩,f0,f1,f2,f3,f4,f5,f6,f7,f8⟩:=Yv (o:=j*9) L G;clear n7 t7 bk L;go_wp2;go_roundw
     case rel=>exact⟨j+1,by omega,by go_num,rfl,H2.next qb.o Hx.o nb.o (aN jl.o nq) (V' _ _ _ _ _ _ _ _ _ _ _ _)⟩
     case measure=>simp[intOf];omega
    .have ca:l=j:=G;subst ca;have N7:¬ (l:Int)<(l:Int):=G;by_cases qd:16<l
     .have ns:(16:Int)<(l:Int):=G;obtain⟨h9,e7,e8,g9⟩:16<l/\ev=7/\lv = σ/\w7.grownBy w9 none:=by
       rcases Y3.2 with⟨h,_⟩|h
       .omega
       .exact h
      subst e7 e8;have pw:=Tryz.an6;go_wp2;go_ret;refine⟨rfl,d,(Us.start HI.1).far ((iO.mY (aa sV (aa HG7 g9)) (λ_=>False)).trans (H2.f.mono (λb _ e=>.inr (by have:=qb.new b e;have:=U.o;omega)))) (λ_ e=>e.elim),⟨rfl,rfl⟩,⟨_,(KF HI.2).symm,rfl,rfl,HM.1.mono G,by show kl.length<=_;omega⟩,λt=>by omega⟩
     .have ns:¬ (16:Int)<(l:Int):=G;obtain⟨h9,e7,e8,ds,ec,ko,hQ,kr⟩:l<=16/\ev=0/\lv = ς w7.1.size 0 l l/\∃ds,b9 w9 w7.1.size (l*2)/\ds.length=l/\QI w7 xb dp M (xs.map LJ.m) ds w9/\w9.rangeAt w7.1.size 0 (fG ds):=by
       rcases Y3.2 with h|⟨h,_⟩
       .exact h
       .omega
      subst e7 e8;go_wp2;obtain⟨yu,nu⟩:∃w',w'=wr:=⟨wr,rfl⟩
      subst nu;obtain⟨ms,en⟩:=aq (xs.map LJ.m);rw[en]at hQ;have yP:ms.length=l:=(by rw[<-en,cU];exact DV);obtain⟨ni,gp,kq⟩:=hQ.bU;rw[ko,cW G]at gp;obtain⟨ps,ln,lo⟩:=hQ.said;have fx:=Ig (p:=⟨A,xb,dp,C,rg,M,M,sv,kl⟩) HI.1 HI.2 (aa sV HG7) Y3.1 gp kq H2.f (λb e=>by have:=qb.new b e;have:=U.o;omega);obtain⟨M2,gm⟩:=aq (jo M ms);rw[gm]at fx;obtain⟨d2,az⟩:∃d2:BW true,d2=(d.put k ⟨A,xb,ni,C,rg,M2,M,sv,kl⟩):=⟨_,rfl⟩
      have HU:Hid (Us base wb w (j' wb d) d2 yu/\∀b,j' wb d2 b->b<w.1.size):=(by rw[az];exact fx);have gN:k<d.qs.length:=(cM.1 HI.2).1;have jn:Hid (d2.qs[k]?=some ⟨A,xb,ni,C,rg,M2,M,sv,kl⟩):=(by rw[az];exact dj gN);have bt:=I az;have fi:=I (cZ ln lo);have bc:Hid (b9 yu w7.1.size (l*2)/\yu.rangeAt w7.1.size 0 (fG ds)/\w7.1.size<yu.1.size):=by
       have B:yu.1[w7.1.size]?=w9.1[w7.1.size]?:=H2.f.block _ ec.lt (λe=>by
        have h1:=HX.new _ e
        omega)
       exact⟨Co ec B,λi v hv=>(World.cell?_of_block (a:=⟨w7.1.size,0+i,none⟩) B).trans (kr i v hv),by have:=ec.lt;have:=H2.f.size;omega⟩
      have HMs:=I (cZ en yP);have ml:=I gm;have Hdl:=I ko;clear fx az ln lo gp kq hQ en gm ec kr h9 gN;go_loopw [15,21,22,23,24] (λo i _ _ _ wr=>∃j:Nat,j<=l/\i = Y j/\o=.bool true/\L3 base wb yu d2 k A xb ni C M2 M ms kl.length j wr) (λ_ i _ _ _ _=>l-(intOf i).toNat)
      case atStart=>
       refine⟨0,cS _,rfl,rfl,rg,sv,kl,?_,cA _⟩;have h:=Us.start HU.1.sep;have e:((d2.put k ⟨A,xb,ni,C,rg,M2,jo M (ms.take 0),sv,kl⟩):BW true)=d2:=by
        show BW.mk d2.pv d2.qv (d2.qs.set k ⟨A,xb,ni,C,rg,M2,M,sv,kl⟩) d2.lv d2.le=d2;rw[KF jn.o]
       rw[e];exact h
      case round=>
       obtain⟨j,hj,rfl,rfl,ad,an,ag,u3,kb⟩:=hrel;have pU:=I (cZ u3 kb);clear u3 kb;by_cases af:j<l
       .have N7:(j:Int)<(l:Int):=G;have ju:(0:Int)<=(j:Int):=G;have gx:j<xs.length:=(by rw[DV];exact af);obtain⟨x,hx⟩:∃x,xs[j]?=some x:=⟨_,cN gx⟩
        have eb:j<ms.length:=(by rw[HMs.2];exact af);have gz:ms[j]=x.m:=by
         have h:ms[j]?=some x.m:=(by rw[<-HMs.1,eJ,hx];rfl);exact(cM.1 h).2
        have hjt:j<ts.length:=(by rw[hnt];exact af);have cv:ts[j]=x.t:=by
         exact I3
        have dv:∀b,b<yu.1.size->w.1.size<=b\/b<base->wr.1[b]?=yu.1[b]?:=λb h1 h2=>(pU.1.free h1 (λe=>by
         rcases h2 with q|q
         .have:=HU.2 b e;omega
         .have:=(HU.1.sep.low e).1;omega)).2
        have ho:=HU.1.uE.size;have s9:=H2.f.size;have hd:=U.o;obtain⟨tb,Q,cp,cu,D⟩:=jh wr (cE s9 pU.1.uE.size) (λb B=>by rw[dv b G (.inr B),H2.low qb.o G]) j hjt;rw[cv]at D;subst cp;obtain⟨W2,ao,bn,gW,gq⟩:=ac5 wr x.t;have bk:wr.cell? (F w.1.size 40)=some (ς tb Q l tc):=by
         rw[World.cell?_of_block (w:=yu) (w':=wr) (a:=⟨w.1.size,40,none⟩) (dv w.1.size (by have:=qb.o.lv.lt;have:=qb.o.jl;omega) (.inl (cA _))),World.cell?_of_block (w:=w9) (w':=yu) (a:=⟨w.1.size,40,none⟩) (H2.o.low qb.o (b:=w.1.size) G)];exact ib.o
        have kg:∀i v,(fG ds)[i]?=some v->W2.c w7.1.size i=some v:=λi v hv=>by
         refine bP gW ?_;have h:=bc.2.1 i v hv;rw[cR]at h;rw[World.cell?_of_block (w:=yu) (w':=wr) (a:=⟨w7.1.size,i,none⟩) (dv _ bc.o.2.2 (.inl yn))];exact h
        obtain⟨N3,YY⟩:=aq (jo M (ms.take j));have Tf:=I YY;have bx:k<d2.qs.length:=(cM.1 jn).1;have bs:Hid (Us base wb yu (j' wb d2) (d2.put k ⟨A,xb,ni,C,ad,M2,N3,an,ag⟩) W2):=(by have h:=pU.1.grown gW;rw[YY]at h;exact h);have ha:=bs.sep.part (k:=k) (dj bx);have bq:Hid (∀m∈ms,m.Ok):=λm hm=>by
         exact LD
        have Za:Hid (dK N3 (N+16)):=by
         have h:=HM.1.jo HM.2.1 (ms.take j) (λm hm=>bq m (List.mem_of_mem_take hm));rw[YY]at h;exact h.mono (by rw[ew];omega)
        have fl:=I (fi.1 j (by rw[Hdl];exact af) eb);rw[YY,gz]at fl;have dc:=I (xO ds j (by rw[Hdl];exact af));have q1:W2.c A 1=some (π C 0):=dm.cell (ha 0) 1;have lk:¬ ad.foot C A:=λe=>by
         have h:=bs.sep.one (0+4,k) (2+4,k) A ⟨_,dj bx,rfl⟩ ⟨_,dj bx,e⟩;simp at h
        have cd:∀b,w.1.size<=b->b<yu.1.size\/b=wr.1.size->¬ ad.foot C b:=λb h1 h2 e=>by
         have hh:j' wb (d2.put k ⟨A,xb,ni,C,ad,M2,N3,an,ag⟩) b:=⟨(2+4,k),_,dj bx,e⟩
         have h3:b<wr.1.size:=by
          have h:=pU.1.sep;rw[YY]at h;exact(h.low hh).2
         rcases bs.own b hh with q|q
         .have:=HU.2 b q;omega
         .omega
        obtain⟨Y9,UH⟩:=aq x.t.cells;rw[UH]at D bn ao;have kf:Y9.length=34:=(by rw[<-UH];rfl);have SZ:(prog.info? 192).map (·.size)=some Y9.length:=(by rw[Tryz.QR,kf]);have k0:W2.c wr.1.size 0=some (Y x.t.a.kind):=gq 0 _ rfl;have dn:=I ao;have bf:=I gq;have cz:=I kg;have Hx:=I (cZ hx (cZ gz (cZ eb bx)));have ga:=I ha;have nd:=I gW;clear ao gq kg hx gz cv ha gW YY dv UH cu hd;by_cases ba:x.t.a.kind=0
        .have ov:(x.t.a.kind==0)=true:=(by rw[ba];rfl);obtain⟨B,nz,c1,_⟩:=H2.had qb DV Hx.1;subst nz;have qg:X.1.size<=B:=(qb.hrow.lt B rfl).1;have k7:W2.c wr.1.size 7=some (Y x.t.now):=bf 7 _ rfl;have gl:W2.cell? (F B j)=some (.string ⟨x.r.toArray⟩):=by
          refine bP nd ?_;rw[World.cell?_of_block (w:=yu) (w':=wr) (a:=⟨B,j,none⟩) (pU.o.1.free (World.block_lt_of_cell? yu _ c1) (λe=>by have:=HU.o.2 B e;have:=U.o;omega)).2];exact c1
         have bm:=bq _ (eh eb);rw[Hx.2.1]at bm;have pa:=(qb.tq x (eE Hx.1)).2;have YE:Hid (x.r.length<=140737488355328):=(by show _<=_;omega);obtain⟨R,hR⟩:=aq (dF N3 x.t.now x.r);have ng:Hid (R.1.length<=900):=(by show _<=_;rw[<-hR];exact yA Za _ _);have mv:Hid (dK R.2 (N+16)):=(by show dK _ _;rw[<-hR];exact Za.answer _ _);have nv:Hid (N3.aI.length<=1000):=by
          have h:=YA (M:=M) (HP _ HG7 1).1.bU.few (ms.take j);rw[Tf]at h;show _<=_;omega
         have XV:Hid (∀(W:World)(b5 ab:Nat),W2.grownBy W none->x.r.length<=ab->ab<=maxLen->At W (some ⟨b5,0,none⟩) x.r->Calls prog 33 #[π C 0,Y x.t.now,ς b5 0 x.r.length ab] W λe w'=>∃o,e=.returned o/\vV 0 C ad R W w' o):=by
          intro W b5 ab gW Bv oe ob;rw[<-hR];exact Dr 0 C N3 ad x.t.now x.r _ W ((ga 2).keep (λb B=>gW.block b (QD.lt (ga 2) B) Z)) (Za.aC.mono (Nat.le_of_lt HM.2.2)) (cS _) ⟨some ⟨b5,0,none⟩,ab,rfl,Bv,oe,(λe=>by cases e),ob⟩ YE bm.now Za.ax Za.Jo Za.aL nv Za.times
         obtain⟨nn,lf⟩:=aq R.1.length;have Ko:=I lf;have mx:=I hR;have bu:=I ba;have cn:=fl.o;rw[Ep ba]at cn;have da:Hid (ds[j].2=0/\fA w9 ds[j].1 (ps j) R.1/\Pl.fresh (w7.1.size+1) (ps j)):=⟨cn.1,by rw[<-hR];exact cn.2.1,cn.2.2.1⟩
         clear pa bm ba hR lf cn c1;go_wp2_with (first|(refine wpList_load_mid rfl 192 _ rfl tb (Q+j*34) rfl Y9 _ D underlying192 rfl SZ ?_)|(rw[<-dn];fail_if_success done))
         refine wp_region_held_drew (S:=(λw'=>w'.c A 1=some (π C 0)/\w'.c wr.1.size 7=some (Y x.t.now)/\w'.c B j=some (.string ⟨x.r.toArray⟩))) f' ⟨q1,k7,gl⟩ (λhHeld=>?_);refine mM 0 (π A 0) ?_;refine mM 1 (π A 0) ?_;refine mM 2 (π A 1) ?_;refine mM 3 (π C 0) ?_;refine mM 4 (π wr.1.size 7) ?_;refine mM 5 (Y x.t.now) ?_;refine mM 6 (ς B 0 l ch) ?_;refine mM 7 (Y (j:Int)) ?_;refine mM 8 (π B j) ?_;refine mM 9 (.string ⟨x.r.toArray⟩) ?_;refine mT (i:=10) rfl f' (λK hK=>?_);refine Eq.mpr (dQ f') ?_;refine Dm _ _ 9 37 rfl 5 underlying9 underlying37 underlying5 x.r rfl YE ?_;intro b5 ab w5 Bv Cq ql ke;have g5:=pR ke;clear ke;have T9:=I (XV w5 b5 ab g5 Bv Cq ql);have bo:Hid (w5.c A 1=some (π C 0)/\w5.c wr.1.size 7=some (Y x.t.now)/\w5.c B j=some (.string ⟨x.r.toArray⟩)):=⟨g5.cell q1 Z,g5.cell k7 Z,g5.cell gl Z⟩
         have dd:=I g5;clear Bv Cq ql q1 k7 gl g5;refine hK.out _ _ bo (λhHeld=>?_);clear hK K;try simp only[Act.put,ei,eo,eM]
         refine mT (i:=11) rfl f' (λK hK=>?_);go_simp;refine T9.mono ?_;rintro e J ⟨o6,rfl,A6⟩;obtain⟨am,cm,ld⟩:=A6.1.has.shape;rw[Ko]at ld;subst ld;have Nf:=I A6;have lx:some wr.1.size≠some C:=λe=>cd wr.1.size (by have:=pU.1.uE.size;have:=HU.1.uE.size;omega) (.inr rfl) (.inl nF);have nw:some A≠some C:=λe=>lk (.inl nF);have om:some B≠some C:=λe=>cd B (by have:=U.o;omega) (.inl (by have h:=(H2.f.size);have:=(qb.hrow.lt B rfl).2;omega)) (.inl nF);have im:Hid (J.c A 1=some (π C 0)/\J.c wr.1.size 7=some (Y x.t.now)/\J.c B j=some (.string ⟨x.r.toArray⟩)):=⟨A6.2.2.cell bo.1 nw,A6.2.2.cell bo.2.1 lx,A6.2.2.cell bo.2.2 om⟩
         clear A6;go_wp2_with fail;refine hK.out _ _ im (λhHeld=>?_);clear hK K;refine mM 12 (.slice am nn cm) ?_;refine wpAnyH_done f' ?_ _;have mz:=I (bs.grown dd);obtain⟨hl,u6⟩:=L3.said mz.o Hx.2.2.2 Nf.o;have fz:=I u6;have lj:some w7.1.size≠some C:=λe=>cd w7.1.size yn (.inl bc.2.2) (.inl nF);have x0:J.c w7.1.size (j*2)=some ds[j].1:=Nf.2.2.cell (bP dd (cz _ _ dc.1)) lj;have x1:J.c w7.1.size (j*2+1)=some (Y ds[j].2):=Nf.2.2.cell (bP dd (cz _ _ dc.2)) lj;rw[da.1]at x1;have ff:Hid (fA J ds[j].1 (ps j) R.1):=by
          refine(da.2.1.uE H2.f (λq hq e=>?_)).uE u6.uE (λq hq e=>?_)
          .have h1:=HX.new _ e;have h2:=da.2.2 q hq;omega
          .have h1:=HU.2 _ e;have h2:=da.2.2 q hq;have h3:=(aa sV HG7).size;omega
         obtain⟨ar,cr,gu,_⟩:=ff.shape;rw[Ko]at gu;rw[gu]at x0 ff;have je:At J ar R.1:=ff.at' Ko;obtain⟨pt,qc,e6,_,_,_,mH⟩:=Nf.1.has;injection e6 with e61 e62 e63;rw[<-e61]at mH;have r1:∀n,(convert 37 9 (.slice ar nn cr)).run prog (J.drewN n)=.ok (.string ⟨R.1.toArray⟩) (J.drewN n):=λn=>by
          have h:=ek (P:=prog) (J.drewN n) 37 9 5 underlying37 underlying5 underlying9 ar cr R.1 (je.below (aN (cC _ none) n));rw[Ko]at h;exact h
         have r2:∀n,(convert 37 9 (.slice am nn cm)).run prog (J.drewN n)=.ok (.string ⟨R.1.toArray⟩) (J.drewN n):=λn=>by
          have h:=ek (P:=prog) (J.drewN n) 37 9 5 underlying37 underlying5 underlying9 am cm R.1 (mH.below (aN (cC _ none) n));rw[Ko]at h;exact h
         clear bo im T9 XV hHeld D bn u6 gu je mH e61 e62 e63 k0;go_wp2_with fail;go_quiet (fail)
         have au:=λi=>QD.loc (fz.sep.part (k:=k) (dj Hx.2.2.2) i) (w':=(J.drewN nq).drewN 1) (λ_ _=>rfl);have q1:(J.drewN nq).c A 1=some (π C 0):=dm.cell (au 0) 1;have ai:(J.drewN nq).rangeAt wr.1.size 9 x.t.ask.cells:=λi v hv=>Nf.2.2.cell (bP dd (bf (9+i) v (QT x.t i v hv))) lx;have ck:∀i j b,QD.F ⟨A,xb,ni,C,hl,M2,R.2,an,ag⟩ i b->QD.F ⟨A,xb,ni,C,hl,M2,R.2,an,ag⟩ j b->i=j:=λi j b e1 e2=>by
          have h:=fz.sep.one (i+4,k) (j+4,k) b ⟨_,dj Hx.2.2.2,e1⟩ ⟨_,dj Hx.2.2.2,e2⟩;simpa using h
         have Mm:Hid (Calls prog 34 #[π A 2,.slice am nn cm,.agg x.t.ask.cells.toArray,π C 0] ((J.drewN nq).drewN 1) λe w'=>e=.returned (.tuple #[])/\qf ((J.drewN nq).drewN 1) w' 0 A 2 an ag):=
          Hy 0 C R.2 hl x.t.ask R.1 _ A 2 an ag _ (au 2) (mv.aC.mono (Nat.le_of_lt HM.2.2)) (Nf.1.has.grown (aN (aN (cC _ none) nq) 1)) ng (QD.said (au 0) (au 3)) (by have:=pU.2;have:=HL.1;omega) (cS _) (A7 (au 0) 3 (cA 3)) (λe=>by have:=ck 0 3 A rfl (.inl e);omega) (λy hy b B=>⟨λe=>by have:=ck 0 3 b e (.inr ⟨y,hy,B⟩);omega,((au 3).2 y hy).2 b B⟩)
         have WW:Hid (∀w',qf J w' 0 A 2 an ag->w'.cell? (F A 1)=some (π C 0)/\w'.rangeAt wr.1.size 9 x.t.ask.cells):=by
          intro w' h;obtain⟨Qw,qo,_,_,_,_,_,f,hB⟩:=h;have B:=hB _ (au 0);refine⟨B.cell 1,λi v hv=>?_⟩;have h1:J.c wr.1.size (9+i)=some v:=ai i v hv
          rw[World.cell?_of_block (w:=J) (w':=w') (a:=⟨wr.1.size,9+i,none⟩) (f.block wr.1.size (World.block_lt_of_cell? J _ h1) (λe=>by
           have hh:∀i,QD.F ⟨A,xb,ni,C,ad,M2,N3,an,ag⟩ i wr.1.size->False:=λi e=>by
            have h:=pU.1.sep;rw[Tf]at h;have h2:=h.lt (i+4,k) wr.1.size ⟨_,dj Hx.2.2.2,e⟩;omega
           rcases e with e|e
           .exact hh 0 e
           .exact hh 3 (.inl e)))]
          exact h1
         clear au ck x0 x1 r1 r2;go_wp2_with fail;refine wp_region_held_drew (S:=(λw'=>w'.c A 1=some (π C 0)/\w'.rangeAt wr.1.size 9 x.t.ask.cells)) f' ⟨q1,ai⟩ (λhHeld=>?_);refine eH 0 (π A 0) ?_;refine eH 1 (π A 0) ?_;refine eH 2 (π A 2) ?_;refine eH 3 (.slice am nn cm) ?_;refine eH 4 (π wr.1.size 9) ?_;refine eH 5 (.agg x.t.ask.cells.toArray) ?_ (hy:=yieldsIf_load_mid (by rfl) _ _ rfl wr.1.size 9 rfl x.t.ask.cells _ (λw' h=>h.2) underlying45 rfl Tryz.yE);refine eH 6 (π A 0) ?_;refine eH 7 (π A 0) ?_;refine eH 8 (π A 1) ?_;refine eH 9 (π C 0) ?_;refine mT (i:=10) rfl f' (λK hK=>?_);go_simp;refine Mm.mono ?_;rintro e w8 ⟨rfl,R8⟩;have iz:=I R8.iE.iE;clear R8;have ir:=I (WW w8 iz);go_wp2_with fail;refine hK.out _ _ ir (λhHeld=>?_);clear hK K;refine wpAnyH_done f' ?_ _;clear hHeld ir Mm WW q1 ai;go_wp2;go_roundw
         case rel=>exact⟨j+1,by omega,by go_num,rfl,L3.heard (M:=M) fz.o Hx.2.2.2 pU.2 (by rw[QN M ms j eb,Tf.o,Hx.2.1,Ep bu.o];exact congrArg Prod.snd mx) iz⟩
         case measure=>simp[intOf];omega
        .have ov:(x.t.a.kind==0)=false:=(by simpa using ba);obtain⟨er,gv⟩:=aq ((fD N3.aC x.t.a).2);have fa:=I (E9 (N+16) 0 C N3 ad x.t.a (W2.drewN 1) ((ga 2).keep (λ_ _=>rfl)) Za.aC HM.2.2 (by have:=(bq _ (eh Hx.2.2.1)).name;rw[Hx.2.1]at this;show x.t.a.name.length<=_;have h:x.m.1.name.length<=140737488355328:=this;show x.t.a.name.length<=_;have h2:x.t.a.name.length<=140737488355328:=h;omega) (cS _));rw[gv]at fa;have na:=I gv;have bu:=I ba;have ai:W2.rangeAt wr.1.size 0 x.t.a.cells.toList:=λi v hv=>by rw[cR];exact bf i v (Il x.t i v hv)
         have nx:¬ ad.foot C wr.1.size:=cd _ (by have:=pU.1.uE.size;have:=HU.1.uE.size;omega) (.inr rfl);clear gv ba;go_wp2_with (first|(refine wpList_load_mid rfl 192 _ rfl tb (Q+j*34) rfl Y9 _ D underlying192 rfl SZ ?_)|(rw[<-dn];fail_if_success done))
         refine wp_region_held_drew (S:=(λw'=>w'.c A 1=some (π C 0)/\w'.rangeAt wr.1.size 0 x.t.a.cells.toList)) f' ⟨q1,ai⟩ (λhHeld=>?_);refine eH 0 (π A 0) ?_;refine eH 1 (π A 0) ?_;refine eH 2 (π A 1) ?_;refine eH 3 (π C 0) ?_;refine eH 4 (π wr.1.size 0) ?_;refine eH 5 (.agg x.t.a.cells.toList.toArray) ?_ (hy:=yieldsIf_load_mid (by rfl) _ _ rfl wr.1.size 0 rfl x.t.a.cells.toList _ (λw' h=>h.2) underlying41 rfl Tryz.uW);refine mT (i:=6) rfl f' (λK hK=>?_);go_simp;refine fa.mono ?_;rintro e w4 ⟨rfl,hr⟩;have A4:=hr.VI;clear hr;have il:Hid (w4.c A 1=some (π C 0)/\w4.rangeAt wr.1.size 0 x.t.a.cells.toList):=⟨A4.KG q1 lk,λi v hv=>A4.KG (ai i v hv) nx⟩
         have lz:=I A4;have IB:¬ ad.foot C w7.1.size:=cd _ yn (.inl bc.2.2);have x0:w4.c w7.1.size (j*2)=some ds[j].1:=A4.KG (cz _ _ dc.1) IB;have x1:w4.c w7.1.size (j*2+1)=some (Y ds[j].2):=A4.KG (cz _ _ dc.2) IB;have hs:=fl.o;rw[Eo bu.o]at hs;have az:ds[j].2=er:=hs.1.trans na.o;have kn:ds[j].1 = σ:=by
          rcases hs.2.1 with⟨_,h,_⟩|⟨q,hq,_⟩
          .exact h
          .rw[hs.2.2.2 bu.o]at hq;cases hq
         rw[kn]at x0;rw[az]at x1;clear A4 hs kn az;go_wp2_with fail;refine hK.out _ _ il (λhHeld=>?_);clear hK K;refine eH 7 (Y er) ?_;refine wpAnyH_done f' ?_ _;clear hHeld il fa ai q1 D bn;go_wp2;go_roundw
         case rel=>exact⟨j+1,by omega,by go_num,rfl,L3.adm (M:=M) (by rw[Tf.o];exact bs) Hx.2.2.2 pU.2 Hx.2.2.1 (by rw[Hx.2.1];exact bu) (by rw[Tf,Hx.2.1];exact lz)⟩
         case measure=>simp[intOf];omega
       .have ca:l=j:=G;subst ca;have N7:¬ (l:Int)<(l:Int):=G;have s7:=(aa sV HG7).size;have ho:=HU.1.uE.size;have hd:=U.o;have iv:Hid (jo M (ms.take l)=M2):=(by rw[<-ml,cW (by rw[HMs.2];exact cA _)];exact rfl);have bq:Hid (∀m∈ms,m.Ok):=λm hm=>by
         exact LD
        have Za:∀i,dK (jo M (ms.take i)) (N+16):=λi=>(HM.1.jo HM.2.1 (ms.take i) (λm hm=>bq m (List.mem_of_mem_take hm))).mono (by rw[ew];have:=HMs.2;omega);have ak:∀i(hi:i<ds.length),xE (w7.1.size+1) w9 ds[i] (ms[i]'yp) (MK (jo M (ms.take i)) (ms[i]'yp)).1 (ps i):=λi hi=>fi.1 i hi _
        have mb:=I (YG _ w7.1.size l ds ps wr pU.1 (I Hdl.o) G bc.2.1 bc.1 G (λe=>by have:=HU.2 _ e;omega) (λi hi=>by
         have h:=ak i hi;refine⟨_,h.2.1.uE H2.f (λq hq e=>by have h1:=HX.new _ e;have h2:=h.2.2.1 q hq;omega),?_⟩;by_cases e:(ms[i]'yp).1.kind=0
         .rw[Ep e];exact yA (Za i) _ _
         .rw[Eo e];exact cS _) (λi hi b e=>by
         have oo:i<ds.length:=(by rw[Hdl];exact hi);have h:=ak i oo;cases hp:ps i with
         |none=>rw[hp]at e;cases e
         |some q=>
          rw[hp]at e;have e:q.g=b:=nF;have h1:=h.2.2.1 q hp;have h2:=h.2.1.Iw q hp;have h3:=H2.f.size
          exact⟨by omega,by omega,λe2=>by have:=HU.2 _ e2;omega,by omega⟩) (λi j q r h1 h2 h3 h4=>fi.2 i j q r h1 (by rw[Hdl.o];exact h2) h3 h4) (by show((d2.le 0).length+16)*112<=_;rw[bt];exact HL.2.1) (by show((d2.le 3).length+1)*112<=_;rw[bt];exact HL.2.2))
        have me:=I (Za l);have nf:=I (cZ s7 ho);have mn:Hid (∀i b,i<l->Pl.blk (ps i)=some b->w.1.size<=b):=λi b hi e=>by
         have h:=ak i (by rw[Hdl];exact hi);cases hp:ps i with
         |none=>rw[hp]at e;cases e
         |some q=>rw[hp]at e;have e:q.g=b:=nF;have h1:=h.2.2.1 q hp;omega
        clear Za ak s7 ho hd;go_wp2_with (first|(go_at_call 76;refine mb.mono ?_;rintro e wf ⟨rfl,d',S,e1,e2,e3⟩))
        go_ret;refine⟨rfl,d',Us.trans HU.1.uE S (λb B=>?_),?_,⟨⟨A,xb,ni,C,ad,M2,jo M (ms.take l),an,ag⟩,?_,rfl,iv,?_,?_⟩,λt=>?_⟩
        .rcases B with(e|⟨i,hi,e⟩)|e
         .exact HU.1.own b e
         .exact .inr (mn i b hi e)
         .exact .inr (by have:=nf.o;omega)
        .rw[e1.1,e1.2,bt];exact⟨rfl,rfl⟩
        .rw[e2,bt];exact List.set_set ..
        .have h:=me.o;rw[iv]at h;exact h
        .have:=pU.2;show ag.length<=_;omega
        .have h:=e3 t;have e:(d2.le t).length=(d.le t).length:=(by rw[bt]);have h:(d'.le t).length<=(d2.le t).length+16:=h;omega
