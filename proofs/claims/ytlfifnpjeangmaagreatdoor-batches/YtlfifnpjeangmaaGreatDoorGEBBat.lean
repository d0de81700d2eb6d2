import Derived.Test.YtlfifnpjeangmaaGreatDoorGEBLst
namespace Go.Proofs.YtlfifnpjeangmaaGreatDoor
set_option maxHeartbeats 20000000
open Proofs.Tryz Go.RowKit
set_option maxRecDepth 100000
variable {p:Prop}
theorem xk(h:p:=by have:=(aa sS HG7).size;omega):p:=h
theorem xo(h:p:=by rw[HMs.2,<-Hdl];exact hi):p:=h
variable {base wb:Nat}
theorem Tryz.OE:(prog.info? 192).map (·.size)=some 34:=by kernel_rfl
abbrev Ae:Array Value:=#[Y 0,ε,H 0,Y 0,Y 0,Y 0,Y 0,Y 0,ε,Y 0,ε,ε,Y 0,Y 0,Y 0,Y 0,Y 0,Y 0,Y 0,Y 0,Y 0,H 0,ε,Y 0,Y 0,Y 0,Y 0,Y 0,Y 0,ε,Y 0,Y 0,Y 0,Y 0]
theorem Tryz.adJ:(prog.info? 194).map (λi=>(i.zero,i.size,i.bytes))=some (some (.agg #[Y 0,ε,H 0,Y 0,Y 0,Y 0,Y 0,Y 0,σ]),9,96):=by kernel_rfl
theorem Tryz.akU(w:World):(binOp .eql 37 σ σ).run prog w=.ok (.bool true) w:=by kernel_rfl
theorem Tryz.akV(w:World):(binOp .eql 66 σ σ).run prog w=.ok (.bool true) w:=by kernel_rfl
theorem OG(t:kL):t.cells.length=34/\∀v∈t.cells,v.oneCell'=true:=by
 refine⟨rfl,?_⟩;intro v a;simp[kL.cells,qM.cells]at a;rcases a with rfl|rfl|rfl|rfl|rfl|rfl|rfl|rfl|rfl|rfl|rfl|rfl|rfl|rfl|rfl|rfl|rfl|rfl|rfl|rfl|rfl|rfl|rfl|rfl|rfl|rfl|rfl|rfl|rfl|rfl|rfl|rfl|rfl|rfl<;>rfl
theorem Tryz.Af:(prog.info? 41).map (·.size)=some 7:=by kernel_rfl
theorem Fz(t:kL)(i:Nat)(v:Value)(h:t.a.cells.toList[i]?=some v):t.cells[i]?=some v:=by
 unfold kL.cells;rw[cW (cM.1 h).1];exact h
theorem RW(a:mE)(b:Int)(u:Value)(i:Nat)(v:Value)(h:a.cells.toList[i]?=some v):(gK a b u).toList[i]?=some v:=by
 have e:(gK a b u).toList=a.cells.toList++[Y b,u]:=rfl;rw[e,cW (cM.1 h).1];exact h
theorem OH(t:kL)(i:Nat)(v:Value)(h:t.ask.cells[i]?=some v):t.cells[9+i]?=some v:=by
 unfold kL.cells;rw[cY (by show 7<=9+i;omega),cY (by show 2<=9+i-7;omega)];rw[show 9+i-(t.a.cells.toList).length-([Value.int .i64 t.now,.string ⟨t.s.toArray⟩]).length=i from by show 9+i-7-2=i;omega];exact h
theorem Wk(wr:World)(T:kL):∃a,a=(wr.alloc (.cells Ae 192)).setCells wr.1.size 0 T.cells/\(storeCells ⟨wr.1.size,0,none⟩ T.cells).run prog (wr.alloc (.cells Ae 192))=.ok () a/\wr.grownBy a none/\∀i v,T.cells[i]?=some v->a.c wr.1.size i=some v:=by
 have a:=OG T;have b:b' (wr.alloc (.cells Ae 192)) wr.1.size 34:=b'.new wr Ae 192;refine⟨_,rfl,eH (P:=prog) T.cells b (by rw[a.1];exact cy _) a.2,gT wr.1.size (cy _) T.cells 0 _ (cx wr _ none),λi v d=>?_⟩;have h:=World.rangeAt_setCells_same (wr.alloc (.cells Ae 192)) wr.1.size 0 T.cells (b.there 0 _ (by rw[a.1];omega)) i v d;rwa [cN]at h
theorem RM(a:mE)(b:Int)(x:Option Addr)(n c:Nat):∀u∈(gK a b (.slice x n c)).toList,u.oneCell'=true:=by
 intro u d;simp at d;rcases d with rfl|rfl|rfl|rfl|rfl|rfl|rfl|rfl|rfl<;>rfl
theorem IS(h:p:=by
 rw[<-HMs.1]at hm
 obtain⟨y,hy,rfl⟩:=List.mem_map.1 hm
 have o:=qf y.t (by
  have h:=HJ.1.tk
  rw[Ch,cU (by rw[hnt];exact cy _)]at h
  rw[<-h]
  exact eK hy)
 exact⟨o.bI,o.aC,o.ae,by have:=o.name;show y.t.a.name.length<=_;omega,o.now⟩):p:=h
theorem F9(h:p:=by
 have h:=HJ.1.tk
 rw[Ch,cU (by rw[hnt];exact cy _)]at h
 have h2:(xs.map LJ.t)[j]?=ts[j]?:=by rw[h]
 rw[eA,hx,cL hjt]at h2
 injection h2 with h2
 exact h2.symm):p:=h
theorem OI(d:BW)(N k A xb:Nat)(dp:Option Pl)(C:Nat)(rg:RG)(M:DM)(sv:Value)(kl:List KN)(cs:Array Value)(ta:Option Addr)(l tc:Nat)(ts:List kL)(w:World)(hk:d.qs[k]?=some ⟨A,xb,dp,C,rg,M,M,sv,kl⟩)(ks:cs[40]?=some (.slice ta l tc))(hnt:Hid (ts.length=l))(qb:l<=1048576)(mc:pG w ta ts)(hf:∀b Q,ta=some ⟨b,Q,none⟩->0<ts.length->b<base)(bn:∀t∈ts,t.Ok)(hM:dX M N)(kp:1<=N)(hN:N+16<4611686018427387904)(gO:kl.length+16<=1073741824)(ln:((d.le 0).length+16)*112<=140737488355328)(lo:((d.le 3).length+1)*112<=140737488355328)(hI:kK base wb d w):Calls prog 40 #[π wb 0,.agg cs,π A 0] w λe w'=>xX base wb 16 d w e w' (λqs=>∃p',qs=d.qs.set k p'/\p'.pb=A/\p'.N=p'.M/\dX p'.M (N+16)/\p'.kl.length<=kl.length+16):=by
 obtain⟨ij,lf,lj,lk,ll⟩:=info_parts Tryz.adJ
 obtain⟨is,oz,pk,pn,po⟩:=info_parts Tryz.Su
 obtain⟨X,hW0⟩:=aw (w.alloc (.cells cs 48))
 have G0:w.grownBy X none:=tp
 have s0:X.1.size=w.1.size+1:=by rw[hW0];exact cF _ _
 have ib:X.cell? (F w.1.size 40)=some (.slice ta l tc):=by rw[hW0,World.cell?_alloc_at (hn:=rfl)];exact ks
 have hp:=hI.part hk
 have HP:Hid (∀V,X.grownBy V none->∀j,QD.C ⟨A,xb,dp,C,rg,M,M,sv,kl⟩ j V):=λV g j=>QD.loc (hp j) (λb B=>(aa G0 g).block b (QD.lt (hp j) B) Z)
 have HT:Hid (∀V,X.grownBy V none->pG V ta ts):=λV g=>mc.below (tK (aa G0 g))
 have HI:=I (dN hI hk)
 have qf:=I bn
 have HM:=I (dN hM (dN kp hN))
 have HL:=I (dN gO (dN ln lo))
 have sS:=I G0
 have WL:=I hf
 have nx:=I (hM.aF.mono (m:=4611686018427387904) G)
 have ke:=I ib
 clear hp hI hk bn hM kp hN gO ln lo mc hf ks G0 ib
 go_in
 go_wp2
 rw[<-hW0]
 clear hW0
 go_loopw [7,8,9,10,11,12] (λjv hv i _ _ _ wr=>∃xs:List LJ,xs.length<=l/\i = Y xs.length/\JB X wr ts xs jv hv/\X.grownBy wr none) (λ_ _ i _ _ _ _=>l-(intOf i).toNat)
 case atStart=>exact⟨[],cS _,rfl,JB.nil X X ts,cC _ _⟩
 case round=>
  obtain⟨xs,hj,rfl,hJ,gz⟩:=hrel;obtain⟨j,ho⟩:=aq xs.length;have bl:wr.c w.1.size 40=some (.slice ta l tc):=bN gz ke.o;have HJ:=I (dN hJ gz);have Ch:=I ho;rw[ho]at hj⊢;clear hJ gz ho;by_cases af:j<l
  .have LF:(j:Int)<(l:Int):=G;have kf:(0:Int)<=(j:Int):=G;have hjt:j<ts.length:=(by rw[hnt];exact af);obtain⟨tb,Q,cu,cv,D⟩:=HT wr HJ.2 j hjt;obtain⟨T,hT⟩:=aq (ts[j]);rw[hT]at D;subst cu;have fv:Hid (ts[j]?=some T/\T.Ok):=⟨by rw[<-hT];exact cL hjt,qf T (by rw[<-hT];exact eg hjt)⟩
   have t1:=OG T;obtain⟨WN,R7⟩:=aq T.cells;rw[R7]at D t1;have L1:b' (wr.alloc (.cells Ae 192)) wr.1.size 34:=b'.new wr Ae 192;have bo:=eH (P:=prog) WN L1 (by rw[t1.1];exact cy _) t1.2;have RA:=World.rangeAt_setCells_same (wr.alloc (.cells Ae 192)) wr.1.size 0 WN (L1.there 0 _ (by rw[t1.1];omega));have SZ:(prog.info? 192).map (·.size)=some WN.length:=(by rw[Tryz.OE,t1.1]);obtain⟨W2,ao⟩:=aw ((wr.alloc (.cells Ae 192)).setCells wr.1.size 0 WN);have GW:wr.grownBy W2 none:=(by rw[ao];exact gT wr.1.size (cy _) WN 0 _ (cx wr _ none));rw[<-ao]at RA bo;have kn:WN.length=34:=t1.1;have fb:=I (dN GW RA);have nz:=I R7;have dq:=I ao;clear L1 RA GW t1 hT R7 ao;go_wp2_with (first|(refine wpList_load_mid rfl 192 _ rfl tb (Q+j*34) rfl WN _ D underlying192 rfl SZ ?_)|(rw[<-dq];fail_if_success done))
   have bm:=aa HJ.2 fb.1;have q1:W2.c A 1=some (π C 0):=dz.cell (HP _ bm 0) 1;have RT:∀i v,T.cells[i]?=some v->W2.c wr.1.size i=some v:=λi v hv=>by
    have:=fb.2 i v (by rw[<-nz];exact hv);rwa [cN]at this
   have c8:W2.c wr.1.size 8=some (.string ⟨T.s.toArray⟩):=RT 8 _ rfl;have Iz:Hid (W2.rangeAt wr.1.size 9 T.ask.cells):=λi v hv=>RT (9+i) v (OH T i v hv);have bk:=I RT;have pv:=I bm
   have sQ:Hid (Calls prog 31 #[π A 2,π C 0,.string ⟨T.s.toArray⟩,.agg T.ask.cells.toArray] (W2.drewN 1) λe w'=>∃r:E,e=.returned (.string ⟨r.toArray⟩)/\r.length<=300000000/\(W2.drewN 1).grownBy w' none):=
    Ky 0 C M rg T.ask T.s A 2 sv kl _ (HP _ (aR bm 1) 2) nx fv.2.ask fv.2.s (QD.said (HP _ (aR bm 1) 0) (HP _ (aR bm 1) 3))
   clear RT bo D SZ bm;go_wp2_with fail;refine wp_region_held_drew (S:=(λw'=>w'.c A 1=some (π C 0)/\w'.c wr.1.size 8=some (.string ⟨T.s.toArray⟩)/\w'.rangeAt wr.1.size 9 T.ask.cells)) gJ ⟨q1,c8,Iz⟩ (λhHeld=>?_);refine rV 0 (π A 0) ?_;refine rV 1 (π A 0) ?_;refine rV 2 (π A 2) ?_;refine rV 3 (π A 0) ?_;refine rV 4 (π A 0) ?_;refine rV 5 (π A 1) ?_;refine rV 6 (π C 0) ?_;refine rV 7 (π wr.1.size 8) ?_;refine rV 8 (.string ⟨T.s.toArray⟩) ?_;refine rV 9 (π wr.1.size 9) ?_;refine jM 10 (.agg T.ask.cells.toArray) ?_ (hy:=yieldsIf_load_mid (by rfl) _ _ rfl wr.1.size 9 rfl T.ask.cells _ (λw' h=>h.2.2) underlying45 rfl Tryz.Cz);refine pC (i:=11) rfl gJ (λK hK=>?_);go_simp;refine sQ.mono ?_;rintro e w3 ⟨r,rfl,lz,kj⟩;have g3:=uV kj;clear kj;have ir:Hid (w3.c A 1=some (π C 0)/\w3.c wr.1.size 8=some (.string ⟨T.s.toArray⟩)/\w3.rangeAt wr.1.size 9 T.ask.cells):=⟨g3.cell q1 Z,g3.cell c8 Z,gZ Iz g3⟩
   go_wp2_with fail;refine hK.out _ _ ir (λhHeld=>?_);clear hK K;refine rV 12 (.string ⟨r.toArray⟩) ?_;refine wpAnyH_done gJ ?_ _;have kg:r.length<=140737488351232:=G;have nd:=I lz;have kS:=I (aa fb.1 g3);have nj:=I g3;clear ir hHeld sQ Iz q1 c8 lz g3;go_wp2_with fail;refine(Dk r _ _ kg).mono ?_;rintro e w4 ⟨al,cl,gB,rfl,hL,g4⟩;obtain⟨rn,av⟩:=aq r.length;have jl:=I av;have dv:=aa kS g4;have mv:Hid (ny wr w4 al cl r gB):=hL.aks kS.size;obtain⟨ah,ch,ca⟩:=bA HJ.1.hrow;obtain⟨aj,cj,cc⟩:=bA HJ.1.KH;rw[Ch]at ca cc;subst ca cc;have pj:w4.ownsRow X.1.size 9 1 (.slice ah j ch) j (xs.map λx=>.string ⟨x.r.toArray⟩):=by
    have h:=(HJ.1.grown dv).hrow;rw[Ch]at h;exact h
   have qk:X.1.size<=w4.1.size:=cE HJ.2.size dv.size;have cd:j+1<=maxLen:=kO;have pd:(j+1)*16<=140737488355328:=G;have VN:(j+1)*96<=140737488355328:=G;have mz:Hid (∀i v,T.cells[i]?=some v->w4.c wr.1.size i=some v):=λi v hv=>g4.cell (nj.cell (bk i v hv) Z) Z;have oa:(Value.slice ah j ch).ownBlock≠some wr.1.size:=λe=>by have:=(HJ.1.hrow.lt _ e).2;omega
   have ka:=I dv;rw[av];clear hL dv g4 av kg bk;have nb:Hid (∀V,(w4.alloc (.cells #[.string ⟨r.toArray⟩] 9)).grownBy V (Value.slice ah j ch).ownBlock->V.ownsRow X.1.size 194 9 (.slice aj j cj) j (eQ (xs.map LJ.WM))):=λV gV=>by
    have h:=(HJ.1.grown ka).KH;rw[Ch]at h;exact cB (h.alloc _) (λb B=>gV.block b (by rw[cF];have:=(h.lt b B).2;omega) (λe=>HJ.1.jh b B e.symm))
   have pa:=RM T.a T.now al rn cl;go_wp2_with (first|(at_builtin;refine dJ _ rfl (.tmp 54) (.tmp 56) 62 rfl X.1.size 9 is _ 1 16 underlying62 oz pk pn po rfl O (.slice ah j ch) j _ rfl (pj.alloc _) ⟨w4.1.size,0,none⟩ 1 1 [.string ⟨r.toArray⟩] rfl rfl (gL w4 _ _) (by intro u hu;rw[ew.1 hu];rfl) G cd pd (by rw[cF];omega) ?_;intro qq J bc nV gv;obtain⟨px,qd,ob⟩:=bA bc;subst ob;have WK:=I (dN bc (dN nV gv));clear bc nV gv;have jh:Hid (∀i v,T.cells[i]?=some v->J.c wr.1.size i=some v):=(λi v hv=>WK.2.1.cell (bN (cx w4 _ none) (mz i v hv)) (λe=>oa e.symm));have ai:J.rangeAt wr.1.size 0 T.a.cells.toList:=(λi v hv=>by rw[cN];exact jh i v (Fz T i v hv));have e7:J.c wr.1.size 7=some (Y T.now):=jh 7 _ rfl;have et:J.ownsRow X.1.size 194 9 (.slice aj j cj) j (eQ (xs.map LJ.WM)):=nb _ WK.2.1;have gv:X.1.size<=J.1.size:=(by have:=WK.2.1.size;rw[cF]at this;omega))|(refine wpList_load_mid rfl 41 _ rfl wr.1.size 0 rfl T.a.cells.toList _ ai underlying41 rfl Tryz.Af ?_)|(at_builtin;refine dJ _ rfl (.tmp 58) (.tmp 65) 190 rfl X.1.size 194 ij _ 9 96 underlying190 lf lj lk ll rfl O (.slice aj j cj) j _ rfl (et.alloc _) ⟨J.1.size,0,none⟩ 1 1 (gK T.a T.now (.slice al rn cl)).toList rfl rfl (gL J _ _) pa G cd VN (by rw[cF];omega) ?_;intro pr w8 Bi lb kr;obtain⟨jz,ay,gd⟩:=bA Bi;subst gd;have fc:=I (dN Bi (dN lb kr));clear Bi lb kr))
   go_roundw
   case rel=>
    have R:=HJ.1.push (x:=⟨T,al,cl,r,gB⟩) (w2:=w4) (by rw[Ch];exact fv.1) HJ.2.size ka mv nd (cx w4 _ none) (by rw[Ch];exact WK.1) WK.2.1 WK.2.2 (cx J _ none) (by rw[Ch];show World.ownsRow _ _ _ _ _ _ (_++(gK T.a T.now (.slice al r.length cl)).toList);rw[jl];exact fc.1) fc.2.1 fc.2.2;exact⟨xs++[⟨T,al,cl,r,gB⟩],by rw[cD,eC,Ch];omega,by rw[cD,eC,Ch.o];go_num,R.1,R.2 HJ.2⟩
   case measure=>simp[intOf];omega
  .have cb:l=j:=G;subst cb;have LF:¬ (l:Int)<(l:Int):=G;obtain⟨ah,ch,ca⟩:=bA HJ.1.hrow;obtain⟨aj,cj,cc⟩:=bA HJ.1.KH;rw[Ch]at ca cc;subst ca cc;have et:wr.ownsRow X.1.size 194 9 (.slice aj l cj) l (eQ (xs.map LJ.WM)):=by
    have h:=HJ.1.KH;rw[Ch]at h;exact h
   have oo:X.1.size<=wr.1.size:=HJ.2.size;have cd:l+1<=maxLen:=kO;have VN:(l+1)*96<=140737488355328:=G;have kb:∀u∈Tw,u.oneCell'=true:=O;go_wp2_with (at_builtin;refine dJ _ rfl (.tmp 67) (.tmp 69) 190 rfl X.1.size 194 ij _ 9 96 underlying190 lf lj lk ll rfl O (.slice aj l cj) l _ rfl (et.alloc _) ⟨wr.1.size,0,none⟩ 1 1 Tw rfl rfl (gL wr _ _) kb G cd VN (by rw[cF];omega) ?_;intro pr w7 rZ la kq;obtain⟨jz,ay,gd⟩:=bA rZ;subst gd;have bq:=I (dN rZ (dN la kq));clear rZ la kq)
   obtain⟨jb,oj,hX,ld⟩:=HJ.1.last (c:=ay) (aj:=jz) (cx wr _ none) (by rw[Ch];exact bq.1) bq.2.1 (by rw[Ch];exact bq.2.2);subst oj;have G7:=ld HJ.2;have q0:w7.c A 0=some (π xb 0):=dz.cell (HP _ G7 0) 0;have js:Hid (∀b,b=xb\/Pl.blk dp=some b->b<w.1.size):=λb B=>QD.lt (HI.1.part HI.2 1) B;have mx:Hid (A≠xb):=λe=>by
    have h:=HI.1.one (4,k) (5,k) A ⟨_,HI.2,rfl⟩ ⟨_,HI.2,.inl e⟩;simp at h
   have im:=I (RI X xs l jb ay N xb (.slice ah l ch) dp M (w7.drewN 1) (hX.kept (λ_ _ _=>rfl)) (HP _ (aR G7 1) 1) (λb B=>by have:=js b B;omega) HM.1 HM.2.1 (Nat.le_of_lt HM.2.2) Ch.o (λx hx=>qf.o x.t (by
    have h:=HJ.1.tk;rw[Ch,cU (by rw[hnt];exact cy _)]at h;rw[<-h]
    exact eK hx)))
   have pt:l<=ay:=cE (fg _) (Jj bq.1).1;have HX:=I hX;have HG7:=I G7;clear hX ld G7 et oo cd VN kb bq LF;refine wp_region_held_drew (S:=(λw'=>w'.c A 0=some (π xb 0)/\True)) gJ ⟨q0,trivial⟩ (λhHeld=>?_);refine jM 0 (π A 0) ?_;refine jM 1 (π A 0) ?_;refine jM 2 (π A 0) ?_;refine jM 3 (π xb 0) ?_;refine jM 4 (ς jb 0 (l+1) ay) ?_;refine jM 5 (.slice ah l ch) ?_;refine jM 6 (Y (l:Int)) ?_;refine jM 7 (ς jb 0 l ay) ?_;refine pC (i:=8) rfl gJ (λK hK=>?_);go_simp;refine im.mono ?_;rintro e w9 ⟨lv,ev,rfl,ia⟩;have B9:=ia.jN;clear ia;have iz:Hid (w9.c A 0=some (π xb 0)/\True):=⟨B9.1.cell q0 mx,trivial⟩
   have WE:=I B9;clear B9;go_wp2_with fail;refine hK.out _ _ iz (λhHeld=>?_);clear hK K;refine jM 9 (.tuple #[lv,Y ev]) ?_;refine jM 10 lv ?_;refine jM 11 (Y ev) ?_;refine jM 12 lv ?_;refine jM 13 (Y ev) ?_;refine wpAnyH_done gJ ?_ _;have U:Hid (w.1.size<X.1.size/\xb<w.1.size/\base<=xb/\base<=w.1.size):=⟨by omega,js.o xb (.inl rfl),HI.1.base (5,k) xb ⟨_,HI.2,.inl rfl⟩,HI.1.room⟩
   have pF:Hid (JX X w9 xs jb (.slice ah l ch)):=HX.kept (λb h1 h2=>WE.1.block b h2 (λo e=>by have:=U.o;omega));have x7:=pF.j7.1;have x8:=pF.j7.2;rw[Ch]at x7 x8;have il:Hid (w9.c w.1.size 40=some (.slice ta l tc)):=WE.1.cell (bN HG7 ke) (λe=>by have:=U.o;omega)
   have jr:Hid (∀V,w9.1.size<=V.1.size->(∀b,b<base->V.1[b]?=w9.1[b]?)->pG V ta ts):=λV hs hV=>(HT w7 HG7).kept WL (cE WE.1.size hs) (λb B=>by
    have:=U.o;have:=HG7.size
    rw[hV b B,WE.1.block b G (λo e=>by omega)])
   have pf:(l:Int)<((l+1:Nat):Int):=G;have pe:(0:Int)<=(l:Int):=G;have py:=Tryz.akU;clear im iz hHeld q0;go_wp2;clear x7 x8 pf pe;go_loopw [15,16,17,18,19,20] (λo i _ _ _ _ wr=>∃j:Nat,j<=l/\i = Y j/\o=.bool true/\J2 X w9 wr xs jb j) (λ_ i _ _ _ _ _=>l-(intOf i).toNat)
   case atStart=>exact⟨0,cS _,rfl,rfl,J2.start pF⟩
   case round=>
    obtain⟨j,hj,rfl,rfl,h2⟩:=hrel;have H2:=I h2;clear h2;by_cases af:j<l
    .have LF:(j:Int)<(l:Int):=G;have qc:(j:Int)<(l:Int)+1:=G;have kf:(0:Int)<=(j:Int):=G;have ha:j<xs.length:=(by rw[Ch];exact af);obtain⟨x,hx⟩:∃x,xs[j]?=some x:=⟨_,cL ha⟩
     have hjt:j<ts.length:=(by rw[hnt];exact af);have cz:ts[j]=x.t:=by
      exact F9
     obtain⟨tb,Q,cu,cv,D⟩:=jr wr H2.f.size (λb B=>H2.low pF (by have:=U.o;omega)) j hjt;rw[cz]at D;subst cu;have hf:=WL tb Q rfl G;obtain⟨B,rfl,c1,qo,ov⟩:=H2.had pF Ch hx;have bl:wr.cell? (F w.1.size 40)=some (ς tb Q l tc):=by
      rw[World.cell?_of_block (w:=w9) (w':=wr) (a:=⟨w.1.size,40,none⟩) (H2.o.low pF.o U.o.1)];exact il.o
     have dt:=H2.WM pF hx;obtain⟨rn,av⟩:=aq x.r.length;rw[av]at dt;have c8:wr.c jb (j*9+8)=some (.slice x.a rn x.c):=dt 8 _ rfl;have eb:x.g≠some jb:=λe=>(pF.VP x (ey hx) jb e).1 rfl;have ot:x.g≠some B:=ov x (ey hx);have jl:=I av;have mn:=I (Dl x.r rn x.a x.c x.g X (wr.drewN 1) (I av) (by have:=(pF.rU x (ey hx)).2;omega) ((H2.ln j x (cy _) hx).grown (aR (cC _ none) 1)));have kc:=I dt;have jn:=I D;have Hx:=I hx;have pw:=I cv;clear dt D hx cz av cv;go_wp2_with fail;refine wp_region_held_drew (S:=(λw'=>w'.c jb (j*9+8)=some (.slice x.a rn x.c)/\w'.c B j=some (.string ⟨x.r.toArray⟩))) gJ ⟨c8,c1⟩ (λhHeld=>?_);refine jM 0 (ς jb 0 (l+1) ay) ?_;refine jM 1 (Y (j:Int)) ?_;refine jM 2 (π jb (j*9)) ?_;refine jM 3 (π jb (j*9+8)) ?_;refine jM 4 (.slice x.a rn x.c) ?_;refine jM 5 (ς B 0 l ch) ?_;refine jM 6 (Y (j:Int)) ?_;refine jM 7 (π B j) ?_;refine jM 8 (.string ⟨x.r.toArray⟩) ?_;refine pC (i:=9) rfl gJ (λK hK=>?_);go_simp;refine mn.mono ?_;rintro e w2 ⟨rfl,ki⟩;have g2:=uV ki;clear ki;have Mo:Hid (w2.c jb (j*9+8)=some (.slice x.a rn x.c)/\w2.c B j=some (.string ⟨x.r.toArray⟩)):=⟨g2.cell c8 (λe=>eb e.symm),g2.cell c1 (λe=>ot e.symm)⟩
     go_wp2_with fail;refine hK.out _ _ Mo (λhHeld=>?_);clear hK K;refine jM 10 (.bool true) ?_;refine wpAnyH_done gJ ?_ _;have hl:∀b,b<X.1.size->x.g≠some b:=λb B e=>by have:=((pF.rU x (ey Hx)).1.lt2 b e).1;omega
     have me:tb<X.1.size:=(by have:=U.o;omega);have ra:w2.rangeAt jb (j*9) x.t.a.cells.toList:=λi v hv=>g2.cell (kc i v (RW _ _ _ i v hv)) (λe=>eb e.symm);have rt:w2.rangeAt tb (Q+j*34) x.t.a.cells.toList:=λi v hv=>g2.cell (jn i v (Fz x.t i v hv)) (λe=>hl tb me e.symm);have gg:w2.c w.1.size 40=some (ς tb Q l tc):=g2.cell bl (λe=>hl _ U.1 e.symm);have n7:w2.c jb (j*9+7)=some (Y x.t.now):=g2.cell (kc 7 _ rfl) (λe=>eb e.symm);have t7:w2.c tb (Q+j*34+7)=some (Y x.t.now):=g2.cell (jn 7 _ rfl) (λe=>hl tb me e.symm);have l2:b' w2 jb ((l+1)*9):=(by have h:=Tq H2.lv g2 eb;rwa [Ch]at h);have GA:=cx w2 (.cells x.t.a.cells 41) none;have od:=bN GA gg;have mj:=gZ rt GA;have nh:=I g2;have dn:=I (dN n7 (dN t7 (dN l2 gg)));clear Mo hHeld bl c8 c1 g2 n7 t7 l2 rt;go_upto_region 20 with(first|(refine wpList_load_mid rfl 41 _ rfl jb (j*9) rfl x.t.a.cells.toList _ ra underlying41 rfl Tryz.Af ?_)|(refine wpList_load_mid rfl 41 _ rfl tb (Q+j*34) rfl x.t.a.cells.toList _ mj underlying41 rfl Tryz.Af ?_))
     refine Cx (λV=>w2.grownBy V none/\V.rangeAt w2.1.size 0 x.t.a.cells.toList/\V.rangeAt (w2.1.size+1) 0 x.t.a.cells.toList) ⟨aa (cx w2 _ none) (cx _ _ none),gZ (aS w2 x.t.a.cells _) (cx _ _ none),by have h:=aS (w2.alloc (.cells x.t.a.cells 41)) x.t.a.cells 41;rwa [cF]at h⟩ ?_;rintro V ⟨gV,r1,r2⟩;have a0:=r1 0 _ rfl;have a1:=r1 1 _ rfl;have a2:=r1 2 _ rfl;have a3:=r1 3 _ rfl;have a4:=r1 4 _ rfl;have a5:=r1 5 _ rfl;have a6:=r1 6 _ rfl;have b0:=r2 0 _ rfl;have b1:=r2 1 _ rfl;have b2:=r2 2 _ rfl;have b3:=r2 3 _ rfl;have b4:=r2 4 _ rfl;have b5:=r2 5 _ rfl;have b6:=r2 6 _ rfl;have n7:=bN gV dn.1;have t7:=bN gV dn.2.1;have bl:=bN gV dn.2.2.2;have jt:=I gV;clear r1 r2 ra mj GA gg od gV;go_wp2_with fail;clear a0 a1 a2 a3 a4 a5 a6 b0 b1 b2 b3 b4 b5 b6;go_quiet (fail)
     have L:=(dn.2.2.1).grown (aR jt nq);obtain⟨⟨d0,q0⟩,⟨d1,q1⟩,⟨d2,q2⟩,⟨d3,q3⟩,⟨d4,q4⟩,⟨d5,q5⟩,⟨d6,q6⟩,⟨d7,q7⟩,⟨d8,q8⟩,f0,f1,f2,f3,f4,f5,f6,f7,f8⟩:=VX (o:=j*9) L G;clear n7 t7 bl L;go_wp2;go_roundw
     case rel=>exact⟨j+1,by omega,by go_num,rfl,H2.next pF.o Hx.o nh.o (aR jt.o nq) (R' _ _ _ _ _ _ _ _ _ _ _ _)⟩
     case measure=>simp[intOf];omega
    .have cb:l=j:=G;subst cb;have LF:¬ (l:Int)<(l:Int):=G;by_cases qg:16<l
     .have oe:(16:Int)<(l:Int):=G;obtain⟨h9,e7,e8,g9⟩:16<l/\ev=7/\lv = σ/\w7.grownBy w9 none:=by
       rcases WE.2 with⟨h,_⟩|h
       .omega
       .exact h
      subst e7 e8;have pz:=Tryz.akV;go_wp2;go_ret;refine⟨rfl,d,(Us.start HI.1).far ((iU.lM (aa sS (aa HG7 g9)) (λ_=>False)).trans (H2.f.mono (λb _ e=>.inr (by have:=pF.new b e;have:=U.o;omega)))) (λ_ e=>e.elim),rfl,⟨_,(I8 HI.2).symm,rfl,rfl,HM.1.mono G,by show kl.length<=_;omega⟩,λt=>by omega⟩
     .have oe:¬ (16:Int)<(l:Int):=G;obtain⟨h9,e7,e8,ds,ed,kv,hQ,kz⟩:l<=16/\ev=0/\lv = ς w7.1.size 0 l l/\∃ds,b' w9 w7.1.size (l*2)/\ds.length=l/\QI w7 xb dp M (xs.map LJ.m) ds w9/\w9.rangeAt w7.1.size 0 (fE ds):=by
       rcases WE.2 with h|⟨h,_⟩
       .exact h
       .omega
      subst e7 e8;go_wp2;obtain⟨xq,nr⟩:∃w',w'=wr:=⟨wr,rfl⟩
      subst nr;obtain⟨ms,ei⟩:=aq (xs.map LJ.m);rw[ei]at hQ;have yg:ms.length=l:=(by rw[<-ei,cR];exact Ch);obtain⟨pX,gp,kx⟩:=hQ.bP;rw[kv,cU G]at gp;obtain⟨ps,ma,mb⟩:=hQ.said;have fx:=Wv (p:=⟨A,xb,dp,C,rg,M,M,sv,kl⟩) HI.1 HI.2 (aa sS HG7) WE.1 gp kx H2.f (λb e=>by have:=pF.new b e;have:=U.o;omega);obtain⟨M2,gm⟩:=aq (iy M ms);rw[gm]at fx;obtain⟨d2,ba⟩:∃d2:BW,d2={d with qs:=d.qs.set k ⟨A,xb,pX,C,rg,M2,M,sv,kl⟩}:=⟨_,rfl⟩
      have HU:Hid (Us base wb w (kB wb d) d2 xq/\∀b,kB wb d2 b->b<w.1.size):=(by rw[ba];exact fx);have gO:k<d.qs.length:=(cM.1 HI.2).1;have ju:Hid (d2.qs[k]?=some ⟨A,xb,pX,C,rg,M2,M,sv,kl⟩):=(by rw[ba];exact ee gO);have bu:=I ba;have fi:=I (dN ma mb);have bf:Hid (b' xq w7.1.size (l*2)/\xq.rangeAt w7.1.size 0 (fE ds)/\w7.1.size<xq.1.size):=by
       have B:xq.1[w7.1.size]?=w9.1[w7.1.size]?:=H2.f.block _ ed.lt (λe=>by
        have h1:=HX.new _ e
        omega)
       exact⟨Be ed B,λi v hv=>(World.cell?_of_block (a:=⟨w7.1.size,0+i,none⟩) B).trans (kz i v hv),by have:=ed.lt;have:=H2.f.size;omega⟩
      have HMs:=I (dN ei yg);have mw:=I gm;have Hdl:=I kv;clear fx ba ma mb gp kx hQ ei gm ed kz h9 gO;go_loopw [15,21,22,23,24] (λo i _ _ _ wr=>∃j:Nat,j<=l/\i = Y j/\o=.bool true/\L3 base wb xq d2 k A xb pX C M2 M ms kl.length j wr) (λ_ i _ _ _ _=>l-(intOf i).toNat)
      case atStart=>
       refine⟨0,cS _,rfl,rfl,rg,sv,kl,?_,cy _⟩;have h:=Us.start HU.1.sep;have e:({d2 with qs:=d2.qs.set k ⟨A,xb,pX,C,rg,M2,iy M (ms.take 0),sv,kl⟩}:BW)=d2:=by
        show BW.mk d2.qv (d2.qs.set k ⟨A,xb,pX,C,rg,M2,M,sv,kl⟩) d2.lv d2.le=d2;rw[I8 ju.o]
       rw[e];exact h
      case round=>
       obtain⟨j,hj,rfl,rfl,ad,an,ag,u3,kd⟩:=hrel;have pY:=I (dN u3 kd);clear u3 kd;by_cases af:j<l
       .have LF:(j:Int)<(l:Int):=G;have kf:(0:Int)<=(j:Int):=G;have ha:j<xs.length:=(by rw[Ch];exact af);obtain⟨x,hx⟩:∃x,xs[j]?=some x:=⟨_,cL ha⟩
        have ec:j<ms.length:=(by rw[HMs.2];exact af);have hc:ms[j]=x.m:=by
         have h:ms[j]?=some x.m:=(by rw[<-HMs.1,eA,hx];rfl);exact(cM.1 h).2
        have hjt:j<ts.length:=(by rw[hnt];exact af);have cz:ts[j]=x.t:=by
         exact F9
        have ea:∀b,b<xq.1.size->w.1.size<=b\/b<base->wr.1[b]?=xq.1[b]?:=λb h1 h2=>(pY.1.free h1 (λe=>by
         rcases h2 with q|q
         .have:=HU.2 b e;omega
         .have:=(HU.1.sep.low e).1;omega)).2
        have ht:=HU.1.xL.size;have s9:=H2.f.size;have hg:=U.o;obtain⟨tb,Q,cu,cv,D⟩:=jr wr (cE s9 pY.1.xL.size) (λb B=>by rw[ea b G (.inr B),H2.low pF.o G]) j hjt;rw[cz]at D;subst cu;obtain⟨W2,ao,bo,gW,gr⟩:=Wk wr x.t;have bl:wr.cell? (F w.1.size 40)=some (ς tb Q l tc):=by
         rw[World.cell?_of_block (w:=xq) (w':=wr) (a:=⟨w.1.size,40,none⟩) (ea w.1.size (by have:=pF.o.lv.lt;have:=pF.o.jl;omega) (.inl (cy _))),World.cell?_of_block (w:=w9) (w':=xq) (a:=⟨w.1.size,40,none⟩) (H2.o.low pF.o (b:=w.1.size) G)];exact il.o
        have ko:∀i v,(fE ds)[i]?=some v->W2.c w7.1.size i=some v:=λi v hv=>by
         refine bN gW ?_;have h:=bf.2.1 i v hv;rw[cN]at h;rw[World.cell?_of_block (w:=xq) (w':=wr) (a:=⟨w7.1.size,i,none⟩) (ea _ bf.o.2.2 (.inl xk))];exact h
        obtain⟨N3,Wy⟩:=aq (iy M (ms.take j));have Qs:=I Wy;have bz:k<d2.qs.length:=(cM.1 ju).1;have bt:Hid (Us base wb xq (kB wb d2) {d2 with qs:=d2.qs.set k ⟨A,xb,pX,C,ad,M2,N3,an,ag⟩} W2):=(by have h:=pY.1.grown gW;rw[Wy]at h;exact h);have hd:=bt.sep.part (k:=k) (ee bz);have bs:Hid (∀m∈ms,m.Ok):=λm hm=>by
         exact IS
        have WO:Hid (dX N3 (N+16)):=by
         have h:=HM.1.iy HM.2.1 (ms.take j) (λm hm=>bs m (List.mem_of_mem_take hm));rw[Wy]at h;exact h.mono (by rw[ep];omega)
        have fl:=I (fi.1 j (by rw[Hdl];exact af) ec);rw[Wy,hc]at fl;have dd:=I (wK ds j (by rw[Hdl];exact af));have q1:W2.c A 1=some (π C 0):=dz.cell (hd 0) 1;have ly:¬ ad.foot C A:=λe=>by
         have h:=bt.sep.one (0+4,k) (2+4,k) A ⟨_,ee bz,rfl⟩ ⟨_,ee bz,e⟩;simp at h
        have ck:∀b,w.1.size<=b->b<xq.1.size\/b=wr.1.size->¬ ad.foot C b:=λb h1 h2 e=>by
         have hh:kB wb {d2 with qs:=d2.qs.set k ⟨A,xb,pX,C,ad,M2,N3,an,ag⟩} b:=⟨(2+4,k),_,ee bz,e⟩
         have h3:b<wr.1.size:=by
          have h:=pY.1.sep;rw[Wy]at h;exact(h.low hh).2
         rcases bt.own b hh with q|q
         .have:=HU.2 b q;omega
         .omega
        obtain⟨WN,R7⟩:=aq x.t.cells;rw[R7]at D bo ao;have kn:WN.length=34:=(by rw[<-R7];rfl);have SZ:(prog.info? 192).map (·.size)=some WN.length:=(by rw[Tryz.OE,kn]);have k0:W2.c wr.1.size 0=some (Y x.t.a.kind):=gr 0 _ rfl;have dq:=I ao;have bk:=I gr;have da:=I ko;have Hx:=I (dN hx (dN hc (dN ec bz)));have ga:=I hd;have nm:=I gW;clear ao gr ko hx hc cz hd gW Wy ea R7 cv hg;by_cases bb:x.t.a.kind=0
        .have pc:(x.t.a.kind==0)=true:=(by rw[bb];rfl);obtain⟨B,oi,c1,_⟩:=H2.had pF Ch Hx.1;subst oi;have qn:X.1.size<=B:=(pF.hrow.lt B rfl).1;have k7:W2.c wr.1.size 7=some (Y x.t.now):=bk 7 _ rfl;have gl:W2.cell? (F B j)=some (.string ⟨x.r.toArray⟩):=by
          refine bN nm ?_;rw[World.cell?_of_block (w:=xq) (w':=wr) (a:=⟨B,j,none⟩) (pY.o.1.free (World.block_lt_of_cell? xq _ c1) (λe=>by have:=HU.o.2 B e;have:=U.o;omega)).2];exact c1
         have bn:=bs _ (eg ec);rw[Hx.2.1]at bn;have ph:=(pF.rU x (ey Hx.1)).2;have kh:Hid (x.r.length<=140737488355328):=(by show _<=_;omega);obtain⟨R,hR⟩:=aq (dG N3 x.t.now x.r);have ns:Hid (R.1.length<=900):=(by show _<=_;rw[<-hR];exact Bb WO _ _);have na:Hid (dX R.2 (N+16)):=(by show dX _ _;rw[<-hR];exact WO.answer _ _);have nu:Hid (N3.aJ.length<=1000):=by
          have h:=V7 (M:=M) (HP _ HG7 1).1.bP.few (ms.take j);rw[Qs]at h;show _<=_;omega
         have ih:Hid (∀(W:World)(b5 ab:Nat),W2.grownBy W none->x.r.length<=ab->ab<=maxLen->At W (some ⟨b5,0,none⟩) x.r->Calls prog 33 #[π C 0,Y x.t.now,ς b5 0 x.r.length ab] W λe w'=>∃o,e=.returned o/\xC 0 C ad R W w' o):=by
          intro W b5 ab gW KR oq om;rw[<-hR];exact OA 0 C N3 ad x.t.now x.r _ W ((ga 2).keep (λb B=>gW.block b (QD.lt (ga 2) B) Z)) (WO.aF.mono (Nat.le_of_lt HM.2.2)) (cS _) ⟨some ⟨b5,0,none⟩,ab,rfl,KR,oq,(λe=>by cases e),om⟩ kh bn.now WO.aA WO.I1 WO.aL nu WO.times
         obtain⟨nn,lr⟩:=aq R.1.length;have Ti:=I lr;have nc:=I hR;have bx:=I bb;have cp:=fl.o;rw[CZ bb]at cp;have dc:Hid (ds[j].2=0/\f' w9 ds[j].1 (ps j) R.1/\Pl.fresh (w7.1.size+1) (ps j)):=⟨cp.1,by rw[<-hR];exact cp.2.1,cp.2.2.1⟩
         clear ph bn bb hR lr cp c1;go_wp2_with (first|(refine wpList_load_mid rfl 192 _ rfl tb (Q+j*34) rfl WN _ D underlying192 rfl SZ ?_)|(rw[<-dq];fail_if_success done))
         refine wp_region_held_drew (S:=(λw'=>w'.c A 1=some (π C 0)/\w'.c wr.1.size 7=some (Y x.t.now)/\w'.c B j=some (.string ⟨x.r.toArray⟩))) gJ ⟨q1,k7,gl⟩ (λhHeld=>?_);refine rV 0 (π A 0) ?_;refine rV 1 (π A 0) ?_;refine rV 2 (π A 1) ?_;refine rV 3 (π C 0) ?_;refine rV 4 (π wr.1.size 7) ?_;refine rV 5 (Y x.t.now) ?_;refine rV 6 (ς B 0 l ch) ?_;refine rV 7 (Y (j:Int)) ?_;refine rV 8 (π B j) ?_;refine rV 9 (.string ⟨x.r.toArray⟩) ?_;refine pC (i:=10) rfl gJ (λK hK=>?_);refine Eq.mpr (dT gJ) ?_;refine Oi _ _ 9 37 rfl 5 underlying9 underlying37 underlying5 x.r rfl kh ?_;intro b5 ab w5 KR jx yh kk;have g5:=uV kk;clear kk;have WG:=I (ih w5 b5 ab g5 KR jx yh);have bp:Hid (w5.c A 1=some (π C 0)/\w5.c wr.1.size 7=some (Y x.t.now)/\w5.c B j=some (.string ⟨x.r.toArray⟩)):=⟨g5.cell q1 Z,g5.cell k7 Z,g5.cell gl Z⟩
         have df:=I g5;clear KR jx yh q1 k7 gl g5;refine hK.out _ _ bp (λhHeld=>?_);clear hK K;try simp only[Act.put,eh,ej,eJ]
         refine pC (i:=11) rfl gJ (λK hK=>?_);go_simp;refine WG.mono ?_;rintro e J ⟨o6,rfl,A6⟩;obtain⟨am,cm,lp⟩:=A6.1.has.shape;rw[Ti]at lp;subst lp;have Tf:=I A6;have mg:some wr.1.size≠some C:=λe=>ck wr.1.size (by have:=pY.1.xL.size;have:=HU.1.xL.size;omega) (.inr rfl) (.inl oR);have nv:some A≠some C:=λe=>ly (.inl oR);have ox:some B≠some C:=λe=>ck B (by have:=U.o;omega) (.inl (by have h:=(H2.f.size);have:=(pF.hrow.lt B rfl).2;omega)) (.inl oR);have iv:Hid (J.c A 1=some (π C 0)/\J.c wr.1.size 7=some (Y x.t.now)/\J.c B j=some (.string ⟨x.r.toArray⟩)):=⟨A6.2.2.cell bp.1 nv,A6.2.2.cell bp.2.1 mg,A6.2.2.cell bp.2.2 ox⟩
         clear A6;go_wp2_with fail;refine hK.out _ _ iv (λhHeld=>?_);clear hK K;refine rV 12 (.slice am nn cm) ?_;refine wpAnyH_done gJ ?_ _;have nf:=I (bt.grown df);obtain⟨hr,u6⟩:=L3.said nf.o Hx.2.2.2 Tf.o;have fz:=I u6;have lx:some w7.1.size≠some C:=λe=>ck w7.1.size xk (.inl bf.2.2) (.inl oR);have x0:J.c w7.1.size (j*2)=some ds[j].1:=Tf.2.2.cell (bN df (da _ _ dd.1)) lx;have x1:J.c w7.1.size (j*2+1)=some (Y ds[j].2):=Tf.2.2.cell (bN df (da _ _ dd.2)) lx;rw[dc.1]at x1;have ff:Hid (f' J ds[j].1 (ps j) R.1):=by
          refine(dc.2.1.xL H2.f (λq hq e=>?_)).xL u6.xL (λq hq e=>?_)
          .have h1:=HX.new _ e;have h2:=dc.2.2 q hq;omega
          .have h1:=HU.2 _ e;have h2:=dc.2.2 q hq;have h3:=(aa sS HG7).size;omega
         obtain⟨ar,cr,gw,_⟩:=ff.shape;rw[Ti]at gw;rw[gw]at x0 ff;have jm:At J ar R.1:=ff.at' Ti;obtain⟨qa,qe,e6,_,_,_,nk⟩:=Tf.1.has;injection e6 with e61 e62 e63;rw[<-e61]at nk;have r1:∀n,(convert 37 9 (.slice ar nn cr)).run prog (J.drewN n)=.ok (.string ⟨R.1.toArray⟩) (J.drewN n):=λn=>by
          have h:=iq (P:=prog) (J.drewN n) 37 9 5 underlying37 underlying5 underlying9 ar cr R.1 (jm.below (aR (cC _ none) n));rw[Ti]at h;exact h
         have r2:∀n,(convert 37 9 (.slice am nn cm)).run prog (J.drewN n)=.ok (.string ⟨R.1.toArray⟩) (J.drewN n):=λn=>by
          have h:=iq (P:=prog) (J.drewN n) 37 9 5 underlying37 underlying5 underlying9 am cm R.1 (nk.below (aR (cC _ none) n));rw[Ti]at h;exact h
         clear bp iv WG ih hHeld D bo u6 gw jm nk e61 e62 e63 k0;go_wp2_with fail;go_quiet (fail)
         have au:=λi=>QD.loc (fz.sep.part (k:=k) (ee Hx.2.2.2) i) (w':=(J.drewN nq).drewN 1) (λ_ _=>rfl);have q1:(J.drewN nq).c A 1=some (π C 0):=dz.cell (au 0) 1;have ai:(J.drewN nq).rangeAt wr.1.size 9 x.t.ask.cells:=λi v hv=>Tf.2.2.cell (bN df (bk (9+i) v (OH x.t i v hv))) mg;have cn:∀i j b,QD.F ⟨A,xb,pX,C,hr,M2,R.2,an,ag⟩ i b->QD.F ⟨A,xb,pX,C,hr,M2,R.2,an,ag⟩ j b->i=j:=λi j b e1 e2=>by
          have h:=fz.sep.one (i+4,k) (j+4,k) b ⟨_,ee Hx.2.2.2,e1⟩ ⟨_,ee Hx.2.2.2,e2⟩;simpa using h
         have O9:Hid (Calls prog 34 #[π A 2,.slice am nn cm,.agg x.t.ask.cells.toArray,π C 0] ((J.drewN nq).drewN 1) λe w'=>e=.returned (.tuple #[])/\sM ((J.drewN nq).drewN 1) w' 0 A 2 an ag):=
          Rx 0 C R.2 hr x.t.ask R.1 _ A 2 an ag _ (au 2) (na.aF.mono (Nat.le_of_lt HM.2.2)) (Tf.1.has.grown (aR (aR (cC _ none) nq) 1)) ns (QD.said (au 0) (au 3)) (by have:=pY.2;have:=HL.1;omega) (cS _) (EF (au 0) 3 (cy 3)) (λe=>by have:=cn 0 3 A rfl (.inl e);omega) (λy hy b B=>⟨λe=>by have:=cn 0 3 b e (.inr ⟨y,hy,B⟩);omega,((au 3).2 y hy).2 b B⟩)
         have ie:Hid (∀w',sM J w' 0 A 2 an ag->w'.cell? (F A 1)=some (π C 0)/\w'.rangeAt wr.1.size 9 x.t.ask.cells):=by
          intro w' h;obtain⟨KX,qt,_,_,_,_,_,f,hB⟩:=h;have B:=hB _ (au 0);refine⟨B.cell 1,λi v hv=>?_⟩;have h1:J.c wr.1.size (9+i)=some v:=ai i v hv
          rw[World.cell?_of_block (w:=J) (w':=w') (a:=⟨wr.1.size,9+i,none⟩) (f.block wr.1.size (World.block_lt_of_cell? J _ h1) (λe=>by
           have hh:∀i,QD.F ⟨A,xb,pX,C,ad,M2,N3,an,ag⟩ i wr.1.size->False:=λi e=>by
            have h:=pY.1.sep;rw[Qs]at h;have h2:=h.lt (i+4,k) wr.1.size ⟨_,ee Hx.2.2.2,e⟩;omega
           rcases e with e|e
           .exact hh 0 e
           .exact hh 3 (.inl e)))]
          exact h1
         clear au cn x0 x1 r1 r2;go_wp2_with fail;refine wp_region_held_drew (S:=(λw'=>w'.c A 1=some (π C 0)/\w'.rangeAt wr.1.size 9 x.t.ask.cells)) gJ ⟨q1,ai⟩ (λhHeld=>?_);refine jM 0 (π A 0) ?_;refine jM 1 (π A 0) ?_;refine jM 2 (π A 2) ?_;refine jM 3 (.slice am nn cm) ?_;refine jM 4 (π wr.1.size 9) ?_;refine jM 5 (.agg x.t.ask.cells.toArray) ?_ (hy:=yieldsIf_load_mid (by rfl) _ _ rfl wr.1.size 9 rfl x.t.ask.cells _ (λw' h=>h.2) underlying45 rfl Tryz.Cz);refine jM 6 (π A 0) ?_;refine jM 7 (π A 0) ?_;refine jM 8 (π A 1) ?_;refine jM 9 (π C 0) ?_;refine pC (i:=10) rfl gJ (λK hK=>?_);go_simp;refine O9.mono ?_;rintro e w8 ⟨rfl,R8⟩;have jj:=I R8.jN.jN;clear R8;have ix:=I (ie w8 jj);go_wp2_with fail;refine hK.out _ _ ix (λhHeld=>?_);clear hK K;refine wpAnyH_done gJ ?_ _;clear hHeld ix O9 ie q1 ai;go_wp2;go_roundw
         case rel=>exact⟨j+1,by omega,by go_num,rfl,L3.heard (M:=M) fz.o Hx.2.2.2 pY.2 (by rw[OB M ms j ec,Qs.o,Hx.2.1,CZ bx.o];exact congrArg Prod.snd nc) jj⟩
         case measure=>simp[intOf];omega
        .have pc:(x.t.a.kind==0)=false:=(by simpa using bb);obtain⟨er,gx⟩:=aq ((fD N3.aF x.t.a).2);have fa:=I (P5 (N+16) 0 C N3 ad x.t.a (W2.drewN 1) ((ga 2).keep (λ_ _=>rfl)) WO.aF HM.2.2 (by have:=(bs _ (eg Hx.2.2.1)).name;rw[Hx.2.1]at this;show x.t.a.name.length<=_;have h:x.m.1.name.length<=140737488355328:=this;show x.t.a.name.length<=_;have h2:x.t.a.name.length<=140737488355328:=h;omega) (cS _));rw[gx]at fa;have ng:=I gx;have bx:=I bb;have ai:W2.rangeAt wr.1.size 0 x.t.a.cells.toList:=λi v hv=>by rw[cN];exact bk i v (Fz x.t i v hv)
         have nw:¬ ad.foot C wr.1.size:=ck _ (by have:=pY.1.xL.size;have:=HU.1.xL.size;omega) (.inr rfl);clear gx bb;go_wp2_with (first|(refine wpList_load_mid rfl 192 _ rfl tb (Q+j*34) rfl WN _ D underlying192 rfl SZ ?_)|(rw[<-dq];fail_if_success done))
         refine wp_region_held_drew (S:=(λw'=>w'.c A 1=some (π C 0)/\w'.rangeAt wr.1.size 0 x.t.a.cells.toList)) gJ ⟨q1,ai⟩ (λhHeld=>?_);refine jM 0 (π A 0) ?_;refine jM 1 (π A 0) ?_;refine jM 2 (π A 1) ?_;refine jM 3 (π C 0) ?_;refine jM 4 (π wr.1.size 0) ?_;refine jM 5 (.agg x.t.a.cells.toList.toArray) ?_ (hy:=yieldsIf_load_mid (by rfl) _ _ rfl wr.1.size 0 rfl x.t.a.cells.toList _ (λw' h=>h.2) underlying41 rfl Tryz.Af);refine pC (i:=6) rfl gJ (λK hK=>?_);go_simp;refine fa.mono ?_;rintro e w4 ⟨rfl,hz⟩;have A4:=hz.adH;clear hz;have iu:Hid (w4.c A 1=some (π C 0)/\w4.rangeAt wr.1.size 0 x.t.a.cells.toList):=⟨A4.Ty q1 ly,λi v hv=>A4.Ty (ai i v hv) nw⟩
         have ml:=I A4;have FN:¬ ad.foot C w7.1.size:=ck _ xk (.inl bf.2.2);have x0:w4.c w7.1.size (j*2)=some ds[j].1:=A4.Ty (da _ _ dd.1) FN;have x1:w4.c w7.1.size (j*2+1)=some (Y ds[j].2):=A4.Ty (da _ _ dd.2) FN;have hs:=fl.o;rw[CY bx.o]at hs;have ba:ds[j].2=er:=hs.1.trans ng.o;have kt:ds[j].1 = σ:=by
          rcases hs.2.1 with⟨_,h,_⟩|⟨q,hq,_⟩
          .exact h
          .rw[hs.2.2.2 bx.o]at hq;cases hq
         rw[kt]at x0;rw[ba]at x1;clear A4 hs kt ba;go_wp2_with fail;refine hK.out _ _ iu (λhHeld=>?_);clear hK K;refine jM 7 (Y er) ?_;refine wpAnyH_done gJ ?_ _;clear hHeld iu fa ai q1 D bo;go_wp2;go_roundw
         case rel=>exact⟨j+1,by omega,by go_num,rfl,L3.adm (M:=M) (by rw[Qs.o];exact bt) Hx.2.2.2 pY.2 Hx.2.2.1 (by rw[Hx.2.1];exact bx) (by rw[Qs,Hx.2.1];exact ml)⟩
         case measure=>simp[intOf];omega
       .have cb:l=j:=G;subst cb;have LF:¬ (l:Int)<(l:Int):=G;have s7:=(aa sS HG7).size;have ht:=HU.1.xL.size;have hg:=U.o;have jc:Hid (iy M (ms.take l)=M2):=(by rw[<-mw,cU (by rw[HMs.2];exact cy _)];exact rfl);have bs:Hid (∀m∈ms,m.Ok):=λm hm=>by
         exact IS
        have WO:∀i,dX (iy M (ms.take i)) (N+16):=λi=>(HM.1.iy HM.2.1 (ms.take i) (λm hm=>bs m (List.mem_of_mem_take hm))).mono (by rw[ep];have:=HMs.2;omega);have ak:∀i(hi:i<ds.length),wB (w7.1.size+1) w9 ds[i] (ms[i]'xo) (Kq (iy M (ms.take i)) (ms[i]'xo)).1 (ps i):=λi hi=>fi.1 i hi _
        have mm:=I (V8 _ w7.1.size l ds ps wr pY.1 (I Hdl.o) G bf.2.1 bf.1 G (λe=>by have:=HU.2 _ e;omega) (λi hi=>by
         have h:=ak i hi;refine⟨_,h.2.1.xL H2.f (λq hq e=>by have h1:=HX.new _ e;have h2:=h.2.2.1 q hq;omega),?_⟩;by_cases e:(ms[i]'xo).1.kind=0
         .rw[CZ e];exact Bb (WO i) _ _
         .rw[CY e];exact cS _) (λi hi b e=>by
         have oy:i<ds.length:=(by rw[Hdl];exact hi);have h:=ak i oy;cases hp:ps i with
         |none=>rw[hp]at e;cases e
         |some q=>
          rw[hp]at e;have e:q.g=b:=oR;have h1:=h.2.2.1 q hp;have h2:=h.2.1.K8 q hp;have h3:=H2.f.size
          exact⟨by omega,by omega,λe2=>by have:=HU.2 _ e2;omega,by omega⟩) (λi j q r h1 h2 h3 h4=>fi.2 i j q r h1 (by rw[Hdl.o];exact h2) h3 h4) (by show((d2.le 0).length+16)*112<=_;rw[bu];exact HL.2.1) (by show((d2.le 3).length+1)*112<=_;rw[bu];exact HL.2.2))
        have mu:=I (WO l);have np:=I (dN s7 ht);have my:Hid (∀i b,i<l->Pl.blk (ps i)=some b->w.1.size<=b):=λi b hi e=>by
         have h:=ak i (by rw[Hdl];exact hi);cases hp:ps i with
         |none=>rw[hp]at e;cases e
         |some q=>rw[hp]at e;have e:q.g=b:=oR;have h1:=h.2.2.1 q hp;omega
        clear WO ak s7 ht hg;go_wp2_with (first|(go_at_call 76;refine mm.mono ?_;rintro e wf ⟨rfl,d',S,e1,e2,e3⟩))
        go_ret;refine⟨rfl,d',Us.trans HU.1.xL S (λb B=>?_),?_,⟨⟨A,xb,pX,C,ad,M2,iy M (ms.take l),an,ag⟩,?_,rfl,jc,?_,?_⟩,λt=>?_⟩
        .rcases B with(e|⟨i,hi,e⟩)|e
         .exact HU.1.own b e
         .exact .inr (my i b hi e)
         .exact .inr (by have:=np.o;omega)
        .rw[e1,bu]
        .rw[e2,bu];exact List.set_set ..
        .have h:=mu.o;rw[jc]at h;exact h
        .have:=pY.2;show ag.length<=_;omega
        .have h:=e3 t;have e:(d2.le t).length=(d.le t).length:=(by rw[bu]);have h:(d'.le t).length<=(d2.le t).length+16:=h;omega
