import Derived.Test.YtlfifnpjeangmaaGreatDoorGEBLst
namespace Go.Proofs.YtlfifnpjeangmaaGreatDoor
set_option maxHeartbeats 20000000
open Proofs.Tryz Go.RowKit
set_option maxRecDepth 100000
variable {p:Prop}
theorem aiU(h:p:=by have:=(aa sP.o HG7.o).size;omega):p:=h
theorem aje(h:p:=by rw[HMs.o.2,<-Hdl.o];exact hi):p:=h
variable {base wb:Nat}
theorem Tryz.Oy:(prog.info? 192).map (·.size)=some 34:=by kernel_rfl
abbrev Ac:Array Value:=#[ι 0,.string ⟨#[]⟩,υ 0,ι 0,ι 0,ι 0,ι 0,ι 0,.string ⟨#[]⟩,ι 0,.string ⟨#[]⟩,.string ⟨#[]⟩,ι 0,ι 0,ι 0,ι 0,ι 0,ι 0,ι 0,ι 0,ι 0,υ 0,.string ⟨#[]⟩,ι 0,ι 0,ι 0,ι 0,ι 0,ι 0,.string ⟨#[]⟩,ι 0,ι 0,ι 0,ι 0]
theorem Tryz.adx:(prog.info? 194).map (λi=>(i.zero,i.size,i.bytes))=some (some (.agg #[ι 0,.string ⟨#[]⟩,υ 0,ι 0,ι 0,ι 0,ι 0,ι 0,.slice none 0 0]),9,96):=by kernel_rfl
theorem Tryz.akK(w):(binOp .eql 37 (.slice none 0 0) (.slice none 0 0)).run prog w=.ok (.bool true) w:=by kernel_rfl
theorem Tryz.akL(w):(binOp .eql 66 (.slice none 0 0) (.slice none 0 0)).run prog w=.ok (.bool true) w:=by kernel_rfl
theorem Oz(t:kV):t.cells.length=34/\∀v∈t.cells,v.oneCell'=true:=by
 refine⟨rfl,?_⟩;intro v a;simp[kV.cells,qJ.cells]at a;rcases a with rfl|rfl|rfl|rfl|rfl|rfl|rfl|rfl|rfl|rfl|rfl|rfl|rfl|rfl|rfl|rfl|rfl|rfl|rfl|rfl|rfl|rfl|rfl|rfl|rfl|rfl|rfl|rfl|rfl|rfl|rfl|rfl|rfl|rfl<;>rfl
theorem Tryz.Ad:(prog.info? 41).map (·.size)=some 7:=by kernel_rfl
theorem Fx(t:kV)(i:Nat)(v)(h:t.a.cells.toList[i]?=some v):t.cells[i]?=some v:=by
 unfold kV.cells;rw[cW (cM.1 h).1];exact h
theorem ady(a)(now)(u)(i:Nat)(v)(h:a.cells.toList[i]?=some v):(gI a now u).toList[i]?=some v:=by
 have e:(gI a now u).toList=a.cells.toList++[ι now,u]:=rfl;rw[e,cW (cM.1 h).1];exact h
theorem OA(t:kV)(i)(v)(h:t.ask.cells[i]?=some v):t.cells[9+i]?=some v:=by
 unfold kV.cells;rw[cY (by show 7<=9+i;omega),cY (by show 2<=9+i-7;omega)];rw[show 9+i-(t.a.cells.toList).length-([Value.int .i64 t.now,.string t.s]).length=i from by show 9+i-7-2=i;omega];exact h
theorem aaq(wr:World)(T:kV):∃a,a=(wr.alloc (.cells Ac 192)).setCells wr.heap.size 0 T.cells/\(storeCells ⟨wr.heap.size,0,none⟩ T.cells).run prog (wr.alloc (.cells Ac 192))=.ok () a/\wr.grownBy a none/\∀i v,T.cells[i]?=some v->a.cell? ⟨wr.heap.size,i,none⟩=some v:=by
 have b:=Oz T;have c:Live (wr.alloc (.cells Ac 192)) wr.heap.size 34:=Live.new wr Ac 192;refine⟨_,rfl,eF (P:=prog) T.cells c (by rw[b.1];exact cy _) b.2,gQ wr.heap.size (cy _) T.cells 0 _ (cx wr _ none),λi v d=>?_⟩;have h:=World.rangeAt_setCells_same (wr.alloc (.cells Ac 192)) wr.heap.size 0 T.cells (c.there 0 _ (by rw[b.1];omega)) i v d;rwa [cN]at h
theorem adz(a)(now)(x)(n c):∀u∈(gI a now (.slice x n c)).toList,u.oneCell'=true:=by
 intro u b;simp at b;rcases b with rfl|rfl|rfl|rfl|rfl|rfl|rfl|rfl|rfl<;>rfl
theorem abN(h:p:=by
 rw[<-HMs.o.1]at hm
 obtain⟨y,hy,rfl⟩:=List.mem_map.1 hm
 have o:=qa.o y.t (by
  have h:=HJ.o.1.tk
  rw[Cc.o,cU (by rw[hnt.o];exact cy _)]at h
  rw[<-h]
  exact eK hy)
 exact⟨o.bI,o.aC,o.ae,by have:=o.name;show y.t.a.name.length<=_;omega,o.now⟩):p:=h
theorem ad1(h:p:=by
 have h:=HJ.o.1.tk
 rw[Cc.o,cU (by rw[hnt.o];exact cy _)]at h
 have h2:(xs.map LJ.t)[j]?=ts[j]?:=by rw[h]
 rw[eA,hx,cL hjt]at h2
 injection h2 with h2
 exact h2.symm):p:=h
theorem OB(d)(N k z O:Nat)(dp)(A)(rg)(M)(sv)(kl)(cs)(ta)(l tc)(ts)(w)(hk:d.qs[k]?=some ⟨z,O,dp,A,rg,M,M,sv,kl⟩)(cQ:cs[40]?=some (.slice ta l tc))(hnt:Hid (ts.length=l))(fb:l<=1048576)(cG:pE w ta ts)(bM:∀b off,ta=some ⟨b,off,none⟩->0<ts.length->b<base)(aF:∀t∈ts,t.Ok)(hM:dX M N)(cP:1<=N)(hN:N+16<4611686018427387904)(hkl:kl.length+16<=1073741824)(cI:((d.le 0).length+16)*112<=140737488355328)(dd:((d.le 3).length+1)*112<=140737488355328)(hI:kJ base wb d w):
  Calls prog 40 #[(wb,0),.agg cs,(z,0)] w λe w'=>xU base wb 16 d w e w' (λqs=>∃p',qs=d.qs.set k p'/\p'.pb=z/\p'.N=p'.M/\dX p'.M (N+16)/\p'.kl.length<=kl.length+16):=by
 obtain⟨ij,cO,cz,ca,c6⟩:=info_parts Tryz.adx
 obtain⟨is,eS,eD,eQ,dR⟩:=info_parts Tryz.Sd
 obtain⟨G,hW0⟩:=aw (w.alloc (.cells cs 48))
 have G0:w.grownBy G none:=ahE
 have s0:G.heap.size=w.heap.size+1:=by rw[hW0];exact cF _ _
 have c0:G.cell? (w,40)=some (.slice ta l tc):=by rw[hW0,World.cell?_alloc_at (hn:=rfl)];exact cQ
 have hp:=hI.part hk
 have HP:Hid (∀V,G.grownBy V none->∀j,QD.C ⟨z,O,dp,A,rg,M,M,sv,kl⟩ j V):=λV g j=>QD.loc (hp j) (λb B=>(aa G0 g).block b (QD.lt (hp j) B) agI)
 have HT:Hid (∀V,G.grownBy V none->pE V ta ts):=λV g=>cG.below (tH (aa G0 g))
 have HI:=hid (And.intro hI hk)
 have qa:=hid aF
 have HM:=hid (And.intro hM (And.intro cP hN))
 have HL:=hid (And.intro hkl (And.intro cI dd))
 have sP:=hid G0
 have Wt:=hid bM
 have eT:=hid (hM.aG.mono (m:=4611686018427387904) agE)
 have dm:=hid c0
 clear hp hI hk aF hM cP hN hkl cI dd cG bM cQ G0 c0
 go_enter func40,ntmps40
 go_wp2
 rw[<-hW0]
 clear hW0
 go_loopw [7,8,9,10,11,12] (λjv H i _ _ _ wr=>∃xs:List LJ,xs.length<=l/\i = ι xs.length/\JB G wr ts xs jv H/\G.grownBy wr none) (λ_ _ i _ _ _ _=>l-(intOf i).toNat)
 case atStart=>exact⟨[],cS _,rfl,JB.nil G G ts,cC _ _⟩
 case round=>
  obtain⟨xs,hj,rfl,hJ,bU⟩:=hrel;obtain⟨j,bR⟩:=aq xs.length;have aD:wr.cell? (w,40)=some (.slice ta l tc):=bN bU dm.o;have HJ:=hid (And.intro hJ bU);have Cc:=hid bR;rw[bR]at hj⊢;clear hJ bU bR;by_cases ab:j<l
  ·have Ls:(j:Int)<(l:Int):=agE;have dz:(0:Int)<=(j:Int):=agE;have hjt:j<ts.length:=(by rw[hnt.o];exact ab);obtain⟨tb,off,aW,aO,D⟩:=HT.o wr HJ.o.2 j hjt;obtain⟨T,hT⟩:=aq (ts[j]);rw[hT]at D;subst aW;have bu:Hid (ts[j]?=some T/\T.Ok):=⟨by rw[<-hT];exact cL hjt,qa.o T (by rw[<-hT];exact ef hjt)⟩
   have t1:=Oz T;obtain⟨Wv,RH⟩:=aq T.cells;rw[RH]at D t1;have L1:Live (wr.alloc (.cells Ac 192)) wr.heap.size 34:=Live.new wr Ac 192;have aB:=eF (P:=prog) Wv L1 (by rw[t1.1];exact cy _) t1.2;have RA:=World.rangeAt_setCells_same (wr.alloc (.cells Ac 192)) wr.heap.size 0 Wv (L1.there 0 _ (by rw[t1.1];omega));have SZ:(prog.info? 192).map (·.size)=some Wv.length:=(by rw[Tryz.Oy,t1.1]);obtain⟨W2,ai⟩:=aw ((wr.alloc (.cells Ac 192)).setCells wr.heap.size 0 Wv);have GW:wr.grownBy W2 none:=(by rw[ai];exact gQ wr.heap.size (cy _) Wv 0 _ (cx wr _ none));rw[<-ai]at RA aB;have dw:Wv.length=34:=t1.1;have bH:=hid (And.intro GW RA);have ea:=hid RH;have bh:=hid ai;clear L1 RA GW t1 hT RH ai;go_wp2_with (first|(refine wpList_load_mid rfl 192 _ rfl tb (off+j*34) rfl Wv _ D underlying192 rfl SZ ?_)|(rw[<-bh.o];fail_if_success done))
   have aE:=aa HJ.o.2 bH.o.1;have q1:W2.cell? (z,1)=some (.pointer (some (A,0))):=dB.cell (HP.o _ aE 0) 1;have RT:∀i v,T.cells[i]?=some v->W2.cell? ⟨wr.heap.size,i,none⟩=some v:=λi v H=>by
    have:=bH.o.2 i v (by rw[<-ea.o];exact H);rwa [cN]at this
   have c8:W2.cell? (wr,8)=some (.string T.s):=RT 8 _ rfl;have Iu:Hid (W2.rangeAt wr.heap.size 9 T.ask.cells):=λi v H=>RT (9+i) v (OA T i v H);have ay:=hid RT;have fa:=hid aE
   have sO:Hid (Calls prog 31 #[(z,2),(A,0),.string T.s,.agg T.ask.cells.toArray] (W2.drewN 1) λe w'=>∃r:List UInt8,e=.returned (.string r)/\r.length<=300000000/\(W2.drewN 1).grownBy w' none):=
    Kt 0 A M rg T.ask T.s z 2 sv kl _ (HP.o _ (aR aE 1) 2) eT.o bu.o.2.ask bu.o.2.s (QD.said (HP.o _ (aR aE 1) 0) (HP.o _ (aR aE 1) 3))
   clear RT aB D SZ aE;go_wp2_with fail;refine wp_region_held_drew (S:=(λw'=>w'.cell? ⟨z,1,none⟩=some (.pointer (some ⟨A,0,none⟩))/\w'.cell? ⟨wr.heap.size,8,none⟩=some (.string T.s)/\w'.rangeAt wr.heap.size 9 T.ask.cells)) agP ⟨q1,c8,Iu.o⟩ (λhHeld=>?_);refine rT 0 (.pointer (some ⟨z,0,none⟩)) ?_;refine rT 1 (.pointer (some ⟨z,0,none⟩)) ?_;refine rT 2 (.pointer (some ⟨z,2,none⟩)) ?_;refine rT 3 (.pointer (some ⟨z,0,none⟩)) ?_;refine rT 4 (.pointer (some ⟨z,0,none⟩)) ?_;refine rT 5 (.pointer (some ⟨z,1,none⟩)) ?_;refine rT 6 (.pointer (some ⟨A,0,none⟩)) ?_;refine rT 7 (.pointer (some ⟨wr.heap.size,8,none⟩)) ?_;refine rT 8 (.string T.s) ?_;refine rT 9 (.pointer (some ⟨wr.heap.size,9,none⟩)) ?_;refine jL 10 (.agg T.ask.cells.toArray) ?_ (hy:=yieldsIf_load_mid (by rfl) _ _ rfl wr.heap.size 9 rfl T.ask.cells _ (λw' h=>h.2.2) underlying45 rfl Tryz.Cv);refine ready_one (i:=11) rfl agP (λK hK=>?_);go_simp;refine sO.o.mono ?_;rintro e w3 ⟨r,rfl,di,cp⟩;have g3:=uS cp;clear cp;have cK:Hid (w3.cell? ⟨z,1,none⟩=some (.pointer (some ⟨A,0,none⟩))/\w3.cell? ⟨wr.heap.size,8,none⟩=some (.string T.s)/\w3.rangeAt wr.heap.size 9 T.ask.cells):=⟨g3.cell q1 agI,g3.cell c8 agI,gX Iu.o g3⟩
   go_wp2_with fail;refine hK.out _ _ cK.o (λhHeld=>?_);clear hK K;refine rT 12 (.string r) ?_;refine wpAnyH_done agP ?_ _;have dr:r.length<=140737488351232:=agE;have eV:=hid di;have kR:=hid (aa bH.o.1 g3);have ez:=hid g3;clear cK hHeld sO Iu q1 c8 di g3;go_wp2_with fail;refine(Dg r _ _ dr).mono ?_;rintro e w4 ⟨al,cl,gB,rfl,hL,g4⟩;obtain⟨rn,ak⟩:=aq r.length;have cY:=hid ak;have bm:=aa kR.o g4;have eI:Hid (nk wr w4 al cl r gB):=hL.aki kR.o.size;obtain⟨ah,ch,aY⟩:=bA HJ.o.1.hrow;obtain⟨aj,cj,aU⟩:=bA HJ.o.1.KD;rw[Cc.o]at aY aU;subst aY aU;have dD:w4.ownsRow G.heap.size 9 1 (.slice ah j ch) j (xs.map λx=>.string x.r):=by
    have h:=(HJ.o.1.grown bm).hrow;rw[Cc.o]at h;exact h
   have fc:G.heap.size<=w4.heap.size:=cE HJ.o.2.size bm.size;have aV:j+1<=maxLen:=ag1;have dZ:(j+1)*16<=140737488355328:=agE;have VC:(j+1)*96<=140737488355328:=agE;have eW:Hid (∀i v,T.cells[i]?=some v->w4.cell? ⟨wr.heap.size,i,none⟩=some v):=λi v H=>g4.cell (ez.o.cell (ay.o i v H) agI) agI;have eO:(Value.slice ah j ch).ownBlock≠some wr.heap.size:=λe=>by have:=(HJ.o.1.hrow.lt _ e).2;omega
   have ct:=hid bm;rw[ak];clear hL bm g4 ak dr ay;have eX:Hid (∀V,(w4.alloc (.cells #[.string r] 9)).grownBy V (Value.slice ah j ch).ownBlock->V.ownsRow G.heap.size 194 9 (.slice aj j cj) j (eH (xs.map LJ.Wu))):=λV gV=>by
    have h:=(HJ.o.1.grown ct.o).KD;rw[Cc.o]at h;exact bZ (h.alloc _) (λb B=>gV.block b (by rw[cF];have:=(h.lt b B).2;omega) (λe=>HJ.o.1.jh b B e.symm))
   have dW:=adz T.a T.now al rn cl;go_wp2_with (first|(at_builtin;refine dJ _ rfl (.tmp 54) (.tmp 56) 62 rfl G.heap.size 9 is _ 1 16 underlying62 eS eD eQ dR rfl agF (.slice ah j ch) j _ rfl (dD.alloc _) ⟨w4.heap.size,0,none⟩ 1 1 [.string r] rfl rfl (gJ w4 _ _) (by intro u hu;rw[ew.1 hu];rfl) agE aV dZ (by rw[cF];omega) ?_;intro fk E au nU bT;obtain⟨e5,e0,dQ⟩:=bA au;subst dQ;have Ws:=hid (And.intro au (And.intro nU bT.o));clear au nU bT;have cv:Hid (∀i v,T.cells[i]?=some v->E.cell? ⟨wr.heap.size,i,none⟩=some v):=(λi v H=>Ws.o.2.1.cell (bN (cx w4 _ none) (eW.o i v H)) (λe=>eO e.symm));have af:E.rangeAt wr.heap.size 0 T.a.cells.toList:=(λi v H=>by rw[cN];exact cv.o i v (Fx T i v H));have e7:E.cell? (wr,7)=some (ι T.now):=cv.o 7 _ rfl;have bd:E.ownsRow G.heap.size 194 9 (.slice aj j cj) j (eH (xs.map LJ.Wu)):=eX.o _ Ws.o.2.1;have bT:G.heap.size<=E.heap.size:=(by have:=Ws.o.2.1.size;rw[cF]at this;omega))|(refine wpList_load_mid rfl 41 _ rfl wr.heap.size 0 rfl T.a.cells.toList _ af underlying41 rfl Tryz.Ad ?_)|(at_builtin;refine dJ _ rfl (.tmp 58) (.tmp 65) 190 rfl G.heap.size 194 ij _ 9 96 underlying190 cO cz ca c6 rfl agF (.slice aj j cj) j _ rfl (bd.alloc _) ⟨E.heap.size,0,none⟩ 1 1 (gI T.a T.now (.slice al rn cl)).toList rfl rfl (gJ E _ _) dW agE aV VC (by rw[cF];omega) ?_;intro dF w8 Be db cq;obtain⟨da,av,bJ⟩:=bA Be;subst bJ;have bs:=hid (And.intro Be (And.intro db cq.o));clear Be db cq))
   go_roundw
   case rel=>
    have R:=HJ.o.1.push (x:=⟨T,al,cl,r,gB⟩) (w2:=w4) (by rw[Cc.o];exact bu.o.1) HJ.o.2.size ct.o eI.o eV.o (cx w4 _ none) (by rw[Cc.o];exact Ws.o.1) Ws.o.2.1 Ws.o.2.2 (cx E _ none) (by rw[Cc.o];show World.ownsRow _ _ _ _ _ _ (_++(gI T.a T.now (.slice al r.length cl)).toList);rw[cY.o];exact bs.o.1) bs.o.2.1 bs.o.2.2;exact⟨xs++[⟨T,al,cl,r,gB⟩],by rw[cD,eC,Cc.o];omega,by rw[cD,eC,Cc.o];go_num,R.1,R.2 HJ.o.2⟩
   case measure=>simp[intOf];omega
  ·have aT:l=j:=agE;subst aT;have Ls:¬ (l:Int)<(l:Int):=agE;obtain⟨ah,ch,aY⟩:=bA HJ.o.1.hrow;obtain⟨aj,cj,aU⟩:=bA HJ.o.1.KD;rw[Cc.o]at aY aU;subst aY aU;have bd:wr.ownsRow G.heap.size 194 9 (.slice aj l cj) l (eH (xs.map LJ.Wu)):=by
    have h:=HJ.o.1.KD;rw[Cc.o]at h;exact h
   have dI:G.heap.size<=wr.heap.size:=HJ.o.2.size;have aV:l+1<=maxLen:=ag1;have VC:(l+1)*96<=140737488355328:=agE;have c4:∀u∈Tg,u.oneCell'=true:=agF;go_wp2_with (at_builtin;refine dJ _ rfl (.tmp 67) (.tmp 69) 190 rfl G.heap.size 194 ij _ 9 96 underlying190 cO cz ca c6 rfl agF (.slice aj l cj) l _ rfl (bd.alloc _) ⟨wr.heap.size,0,none⟩ 1 1 Tg rfl rfl (gJ wr _ _) c4 agE aV VC (by rw[cF];omega) ?_;intro dF J rW Z8 b9;obtain⟨da,av,bJ⟩:=bA rW;subst bJ;have aN:=hid (And.intro rW (And.intro Z8 b9.o));clear rW Z8 b9)
   obtain⟨jb,dV,hX,cJ⟩:=HJ.o.1.last (c:=av) (aj:=da) (cx wr _ none) (by rw[Cc.o];exact aN.o.1) aN.o.2.1 (by rw[Cc.o];exact aN.o.2.2);subst dV;have G7:=cJ HJ.o.2;have q0:J.cell? (z,0)=some (.pointer (some (O,0))):=dB.cell (HP.o _ G7 0) 0;have dj:Hid (∀b,b=O\/Pl.blk dp=some b->b<w.heap.size):=λb B=>QD.lt (HI.o.1.part HI.o.2 1) B;have eP:Hid (z≠O):=λe=>by
    have h:=HI.o.1.one (4,k) (5,k) z ⟨_,HI.o.2,rfl⟩ ⟨_,HI.o.2,.inl e⟩;simp at h
   have cV:=hid (Ru G xs l jb av N O (.slice ah l ch) dp M (J.drewN 1) (hX.kept (λ_ _ _=>rfl)) (HP.o _ (aR G7 1) 1) (λb B=>by have:=dj.o b B;omega) HM.o.1 HM.o.2.1 (Nat.le_of_lt HM.o.2.2) Cc.o (λx hx=>qa.o x.t (by
    have h:=HJ.o.1.tk;rw[Cc.o,cU (by rw[hnt.o];exact cy _)]at h;rw[<-h]
    exact eK hx)))
   have eY:l<=av:=cE (fg _) (Jf aN.o.1).1;have HX:=hid hX;have HG7:=hid G7;clear hX cJ G7 bd dI aV VC c4 aN Ls;refine wp_region_held_drew (S:=(λw'=>w'.cell? ⟨z,0,none⟩=some (.pointer (some ⟨O,0,none⟩))/\True)) agP ⟨q0,trivial⟩ (λhHeld=>?_);refine jL 0 (.pointer (some ⟨z,0,none⟩)) ?_;refine jL 1 (.pointer (some ⟨z,0,none⟩)) ?_;refine jL 2 (.pointer (some ⟨z,0,none⟩)) ?_;refine jL 3 (.pointer (some ⟨O,0,none⟩)) ?_;refine jL 4 (.slice (some ⟨jb,0,none⟩) (l+1) av) ?_;refine jL 5 (.slice ah l ch) ?_;refine jL 6 (ι l) ?_;refine jL 7 (.slice (some ⟨jb,0,none⟩) l av) ?_;refine ready_one (i:=8) rfl agP (λK hK=>?_);go_simp;refine cV.o.mono ?_;rintro e w9 ⟨lv,ev,rfl,c7⟩;have B9:=c7.jM;clear c7;have dn:Hid (w9.cell? ⟨z,0,none⟩=some (.pointer (some ⟨O,0,none⟩))/\True):=⟨B9.1.cell q0 eP.o,trivial⟩
   have Wm:=hid B9;clear B9;go_wp2_with fail;refine hK.out _ _ dn.o (λhHeld=>?_);clear hK K;refine jL 9 (.tuple #[lv,ι ev]) ?_;refine jL 10 lv ?_;refine jL 11 (ι ev) ?_;refine jL 12 lv ?_;refine jL 13 (ι ev) ?_;refine wpAnyH_done agP ?_ _;have I:Hid (w.heap.size<G.heap.size/\O<w.heap.size/\base<=O/\base<=w.heap.size):=⟨by omega,dj.o O (.inl rfl),HI.o.1.base (5,k) O ⟨_,HI.o.2,.inl rfl⟩,HI.o.1.room⟩
   have pq:Hid (JX G w9 xs jb (.slice ah l ch)):=HX.o.kept (λb h1 h2=>Wm.o.1.block b h2 (λo e=>by have:=I.o;omega));have x7:=pq.o.j7.1;have x8:=pq.o.j7.2;rw[Cc.o]at x7 x8;have dy:Hid (w9.cell? (w,40)=some (.slice ta l tc)):=Wm.o.1.cell (bN HG7.o dm.o) (λe=>by have:=I.o;omega)
   have cc:Hid (∀V,w9.heap.size<=V.heap.size->(∀b,b<base->V.heap[b]?=w9.heap[b]?)->pE V ta ts):=λV hs hV=>(HT.o J HG7.o).kept Wt.o (cE Wm.o.1.size hs) (λb B=>by
    have:=I.o;have:=HG7.o.size
    rw[hV b B,Wm.o.1.block b agE (λo e=>by omega)])
   have eu:(l:Int)<((l+1:Nat):Int):=agE;have eb:(0:Int)<=(l:Int):=agE;have akK:=Tryz.akK;clear cV dn hHeld q0;go_wp2;clear x7 x8 eu eb;go_loopw [15,16,17,18,19,20] (λo i _ _ _ _ wr=>∃j:Nat,j<=l/\i = ι j/\o=.bool true/\J2 G w9 wr xs jb j) (λ_ i _ _ _ _ _=>l-(intOf i).toNat)
   case atStart=>exact⟨0,cS _,rfl,rfl,J2.start pq.o⟩
   case round=>
    obtain⟨j,hj,rfl,rfl,h2⟩:=hrel;have H2:=hid h2;clear h2;by_cases ab:j<l
    ·have Ls:(j:Int)<(l:Int):=agE;have fe:(j:Int)<(l:Int)+1:=agE;have dz:(0:Int)<=(j:Int):=agE;have bD:j<xs.length:=(by rw[Cc.o];exact ab);obtain⟨x,hx⟩:∃x,xs[j]?=some x:=⟨_,cL bD⟩
     have hjt:j<ts.length:=(by rw[hnt.o];exact ab);have aQ:ts[j]=x.t:=by
      exact ad1
     obtain⟨tb,off,aW,aO,D⟩:=cc.o wr H2.o.f.size (λb B=>H2.o.low pq.o (by have:=I.o;omega)) j hjt;rw[aQ]at D;subst aW;have bM:=Wt.o tb off rfl agE;obtain⟨B,rfl,c1,fj,eR⟩:=H2.o.had pq.o Cc.o hx;have aD:wr.cell? (w,40)=some (.slice (some (tb,off)) l tc):=by
      rw[World.cell?_of_block (w:=w9) (w':=wr) (a:=⟨w.heap.size,40,none⟩) (H2.o.low pq.o I.o.1)];exact dy.o
     have bb:=H2.o.Wu pq.o hx;obtain⟨rn,ak⟩:=aq x.r.length;rw[ak]at bb;have c8:wr.cell? ⟨jb,j*9+8,none⟩=some (.slice x.a rn x.c):=bb 8 _ rfl;have bo:x.g≠some jb:=λe=>(pq.o.VE x (ey hx) jb e).1 rfl;have dT:x.g≠some B:=eR x (ey hx);have cY:=hid ak;have dK:=hid (Dh x.r rn x.a x.c x.g G (wr.drewN 1) (hid ak) (by have:=(pq.o.rR x (ey hx)).2;omega) ((H2.o.ln j x (cy _) hx).grown (aR (cC _ none) 1)));have cn:=hid bb;have dk:=hid D;have Hx:=hid hx;have e4:=hid aO;clear bb D hx aQ ak aO;go_wp2_with fail;refine wp_region_held_drew (S:=(λw'=>w'.cell? ⟨jb,j*9+8,none⟩=some (.slice x.a rn x.c)/\w'.cell? ⟨B,j,none⟩=some (.string x.r))) agP ⟨c8,c1⟩ (λhHeld=>?_);refine jL 0 (.slice (some ⟨jb,0,none⟩) (l+1) av) ?_;refine jL 1 (ι j) ?_;refine jL 2 (.pointer (some ⟨jb,j*9,none⟩)) ?_;refine jL 3 (.pointer (some ⟨jb,j*9+8,none⟩)) ?_;refine jL 4 (.slice x.a rn x.c) ?_;refine jL 5 (.slice (some ⟨B,0,none⟩) l ch) ?_;refine jL 6 (ι j) ?_;refine jL 7 (.pointer (some ⟨B,j,none⟩)) ?_;refine jL 8 (.string x.r) ?_;refine ready_one (i:=9) rfl agP (λK hK=>?_);go_simp;refine dK.o.mono ?_;rintro e w2 ⟨rfl,cg⟩;have g2:=uS cg;clear cg;have Mh:Hid (w2.cell? ⟨jb,j*9+8,none⟩=some (.slice x.a rn x.c)/\w2.cell? ⟨B,j,none⟩=some (.string x.r)):=⟨g2.cell c8 (λe=>bo e.symm),g2.cell c1 (λe=>dT e.symm)⟩
     go_wp2_with fail;refine hK.out _ _ Mh.o (λhHeld=>?_);clear hK K;refine jL 10 (.bool true) ?_;refine wpAnyH_done agP ?_ _;have bW:∀b,b<G.heap.size->x.g≠some b:=λb B e=>by have:=((pq.o.rR x (ey Hx.o)).1.ZZ b e).1;omega
     have cH:tb<G.heap.size:=(by have:=I.o;omega);have ra:w2.rangeAt jb (j*9) x.t.a.cells.toList:=λi v H=>g2.cell (cn.o i v (ady _ _ _ i v H)) (λe=>bo e.symm);have rt:w2.rangeAt tb (off+j*34) x.t.a.cells.toList:=λi v H=>g2.cell (dk.o i v (Fx x.t i v H)) (λe=>bW tb cH e.symm);have bY:w2.cell? (w,40)=some (.slice (some (tb,off)) l tc):=g2.cell aD (λe=>bW _ I.o.1 e.symm);have n7:w2.cell? (jb,j*9+7)=some (ι x.t.now):=g2.cell (cn.o 7 _ rfl) (λe=>bo e.symm);have t7:w2.cell? (tb,off+j*34+7)=some (ι x.t.now):=g2.cell (dk.o 7 _ rfl) (λe=>bW tb cH e.symm);have l2:Live w2 jb ((l+1)*9):=(by have h:=Te H2.o.lv g2 bo;rwa [Cc.o]at h);have GA:=cx w2 (.cells x.t.a.cells 41) none;have dP:=bN GA bY;have c2:=gX rt GA;have ek:=hid g2;have ba:=hid (And.intro n7 (And.intro t7 (And.intro l2 bY)));clear Mh hHeld aD c8 c1 g2 n7 t7 l2 rt;go_upto_region 20 with(first|(refine wpList_load_mid rfl 41 _ rfl jb (j*9) rfl x.t.a.cells.toList _ ra underlying41 rfl Tryz.Ad ?_)|(refine wpList_load_mid rfl 41 _ rfl tb (off+j*34) rfl x.t.a.cells.toList _ c2 underlying41 rfl Tryz.Ad ?_))
     refine Ct (λV=>w2.grownBy V none/\V.rangeAt w2.heap.size 0 x.t.a.cells.toList/\V.rangeAt (w2.heap.size+1) 0 x.t.a.cells.toList) ⟨aa (cx w2 _ none) (cx _ _ none),gX (aS w2 x.t.a.cells _) (cx _ _ none),by have h:=aS (w2.alloc (.cells x.t.a.cells 41)) x.t.a.cells 41;rwa [cF]at h⟩ ?_;rintro V ⟨gV,r1,r2⟩;have a0:=r1 0 _ rfl;have a1:=r1 1 _ rfl;have a2:=r1 2 _ rfl;have a3:=r1 3 _ rfl;have a4:=r1 4 _ rfl;have a5:=r1 5 _ rfl;have a6:=r1 6 _ rfl;have b0:=r2 0 _ rfl;have b1:=r2 1 _ rfl;have b2:=r2 2 _ rfl;have b3:=r2 3 _ rfl;have b4:=r2 4 _ rfl;have b5:=r2 5 _ rfl;have b6:=r2 6 _ rfl;have n7:=bN gV ba.o.1;have t7:=bN gV ba.o.2.1;have aD:=bN gV ba.o.2.2.2;have cB:=hid gV;clear r1 r2 ra c2 GA bY dP gV;go_wp2_with fail;clear a0 a1 a2 a3 a4 a5 a6 b0 b1 b2 b3 b4 b5 b6;go_quiet (fail)
     have L:=(ba.o.2.2.1).grown (aR cB.o nq);obtain⟨⟨d0,q0⟩,⟨d1,q1⟩,⟨Q,q2⟩,⟨d3,q3⟩,⟨d4,q4⟩,⟨d5,q5⟩,⟨d6,q6⟩,⟨d7,q7⟩,⟨d8,q8⟩,f0,f1,f2,f3,f4,f5,f6,f7,f8⟩:=VP (o:=j*9) L agE;clear n7 t7 aD L;go_wp2;go_roundw
     case rel=>exact⟨j+1,by omega,by go_num,rfl,H2.o.next pq.o Hx.o ek.o (aR cB.o nq) (ado _ _ _ _ _ _ _ _ _ _ _ _)⟩
     case measure=>simp[intOf];omega
    ·have aT:l=j:=agE;subst aT;have Ls:¬ (l:Int)<(l:Int):=agE;by_cases fi:16<l
     ·have eE:(16:Int)<(l:Int):=agE;obtain⟨h9,e7,e8,g9⟩:16<l/\ev=7/\lv=.slice none 0 0/\J.grownBy w9 none:=by
       rcases Wm.o.2 with⟨h,_⟩|h
       ·omega
       ·exact h
      subst e7 e8;have akL:=Tryz.akL;go_wp2;go_ret;refine⟨rfl,d,(Us.start HI.o.1).far ((iZ.lM (aa sP.o (aa HG7.o g9)) (λ_=>False)).trans (H2.o.f.mono (λb _ e=>.inr (by have:=pq.o.new b e;have:=I.o;omega)))) (λ_ e=>e.elim),rfl,⟨_,(I5 HI.o.2).symm,rfl,rfl,HM.o.1.mono agE,by show kl.length<=_;omega⟩,λt=>by omega⟩
     ·have eE:¬ (16:Int)<(l:Int):=agE;obtain⟨h9,e7,e8,ds,bf,dc,hQ,cX⟩:l<=16/\ev=0/\lv=.slice (some (J,0)) l l/\∃ds,Live w9 J.heap.size (l*2)/\ds.length=l/\QI J O dp M (xs.map LJ.m) ds w9/\w9.rangeAt J.heap.size 0 (fC ds):=by
       rcases Wm.o.2 with h|⟨h,_⟩
       ·exact h
       ·omega
      subst e7 e8;go_wp2;obtain⟨xe,eB⟩:∃w',w'=wr:=⟨wr,rfl⟩
      subst eB;obtain⟨Y,bg⟩:=aq (xs.map LJ.m);rw[bg]at hQ;have xY:Y.length=l:=(by rw[<-bg,cR];exact Cc.o);obtain⟨pV,bS,dt⟩:=hQ.bP;rw[dc,cU agE]at bS;obtain⟨ps,df,cw⟩:=hQ.said;have bF:=aal (p:=⟨z,O,dp,A,rg,M,M,sv,kl⟩) HI.o.1 HI.o.2 (aa sP.o HG7.o) Wm.o.1 bS dt H2.o.f (λb e=>by have:=pq.o.new b e;have:=I.o;omega);obtain⟨M2,bV⟩:=aq (iq M Y);rw[bV]at bF;obtain⟨Q,ax⟩:∃Q:BW,Q={d with qs:=d.qs.set k ⟨z,O,pV,A,rg,M2,M,sv,kl⟩}:=⟨_,rfl⟩
      have HU:Hid (Us base wb w (Held wb d) Q xe/\∀b,Held wb Q b->b<w.heap.size):=(by rw[ax];exact bF);have hkl:k<d.qs.length:=(cM.1 HI.o.2).1;have cZ:Hid (Q.qs[k]?=some ⟨z,O,pV,A,rg,M2,M,sv,kl⟩):=(by rw[ax];exact ee hkl);have aI:=hid ax;have bO:=hid (And.intro df cw);have az:Hid (Live xe J.heap.size (l*2)/\xe.rangeAt J.heap.size 0 (fC ds)/\J.heap.size<xe.heap.size):=by
       have B:xe.heap[J.heap.size]?=w9.heap[J.heap.size]?:=H2.o.f.block _ bf.lt (λe=>by
        have h1:=HX.o.new _ e
        omega)
       exact⟨Ba bf B,λi v H=>(World.cell?_of_block (a:=⟨J.heap.size,0+i,none⟩) B).trans (cX i v H),by have:=bf.lt;have:=H2.o.f.size;omega⟩
      have HMs:=hid (And.intro bg xY);have dM:=hid bV;have Hdl:=hid dc;clear bF ax df cw bS dt hQ bg bV bf cX h9 hkl;go_loopw [15,21,22,23,24] (λo i _ _ _ wr=>∃j:Nat,j<=l/\i = ι j/\o=.bool true/\L3 base wb xe Q k z O pV A M2 M Y kl.length j wr) (λ_ i _ _ _ _=>l-(intOf i).toNat)
      case atStart=>
       refine⟨0,cS _,rfl,rfl,rg,sv,kl,?_,cy _⟩;have h:=Us.start HU.o.1.sep;have e:({Q with qs:=Q.qs.set k ⟨z,O,pV,A,rg,M2,iq M (Y.take 0),sv,kl⟩}:BW)=Q:=by
        show BW.mk Q.qv (Q.qs.set k ⟨z,O,pV,A,rg,M2,M,sv,kl⟩) Q.lv Q.le=Q;rw[I5 cZ.o]
       rw[e];exact h
      case round=>
       obtain⟨j,hj,rfl,rfl,U,ag,Z,u3,cT⟩:=hrel;have pW:=hid (And.intro u3 cT);clear u3 cT;by_cases ab:j<l
       ·have Ls:(j:Int)<(l:Int):=agE;have dz:(0:Int)<=(j:Int):=agE;have bD:j<xs.length:=(by rw[Cc.o];exact ab);obtain⟨x,hx⟩:∃x,xs[j]?=some x:=⟨_,cL bD⟩
        have bc:j<Y.length:=(by rw[HMs.o.2];exact ab);have bC:Y[j]=x.m:=by
         have h:Y[j]?=some x.m:=(by rw[<-HMs.o.1,eA,hx];rfl);exact(cM.1 h).2
        have hjt:j<ts.length:=(by rw[hnt.o];exact ab);have aQ:ts[j]=x.t:=by
         exact ad1
        have bn:∀b,b<xe.heap.size->w.heap.size<=b\/b<base->wr.heap[b]?=xe.heap[b]?:=λb h1 h2=>(pW.o.1.free h1 (λe=>by
         rcases h2 with q|q
         ·have:=HU.o.2 b e;omega
         ·have:=(HU.o.1.sep.low e).1;omega)).2
        have bw:=HU.o.1.xI.size;have s9:=H2.o.f.size;have bQ:=I.o;obtain⟨tb,off,aW,aO,D⟩:=cc.o wr (cE s9 pW.o.1.xI.size) (λb B=>by rw[bn b agE (.inr B),H2.o.low pq.o agE]) j hjt;rw[aQ]at D;subst aW;obtain⟨W2,ai,aB,gW,bq⟩:=aaq wr x.t;have aD:wr.cell? (w,40)=some (.slice (some (tb,off)) l tc):=by
         rw[World.cell?_of_block (w:=xe) (w':=wr) (a:=⟨w.heap.size,40,none⟩) (bn w.heap.size (by have:=pq.o.lv.lt;have:=pq.o.jl;omega) (.inl (cy _))),World.cell?_of_block (w:=w9) (w':=xe) (a:=⟨w.heap.size,40,none⟩) (H2.o.low pq.o (b:=w.heap.size) agE)];exact dy.o
        have de:∀i v,(fC ds)[i]?=some v->W2.cell? ⟨J.heap.size,i,none⟩=some v:=λi v H=>by
         refine bN gW ?_;have h:=az.o.2.1 i v H;rw[cN]at h;rw[World.cell?_of_block (w:=xe) (w':=wr) (a:=⟨J.heap.size,i,none⟩) (bn _ az.o.2.2 (.inl aiU))];exact h
        obtain⟨N3,We⟩:=aq (iq M (Y.take j));have Qi:=hid We;have a7:k<Q.qs.length:=(cM.1 cZ.o).1;have aZ:Hid (Us base wb xe (Held wb Q) {Q with qs:=Q.qs.set k ⟨z,O,pV,A,U,M2,N3,ag,Z⟩} W2):=(by have h:=pW.o.1.grown gW;rw[We]at h;exact h);have bK:=aZ.o.sep.part (k:=k) (ee a7);have aH:Hid (∀m∈Y,m.Ok):=λm hm=>by
         exact abN
        have Ww:Hid (dX N3 (N+16)):=by
         have h:=HM.o.1.iq HM.o.2.1 (Y.take j) (λm hm=>aH.o m (List.mem_of_mem_take hm));rw[We]at h;exact h.mono (by rw[ep];omega)
        have br:=hid (bO.o.1 j (by rw[Hdl.o];exact ab) bc);rw[We,bC]at br;have bk:=hid (wG ds j (by rw[Hdl.o];exact ab));have q1:W2.cell? (z,1)=some (.pointer (some (A,0))):=dB.cell (bK 0) 1;have c5:¬ U.foot A z:=λe=>by
         have h:=aZ.o.sep.one (0+4,k) (2+4,k) z ⟨_,ee a7,rfl⟩ ⟨_,ee a7,e⟩;simp at h
        have aX:∀b,w.heap.size<=b->b<xe.heap.size\/b=wr.heap.size->¬ U.foot A b:=λb h1 h2 e=>by
         have hh:Held wb {Q with qs:=Q.qs.set k ⟨z,O,pV,A,U,M2,N3,ag,Z⟩} b:=⟨(2+4,k),_,ee a7,e⟩
         have h3:b<wr.heap.size:=by
          have h:=pW.o.1.sep;rw[We]at h;exact(h.low hh).2
         rcases aZ.o.own b hh with q|q
         ·have:=HU.o.2 b q;omega
         ·omega
        obtain⟨Wv,RH⟩:=aq x.t.cells;rw[RH]at D aB ai;have dw:Wv.length=34:=(by rw[<-RH];rfl);have SZ:(prog.info? 192).map (·.size)=some Wv.length:=(by rw[Tryz.Oy,dw]);have k0:W2.cell? (wr,0)=some (ι x.t.a.kind):=bq 0 _ rfl;have bh:=hid ai;have ay:=hid bq;have bp:=hid de;have Hx:=hid (And.intro hx (And.intro bC (And.intro bc a7)));have bB:=hid bK;have dH:=hid gW;clear ai bq de hx bC aQ bK gW We bn RH aO bQ;by_cases ao:x.t.a.kind=0
        ·have ec:(x.t.a.kind==0)=true:=(by rw[ao];rfl);obtain⟨B,dE,c1,_⟩:=H2.o.had pq.o Cc.o Hx.o.1;subst dE;have ff:G.heap.size<=B:=(pq.o.hrow.lt B rfl).1;have k7:W2.cell? (wr,7)=some (ι x.t.now):=ay.o 7 _ rfl;have bz:W2.cell? (B,j)=some (.string x.r):=by
          refine bN dH.o ?_;rw[World.cell?_of_block (w:=xe) (w':=wr) (a:=⟨B,j,none⟩) (pW.o.1.free (World.block_lt_of_cell? xe _ c1) (λe=>by have:=HU.o.2 B e;have:=I.o;omega)).2];exact c1
         have aF:=aH.o _ (ef bc);rw[Hx.o.2.1]at aF;have eN:=(pq.o.rR x (ey Hx.o.1)).2;have ck:Hid (x.r.length<=140737488355328):=(by show _<=_;omega);obtain⟨R,hR⟩:=aq (dG N3 x.t.now x.r);have dO:Hid (R.1.length<=900):=(by show _<=_;rw[<-hR];exact A7 Ww.o _ _);have ei:Hid (dX R.2 (N+16)):=(by show dX _ _;rw[<-hR];exact Ww.o.answer _ _);have dU:Hid (N3.aJ.length<=1000):=by
          have h:=VU (M:=M) (HP.o _ HG7.o 1).1.bP.few (Y.take j);rw[Qi.o]at h;show _<=_;omega
         have c3:Hid (∀(W:World)(b5 X:Nat),W2.grownBy W none->x.r.length<=X->X<=maxLen->At W (some ⟨b5,0,none⟩) x.r->Calls prog 33 #[(A,0),ι x.t.now,.slice (some (b5,0)) x.r.length X] W λe w'=>∃o,e=.returned o/\xz 0 A U R W w' o):=by
          intro W b5 X gW KJ eo eg;rw[<-hR];exact Ou 0 A N3 U x.t.now x.r _ W ((bB.o 2).keep (λb B=>gW.block b (QD.lt (bB.o 2) B) agI)) (Ww.o.aG.mono (Nat.le_of_lt HM.o.2.2)) (cS _) ⟨some ⟨b5,0,none⟩,X,rfl,KJ,eo,(λe=>by cases e),eg⟩ ck.o aF.now Ww.o.aA Ww.o.IX Ww.o.aL dU.o Ww.o.times
         obtain⟨nn,cW⟩:=aq R.1.length;have SV:=hid cW;have eL:=hid hR;have aP:=hid ao;have a8:=br.o;rw[CU ao]at a8;have bj:Hid (ds[j].2=0/\Out w9 ds[j].1 (ps j) R.1/\Pl.fresh (J.heap.size+1) (ps j)):=⟨a8.1,by rw[<-hR];exact a8.2.1,a8.2.2.1⟩
         clear eN aF ao hR cW a8 c1;go_wp2_with (first|(refine wpList_load_mid rfl 192 _ rfl tb (off+j*34) rfl Wv _ D underlying192 rfl SZ ?_)|(rw[<-bh.o];fail_if_success done))
         refine wp_region_held_drew (S:=(λw'=>w'.cell? ⟨z,1,none⟩=some (.pointer (some ⟨A,0,none⟩))/\w'.cell? ⟨wr.heap.size,7,none⟩=some (ι x.t.now)/\w'.cell? ⟨B,j,none⟩=some (.string x.r))) agP ⟨q1,k7,bz⟩ (λhHeld=>?_);refine rT 0 (.pointer (some ⟨z,0,none⟩)) ?_;refine rT 1 (.pointer (some ⟨z,0,none⟩)) ?_;refine rT 2 (.pointer (some ⟨z,1,none⟩)) ?_;refine rT 3 (.pointer (some ⟨A,0,none⟩)) ?_;refine rT 4 (.pointer (some ⟨wr.heap.size,7,none⟩)) ?_;refine rT 5 (ι x.t.now) ?_;refine rT 6 (.slice (some ⟨B,0,none⟩) l ch) ?_;refine rT 7 (ι j) ?_;refine rT 8 (.pointer (some ⟨B,j,none⟩)) ?_;refine rT 9 (.string x.r) ?_;refine ready_one (i:=10) rfl agP (λK hK=>?_);refine Eq.mpr (if_pos agP) ?_;refine Ob _ _ 9 37 rfl 5 underlying9 underlying37 underlying5 x.r rfl ck.o ?_;intro b5 X w5 KJ c9 xZ dq;have g5:=uS dq;clear dq;have Wn:=hid (c3.o w5 b5 X g5 KJ c9 xZ);have aM:Hid (w5.cell? ⟨z,1,none⟩=some (.pointer (some ⟨A,0,none⟩))/\w5.cell? ⟨wr.heap.size,7,none⟩=some (ι x.t.now)/\w5.cell? ⟨B,j,none⟩=some (.string x.r)):=⟨g5.cell q1 agI,g5.cell k7 agI,g5.cell bz agI⟩
         have bl:=hid g5;clear KJ c9 xZ q1 k7 bz g5;refine hK.out _ _ aM.o (λhHeld=>?_);clear hK K;try simp only[Act.put,eh,ej,eJ]
         refine ready_one (i:=11) rfl agP (λK hK=>?_);go_simp;refine Wn.o.mono ?_;rintro e E ⟨o6,rfl,A6⟩;obtain⟨am,cm,du⟩:=A6.1.has.shape;rw[SV.o]at du;subst du;have SN:=hid A6;have cu:some wr.heap.size≠some A:=λe=>aX wr.heap.size (by have:=pW.o.1.xI.size;have:=HU.o.1.xI.size;omega) (.inr rfl) (.inl aho);have dA:some z≠some A:=λe=>c5 (.inl aho);have eM:some B≠some A:=λe=>aX B (by have:=I.o;omega) (.inl (by have h:=(H2.o.f.size);have:=(pq.o.hrow.lt B rfl).2;omega)) (.inl aho);have cA:Hid (E.cell? (z,1)=some (.pointer (some (A,0)))/\E.cell? (wr,7)=some (ι x.t.now)/\E.cell? (B,j)=some (.string x.r)):=⟨A6.2.2.cell aM.o.1 dA,A6.2.2.cell aM.o.2.1 cu,A6.2.2.cell aM.o.2.2 eM⟩
         clear A6;go_wp2_with fail;refine hK.out _ _ cA.o (λhHeld=>?_);clear hK K;refine rT 12 (.slice am nn cm) ?_;refine wpAnyH_done agP ?_ _;have dC:=hid (aZ.o.grown bl.o);obtain⟨bx,u6⟩:=L3.said dC.o Hx.o.2.2.2 SN.o;have bE:=hid u6;have cd:some J.heap.size≠some A:=λe=>aX J.heap.size aiU (.inl az.o.2.2) (.inl aho);have x0:E.cell? (J,j*2)=some ds[j].1:=SN.o.2.2.cell (bN bl.o (bp.o _ _ bk.o.1)) cd;have x1:E.cell? (J,j*2+1)=some (ι ds[j].2):=SN.o.2.2.cell (bN bl.o (bp.o _ _ bk.o.2)) cd;rw[bj.o.1]at x1;have bL:Hid (Out E ds[j].1 (ps j) R.1):=by
          refine(bj.o.2.1.xI H2.o.f (λq hq e=>?_)).xI u6.xI (λq hq e=>?_)
          ·have h1:=HX.o.new _ e;have h2:=bj.o.2.2 q hq;omega
          ·have h1:=HU.o.2 _ e;have h2:=bj.o.2.2 q hq;have h3:=(aa sP.o HG7.o).size;omega
         obtain⟨ar,cr,bG,_⟩:=bL.o.shape;rw[SV.o]at bG;rw[bG]at x0 bL;have ji:At E ar R.1:=bL.o.at' SV;obtain⟨e9,fh,e6,_,_,_,ni⟩:=SN.o.1.has;injection e6 with e61 e62 e63;rw[<-e61]at ni;have r1:∀n,(convert 37 9 (.slice ar nn cr)).run prog (E.drewN n)=.ok (.string R.1) (E.drewN n):=λn=>by
          have h:=ic (P:=prog) (E.drewN n) 37 9 5 underlying37 underlying5 underlying9 ar cr R.1 (ji.below (aR (cC _ none) n));rw[SV.o]at h;exact h
         have r2:∀n,(convert 37 9 (.slice am nn cm)).run prog (E.drewN n)=.ok (.string R.1) (E.drewN n):=λn=>by
          have h:=ic (P:=prog) (E.drewN n) 37 9 5 underlying37 underlying5 underlying9 am cm R.1 (ni.below (aR (cC _ none) n));rw[SV.o]at h;exact h
         clear aM cA Wn c3 hHeld D aB u6 bG ji ni e61 e62 e63 k0;go_wp2_with fail;go_quiet (fail)
         have an:=λi=>QD.loc (bE.o.sep.part (k:=k) (ee Hx.o.2.2.2) i) (w':=(E.drewN nq).drewN 1) (λ_ _=>rfl);have q1:(E.drewN nq).cell? (z,1)=some (.pointer (some (A,0))):=dB.cell (an 0) 1;have af:(E.drewN nq).rangeAt wr.heap.size 9 x.t.ask.cells:=λi v H=>SN.o.2.2.cell (bN bl.o (ay.o (9+i) v (OA x.t i v H))) cu;have aK:∀i j b,QD.F ⟨z,O,pV,A,bx,M2,R.2,ag,Z⟩ i b->QD.F ⟨z,O,pV,A,bx,M2,R.2,ag,Z⟩ j b->i=j:=λi j b e1 e2=>by
          have h:=bE.o.sep.one (i+4,k) (j+4,k) b ⟨_,ee Hx.o.2.2.2,e1⟩ ⟨_,ee Hx.o.2.2.2,e2⟩;simpa using h
         have O3:Hid (Calls prog 34 #[(z,2),.slice am nn cm,.agg x.t.ask.cells.toArray,(A,0)] ((E.drewN nq).drewN 1) λe w'=>e=.returned (.tuple #[])/\sJ ((E.drewN nq).drewN 1) w' 0 z 2 ag Z):=
          Rm 0 A R.2 bx x.t.ask R.1 _ z 2 ag Z _ (an 2) (ei.o.aG.mono (Nat.le_of_lt HM.o.2.2)) (SN.o.1.has.grown (aR (aR (cC _ none) nq) 1)) dO.o (QD.said (an 0) (an 3)) (by have:=pW.o.2;have:=HL.o.1;omega) (cS _) (ED (an 0) 3 (cy 3)) (λe=>by have:=aK 0 3 z rfl (.inl e);omega) (λy hy b B=>⟨λe=>by have:=aK 0 3 b e (.inr ⟨y,hy,B⟩);omega,((an 3).2 y hy).2 b B⟩)
         have dx:Hid (∀w',sJ E w' 0 z 2 ag Z->w'.cell? (z,1)=some (.pointer (some (A,0)))/\w'.rangeAt wr.heap.size 9 x.t.ask.cells):=by
          intro w' h;obtain⟨KQ,eZ,_,_,_,_,_,f,hB⟩:=h;have B:=hB _ (an 0);refine⟨B.cell 1,λi v H=>?_⟩;have h1:E.cell? (wr,9+i)=some v:=af i v H
          rw[World.cell?_of_block (w:=E) (w':=w') (a:=⟨wr.heap.size,9+i,none⟩) (f.block wr.heap.size (World.block_lt_of_cell? E _ h1) (λe=>by
           have hh:∀i,QD.F ⟨z,O,pV,A,U,M2,N3,ag,Z⟩ i wr.heap.size->False:=λi e=>by
            have h:=pW.o.1.sep;rw[Qi.o]at h;have h2:=h.lt (i+4,k) wr.heap.size ⟨_,ee Hx.o.2.2.2,e⟩;omega
           rcases e with e|e
           ·exact hh 0 e
           ·exact hh 3 (.inl e)))]
          exact h1
         clear an aK x0 x1 r1 r2;go_wp2_with fail;refine wp_region_held_drew (S:=(λw'=>w'.cell? ⟨z,1,none⟩=some (.pointer (some ⟨A,0,none⟩))/\w'.rangeAt wr.heap.size 9 x.t.ask.cells)) agP ⟨q1,af⟩ (λhHeld=>?_);refine jL 0 (.pointer (some ⟨z,0,none⟩)) ?_;refine jL 1 (.pointer (some ⟨z,0,none⟩)) ?_;refine jL 2 (.pointer (some ⟨z,2,none⟩)) ?_;refine jL 3 (.slice am nn cm) ?_;refine jL 4 (.pointer (some ⟨wr.heap.size,9,none⟩)) ?_;refine jL 5 (.agg x.t.ask.cells.toArray) ?_ (hy:=yieldsIf_load_mid (by rfl) _ _ rfl wr.heap.size 9 rfl x.t.ask.cells _ (λw' h=>h.2) underlying45 rfl Tryz.Cv);refine jL 6 (.pointer (some ⟨z,0,none⟩)) ?_;refine jL 7 (.pointer (some ⟨z,0,none⟩)) ?_;refine jL 8 (.pointer (some ⟨z,1,none⟩)) ?_;refine jL 9 (.pointer (some ⟨A,0,none⟩)) ?_;refine ready_one (i:=10) rfl agP (λK hK=>?_);go_simp;refine O3.o.mono ?_;rintro e w8 ⟨rfl,R8⟩;have cb:=hid R8.jM.jM;clear R8;have dh:=hid (dx.o w8 cb.o);go_wp2_with fail;refine hK.out _ _ dh.o (λhHeld=>?_);clear hK K;refine wpAnyH_done agP ?_ _;clear hHeld dh O3 dx q1 af;go_wp2;go_roundw
         case rel=>exact⟨j+1,by omega,by go_num,rfl,L3.heard (M:=M) bE.o Hx.o.2.2.2 pW.o.2 (by rw[Ov M Y j bc,Qi.o,Hx.o.2.1,CU aP.o];exact congrArg Prod.snd eL.o) cb.o⟩
         case measure=>simp[intOf];omega
        ·have ec:(x.t.a.kind==0)=false:=(by simpa using ao);obtain⟨er,bX⟩:=aq ((fB N3.aG x.t.a).2);have bt:=hid (PO (N+16) 0 A N3 U x.t.a (W2.drewN 1) ((bB.o 2).keep (λ_ _=>rfl)) Ww.o.aG HM.o.2.2 (by have:=(aH.o _ (ef Hx.o.2.2.1)).name;rw[Hx.o.2.1]at this;show x.t.a.name.length<=_;have h:x.m.1.name.length<=140737488355328:=this;show x.t.a.name.length<=_;have h2:x.t.a.name.length<=140737488355328:=h;omega) (cS _));rw[bX]at bt;have dN:=hid bX;have aP:=hid ao;have af:W2.rangeAt wr.heap.size 0 x.t.a.cells.toList:=λi v H=>by rw[cN];exact ay.o i v (Fx x.t i v H)
         have et:¬ U.foot A wr.heap.size:=aX _ (by have:=pW.o.1.xI.size;have:=HU.o.1.xI.size;omega) (.inr rfl);clear bX ao;go_wp2_with (first|(refine wpList_load_mid rfl 192 _ rfl tb (off+j*34) rfl Wv _ D underlying192 rfl SZ ?_)|(rw[<-bh.o];fail_if_success done))
         refine wp_region_held_drew (S:=(λw'=>w'.cell? ⟨z,1,none⟩=some (.pointer (some ⟨A,0,none⟩))/\w'.rangeAt wr.heap.size 0 x.t.a.cells.toList)) agP ⟨q1,af⟩ (λhHeld=>?_);refine jL 0 (.pointer (some ⟨z,0,none⟩)) ?_;refine jL 1 (.pointer (some ⟨z,0,none⟩)) ?_;refine jL 2 (.pointer (some ⟨z,1,none⟩)) ?_;refine jL 3 (.pointer (some ⟨A,0,none⟩)) ?_;refine jL 4 (.pointer (some ⟨wr.heap.size,0,none⟩)) ?_;refine jL 5 (.agg x.t.a.cells.toList.toArray) ?_ (hy:=yieldsIf_load_mid (by rfl) _ _ rfl wr.heap.size 0 rfl x.t.a.cells.toList _ (λw' h=>h.2) underlying41 rfl Tryz.Ad);refine ready_one (i:=6) rfl agP (λK hK=>?_);go_simp;refine bt.o.mono ?_;rintro e w4 ⟨rfl,b8⟩;have A4:=b8.adv;clear b8;have b7:Hid (w4.cell? ⟨z,1,none⟩=some (.pointer (some ⟨A,0,none⟩))/\w4.rangeAt wr.heap.size 0 x.t.a.cells.toList):=⟨A4.Tj q1 c5,λi v H=>A4.Tj (af i v H) et⟩
         have eU:=hid A4;have FK:¬ U.foot A J.heap.size:=aX _ aiU (.inl az.o.2.2);have x0:w4.cell? (J,j*2)=some ds[j].1:=A4.Tj (bp.o _ _ bk.o.1) FK;have x1:w4.cell? (J,j*2+1)=some (ι ds[j].2):=A4.Tj (bp.o _ _ bk.o.2) FK;have hs:=br.o;rw[CQ aP.o]at hs;have ax:ds[j].2=er:=hs.1.trans dN.o;have cf:ds[j].1=.slice none 0 0:=by
          rcases hs.2.1 with⟨_,h,_⟩|⟨q,hq,_⟩
          ·exact h
          ·rw[hs.2.2.2 aP.o]at hq;cases hq
         rw[cf]at x0;rw[ax]at x1;clear A4 hs cf ax;go_wp2_with fail;refine hK.out _ _ b7.o (λhHeld=>?_);clear hK K;refine jL 7 (ι er) ?_;refine wpAnyH_done agP ?_ _;clear hHeld b7 bt af q1 D aB;go_wp2;go_roundw
         case rel=>exact⟨j+1,by omega,by go_num,rfl,L3.adm (M:=M) (by rw[Qi.o];exact aZ.o) Hx.o.2.2.2 pW.o.2 Hx.o.2.2.1 (by rw[Hx.o.2.1];exact aP.o) (by rw[Qi.o,Hx.o.2.1];exact eU.o)⟩
         case measure=>simp[intOf];omega
       ·have aT:l=j:=agE;subst aT;have Ls:¬ (l:Int)<(l:Int):=agE;have s7:=(aa sP.o HG7.o).size;have bw:=HU.o.1.xI.size;have bQ:=I.o;have dv:Hid (iq M (Y.take l)=M2):=(by rw[<-dM.o,cU (by rw[HMs.o.2];exact cy _)];exact rfl);have aH:Hid (∀m∈Y,m.Ok):=λm hm=>by
         exact abN
        have Ww:∀i,dX (iq M (Y.take i)) (N+16):=λi=>(HM.o.1.iq HM.o.2.1 (Y.take i) (λm hm=>aH.o m (List.mem_of_mem_take hm))).mono (by rw[ep];have:=HMs.o.2;omega);have ad:∀i(hi:i<ds.length),wm (J.heap.size+1) w9 ds[i] (Y[i]'aje) (Kl (iq M (Y.take i)) (Y[i]'aje)).1 (ps i):=λi hi=>bO.o.1 i hi _
        have dL:=hid (VV _ J.heap.size l ds ps wr pW.o.1 (hid Hdl.o) agE az.o.2.1 az.o.1 agE (λe=>by have:=HU.o.2 _ e;omega) (λi hi=>by
         have h:=ad i hi;refine⟨_,h.2.1.xI H2.o.f (λq hq e=>by have h1:=HX.o.new _ e;have h2:=h.2.2.1 q hq;omega),?_⟩;by_cases e:(Y[i]'aje).1.kind=0
         ·rw[CU e];exact A7 (Ww i) _ _
         ·rw[CQ e];exact cS _) (λi hi b e=>by
         have en:i<ds.length:=(by rw[Hdl.o];exact hi);have h:=ad i en;cases hp:ps i with
         |none=>rw[hp]at e;cases e
         |some q=>
          rw[hp]at e;have e:q.g=b:=aho;have h1:=h.2.2.1 q hp;have h2:=h.2.1.KU q hp;have h3:=H2.o.f.size
          exact⟨by omega,by omega,λe2=>by have:=HU.o.2 _ e2;omega,by omega⟩) (λi j q r h1 h2 h3 h4=>bO.o.2 i j q r h1 (by rw[Hdl.o];exact h2) h3 h4) (by show((Q.le 0).length+16)*112<=_;rw[aI.o];exact HL.o.2.1) (by show((Q.le 3).length+1)*112<=_;rw[aI.o];exact HL.o.2.2))
        have ed:=hid (Ww l);have dS:=hid (And.intro s7 bw);have eG:Hid (∀i b,i<l->Pl.blk (ps i)=some b->w.heap.size<=b):=λi b hi e=>by
         have h:=ad i (by rw[Hdl.o];exact hi);cases hp:ps i with
         |none=>rw[hp]at e;cases e
         |some q=>rw[hp]at e;have e:q.g=b:=aho;have h1:=h.2.2.1 q hp;omega
        clear Ww ad s7 bw bQ;go_wp2_with (first|(go_at_call 76;refine dL.o.mono ?_;rintro e wf ⟨rfl,d',S,e1,e2,e3⟩))
        go_ret;refine⟨rfl,d',Us.trans HU.o.1.xI S (λb B=>?_),?_,⟨⟨z,O,pV,A,U,M2,iq M (Y.take l),ag,Z⟩,?_,rfl,dv.o,?_,?_⟩,λt=>?_⟩
        ·rcases B with(e|⟨i,hi,e⟩)|e
         ·exact HU.o.1.own b e
         ·exact .inr (eG.o i b hi e)
         ·exact .inr (by have:=dS.o;omega)
        ·rw[e1,aI.o]
        ·rw[e2,aI.o];exact List.set_set ..
        ·have h:=ed.o;rw[dv.o]at h;exact h
        ·have:=pW.o.2;show Z.length<=_;omega
        ·have h:=e3 t;have e:(Q.le t).length=(d.le t).length:=(by rw[aI.o]);have h:(d'.le t).length<=(Q.le t).length+16:=h;omega
end Go.Proofs.YtlfifnpjeangmaaGreatDoor
