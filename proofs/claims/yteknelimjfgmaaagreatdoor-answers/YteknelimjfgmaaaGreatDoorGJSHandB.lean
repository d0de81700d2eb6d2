import Derived.Test.YteknelimjfgmaaaGreatDoorGJSFstB
namespace Go.Proofs.YteknelimjfgmaaaGreatDoor
set_option maxHeartbeats 8000000
open Proofs.Tryz Go.RowKit
set_option maxRecDepth 100000
set_option linter.unusedSimpArgs false
theorem Tryz.Rq:(prog.info? 170).map (·.size)=some 3:=by kernel_rfl
theorem Rs {w:World} {b:Nat} {x y z:Value} (h:w.rangeAt b 0 [x,y,z]):(loadVar 170 ⟨b,0,none⟩).run prog w = .ok (.agg #[x,y,z]) w:=ji h 170 _ underlying170 rfl Tryz.Rq
theorem Ig {fn:Func} {a:Tmp} {ty:TypeId} (h:fn.results=#[.cell a ty]) (tmps:Array Value) (P:Program) (w:World) (b:Nat) (hp:tmps.getD a undef = .pointer (some ⟨b,0,none⟩)) (x:Value) (hl:(loadVar ty ⟨b,0,none⟩).run P w = .ok x w) :
  (results fn tmps).run P w = .ok x w:=by
 have hp':tmps[a]?.getD undef = .pointer (some ⟨b,0,none⟩):=by simpa using hp
 exact ac1
def Rt (w w':World) (e:Ending):Prop:=∃ (o:Value) (z:List UInt8) (s:UInt64) (c:List UInt8),e = .returned (.agg #[o,.int .u64 (s.toNat:Int),.string ⟨c.toArray⟩])/\Has w' o z/\z.length<=30000000/\c.length<=1048576/\w.grownBy w' none
structure HB (w V:World) (base yb:Nat) (M:DM) (g:RG) (a:oL):Prop where
 d:RD V base yb M g
 c:V.rangeAt w.heap.size 0 a.cells
 r:Live V (w.heap.size+1) 3
 g:w.grownBy V none
theorem HB.grown {w V V':World} {base yb:Nat} {M:DM} {g:RG} {a:oL} (h:HB w V base yb M g a) (k:V.grownBy V' none):HB w V' base yb M g a:=
 ⟨h.d.keep (fun b hb=>k.block b (h.d.lt b hb).2 aft),aA h.c k,h.r.grown k,aa h.g k⟩
theorem Ru (base yb:Nat) (M:DM) (g:RG) (a:oL) (w:World) (hD:RD w base yb M g) (hok:gU 4611686018427387904 M.bg) (ha:a.Ok) :
  Calls prog 61 #[.pointer (some ⟨yb,0,none⟩),.agg a.arr] w fun e w'=>Rt w w' e:=by
 obtain ⟨ib,hib,La,Lb,afl⟩:=info_parts Tryz.zS
 have HL:Hid (HB w ((w.alloc (.cells a.arr 45)).alloc (.cells #[.slice none 0 0,.int .u64 0,.string ⟨#[]⟩] 170)) base yb M g a):=by
  have k:=aR (aE w (.cells a.arr 45) none) (.cells #[.slice none 0 0,.int .u64 0,.string ⟨#[]⟩] 170);refine ⟨hD.keep (fun b hb=>k.block b (hD.lt b hb).2 aft),aA (aW w a.arr _) (aE _ _ _),?_,k⟩;have h:=Live.new (w.alloc (.cells a.arr 45)) #[.slice none 0 0,.int .u64 0,.string ⟨#[]⟩] 170;rw[ch] at h;exact h
 rw[oL.nQ] at HL ⊢
 clear hD
 go_enter func61,ntmps61
 go_upto_region 1 with fail
 refine jP (fun V=>HB w V base yb M g a) HL.o ?_
 clear HL
 intro W hW
 have HW:=hid hW
 clear hW
 have CK:=hid (fun W (hW:RD W base yb M g)=>Du base yb M g [116,103,115] W hW hok)
 go_wp2_with fail
 refine (CK.o _ HW.o.d).mono ?_
 rintro e W1 ⟨key,kn,rfl,hn0,hn1,g1⟩
 have HW1:=hid (HW.o.grown g1)
 clear HW g1 CK
 have c11:W1.cell? ⟨w.heap.size,11,none⟩=some (.int .i64 a.hand.ay):=HW1.o.c 11 _ rfl
 have c12:W1.cell? ⟨w.heap.size,12,none⟩=some (.int .u64 (a.hand.aM.toNat:Int)):=HW1.o.c 12 _ rfl
 have c13:W1.cell? ⟨w.heap.size,13,none⟩=some (.string ⟨a.hand.ax.toArray⟩):=HW1.o.c 13 _ rfl
 have c14:W1.cell? ⟨w.heap.size,14,none⟩=some (.int .i64 a.hand.dY):=HW1.o.c 14 _ rfl
 have c15:W1.cell? ⟨w.heap.size,15,none⟩=some (.int .i64 a.hand.start):=HW1.o.c 15 _ rfl
 have c16:W1.cell? ⟨w.heap.size,16,none⟩=some (.int .i64 a.hand.fin):=HW1.o.c 16 _ rfl
 have c17:W1.cell? ⟨w.heap.size,17,none⟩=some (.int .i64 a.hand.aD):=HW1.o.c 17 _ rfl
 go_upto_region 3 with fail
 refine jP (fun V=>HB w V base yb M g a/\V.rangeAt W1.heap.size 0 a.hand.cells) ⟨HW1.o.grown (aE W1 _ none),aW W1 a.hand.cells.toArray _⟩ ?_
 obtain ⟨bt,hbt⟩:=aq W1.heap.size
 rw[hbt]
 clear hbt HW1 c11 c12 c13 c14 c15 c16 c17
 rintro V ⟨x91,x92⟩;have HT:=hid x92;clear x92;have HV:=hid x91;clear x91
 as_aux_lemma=>
  refine aF.start (S:=fun X=>V.grownBy X none) 24 afv ?_;have eD:Hid (V.grownBy V.drew none):=bD (bh _ _);have HA:=hid (Acc.nil V.drew 1100000);refine aF.tk 0 [0] ?_;refine aF.tk 1 [1] ?_ (hy:=by intro W hW;have e1:W.cell? ⟨bt,0,none⟩=some (.int .i64 a.hand.ay):=(aA HT.o hW) 0 _ rfl;exact jS);refine aF.tk 3 [3] ?_;refine aF.tk 4 [4] ?_ (hy:=by intro W hW;have e1:W.cell? ⟨bt,1,none⟩=some (.int .u64 (a.hand.aM.toNat:Int)):=(aA HT.o hW) 1 _ rfl;exact jS);refine aF.tk 7 [7] ?_;refine aF.tk 8 [8] ?_ (hy:=by intro W hW;have e1:W.cell? ⟨bt,2,none⟩=some (.string ⟨a.hand.ax.toArray⟩):=(aA HT.o hW) 2 _ rfl;exact jS);refine aF.tk 10 [10] ?_;refine aF.tk 11 [11] ?_ (hy:=by intro W hW;have e1:W.cell? ⟨bt,3,none⟩=some (.int .i64 a.hand.dY):=(aA HT.o hW) 3 _ rfl;exact jS);refine aF.tk 13 [13] ?_;refine aF.tk 14 [14] ?_ (hy:=by intro W hW;have e1:W.cell? ⟨bt,4,none⟩=some (.int .i64 a.hand.start):=(aA HT.o hW) 4 _ rfl;exact jS);refine aF.tk 16 [16] ?_;refine aF.tk 17 [17] ?_ (hy:=by intro W hW;have e1:W.cell? ⟨bt,5,none⟩=some (.int .i64 a.hand.fin):=(aA HT.o hW) 5 _ rfl;exact jS);refine aF.tk 19 [19] ?_;refine aF.tk 20 [20] ?_ (hy:=by intro W hW;have e1:W.cell? ⟨bt,6,none⟩=some (.int .i64 a.hand.aD):=(aA HT.o hW) 6 _ rfl;exact jS);refine aF.on 2 ?_;refine bx0 (bR a.hand.ay _ ha.hand.ay) trivial ?_;clear HA eD;intro V5 a5 c5 HA eD;refine aF.on 5 ?_;intro K hK;refine Calls.mono (VO _ _) ?_;rintro e V5 ⟨o5,rfl,q5,g5⟩;obtain ⟨a5,c5,rfl⟩:=q5.shape;have HE:=hid q5;have ui:=hid (HA.o.grown g5);have Pn:=hid (aa eD.o g5);clear HA eD q5 g5;have HA:=ui;have eD:=Pn;clear ui Pn;go_wp2_with fail;refine hkr ?_;clear hK K;refine aF.on 6 ?_;refine bx0 (kR _ _ _ HE.o afN) trivial ?_;clear HA eD HE;intro V5 a6 c6 HA eD;refine aF.on 9 ?_;refine bx0 (jX a.hand.ax _ (br ha.xK afq)) ha.xK ?_;clear HA eD;intro V5 a5 c5 HA eD;refine aF.on 12 ?_;refine bx0 (bR a.hand.dY _ ha.hand.dY) trivial ?_;clear HA eD;intro V5 a5 c5 HA eD;refine aF.on 15 ?_;refine bx0 (bR a.hand.start _ ha.hand.start) trivial ?_;clear HA eD;intro V5 a5 c5 HA eD;refine aF.on 18 ?_;refine bx0 (bR a.hand.fin _ ha.hand.fin) trivial ?_;clear HA eD;intro V5 a5 c5 HA eD;refine aF.on 21 ?_;refine bx0 (bR a.hand.aD _ ha.hand.aD) trivial ?_;clear HA eD;intro V5 a5 c5 HA eD;refine aF.on0 22 ?_;intro K hK;refine HA.o.bsl 175 7 _ rfl 37 ib _ underlying175 hib Lb La rfl rfl afq afq ?_;refine hkx (aR eD.o _) ?_;clear hK K;refine aF.on 23 ?_;intro K hK;refine Calls.mono (HA.o.list _ 7 rfl aft afq afq) ?_;rintro e V6 ⟨o6,rfl,q6,l6,g6⟩;obtain ⟨PL,q7,l7⟩:∃ z:List UInt8,Has V6 o6 z/\z.length<=7*1100000+4:=⟨_,q6,l6⟩
  clear q6 l6;have q6:=q7;have l6:=l7;clear q7 l7;obtain ⟨pa,pc,hps⟩:=q6.shape;subst hps;obtain ⟨pn,hpn⟩:=aq PL.length;rw[hpn] at q6 ⊢;have HF:=hid (And.intro q6 (And.intro l6 (aa eD.o g6)));clear q6 l6 g6 hpn;go_wp2_with fail;refine hkx HF.o.2.2 ?_;clear hK K;refine aF.on 24 ?_;intro K hK;refine hkl ?_;clear hK K;refine aF.Dw (fun X=>V.grownBy X none/\Has X (.slice pa pn pc) PL) afv ⟨HF.o.2.2,HF.o.1⟩ ?_;have NP:Hid (PL.length<=7700004):=br HF.o.2.1 afq;clear HF eD HA;rintro X ⟨x91,x92⟩;have HP:=hid x92;clear x92;have HX:=hid x91;clear x91;obtain ⟨k1,hk1⟩:=qw a.wu;obtain ⟨k2,hk2⟩:=qw ((key.toNat:Int)+(k1.toNat:Int));have c19:X.cell? ⟨w.heap.size,19,none⟩=some (.int .i64 a.wu):=(aA HV.o.c HX.o) 19 _ rfl;have CSe:=hid (fun W (hW:Has W (.slice pa pn pc) PL)=>zR k2 2 5 2 PL (.slice pa pn pc) W afq afq rfl (br NP.o afq) hW);go_wp2_with fail;refine (CSe.o _ HP.o).mono ?_;rintro e X1 ⟨o1,rfl,q1,g1⟩;obtain ⟨sa,sc,hss⟩:=q1.shape;subst hss;obtain ⟨SL,hSL⟩:=ar (Pure.fq k2 2 5 PL);have VP:SL.length<=7700020:=by rw[hSL,Pure.dz];have:=NP.o;omega
  rw[<-hSL] at q1 ⊢;obtain ⟨sn,hsn⟩:=aq SL.length;rw[hsn] at q1 ⊢;have rW:=hid (aa HX.o g1);have Ew:=hid q1;have VQ:=hid VP;clear g1 q1 HX HP CSe c19 hSL VP hsn hk1 hk2;as_aux_lemma=>
   obtain ⟨nn,hnn,ajw⟩:∃ n:Int,IntKind.i64.wrap (kn+a.nS)=n/\In64 n:=⟨_,rfl,by rw[IntKind.wrap_i64];unfold In64;omega⟩
   go_wp2_with fail;refine aF.start (S:=fun Y=>V.grownBy Y none) 15 afv ?_;have eD:Hid (V.grownBy X1.drew none):=bD rW.o;have HA:=hid (Acc.nil X1.drew 8000000);have HZ:=hid (Ew.o.grown (bD (bh X1 none)));clear Ew;refine aF.tk 1 [1] ?_;refine aF.tk 2 [2] ?_;refine aF.tk 3 [3] ?_ (hy:=by intro W hW;have e1:W.cell? ⟨w.heap.size,18,none⟩=some (.int .i64 a.nS):=(aA HV.o.c hW) 18 _ rfl;exact jS);refine aF.tk 4 [4] ?_;refine aF.tk 6 [6] ?_;refine aF.tk 10 [10] ?_;refine aF.tk 11 [11] ?_ (hy:=by intro W hW;have e1:W.cell? ⟨bt,1,none⟩=some (.int .u64 (a.hand.aM.toNat:Int)):=(aA HT.o hW) 1 _ rfl;exact jS);refine aF.tk 12 [12] ?_;refine aF.tk 13 [13] ?_ (hy:=by intro W hW;have e1:W.cell? ⟨bt,2,none⟩=some (.string ⟨a.hand.ax.toArray⟩):=(aA HT.o hW) 2 _ rfl;exact jS);refine aF.on 0 ?_;refine bx1 (jX [116,103,115] _ afq) trivial ?_;clear HA eD HZ;intro V5 a5 c5 HA eD HZ;refine aF.on 5 ?_;refine bx1 (bR nn _ ajw) trivial ?_;clear HA eD HZ;intro V5 a5 c5 HA eD HZ;refine aF.on 7 ?_;refine bx1 (kR SL _ _ HZ.o (br VQ.o afq)) VQ.o ?_;clear HA eD HZ;intro V5 a5 c5 HA eD HZ;refine aF.on0 8 ?_;intro K hK;refine HA.o.bsl 175 3 _ rfl 37 ib _ underlying175 hib Lb La rfl rfl afq afq ?_;refine hkx (aR eD.o _) ?_;clear hK K;refine aF.on 9 ?_;intro K hK;have HBg:Hid (w.heap.size+1<V.heap.size):=HV.o.r.lt;have HBh:=hid eD.o.size;refine Calls.mono (HA.o.VA _ 3 rfl aft afq afq) ?_;rintro e V6 ⟨o6,BX,rfl,q6,_,l6,g6⟩;obtain ⟨pa2,pc2,hps⟩:=cu q6;subst hps;obtain ⟨pn2,hpn⟩:=aq BX.length;rw[hpn] at q6 ⊢;have ajy:=hid hpn;have HO6:=hid (fT q6 HBh.o);have HF:=hid (And.intro l6 (aa eD.o g6));have HR6:=hid (HV.o.r.grown HF.o.2);clear q6 l6 g6 hpn;go_wp2_with fail;refine hkx HF.o.2 ?_;clear hK K;have HS6:=hid HF.o.2;clear eD;have eD:=HS6;clear HS6;refine aF.tk 14 [14] ?_;obtain ⟨⟨d0,j0⟩,⟨d1,j1⟩,⟨d2,j2⟩,l0,l1,l2⟩:=FP HR6.o;refine aF.on 15 ?_;intro K hK;refine hkl ?_;clear hK K;refine aF.done afv ?_;go_wp2;refine bodyPost_ret (Ig results61 _ _ _ (w.heap.size+1) rfl _ (Rs (fC HR6.o _ _ _))) rfl ?_;refine ⟨_,BX,a.hand.aM,a.hand.ax,rfl,Has.own (e:=5) (base:=V.heap.size) ?_,br HF.o.1 afq,ha.xK,?_⟩
   ·have h0:=HBg.o;rw[ajy.o];refine eF HO6.o (fun b hb=>?_);have hb2:=(HO6.o.lt b hb).1;have hne:b≠w.heap.size+1:=(by omega);rw[Below.heap_setCell _ _ _ b hne,Below.heap_setCell _ _ _ b hne,Below.heap_setCell _ _ _ b hne]
   ·exact az (az (az (aa HV.o.g HF.o.2) (cX _ 1)) (cX _ 1)) (cX _ 1)
theorem afJ {p:Prop} (h:p:=by have:=(HV.o.s.grown hW).cell;rw[HSv.o] at this;exact this):p:=h
variable {sb so:Nat} {sv:Value} {w:World}
theorem Tryz.Bn:(prog.info? 45).map (·.size)=some 25:=by kernel_rfl
theorem VR {base:Nat} {e:TypeId} {g n c:Nat} {xs:List Value} (h:w.ownsRow base e 1 (.slice (some ⟨g,0,none⟩) n c) n xs):Live w g n:=by
 rcases h.2 with ⟨hv,_⟩ | ⟨g',cp,cur,hv,_,hg,hnc,_,hcs,_⟩
 ·cases hv
 ·injection hv with e1 e2 e3;injection e1 with e1;injection e1 with e1;subst e1;exact ⟨cur,_,hg,by rw[hcs];omega⟩
structure KN where
 box:Value
 z:List UInt8
 s:UInt64
 c:List UInt8
def KN.cells (k:KN):List Value:=[k.box,.int .u64 (k.s.toNat:Int),.string ⟨k.c.toArray⟩]
def nZ (l:List KN):List Value:=(l.map KN.cells).flatten
theorem vK (l:List KN):∀ (k j:Nat) (hk:k<l.length),j<3->(nZ l)[k*3+j]?=(l[k]).cells[j]?:=by
 induction l with
 | nil=>intro k j hk;simp at hk
 | cons a l ih=>
  intro k j hk hj;cases k with
  | zero=>
   show (a.cells++nZ l)[0*3+j]?=_;rw[cF (by simp[KN.cells];omega)];simp
  | succ k=>
   show (a.cells++nZ l)[(k+1)*3+j]?=_;rw[cM (by simp[KN.cells];omega)];have h:=ih k j afD hj;rw[show (k+1)*3+j-a.cells.length=k*3+j from by simp[KN.cells];omega];exact h
structure SaidAt (w:World) (base sb so:Nat) (sv:Value) (kl:List KN):Prop where
 cell:w.cell? ⟨sb,so,none⟩=some sv
 row:w.ownsRow base 170 3 sv kl.length (nZ kl)
 own:∀ k∈kl,w.ownsRow base 5 1 k.box k.z.length (k.z.map U8)/\k.z.length<=1000/\k.c.length<=1048576
theorem SaidAt.has {base:Nat} {kl:List KN} (h:SaidAt w base sb so sv kl):∀ k∈kl,Has w k.box k.z/\k.z.length<=1000/\k.c.length<=1048576:=fun k hk=>⟨Has.own (h.own k hk).1,(h.own k hk).2⟩
theorem SaidAt.grown {w':World} {base:Nat} {kl:List KN} (h:SaidAt w base sb so sv kl) (k:w.grownBy w' none):SaidAt w' base sb so sv kl:=
 ⟨k.cell h.cell aft,h.row.kept k (eW _),fun x hx=>⟨(h.own x hx).1.kept k (eW _),(h.own x hx).2⟩⟩
def KW (W V:World) (bk:Nat):Prop:=∃ (o:Value) (z:List UInt8) (s:UInt64) (c:List UInt8),V.rangeAt bk 0 [o,.int .u64 (s.toNat:Int),.string ⟨c.toArray⟩]/\Has V o z/\z.length<=30000000/\c.length<=1048576/\Live V bk 3/\W.grownBy V none
structure RB (w V:World) (base yb:Nat) (M:DM) (g:RG) (a:oL) (sb so:Nat) (sv:Value) (kl:List KN):Prop where
 d:RD V base yb M g
 c:V.rangeAt w.heap.size 0 a.cells
 s:SaidAt V base sb so sv kl
 g:w.grownBy V none
theorem RB.grown {V V':World} {base yb:Nat} {M:DM} {g:RG} {a:oL} {kl:List KN} (h:RB w V base yb M g a sb so sv kl) (k:V.grownBy V' none):RB w V' base yb M g a sb so sv kl:=
 ⟨h.d.keep (fun b hb=>k.block b (h.d.lt b hb).2 aft),aA h.c k,h.s.grown k,aa h.g k⟩
theorem RB.new {base yb:Nat} {M:DM} {g:RG} {kl:List KN} (a:oL) (t:TypeId) (hD:RD w base yb M g) (hS:SaidAt w base sb so sv kl):RB w (w.alloc (.cells a.arr t)) base yb M g a sb so sv kl:=by
 have k:=aE w (.cells a.arr t) none;exact ⟨hD.keep (fun b hb=>k.block b (hD.lt b hb).2 aft),aW w a.arr t,hS.grown k,k⟩
theorem Ih (base yb:Nat) (M:DM) (g:RG) (a:oL) (raw:List UInt8) (sb so:Nat) (sv:Value) (kl:List KN) (w:World) (hD:RD w base yb M g) (hok:gU 4611686018427387904 M.bg) (ha:a.Ok) (hraw:raw.length<=1048576) (hS:SaidAt w base sb so sv kl) :
  Calls prog 33 #[.pointer (some ⟨sb,so,none⟩),.pointer (some ⟨yb,0,none⟩),.string ⟨raw.toArray⟩,.agg a.arr] w fun e w'=>∃ r:List UInt8,e = .returned (.string ⟨r.toArray⟩)/\r.length<=300000000/\w.grownBy w' none:=by
 obtain ⟨ib,hib,La,Lb,afl⟩:=info_parts Tryz.zS
 have HL:=hid (RB.new a 45 hD hS)
 have CF:=hid (fun W (hW:RD W base yb M g)=>NW base yb M g a W hW hok ha)
 have CH:=hid (fun W (hW:RD W base yb M g)=>Ru base yb M g a W hW hok ha)
 clear hD hS
 go_enter func33,ntmps33
 go_upto_region 2 with fail
 refine jP (fun V=>RB w V base yb M g a sb so sv kl) HL.o ?_
 clear HL
 intro W hW
 have HW:=hid hW
 have c0:W.cell? ⟨w.heap.size,0,none⟩=some (.int .i64 a.kind):=hW.c 0 _ rfl
 clear hW
 go_upto_block 0 with fail
 go_cut [9] (fun b wx=>∃ z:List UInt8,wx.ownsRow W.heap.size 5 1 b z.length (z.map U8)/\0<z.length/\z.length<=300000000/\RB w wx base yb M g a sb so sv kl)
 case first=>
  by_cases h1:a.kind=1
  ·have h1b:(a.kind==1)=true:=(by rw[h1];rfl);clear h1;go_wp2_with (first|(refine wpList_load_mid rfl 45 _ rfl w.heap.size 0 rfl a.cells _ HW.o.c underlying45 rfl Tryz.Bn ?_) | fail)
   refine (CF.o _ HW.o.d).mono ?_;rintro e W1 ⟨o,z,rfl,hown,hz0,hzl,g1⟩;have HO:=hid (And.intro hown (And.intro hz0 (And.intro hzl g1)));clear hown hz0 hzl g1;go_wp2;go_meet
   case rel=>exact ⟨z,HO.o.1,HO.o.2.1,br HO.o.2.2.1 afq,HW.o.grown HO.o.2.2.2⟩
  ·have h1b:(a.kind==1)=false:=(by simpa using h1);by_cases h2:a.kind=2
   ·have h2b:(a.kind==2)=true:=(by rw[h2];rfl);clear h2 h1;as_aux_lemma=>
     go_wp2_with (first|(refine wpList_load_mid rfl 45 _ rfl w.heap.size 0 rfl a.cells _ HW.o.c underlying45 rfl Tryz.Bn ?_) | fail)
     refine (CH.o _ HW.o.d).mono ?_;rintro e W1 ⟨o,z,ks,kc,rfl,hH,hzl,hcl,g1⟩;obtain ⟨oa,oc,hos⟩:=hH.shape;subst hos;obtain ⟨zn,hzn⟩:=aq z.length;rw[hzn] at hH ⊢;go_upto_region 8 with fail
     refine jP (fun V=>RB w V base yb M g a sb so sv kl/\KW W V W1.heap.size) ⟨HW.o.grown (aa g1 (aE W1 _ none)),.slice oa zn oc,z,ks,kc,aW W1 #[.slice oa zn oc,.int .u64 (ks.toNat:Int),.string ⟨kc.toArray⟩] _,hH.grown (aE W1 _ none),br hzl afq,hcl,Live.new W1 #[.slice oa zn oc,.int .u64 (ks.toNat:Int),.string ⟨kc.toArray⟩] _,aa g1 (aE W1 _ none)⟩ ?_;have Fg:Hid (W.heap.size<=W1.heap.size):=g1.size;obtain ⟨bk,hbk⟩:=aq W1.heap.size;rw[hbk] at Fg ⊢;clear hbk hzn hH hzl hcl g1 c0;rintro V ⟨x91,x92⟩;have HK:=hid x92;clear x92;have HV:=hid x91;clear x91;obtain ⟨m,hm⟩:=aq kl.length;obtain ⟨sa,sc,hsv⟩:=cu HV.o.s.row;rw[hm] at hsv;have y0:V.cell? ⟨sb,so,none⟩=some (.slice sa m sc):=(by have:=HV.o.s.cell;rw[hsv] at this;exact this);have c10:V.cell? ⟨w.heap.size,10,none⟩=some (.int .i64 a.ticket):=HV.o.c 10 _ rfl;have hti:=ha.ticket;have HM:=hid hm;have HSv:=hid hsv;clear hm hsv;obtain ⟨tb,x93⟩:=aq ((decide (0<a.ticket) && decide ((0:Int)<(m:Int))));have YZ:=hid x93;clear x93;go_cut [38] (fun x wx=>x = .bool tb/\V=wx)
     case first=>
      by_cases ht:0<a.ticket
      ·have HL:=hid ht;by_cases hm0:(0:Int)<(m:Int)
       ·have HL2:=hid hm0;go_wp2;go_meet
        case rel=>exact ⟨by rw[<-YZ.o,cH HL.o,cH HL2.o];congr 1;have:=HL2.o;simp;omega,rfl⟩
       ·have HL2:=hid (eK.1 hm0);go_wp2;go_meet
        case rel=>exact ⟨by rw[<-YZ.o,cH HL.o,cA (eK.2 HL2.o)];congr 1;have:=HL2.o;simp;omega,rfl⟩
      ·have HL:=hid (eK.1 ht);go_wp2;go_meet
       case rel=>exact ⟨by rw[<-YZ.o,cA (eK.2 HL.o)];rfl,rfl⟩
     case rest=>
      obtain ⟨rfl,rfl⟩:=hcut;go_upto_if 38 with fail
      go_cut [] (fun wx=>RB w wx base yb M g a sb so sv kl/\KW W wx bk)
      case first=>
       cases tb with
       | false=>
        go_wp2;go_meet
        case rel=>exact ⟨HV.o,HK.o⟩
       | true=>
        have zo:0<a.ticket/\0<m:=by
         have h:=YZ.o;simp at h;exact h
        obtain ⟨ht0,hm0⟩:=zo;obtain ⟨gk,ck,afr,hrow,hgk⟩:=jh HV.o.s.row (by rw[HM.o];exact hm0);have hsa:sa=some ⟨gk,0,none⟩:=by
         have e:=HSv.o.symm.trans afr;injection e
        subst hsa;have hmm:m<=9223372036854775807:=by
         rcases HV.o.s.row.2 with ⟨_,h0⟩ | ⟨_,cp,_,_,_,_,h1,h2,_⟩
         ·rw[HM.o] at h0;omega
         ·rw[HM.o] at h1;unfold maxLen at h2;omega
        obtain ⟨tm,zo,apF,apG⟩:∃ t:Int,(a.ticket-1).tmod (m:Int)=t/\0<=t/\t<(m:Int):=by
         refine ⟨_,rfl,?_,?_⟩
         ·exact Int.tmod_nonneg _ afp
         ·rw[fp afp];exact Int.emod_lt_of_pos _ afp
        obtain ⟨ix,hix,ajz⟩:∃ k:Nat,(m:Int)-1-tm=(k:Int)/\k<m:=⟨((m:Int)-1-tm).toNat,by omega,by omega⟩
        have hm1:(0:Int)<(m:Int):=(by omega);have hmz:¬ m=0:=(by omega);have hwt:IntKind.i64.wrap (a.ticket-1)=a.ticket-1:=(by rw[IntKind.wrap_i64];have:=hti.2;omega);have hmI:(m:Int)<=9223372036854775807:=(by omega);have ajA:(ix:Int)<(m:Int):=(by omega);have ajB:(0:Int)<=(ix:Int):=(by omega);have hw1:IntKind.i64.wrap ((m:Int)-1)=(m:Int)-1:=(by rw[IntKind.wrap_i64];omega);have hw2:IntKind.i64.wrap ((m:Int)-1-tm)=(ix:Int):=(by rw[IntKind.wrap_i64];omega);have hw3:IntKind.i64.wrap (ix:Int)=(ix:Int):=(by rw[IntKind.wrap_i64];omega);have hkk:ix<kl.length:=(by rw[HM.o];exact ajz);obtain ⟨kx,hkx⟩:=aq (kl[ix]'hkk);have HKm:Hid (kx∈kl):=(by show _∈_;rw[<-hkx];exact cJ hkk);have HKx:Hid (Has V kx.box kx.z/\kx.z.length<=1000/\kx.c.length<=1048576):=HV.o.s.has kx (by rw[<-hkx];exact cJ hkk);obtain ⟨xa,xc,hxb⟩:=HKx.o.1.shape;obtain ⟨xn,hxn⟩:=aq kx.z.length;rw[hxn] at hxb;have vJ:Hid (∀ X,V.grownBy X none->X.cell? ⟨gk,ix*3,none⟩=some (.slice xa xn xc)/\X.cell? ⟨gk,ix*3+1,none⟩=some (.int .u64 (kx.s.toNat:Int))/\X.cell? ⟨gk,ix*3+2,none⟩=some (.string ⟨kx.c.toArray⟩)):=by
         intro X hX;have hr:=aA hrow hX;have h0:=vK kl ix 0 hkk afq;have h1:=vK kl ix 1 hkk afq;have h2:=vK kl ix 2 hkk afq;rw[hkx] at h0 h1 h2;have r0:=hr (ix*3+0) _ h0;have r1:=hr (ix*3+1) _ h1;have r2:=hr (ix*3+2) _ h2;rw[cC] at r0 r1 r2;rw[<-hxb];exact ⟨r0,r1,r2⟩
        have HXb:=hid hxb;have HXn:=hid hxn;clear hrow hkx hxb hxn afr YZ;go_wp2_with fail;refine aF.start (S:=fun X=>V.grownBy X none) 22 afv ?_;have eD:Hid (V.grownBy V.drew none):=bD (bh _ _);clear y0 c10;refine aF.tk 0 [0] ?_;refine aF.tk 1 [1] ?_;refine aF.tk 2 [2] ?_;refine aF.tk 3 [3] ?_ (hy:=by intro W hW;have e1:W.cell? ⟨sb,so,none⟩=some (.slice (some ⟨gk,0,none⟩) m sc):=afJ;exact jS);refine aF.tk 4 [4] ?_;refine aF.tk 5 [5] ?_;refine aF.tk 6 [6] ?_;refine aF.tk 7 [7] ?_ (hy:=by intro W hW;have e1:W.cell? ⟨sb,so,none⟩=some (.slice (some ⟨gk,0,none⟩) m sc):=afJ;exact jS);refine aF.tk 8 [8] ?_;refine aF.tk 9 [9] ?_;refine aF.tk 10 [10] ?_;refine aF.tk 11 [11] ?_ (hy:=by intro W hW;have e1:W.cell? ⟨w.heap.size,10,none⟩=some (.int .i64 a.ticket):=(aA HV.o.c hW) 10 _ rfl;exact jS);refine aF.tk 12 [12] ?_;refine aF.tk 13 [13] ?_;refine aF.tk 14 [14] ?_;refine aF.tk 15 [15] ?_;refine aF.tk 16 [16] ?_ (hy:=by intro W hW;have e1:W.cell? ⟨sb,so,none⟩=some (.slice (some ⟨gk,0,none⟩) m sc):=afJ;exact jS);refine aF.tk 17 [17] ?_;refine aF.tk 18 [18] ?_;refine aF.tk 19 [19] ?_;refine aF.tk 20 [20] ?_;refine aF.tk 21 [21] ?_ (hy:=by intro W hW;obtain ⟨e1,e2,e3⟩:=vJ.o W hW;exact jS);obtain ⟨_,_,_,_,_,_,_,_,hlv,_⟩:=HK.o;obtain ⟨⟨d0,j0⟩,⟨d1,j1⟩,⟨d2,j2⟩,l0,l1,l2⟩:=FP hlv;clear hlv;refine aF.on 22 ?_;intro K hK;refine hkl ?_;clear hK K;refine aF.done afv ?_;go_wp2_with fail;go_meet
        case rel=>
         obtain ⟨_,_,_,_,_,_,_,_,hlv,hgW⟩:=HK.o;have hlt:W.heap.size<=bk:=Fg.o;have GS:=az (j:=2) (u:=.string ⟨kx.c.toArray⟩) (az (j:=1) (u:=.int .u64 (kx.s.toNat:Int)) (az (j:=0) (u:=.slice xa xn xc) (bD hgW) hlt) hlt) hlt;have hW0:=HW.o.grown GS;refine ⟨hW0,.slice xa xn xc,kx.z,kx.s,kx.c,fC (hlv.grown (bD (bh V none))) _ _ _,?_,br HKx.o.2.1 afq,HKx.o.2.2,bP (bP (bP (hlv.grown (bD (bh V none))) _) _) _,GS⟩;have h9:=(hW0.s.has kx HKm.o).1;rw[HXb.o] at h9;exact h9
      case rest=>
       obtain ⟨hR,hKW⟩:=hcut;refine Ic (fun V=>RB w V base yb M g a sb so sv kl/\KW W V bk) ⟨hR,hKW⟩ ?_;clear HV HK y0 c10 HM HSv YZ hR hKW;rintro V ⟨hV,hK⟩;have HV:=hid hV;obtain ⟨ko,kz,ks2,kc2,hr,hH,hzl,hcl,_,hgW⟩:=hK;have HGW:=hid hgW;have HKR:=hid hr;have HKH:=hid hH;have HKz:=hid hzl;have HKc:=hid hcl;obtain ⟨ka,kcp,hks⟩:=hH.shape;obtain ⟨kn,hkn⟩:=aq kz.length;rw[hkn] at hks;subst hks;have c20:V.cell? ⟨w.heap.size,20,none⟩=some (.string ⟨a.jE.toArray⟩):=hV.c 20 _ rfl;have k2:V.cell? ⟨bk,2,none⟩=some (.string ⟨kc2.toArray⟩):=hr 2 _ rfl;have HKn:=hid hkn;clear hV hr hH hzl hcl hgW hkn;go_upto_if 64 with fail
       obtain ⟨eb,heb⟩:=aq a.jE.isEmpty;rw[heb];clear heb;go_cut [11] (fun x wx=>∃ c:List UInt8,x = .string ⟨c.toArray⟩/\c.length<=1048576/\V=wx)
       case first=>
        cases eb with
        | true=>
         go_wp2;go_meet
         case rel=>exact ⟨kc2,rfl,HKc.o,rfl⟩
        | false=>
         go_wp2;go_meet
         case rel=>exact ⟨a.jE,rfl,ha.jE,rfl⟩
       case rest=>
        obtain ⟨c,rfl,x91,rfl⟩:=hcut;have GL:=hid x91;clear x91;clear  c20 k2;go_wp2_with fail;refine aF.start (S:=fun X=>V.grownBy X none) 10 afv ?_;have eD:Hid (V.grownBy V.drew none):=bD (bh _ _);have HA:=hid (Acc.nil V.drew 1100000);refine aF.tk 0 [0] ?_;refine aF.tk 2 [2] ?_;refine aF.tk 3 [3] ?_ (hy:=by intro W hW;have e1:W.cell? ⟨w.heap.size,21,none⟩=some (.int .i64 a.nT):=(aA HV.o.c hW) 21 _ rfl;exact jS);refine aF.tk 5 [5] ?_;refine aF.tk 6 [6] ?_ (hy:=by intro W hW;have e1:W.cell? ⟨w.heap.size,22,none⟩=some (.int .i64 a.jN):=(aA HV.o.c hW) 22 _ rfl;exact jS);refine aF.on 1 ?_;refine bx0 (jX c _ (br GL.o afq)) GL.o ?_;clear HA eD;intro V5 a5 c5 HA eD;refine aF.on 4 ?_;refine bx0 (bR a.nT _ ha.nT) trivial ?_;clear HA eD;intro V5 a5 c5 HA eD;refine aF.on 7 ?_;refine bx0 (bR a.jN _ ha.jN) trivial ?_;clear HA eD;intro V5 a5 c5 HA eD;refine aF.on0 8 ?_;intro K hK;refine HA.o.bsl 175 3 _ rfl 37 ib _ underlying175 hib Lb La rfl rfl afq afq ?_;refine hkx (aR eD.o _) ?_;clear hK K;refine aF.on 9 ?_;intro K hK;refine Calls.mono (HA.o.list _ 3 rfl aft afq afq) ?_;rintro e V6 ⟨o6,rfl,q6,l6,g6⟩;obtain ⟨PL,q7,l7⟩:∃ z:List UInt8,Has V6 o6 z/\z.length<=3*1100000+4:=⟨_,q6,l6⟩
        clear q6 l6;have q6:=q7;have l6:=l7;clear q7 l7;obtain ⟨pa,pc,hps⟩:=q6.shape;subst hps;obtain ⟨pn,hpn⟩:=aq PL.length;rw[hpn] at q6 ⊢;have HF:=hid (And.intro q6 (And.intro l6 (aa eD.o g6)));clear q6 l6 g6 hpn;go_wp2_with fail;refine hkx HF.o.2.2 ?_;clear hK K;refine aF.on 10 ?_;intro K hK;refine hkl ?_;clear hK K;refine aF.Dw (fun X=>V.grownBy X none/\Has X (.slice pa pn pc) PL) afv ⟨HF.o.2.2,HF.o.1⟩ ?_;have NP:Hid (PL.length<=3300004):=HF.o.2.1;clear HF eD HA;rintro X ⟨x91,x92⟩;have HP:=hid x92;clear x92;have HX:=hid x91;clear x91;obtain ⟨u1,hu1⟩:=qw a.sP;obtain ⟨u2,hu2⟩:=qw ((ks2.toNat:Int)+(u1.toNat:Int));obtain ⟨u3,hu3⟩:=qw a.jN;have oM:X.cell? ⟨w.heap.size,22,none⟩=some (.int .i64 a.jN):=(aA HV.o.c HX.o) 22 _ rfl;have c23:X.cell? ⟨w.heap.size,23,none⟩=some (.int .i64 a.sP):=(aA HV.o.c HX.o) 23 _ rfl;have k1:X.cell? ⟨bk,1,none⟩=some (.int .u64 (ks2.toNat:Int)):=(aA HKR.o HX.o) 1 _ rfl;have CSe:=hid (fun W (hW:Has W (.slice pa pn pc) PL)=>zR u2 4 u3 4 PL (.slice pa pn pc) W afq afq rfl (br NP.o afq) hW);go_wp2_with fail;refine (CSe.o _ HP.o).mono ?_;rintro e X1 ⟨o1,rfl,q1,g1⟩;obtain ⟨sa2,sc2,hss⟩:=q1.shape;subst hss;obtain ⟨SL,hSL⟩:=ar (Pure.fq u2 4 u3 PL);have VP:SL.length<=3300020:=(by rw[hSL,Pure.dz];have:=NP.o;omega);rw[<-hSL] at q1 ⊢;obtain ⟨sn,hsn⟩:=aq SL.length;rw[hsn] at q1 ⊢;have rW:=hid (aa HX.o g1);have Ew:=hid q1;have VQ:=hid VP;clear g1 q1 HX HP CSe oM c23 k1 hSL VP hsn hu1 hu2 hu3;as_aux_lemma=>
         go_wp2_with fail;refine aF.start (S:=fun Y=>V.grownBy Y none) 22 afv ?_;have eD:Hid (V.grownBy X1.drew none):=bD rW.o;have HA:=hid (Acc.nil X1.drew 31000000);have HZ:=hid (Ew.o.grown (bD (bh X1 none)));have HB:=hid (HKH.o.grown eD.o);clear Ew;refine aF.tk 1 [1] ?_;refine aF.tk 2 [2] ?_ (hy:=by intro W hW;have e1:=(aA HKR.o hW) 0 _ rfl;exact jS);refine aF.tk 3 [3] ?_;refine aF.tk 5 [5] ?_;refine aF.tk 6 [6] ?_ (hy:=by intro W hW;have e1:W.cell? ⟨w.heap.size,2,none⟩=some (.string ⟨a.aV.toArray⟩):=(aA HV.o.c hW) 2 _ rfl;exact jS);refine aF.tk 8 [8] ?_;refine aF.tk 9 [9] ?_ (hy:=by intro W hW;have e1:W.cell? ⟨w.heap.size,3,none⟩=some (.int .i64 a.bS):=(aA HV.o.c hW) 3 _ rfl;exact jS);refine aF.tk 11 [11] ?_;refine aF.tk 12 [12] ?_ (hy:=by intro W hW;have e1:W.cell? ⟨w.heap.size,5,none⟩=some (.int .i64 a.dJ):=(aA HV.o.c hW) 5 _ rfl;exact jS);refine aF.tk 14 [14] ?_;refine aF.tk 15 [15] ?_ (hy:=by intro W hW;have e1:W.cell? ⟨w.heap.size,6,none⟩=some (.int .i64 a.bV):=(aA HV.o.c hW) 6 _ rfl;exact jS);refine aF.tk 17 [17] ?_;refine aF.tk 18 [18] ?_ (hy:=by intro W hW;have e1:W.cell? ⟨w.heap.size,7,none⟩=some (.int .i64 a.options):=(aA HV.o.c hW) 7 _ rfl;exact jS);refine aF.on 0 ?_;refine bx2 (bR 12 _ ⟨by decide,by decide⟩) trivial ?_;clear HA eD HZ HB;intro V5 a5 c5 HA eD HZ HB;have ui:=hid (HA.o.push (bh _ none) HB.o (br HKz.o afq));clear HA;have HA:=ui;clear ui;refine aF.on 4 ?_;refine bx2 (kR SL _ _ HZ.o (br VQ.o afq)) VQ.o ?_;clear HA eD HZ HB;intro V5 a5 c5 HA eD HZ HB;refine aF.on 7 ?_;refine bx2 (jX a.aV _ (br ha.aV afq)) ha.aV ?_;clear HA eD HZ HB;intro V5 a5 c5 HA eD HZ HB;refine aF.on 10 ?_;refine bx2 (bR a.bS _ ha.bS) trivial ?_;clear HA eD HZ HB;intro V5 a5 c5 HA eD HZ HB;refine aF.on 13 ?_;refine bx2 (bR a.dJ _ ha.dJ) trivial ?_;clear HA eD HZ HB;intro V5 a5 c5 HA eD HZ HB;refine aF.on 16 ?_;refine bx2 (bR a.bV _ ha.bV) trivial ?_;clear HA eD HZ HB;intro V5 a5 c5 HA eD HZ HB;refine aF.on 19 ?_;refine bx2 (bR a.options _ ha.options) trivial ?_;clear HA eD HZ HB;intro V5 a5 c5 HA eD HZ HB;refine aF.on0 20 ?_;intro K hK;refine HA.o.bsl 175 8 _ rfl 37 ib _ underlying175 hib Lb La rfl rfl afq afq ?_;refine hkx (aR eD.o _) ?_;clear hK K;refine aF.on 21 ?_;intro K hK;have HBh:=hid (br HGW.o.size eD.o.size);refine Calls.mono (HA.o.VA _ 8 rfl aft afq afq) ?_;rintro e V6 ⟨o6,z8,rfl,q6,z6,l6,g6⟩;have HF:=hid (And.intro q6 (And.intro z6 (And.intro l6 (And.intro (aa eD.o g6) HBh.o))));clear q6 z6 l6 g6;go_wp2_with fail;refine hkx HF.o.2.2.2.1 ?_;clear hK K;refine aF.on 22 ?_;intro K hK;refine hkl ?_;clear hK K;refine aF.done afv ?_;go_wp2_with fail;go_meet
         case rel=>exact ⟨z8,fT HF.o.1 HF.o.2.2.2.2,HF.o.2.1,br HF.o.2.2.1 afq,HV.o.grown HF.o.2.2.2.1⟩
   ·have h2b:(a.kind==2)=false:=(by simpa using h2);go_wp2;go_ret;exact ⟨raw,rfl,br hraw afq,HW.o.g⟩
 case rest=>
  obtain ⟨z,hown,hz0,hzl,hRB⟩:=hcut;obtain ⟨bb,bc,hbs,hrow,hbb⟩:=jh hown hz0;subst hbs;obtain ⟨zn,hzn⟩:=aq z.length;rw[hzn] at hown hz0 ⊢;refine Ic (fun V=>RB w V base yb M g a sb so sv kl/\V.ownsRow W.heap.size 5 1 (.slice (some ⟨bb,0,none⟩) zn bc) zn (z.map U8)) ⟨hRB,hown⟩ ?_;have HWg:Hid (w.heap.size<=W.heap.size):=HW.o.g.size;clear hown hrow hRB HW c0 CF CH;rintro V ⟨x91,x92⟩;have HO:=hid x92;clear x92;have HV:=hid x91;clear x91;have HZn:=hid hzn;have HZl:=hid hzl;clear  hzn hzl;have c24:V.cell? ⟨w.heap.size,24,none⟩=some (.int .i64 a.o9):=HV.o.c 24 _ rfl;have hsp:=ha.o9;by_cases hs0:a.o9=0
  ·have ajE:(a.o9==0)=true:=(by rw[hs0];rfl);clear hs0;have hat:At V (some ⟨bb,0,none⟩) z:=by
    obtain ⟨ao,cap,hv,_,_,_,h⟩:=iI HO.o;injection hv with e1 e2 e3;rw[e1];exact h
   have hst:=iE (P:=prog) V 37 9 5 underlying37 underlying5 underlying9 (some ⟨bb,0,none⟩) bc z hat;rw[HZn.o] at hst;go_wp2;go_ret;exact ⟨z,rfl,HZl.o,HV.o.g⟩
  ·have ajE:(a.o9==0)=false:=(by simpa using hs0);clear hs0;obtain ⟨ix,hix⟩:=aq (uw a.o9 zn);have afs:ix<zn:=(by rw[<-hix];exact yx _ hz0);have hzb:zn<=9223372036854775807:=(by have:=HZl.o;rw[HZn.o] at this;omega);have CP1:=hid (fun W=>BU a.o9 zn W hsp.1 hsp.2 hz0 hzb);rw[hix] at CP1;obtain ⟨q,hq,hqi⟩:∃ q:Int,a.o9.tdiv 1000=q/\In64 q:=by
    refine ⟨_,rfl,?_⟩;have h1:=hsp.1;have h2:=hsp.2;unfold In64;rcases Int.le_total 0 a.o9 with h | h
    ·rw[Int.tdiv_eq_ediv_of_nonneg h];omega
    ·have e:a.o9.tdiv 1000=-((-a.o9) / 1000):=(by rw[<-Int.tdiv_eq_ediv_of_nonneg afp,Int.neg_tdiv,Int.neg_neg]);rw[e];omega
   have hwq:IntKind.i64.wrap q=q:=(by rw[IntKind.wrap_i64];have h1:=hqi.1;have h2:=hqi.2;omega);obtain ⟨p2,hp2⟩:=aq (uw q 255);have apM:p2<255:=(by rw[<-hp2];exact yx _ afq);have CP2:=hid (fun W=>BU q 255 W hqi.1 hqi.2 afq afq);rw[hp2] at CP2;have ab2:ix<z.length:=(by rw[HZn.o];exact afs);obtain ⟨x,hx⟩:=aq (z[ix]'ab2);have ajG:bits .xor .u8 (x.toNat:Int) (1+(p2:Int))=((x ^^^ UInt8.ofNat (1+p2)).toNat:Int):=by
    rw[<-I5,ec,du afp];rfl
   have vJ:Hid (V.rangeAt bb 0 (z.map U8)):=by
    obtain ⟨g2,c2,hv,hr,_⟩:=jh HO.o hz0;injection hv with e1;injection e1 with e1;injection e1 with e1;subst e1;exact hr
   have HCx:Hid (∀ X,V.grownBy X none->X.cell? ⟨bb,ix,none⟩=some (.int .u8 (x.toNat:Int))):=by
    intro X hX;have:=(aA vJ.o hX) ix (U8 x) (by rw[List.getElem?_map,cr ab2,hx];rfl);rw[cC] at this;exact this
   have HLv:=hid (VR HO.o);have VS:=hid hbb;have ajA:(ix:Int)<(zn:Int):=(by omega);have ajB:(0:Int)<=(ix:Int):=(by omega);have hwa:IntKind.i64.wrap (1+(p2:Int))=1+(p2:Int):=(by rw[IntKind.wrap_i64];omega);have hwb:IntKind.u8.wrap (1+(p2:Int))=1+(p2:Int):=(by show (1+(p2:Int)) % 256=_;omega);obtain ⟨y,hy⟩:=aq (x ^^^ UInt8.ofNat (1+p2));rw[hy] at ajG;clear hix hp2 hy hx hbb HO;go_wp2_with fail;refine (CP1.o _).mono ?_;rintro e V1 ⟨rfl,rfl⟩;clear CP1 c24;go_wp2_with fail;refine aF.start (S:=fun X=>V.grownBy X none) 14 afv ?_;have eD:Hid (V.grownBy V.drew none):=bD (bh _ _);refine aF.tk 0 [0] ?_;refine aF.tk 1 [1] ?_;refine aF.tk 2 [2] ?_;refine aF.tk 3 [3] ?_;refine aF.tk 4 [4] ?_;refine aF.tk 5 [5] ?_ (hy:=by intro W hW;have e1:=HCx.o W hW;exact jS);refine aF.tk 6 [6] ?_;refine aF.tk 7 [7] ?_ (hy:=by intro W hW;have e1:W.cell? ⟨w.heap.size,24,none⟩=some (.int .i64 a.o9):=(aA HV.o.c hW) 24 _ rfl;exact jS);refine aF.tk 8 [8] ?_;refine aF.on 9 ?_;intro K hK;refine Calls.mono (CP2.o _) ?_;rintro e V2 ⟨rfl,rfl⟩;go_wp2_with fail;refine hkr ?_;clear hK K;refine aF.tk 10 [10] ?_;refine aF.tk 11 [11] ?_;refine aF.tk 12 [12] ?_;refine aF.tk 13 [13] ?_;have l0:=HLv.o.frozen ix;obtain ⟨d0,j0⟩:=bw.1 (HLv.o.some ix afs);refine aF.on 14 ?_;intro K hK;refine hkl ?_;clear hK K;refine aF.Dw (fun Y=>At Y (some ⟨bb,0,none⟩) (z.set ix y)/\w.grownBy Y none) afv ⟨?_,?_⟩ ?_
   ·have h:=range_one vJ.o (k:=ix) (by rw[cw];exact ab2) (.int .u8 (y.toNat:Int));have e:(z.map U8).set ix (.int .u8 (y.toNat:Int))=(z.set ix y).map U8:=(by rw[List.map_set];rfl);rw[e] at h;exact At.xS (aA h (bD (bh _ none)))
   ·exact bD (az HV.o.g (br HWg.o VS.o))
   rintro Y ⟨hat,x91⟩;have HG:=hid x91;clear x91;clear  vJ HCx HLv;have hst:=iE (P:=prog) Y 37 9 5 underlying37 underlying5 underlying9 (some ⟨bb,0,none⟩) bc (z.set ix y) hat;rw[cU,HZn.o] at hst;go_wp2;go_ret;exact ⟨z.set ix y,rfl,by rw[cU];exact HZl.o,HG.o⟩
theorem dO.keep {w w':World} {g o:Nat} {dp:Option Pl} {d:DM} (h:dO w g o dp d) (k:∀ b,b=g\/Pl.blk dp=some b->w'.heap[b]?=w.heap[b]?):dO w' g o dp d:=by
 have kg:w'.heap[g]?=w.heap[g]?:=k g (.inl rfl);have kc:∀ j,w'.cell? ⟨g,j,none⟩=w.cell? ⟨g,j,none⟩:=fun j=>World.cell?_of_block (a:=⟨g,j,none⟩) kg;have kl:∀ {b n},w'.heap[b]?=w.heap[b]?->Live w b n->Live w' b n:=fun e ⟨cur,t,h1,h2⟩=>⟨cur,t,e.trans h1,h2⟩
 obtain ⟨v,hv,ho⟩:=h.aO;refine ⟨kl kg h.live,(kc _).trans h.aC,⟨v,(kc _).trans hv,?_⟩,⟨kl kg h.bg.live,fun j u hu=>(kc _).trans (h.bg.room j u hu),(kc _).trans h.bg.count,h.bg.len⟩,fun j u hu=>(kc _).trans (h.aN j u hu),(kc _).trans h.count,h.few⟩;rcases ho with ho | ⟨q,hp,hv,h1,h2,h3,h4⟩
 ·exact .inl ho
 ·have kq:w'.heap[q.g]?=w.heap[q.g]?:=k q.g (.inr (by rw[hp];rfl));exact .inr ⟨q,hp,hv,h1,h2,kl kq h3,fun j u hu=>(World.cell?_of_block (a:=⟨q.g,q.off+j,none⟩) kq).trans (h4 j u hu)⟩
theorem dO.lt {w:World} {g o:Nat} {dp:Option Pl} {d:DM} (h:dO w g o dp d) {b:Nat} (hb:b=g\/Pl.blk dp=some b):b<w.heap.size:=by
 rcases hb with rfl | hb
 ·exact h.live.lt
 ·obtain ⟨v,_,ho⟩:=h.aO;rcases ho with ⟨hp,_⟩ | ⟨q,hp,_,_,_,h3,_⟩
  ·rw[hp] at hb;cases hb
  ·rw[hp] at hb;injection hb with hb;rw[<-hb];exact h3.lt
structure PD where
 pb:Nat
 xb:Nat
 dp:Option Pl
 yb:Nat
 rg:RG
 M:DM
 sv:Value
 kl:List KN
def PD.xf (p:PD) (b:Nat):Prop:=b=p.xb\/Pl.blk p.dp=some b
def PD.sf (p:PD) (b:Nat):Prop:=p.sv.ownBlock=some b\/∃ k∈p.kl,k.box.ownBlock=some b
def PD.foot (p:PD) (b:Nat):Prop:=b=p.pb\/p.xf b\/p.rg.foot p.yb b\/p.sf b
theorem PD.fy {p:PD} {b:Nat} (h:p.rg.foot p.yb b):p.foot b:=.inr (.inr (.inl h))
theorem PD.fs {p:PD} {b:Nat} (h:p.sf b):p.foot b:=.inr (.inr (.inr h))
theorem SaidAt.keep {w w':World} {base sb so:Nat} {sv:Value} {kl:List KN} (h:SaidAt w base sb so sv kl) (k:∀ b,b=sb\/sv.ownBlock=some b\/(∃ x∈kl,x.box.ownBlock=some b)->w'.heap[b]?=w.heap[b]?):SaidAt w' base sb so sv kl:=
 ⟨(World.cell?_of_block (a:=⟨sb,so,none⟩) (k sb (.inl rfl))).trans h.cell,eF h.row (fun b hb=>k b (.inr (.inl hb))),fun x hx=>⟨eF (h.own x hx).1 (fun b hb=>k b (.inr (.inr ⟨x,hx,hb⟩))),(h.own x hx).2⟩⟩
theorem SaidAt.lt {w:World} {base sb so:Nat} {sv:Value} {kl:List KN} (h:SaidAt w base sb so sv kl) {b:Nat} (hb:sv.ownBlock=some b\/∃ x∈kl,x.box.ownBlock=some b):b<w.heap.size:=by
 rcases hb with hb | ⟨x,hx,hb⟩
 ·exact (h.row.lt b hb).2
 ·exact ((h.own x hx).1.lt b hb).2
structure PD.ok (p:PD) (w:World):Prop where
 blk:dX w p.pb #[ptrTo p.xb,ptrTo p.yb,p.sv]
 x:dO w p.xb 0 p.dp p.M
 y:RD w 0 p.yb p.M p.rg
 dx:Pl.blk p.dp≠some p.xb
 px:¬ p.xf p.pb
 py:¬ p.rg.foot p.yb p.pb
 xy:∀ b,p.xf b->¬ p.rg.foot p.yb b
 s:SaidAt w 0 p.pb 2 p.sv p.kl
 sd:∀ b,p.sf b->b≠p.pb/\¬ p.xf b/\¬ p.rg.foot p.yb b
 ss:∀ k∈p.kl,∀ b,k.box.ownBlock=some b->p.sv.ownBlock≠some b
theorem PD.ok.keep {p:PD} {w w':World} (h:p.ok w) (k:∀ b,p.foot b->w'.heap[b]?=w.heap[b]?):p.ok w':=
 ⟨h.blk.kept (k _ (.inl rfl)),h.x.keep (fun b hb=>k b (.inr (.inl hb))),h.y.keep (fun b hb=>k b (PD.fy hb)),h.dx,h.px,h.py,h.xy,h.s.keep (fun b hb=>k b (by rcases hb with e | e;exact .inl e;exact PD.fs e)),h.sd,h.ss⟩
theorem PD.ok.lt {p:PD} {w:World} (h:p.ok w) {b:Nat} (hb:p.foot b):b<w.heap.size:=by
 rcases hb with rfl | hb | hb | hb
 ·exact h.blk.lt
 ·exact h.x.lt hb
 ·exact (h.y.lt b hb).2
 ·exact h.s.lt hb
def PD.as (p:PD):uF:=⟨p.ok,p.foot,fun _ _ h k=>h.keep k⟩
def dA {QP:Type} (jU:QP->uF) (qb:QP->Nat):uQ PD QP:=⟨PD.as,PD.pb,jU,qb⟩
variable {QP:Type} {jU:QP->uF} {qb:QP->Nat} {base wb:Nat}
theorem iQ (k:Nat):(2*k) % 2=0/\(2*k) / 2=k:=by omega
theorem iK.part {d:WD PD QP} {w:World} (h:iK (dA jU qb) base wb d w) {k:Nat} {p:PD} (hk:d.ps[k]?=some p):p.ok w:=by
 have:=h.here (2*k+11);simp only[WD.C,(iQ k).1,(iQ k).2,ez] at this;exact this p hk
theorem WD.zT {d:WD PD QP} {k:Nat} {p:PD} (hk:d.ps[k]?=some p) {b:Nat} (hb:p.foot b):WD.F (dA jU qb) wb d (2*k+11) b:=by
 simp only[WD.F,(iQ k).1,(iQ k).2,ez];exact ⟨p,hk,hb⟩
theorem iK.pair {d:WD PD QP} {w w':World} {p:PD} {pv':Value} (h:iK (dA jU qb) base wb d w) (f:lN w w' (fun b=>b=wb\/d.pv.ownBlock=some b))
  (h0:dX w' wb (WD.cells {d with pv:=pv'})) (h1:w'.ownsRow base 51 1 pv' (d.ps.length+1) ((d.ps.map fun p=>ptrTo p.pb)++[ptrTo p.pb])) (hv:∀ b,pv'.ownBlock=some b->d.pv.ownBlock=some b\/w.heap.size<=b)
  (hp:p.ok w') (FV:∀ b,p.foot b->w.heap.size<=b) (hpv:∀ b,p.foot b->pv'.ownBlock≠some b):iK (dA jU qb) base wb {d with pv:=pv',ps:=d.ps++[p]} w'/\Below base w w':=by
 have hroom:=h.room
 have hwb:WD.F (dA jU qb) wb d 0 wb:=rfl
 have hnew:∀ b,w.heap.size<=b->∀ j,¬ WD.F (dA jU qb) wb d j b:=fun b hb j hj=>by have:=h.lt j b hj;omega
 have hwl:=h.lt 0 wb hwb
 have hlast:(d.ps++[p])[d.ps.length]?=some p:=by simp
 have hF:∀ b,WD.F (dA jU qb) wb {d with pv:=pv',ps:=d.ps++[p]} (2*d.ps.length+11) b->p.foot b:=by
  intro b hb;simp only[WD.F,(iQ d.ps.length).1,(iQ d.ps.length).2,ez] at hb;obtain ⟨p',hp',hb⟩:=hb;rw[hlast] at hp';cases hp';exact hb
 have h01:pv'.ownBlock≠some wb:=fun e=>by
  rcases hv wb e with e | e
  ·have:=h.one 0 1 wb hwb e;omega
  ·omega
 refine ⟨Sep.acts (WD.loc _ base wb) h (fun k=>k=0\/k=1\/k=2*d.ps.length+11) _ f ?_ ?_ ?_ ?_ ?_,f.below hroom ?_⟩
 ·rintro b (e | e)
  ·exact .inl ⟨0,.inl rfl,e⟩
  ·exact .inl ⟨1,.inr (.inl rfl),e⟩
 ·rintro k (rfl | rfl | rfl)
  ·exact h0
  ·show w'.ownsRow base 51 1 pv' (d.ps++[p]).length ((d.ps++[p]).map fun p=>ptrTo p.pb);rw[bj,cW];exact h1
  ·simp only[WD.C,(iQ d.ps.length).1,(iQ d.ps.length).2,ez];intro p' hp';rw[hlast] at hp';cases hp';exact hp
 ·rintro k b (rfl | rfl | rfl) hb
  ·have e:b=wb:=hb;subst e;exact ⟨h.base 0 b hwb,h0.lt,.inl ⟨0,.inl rfl,hwb⟩⟩
  ·have e:pv'.ownBlock=some b:=hb;refine ⟨(h1.lt b e).1,(h1.lt b e).2,?_⟩;rcases hv b e with e2 | e2
   ·exact .inl ⟨1,.inr (.inl rfl),e2⟩
   ·exact .inr (hnew b e2)
  ·have q:=FV b (hF b hb);exact ⟨by omega,hp.lt (hF b hb),.inr (hnew b q)⟩
 ·rintro i j b (rfl | rfl | rfl) (rfl | rfl | rfl) hi hj
  ·rfl
  ·have e:b=wb:=hi;subst e;exact absurd hj h01
  ·have e:b=wb:=hi;subst e;have:=FV b (hF b hj);omega
  ·have e:b=wb:=hj;subst e;exact absurd hi h01
  ·rfl
  ·exact absurd hi (hpv b (hF b hj))
  ·have e:b=wb:=hj;subst e;have:=FV b (hF b hi);omega
  ·exact absurd hj (hpv b (hF b hi))
  ·rfl
 ·intro j hj;have n0:j≠0:=fun e=>hj (.inl e);have n1:j≠1:=fun e=>hj (.inr (.inl e));have n2:j≠2*d.ps.length+11:=fun e=>hj (.inr (.inr e));match j,n0,n1,n2 with
  | 2,_,_,_=>exact ⟨fun q=>q,fun _ q=>q⟩
  | 3,_,_,_=>exact ⟨fun q=>q,fun _ q=>q⟩
  | 4,_,_,_=>exact ⟨fun q=>q,fun _ q=>q⟩
  | 5,_,_,_=>exact ⟨fun q=>q,fun _ q=>q⟩
  | 6,_,_,_=>exact ⟨fun q=>q,fun _ q=>q⟩
  | 7,_,_,_=>exact ⟨fun q=>q,fun _ q=>q⟩
  | 8,_,_,_=>exact ⟨fun q=>q,fun _ q=>q⟩
  | 9,_,_,_=>exact ⟨fun q=>q,fun _ q=>q⟩
  | 10,_,_,_=>exact ⟨fun q=>q,fun _ q=>q⟩
  | k+11,_,_,n2=>
   by_cases e:k % 2=0
   ·have hne:k / 2≠d.ps.length:=fun q=>n2 afp;have hget:∀ p',(d.ps++[p])[k / 2]?=some p'->d.ps[k / 2]?=some p':=by
     intro p' hp';by_cases hl:k / 2<d.ps.length
     ·rw[cF hl] at hp';exact hp'
     ·rw[List.getElem?_eq_none (by rw[bj,fX];omega)] at hp';cases hp'
    simp only[WD.C,WD.F,e,ez];exact ⟨fun q p' hp'=>q p' (hget p' hp'),fun b ⟨p',hp',hb⟩=>⟨p',hget p' hp',hb⟩⟩
   ·simp only[WD.C,WD.F,e,eC];exact ⟨fun q=>q,fun _ q=>q⟩
 ·rintro b (e | e)
  ·rw[e];exact h.base 0 wb hwb
  ·exact h.base 1 b e
theorem iK.put {d:WD PD QP} {w w':World} {k:Nat} {p p':PD} (h:iK (dA jU qb) base wb d w) (hk:d.ps[k]?=some p) (f:lN w w' p.foot) (hp:p'.ok w') (hpb:p'.pb=p.pb) (FV:∀ b,p'.foot b->p.foot b\/w.heap.size<=b) :
  iK (dA jU qb) base wb {d with ps:=d.ps.set k p'} w'/\Below base w w':=by
 have hroom:=h.room
 have hkl:k<d.ps.length:=(cq.1 hk).1
 have hset:(d.ps.set k p')[k]?=some p':=List.getElem?_set_self hkl
 have hnew:∀ b,w.heap.size<=b->∀ j,¬ WD.F (dA jU qb) wb d j b:=fun b hb j hj=>by have:=h.lt j b hj;omega
 have hF:∀ b,WD.F (dA jU qb) wb {d with ps:=d.ps.set k p'} (2*k+11) b->p'.foot b:=by
  intro b hb;simp only[WD.F,(iQ k).1,(iQ k).2,ez] at hb;obtain ⟨q,hq,hb⟩:=hb;rw[hset] at hq;cases hq;exact hb
 have Bd:∀ b,p.foot b->WD.F (dA jU qb) wb d (2*k+11) b:=fun b hb=>WD.zT hk hb
 refine ⟨Sep.acts (WD.loc _ base wb) h (fun j=>j=2*k+11) _ f ?_ ?_ ?_ ?_ ?_,f.below hroom (fun b hb=>h.base _ b (Bd b hb))⟩
 ·intro b hb;exact .inl ⟨_,rfl,Bd b hb⟩
 ·rintro j rfl;simp only[WD.C,(iQ k).1,(iQ k).2,ez];intro q hq;rw[hset] at hq;cases hq;exact hp
 ·rintro j b rfl hb;have hb:=hF b hb;rcases FV b hb with e | e
  ·exact ⟨h.base _ b (Bd b e),hp.lt hb,.inl ⟨_,rfl,Bd b e⟩⟩
  ·exact ⟨by omega,hp.lt hb,.inr (hnew b e)⟩
 ·rintro i j b rfl rfl _ _;rfl
 ·intro j hj;match j,hj with
  | 0,_=>exact ⟨fun q=>q,fun _ q=>q⟩
  | 1,_=>
   refine ⟨fun q=>?_,fun _ q=>q⟩;show w'.ownsRow base 51 1 d.pv (d.ps.set k p').length ((d.ps.set k p').map fun p=>ptrTo p.pb);have e:(d.ps.set k p').map (fun p=>ptrTo p.pb)=d.ps.map fun p=>ptrTo p.pb:=by
    rw[List.map_set,hpb];refine List.ext_getElem? fun i=>?_;by_cases hi:i=k
    ·subst hi;rw[List.getElem?_set_self (by rw[cw];exact hkl),List.getElem?_map,hk];rfl
    ·rw[fm (fun e=>hi e.symm)]
   rw[e,cU];exact q
  | 2,_=>exact ⟨fun q=>q,fun _ q=>q⟩
  | 3,_=>exact ⟨fun q=>q,fun _ q=>q⟩
  | 4,_=>exact ⟨fun q=>q,fun _ q=>q⟩
  | 5,_=>exact ⟨fun q=>q,fun _ q=>q⟩
  | 6,_=>exact ⟨fun q=>q,fun _ q=>q⟩
  | 7,_=>exact ⟨fun q=>q,fun _ q=>q⟩
  | 8,_=>exact ⟨fun q=>q,fun _ q=>q⟩
  | 9,_=>exact ⟨fun q=>q,fun _ q=>q⟩
  | 10,_=>exact ⟨fun q=>q,fun _ q=>q⟩
  | i+11,hj=>
   by_cases e:i % 2=0
   ·have hne:i / 2≠k:=fun q=>hj afp;have hget:(d.ps.set k p')[i / 2]?=d.ps[i / 2]?:=fm (fun e=>hne e.symm);simp only[WD.C,WD.F,e,ez,hget];exact ⟨fun q=>q,fun _ q=>q⟩
   ·simp only[WD.C,WD.F,e,eC];exact ⟨fun q=>q,fun _ q=>q⟩
variable {W:World}
theorem Aw {fn:Func} {a u t:Tmp} {ty:TypeId} (h:fn.results=#[.tmp t,.cell a ty,.tmp u]) (tmps:Array Value) (P:Program) (w:World) (b:Nat) (hp:tmps.getD a undef = .pointer (some ⟨b,0,none⟩)) (x:Value) (hl:(loadVar ty ⟨b,0,none⟩).run P w = .ok x w) :
  (results fn tmps).run P w = .ok (.tuple #[tmps.getD t undef,x,tmps.getD u undef]) w:=by
 have hp':tmps[a]?.getD undef = .pointer (some ⟨b,0,none⟩):=by simpa using hp
 exact ac1
def Zj (w w':World) (e:Ending):Prop:=∃ (o:Value) (t:TK) (b:Bool) (z:List UInt8),e = .returned (.tuple #[o,.agg t.cells.toArray,.bool b])/\w'.ownsRow w.heap.size 5 1 o z.length (z.map U8)/\z.length<=1000/\(b=true->t.ax.length<=1000)/\w.grownBy w' none
structure GW (w W:World) (base yb:Nat) (M:DM) (g:RG) (gl:Nat) (l:List Pc):Prop where
 d:RD W base yb M g
 r:Live W w.heap.size 7
 p:jr W gl l
 g:w.grownBy W none
theorem GW.grown {W':World} {base yb:Nat} {M:DM} {g:RG} {gl:Nat} {l:List Pc} (h:GW w W base yb M g gl l) (k:W.grownBy W' none):GW w W' base yb M g gl l:=
 ⟨h.d.keep (fun b hb=>k.block b (h.d.lt b hb).2 aft),h.r.grown k,h.p.grown k,aa h.g k⟩
structure GC (w W:World) (base yb:Nat) (M:DM) (g:RG) (gl:Nat) (l:List Pc) (bc:Nat) (cs:List UInt8) (cn:Int) (z:Value) (zs:List UInt8):Prop where
 w:GW w W base yb M g gl l
 c:W.rangeAt bc 0 [.string ⟨cs.toArray⟩,.int .i64 cn,z]
 z:vg W z zs
theorem GC.grown {W':World} {base yb:Nat} {M:DM} {g:RG} {gl:Nat} {l:List Pc} {bc:Nat} {cs:List UInt8} {cn:Int} {z:Value} {zs:List UInt8} (h:GC w W base yb M g gl l bc cs cn z zs) (k:W.grownBy W' none):GC w W' base yb M g gl l bc cs cn z zs:=
 ⟨h.w.grown k,aA h.c k,h.z.grown k⟩
theorem RJ {α:Type} {l:List α} (h:l.length=4):∃ a b c d,l=[a,b,c,d]:=by
 match l,h with
 | [a,b,c,d],_=>exact ⟨a,b,c,d,rfl⟩
theorem acv (hg:w.grownBy W none):∃ (o:Value) (t:TK) (b:Bool) (z:List UInt8),Ending.returned (.tuple #[.slice none 0 0,.agg #[.int .i64 0,.int .u64 0,.string ⟨#[]⟩,.int .i64 0,.int .i64 0,.int .i64 0,.int .i64 0],.bool false]) = .returned (.tuple #[o,.agg t.cells.toArray,.bool b])/\W.ownsRow w.heap.size 5 1 o z.length (z.map U8)/\z.length<=1000/\(b=true->t.ax.length<=1000)/\w.grownBy W none:=
 ⟨.slice none 0 0,⟨0,0,[],0,0,0,0⟩,false,[],rfl,World.ownsRow_nil _ _ _ _,by simp,fun h=>(by cases h),hg⟩
theorem AZ {l:List UInt8} {t:TK} (h:dU l=some t):t.ax.length<=1000:=by
 unfold dU at h;cases hl:kG l with
 | none=>rw[hl] at h;cases h
 | some ps=>
  rw[hl] at h;have h:jo ps=some t:=h;have L:∀ {α β:Type} {f:mW->Option α} {k:α->List mW->Option β} {l:List mW} {b:β},bW f k l=some b->∃ p r a,l=p::r/\f p=some a/\k a r=some b:=by
   intro α β f k l b h;cases l with
   | nil=>cases h
   | cons p r=>
    have h:(f p).bind (fun a=>k a r)=some b:=h;cases hf:f p with
    | none=>rw[hf] at h;cases h
    | some a=>rw[hf] at h;exact ⟨p,r,a,rfl,hf,h⟩
  obtain ⟨q1,r1,a1,e1,_,j1⟩:=L h;obtain ⟨q2,r2,a2,e2,_,j2⟩:=L j1;obtain ⟨q3,r3,a3,e3,f3,j3⟩:=L j2;obtain ⟨q4,r4,a4,e4,_,j4⟩:=L j3;obtain ⟨q5,r5,a5,e5,_,j5⟩:=L j4;obtain ⟨q6,r6,a6,e6,_,j6⟩:=L j5;obtain ⟨q7,r7,a7,e7,_,j7⟩:=L j6;have j8:(if r7=[] then some (⟨a1,a2,a3,a4,a5,a6,a7⟩:TK) else none)=some t:=j7;split at j8
  ·injection j8 with j8;subst j8;show a3.length<=1000;unfold di at f3;split at f3
   ·rename_i hn;injection f3 with f3;subst f3;have:=hn.2;unfold cO at this;simp only[ej,eL] at this;omega
   ·cases f3
  ·cases j8
theorem Om {p:mW} {x:List UInt8×Int×List UInt8} (h:gD p=some x):p.2≠[]:=by
 intro e;unfold gD yA at h;split at h
 ·rw[e] at h;have:Box.dH []=some []:=by unfold Box.dH;rfl
  rw[this] at h;cases h
 ·cases h
theorem WA {p:Prop} (h:p:=by
  obtain ⟨⟨dd0,kk0⟩,⟨dd1,kk1⟩,⟨dd2,kk2⟩,⟨dd3,kk3⟩,⟨dd4,kk4⟩,⟨dd5,kk5⟩,⟨dd6,kk6⟩,ff0,ff1,ff2,ff3,ff4,ff5,ff6⟩:=oK JP.o
  go_wp2
  refine bodyPost_ret (Aw results73 _ _ _ w.heap.size rfl _ (gY (eZ JP.o _ _ _ _ _ _ _))) rfl ?_
  exact acv (Rf YM.o (bd _))):p:=h
theorem RN (base yb:Nat) (M:DM) (g:RG) (rep:List UInt8) (v:Value) (w:World) (hD:RD w base yb M g) (hok:gU 4611686018427387904 M.bg) (hv:Has w v rep) (hrl:rep.length<=900) :
  Calls prog 73 #[.pointer (some ⟨yb,0,none⟩),v] w fun e w'=>Zj w w' e:=by
 have G0:=aE w (.cells #[.int .i64 0,.int .u64 0,.string ⟨#[]⟩,.int .i64 0,.int .i64 0,.int .i64 0,.int .i64 0] 43) none
 have hL0:=Live.new w #[.int .i64 0,.int .u64 0,.string ⟨#[]⟩,.int .i64 0,.int .i64 0,.int .i64 0,.int .i64 0] 43
 have C1:=hid (fun W (hW:w.grownBy W none)=>yF 48 rep v W (hv.grown hW) afp)
 have Pg:=hid (And.intro G0 hL0)
 obtain ⟨O,hO⟩:=aq (tK 48 rep)
 have HO:=hid hO
 rw[hO] at C1
 obtain ⟨va,vc,hvs⟩:=hv.shape
 obtain ⟨n,hn⟩:=aq rep.length
 rw[hn] at hvs hrl
 subst hvs
 have HN:=hid hn
 have HD:=hid hD
 clear hD hn hO hv G0 hL0
 go_enter func73,ntmps73
 go_wp2_with fail
 refine (C1.o _ Pg.o.1).mono ?_
 rintro e w1 ⟨x,i,rfl,hx,hil,hone,g1⟩
 have C2:=hid (pO i x w1 hx.prt afp)
 obtain ⟨xa,xc,hxs⟩:=hx.shape
 subst hxs
 obtain ⟨CC,WT⟩:=aq (Box.dH i)
 have LY:=hid WT
 rw[WT] at C2
 have HOI:=hid hone
 have jC:=hid (aa Pg.o.1 g1)
 have EL:=hid (Pg.o.2.grown g1)
 obtain ⟨il,RI⟩:=aq i.length
 rw[RI] at C2 ⊢
 clear C1 hx hil hone g1 WT RI Pg
 go_wp2_with fail
 refine C2.o.mono ?_
 rintro e w2 ⟨px,rfl,hps,hno,g2⟩
 have hpx:∃ (l:List Pc) (ao:Option Addr) (pc:Nat),px = .slice ao l.length pc/\(∀ ps,CC=some ps->l.map Pc.pair=ps/\(l≠[]->∃ gl,ao=some ⟨gl,0,none⟩/\jr w2 gl l)):=by
  cases hc:CC with
  | none=>exact ⟨[],none,0,hno hc,fun ps h=>by cases h⟩
  | some ps=>
   obtain ⟨l,⟨ao,pc,h1,h2⟩,h3,_⟩:=hps ps hc;exact ⟨l,ao,pc,h1,fun ps' h=>by injection h with h;subst h;exact ⟨h3,h2⟩⟩
 obtain ⟨l,ao,pc,acs,hpl⟩:=hpx
 subst acs
 have NP:=hid hpl
 have HG2:=hid (aa jC.o g2)
 have HL2:=hid (EL.o.grown g2)
 obtain ⟨m,hm⟩:=aq l.length
 rw[hm]
 have HM:=hid hm
 clear hps hno hpl g2 jC C2 hm EL
 obtain ⟨b1,hb1⟩:=aq O.isSome
 obtain ⟨b2,hb2⟩:=aq CC.isSome
 rw[hb1,hb2]
 have HB1:=hid hb1
 have HB2:=hid hb2
 obtain ⟨bad,hbad⟩:=aq ((!b1 || (!b2 || !decide ((m:Int)=4))))
 have kY:=hid hbad
 clear hb1 hb2 hbad
 go_upto_region 3 with fail
 go_cut [40] (fun z wx=>z = .bool bad/\w2=wx)
 case first=>
  cases b1 with
  | false=>
   go_wp2;go_meet
   case rel=>exact ⟨by rw[<-kY.o];rfl,rfl⟩
  | true=>
   cases b2 with
   | false=>
    go_wp2;go_meet
    case rel=>exact ⟨by rw[<-kY.o];rfl,rfl⟩
   | true=>
    by_cases h4:(m:Int)=4
    ·have HL4:=hid h4;have h4b:((m:Int)==4)=true:=(by rw[h4];rfl);go_wp2;go_meet
     case rel=>exact ⟨by rw[<-kY.o,cH HL4.o];rfl,rfl⟩
    ·have HL4:=hid h4;have h4b:((m:Int)==4)=false:=(by simpa using h4);go_wp2;go_meet
     case rel=>exact ⟨by rw[<-kY.o,cA HL4.o];congr 1;simpa using HL4.o,rfl⟩
 case rest=>
  obtain ⟨rfl,rfl⟩:=hcut;cases bad with
  | true=>
   have JP:=hid (HL2.o);have YM:=hid (HG2.o);exact WA
  | false=>
   have hgood:∃ p0 p1 p2 p3 gl,l=[p0,p1,p2,p3]/\m=4/\ao=some ⟨gl,0,none⟩/\jr w2 gl [p0,p1,p2,p3]/\p2.ins.length<=900:=by
    have h:=kY.o;simp at h;obtain ⟨h1,h2,h3⟩:=h;have hO:∃ i',O=some i':=bw.1 (by rw[HB1.o];exact h1);have hC:∃ ps,CC=some ps:=bw.1 (by rw[HB2.o];exact h2);obtain ⟨i',hO⟩:=hO;obtain ⟨ps,hC⟩:=hC;have e1:=HOI.o i' hO;subst e1;obtain ⟨p0,p1,p2,p3,hl⟩:=RJ (l:=l) (by have:=HM.o;omega);obtain ⟨q1,q2⟩:=NP.o ps hC;obtain ⟨gl,hgl,mY⟩:=q2 (by rw[hl];simp);refine ⟨p0,p1,p2,p3,gl,hl,by omega,hgl,by rw[<-hl];exact mY,?_⟩;have hil:i'.length<=rep.length:=by
     have ho:=HO.o.trans hO;unfold tK at ho;split at ho
     ·rename_i t i2 hc;split at ho
      ·injection ho with ho;subst ho;have:=Box.jF hc;omega
      ·cases ho
     ·cases ho
    have h5:p2.ins.length<=i'.length:=Box.kS (LY.o.trans hC) p2.pair (by rw[<-q1,hl];simp);have:=HN.o;omega
   obtain ⟨p0,p1,p2,p3,gl,hl,hm4,hao,mY,h2l⟩:=hgood;subst hm4 hao;have HW:Hid (GW w w2 base yb M g gl [p0,p1,p2,p3]):=⟨HD.o.keep (fun b hb=>HG2.o.block b (HD.o.lt b hb).2 aft),HL2.o,mY,HG2.o⟩
   have c4:w2.cell? ⟨gl,4,none⟩=some (.int .u8 (p2.tag.toNat:Int)):=mY.tag 2 aft;have c5:w2.cell? ⟨gl,5,none⟩=some (.slice p2.ad p2.ins.length p2.cap):=mY.ins 2 aft;have C3:=hid (yY p2 w2 (mY.2 p2 aft).1 (mY.2 p2 aft).2.1 (mY.2 p2 aft).2.2 afp);obtain ⟨oT,hoT⟩:=aq (gD p2.pair);have HTL:Hid (∀ x,oT=some x->x.2.2.length<=900/\p2.ins≠[]):=fun x hx=>⟨br (Aq (p:=p2.pair) (by rw[hoT];exact hx)) h2l,Om (p:=p2.pair) (by rw[hoT];exact hx)⟩
   rw[hoT] at C3;have H2L:=hid h2l;clear hl mY h2l hoT kY NP HB1 HB2 HO LY HOI HM HG2 HL2;go_wp2_with fail;refine C3.o.mono ?_;rintro e w3 ⟨cs,cn,cz,rfl,icn,hone,hcs,g3⟩;have hst:=Gc (P:=prog) (Live.new w3 #[.string ⟨cs.toArray⟩,.int .i64 cn,.slice none 0 0] 233) 2 aft cz hone;have HW3:=hid (HW.o.grown g3);have KD:=hid hcs;clear C3 HW g3 hcs icn c4 c5;go_upto_region 6 with fail
   refine jP (fun V=>w3.grownBy V none/\V.rangeAt w3.heap.size 0 [.string ⟨cs.toArray⟩,.int .i64 cn,cz]) ⟨aE w3 _ none,aW w3 #[.string ⟨cs.toArray⟩,.int .i64 cn,cz] _⟩ ?_;clear hst;rintro V ⟨gV,hcV⟩;obtain ⟨bc,hbc⟩:=aq w3.heap.size;rw[hbc] at hcV ⊢;have HV:=hid (HW3.o.grown gV);have HCV:=hid hcV;have Iw:Hid (∀ q,oT=some q->cs=q.1/\cn=q.2.1/\vg V cz q.2.2):=fun q hq=>⟨(KD.o q hq).1,(KD.o q hq).2.1,(KD.o q hq).2.2.1.grown gV⟩
   have d0:V.cell? ⟨bc,0,none⟩=some (.string ⟨cs.toArray⟩):=hcV 0 _ rfl;clear hbc gV hcV HW3 KD;have CF:=hid (fun W (hW:RD W base yb M g)=>wm base yb M g cs W hW hok.len);have hfa:=sN g.es cs;obtain ⟨fa,Dz⟩:=aq (fP g.es cs);rw[Dz] at CF hfa;have hfi:fa<0\/∃ (i:Nat) (_:i<g.es.length),fa=(i:Int):=by
    rcases hfa with ⟨e,_⟩ | ⟨i,h,e,_⟩
    ·left;omega
    ·exact .inr ⟨i,h,e⟩
   have HFA:=hid hfi;clear hfa Dz hfi;go_wp2_with fail;refine (CF.o _ HV.o.d).mono ?_;rintro e W1 ⟨rfl,g1⟩;have HW:=hid (HV.o.grown g1);have qN:=hid (aA HCV.o g1);have KD:Hid (∀ q,oT=some q->cs=q.1/\cn=q.2.1/\vg W1 cz q.2.2):=fun q hq=>⟨(Iw.o q hq).1,(Iw.o q hq).2.1,(Iw.o q hq).2.2.grown g1⟩
   clear CF HV HCV Iw d0 g1;obtain ⟨b3,hb3⟩:=aq oT.isSome;have HB3:=hid hb3;rw[hb3];clear hb3;cases b3 with
   | false=>
    have JP:=hid (HW.o.r);have YM:=hid (HW.o.g);exact WA
   | true=>
    rcases HFA.o with hneg | ⟨i,hi,hie⟩
    ·have JP:=hid (HW.o.r);have YM:=hid (HW.o.g);exact WA
    ·obtain ⟨cm,hcm⟩:∃ c,oT=some c:=bw.1 HB3.o;obtain ⟨h1,h2,h3⟩:=KD.o cm hcm;obtain ⟨hl9,hne⟩:=HTL.o cm hcm;obtain ⟨za,zc,hza,hz2,hz3,QC⟩:=h3;subst hza;obtain ⟨zn,hzn⟩:=aq cm.2.2.length;rw[hzn] at qN hz2;have HC:Hid (GC w W1 base yb M g gl [p0,p1,p2,p3] bc cs cn (.slice za zn zc) cm.2.2):=⟨HW.o,qN.o,⟨za,zc,by rw[hzn],by rw[hzn];exact hz2,hz3,QC⟩⟩
     have HNe:=hid hne;have HL9:=hid hl9;have hi1:(0:Int)<=(i:Int):=(by omega);obtain ⟨gb,cb,hbv,hrow⟩:=sO HW.o.d afp;obtain ⟨m,hm⟩:=aq g.es.length;have LG:(i:Int)<(m:Int):=(by omega);have vJ:Hid (∀ V,W1.grownBy V none->V.cell? ⟨yb,1,none⟩=some (.slice (some ⟨gb,0,none⟩) m cb)/\V.rangeAt gb 0 (bK g.es)):=by
      intro V hV;refine ⟨?_,aA hrow hV⟩;have:=(HW.o.grown hV).d.dF.blk.cell 1;rw[hbv,hm] at this;simpa using this
     obtain ⟨x,hxe⟩:=aq (g.es[i]'hi);have hmx:x.be∈M.bg:=(by rw[<-HD.o.bg,<-hxe];exact ev (cJ hi));have iL:1<=x.aH/\x.aH<=4611686018427387904:=hok.num x.be hmx;have HXE:=hid hxe;subst hie;clear HFA hbv hrow hm hxe hmx hz2 hz3 QC hl9 hne h1 h2 HW qN KD HTL HB3;have CK:=hid (fun W=>Dr x cn W iL.1 (by have:=iL.2;omega));obtain ⟨ko,hko⟩:=aq ((x.be.keyOf cn).getD 0);obtain ⟨kb,hkb⟩:∃ k:Bool,(x.be.keyOf cn).isSome=k:=⟨_,rfl⟩
     rw[hko,hkb] at CK;clear hko hkb iL;go_wp2_with fail;refine aF.start (S:=fun V=>GC w V base yb M g gl [p0,p1,p2,p3] bc cs cn (.slice za zn zc) cm.2.2/\W1.grownBy V none) 9 afv ?_;have eD:Hid (GC w W1.drew base yb M g gl [p0,p1,p2,p3] bc cs cn (.slice za zn zc) cm.2.2/\W1.grownBy W1.drew none):=⟨HC.o.grown (bD (bh _ _)),bD (bh _ _)⟩
     refine aF.tk 0 [6,5,3,2,1,0] ?_;refine aF.tk 1 [6,5,3,2,1] ?_;refine aF.tk 2 [6,5,3,2] ?_;refine aF.tk 3 [6,5,3] ?_ (hy:=by intro W hW;have y1:=(vJ.o W hW.2).1;exact jS);refine aF.tk 4 [6,5,4] ?_;refine aF.tk 5 [6,5] ?_;refine aF.tk 6 [6] ?_ (hy:=by intro W hW;have hr:=(vJ.o W hW.2).2;obtain ⟨x0,x1,x2,x3,x4,x5,x6,x7,x8,x9⟩:=um hr i hi;rw[HXE.o] at x0 x1 x2 x3 x4 x5 x6 x7 x8 x9;clear hr;exact jS);refine aF.tk 7 [8,7] ?_;refine aF.tk 8 [8] ?_ (hy:=by intro W hW;have c1:W.cell? ⟨bc,1,none⟩=some (.int .i64 cn):=hW.1.c 1 _ rfl;exact jS);refine aF.on 9 ?_;intro K hK;refine Calls.mono (CK.o _) ?_;rintro e W2 ⟨rfl,g2⟩;have DZ:=hid (eD.o.1.grown g2);clear g2;go_wp2_with fail;refine hkl ?_;clear hK K CK;refine aF.fr 10 ?_;refine aF.fr 11 ?_;refine aF.fr 12 ?_;refine aF.fr 13 ?_;refine aF.fr 14 ?_;refine aF.done afv ?_;clear eD HC vJ HXE hi1 LG;cases kb with
     | false=>
      have JP:=hid (DZ.o.w.r);have YM:=hid (DZ.o.w.g);exact WA
     | true=>
      have c2:W2.cell? ⟨bc,2,none⟩=some (.slice za zn zc):=DZ.o.c 2 _ rfl;have CO:=hid (fun W (hW:vg W (.slice za zn zc) cm.2.2)=>wh ko 2 2 cm.2.2 (.slice za zn zc) W afq afq rfl HL9.o hW);obtain ⟨ol,hol⟩:=aq (eH ko 2 cm.2.2);rw[hol] at CO;clear hol;go_wp2_with fail;refine (CO.o _ DZ.o.z).mono ?_;rintro e W3 ⟨o,rfl,x91,hon,g3⟩;have Xb:=hid x91;clear x91;have Az:=hid (DZ.o.grown g3);clear DZ g3 c2  hon CO;cases ol with
      | none=>
       simp only[Option.isSome_none];have JP:=hid (Az.o.w.r);have YM:=hid (Az.o.w.g);exact WA
      | some ll=>
       obtain ⟨hl1,hl2⟩:=Xb.o ll rfl;have CT:=hid (yZ ll o W3 hl1 afp);obtain ⟨oa,oc,ho⟩:=hl1.shape;subst ho;clear hl1 hl2 Xb;simp only[cY];obtain ⟨tb,htb⟩:=aq ((dU ll).isSome);rw[htb] at CT;have YZ:=hid htb;clear htb;obtain ⟨ln,hln⟩:=aq ll.length;rw[hln] at CT ⊢;clear hln;go_wp2_with fail;refine CT.o.mono ?_;rintro e W4 ⟨t,rfl,hti,_,g4⟩;have HTc:Hid (tb=true->t.ax.length<=1000):=by
        intro hb;obtain ⟨q,hq⟩:=bw.1 (YZ.o.trans hb);rw[hti q hq];exact AZ hq
       clear hti YZ;rw[TK.nQ t];clear CT;have HC4:=hid (Az.o.grown g4);clear g4 Az;go_upto_region 16 with fail
       refine jP (fun V=>GC w V base yb M g gl [p0,p1,p2,p3] bc cs cn (.slice za zn zc) cm.2.2/\V.rangeAt W4.heap.size 0 t.cells) ⟨HC4.o.grown (aE W4 _ none),aW W4 t.cells.toArray _⟩ ?_;obtain ⟨bt,hbt⟩:=aq W4.heap.size;rw[hbt];have aj2:w.heap.size<W4.heap.size:=HC4.o.w.r.lt;rw[hbt] at aj2;clear hbt HC4;rintro W5 ⟨x91,x92⟩;have OU:=hid x92;clear x92;have WX:=hid x91;clear x91;have CB:Hid (∀ V,GC w V base yb M g gl [p0,p1,p2,p3] bc cs cn (.slice za zn zc) cm.2.2->Calls prog 90 #[.int .u8 48,.slice p2.ad p2.ins.length p2.cap] V fun e w'=>∃ o,e = .returned o/\w'.ownsRow V.heap.size 5 1 o (Box.box 48 p2.ins).length ((Box.box 48 p2.ins).map U8)/\V.grownBy w' none):=by
        intro V hV;refine su 48 p2.ins p2.ins.length p2.ad p2.cap V (hid rfl) (by have:=H2L.o;omega) (fun e=>?_) (hV.w.p.2 p2 aft).1;obtain ⟨b,off,h,_⟩:=(hV.w.p.2 p2 aft).1.addr (fL.2 HNe.o);rw[h] at e;cases e
       refine aF.start (S:=fun V=>GC w V base yb M g gl [p0,p1,p2,p3] bc cs cn (.slice za zn zc) cm.2.2/\V.rangeAt bt 0 t.cells) 8 afv ?_;have eD:Hid (GC w W5.drew base yb M g gl [p0,p1,p2,p3] bc cs cn (.slice za zn zc) cm.2.2/\W5.drew.rangeAt bt 0 t.cells):=⟨WX.o.grown (bD (bh _ _)),aA OU.o (bD (bh _ _))⟩
       refine aF.tk 0 [0] ?_;refine aF.tk 1 [1] ?_;refine aF.tk 2 [2] ?_;refine aF.tk 3 [3] ?_ (hy:=by intro W hW;have c5:W.cell? ⟨gl,5,none⟩=some (.slice p2.ad p2.ins.length p2.cap):=hW.1.w.p.ins 2 aft;exact jS);refine aF.tk 5 [5] ?_ (hy:=by intro W hW;have h7:=hW.2;obtain ⟨t0,t1,t2,t3,t4,t5,t6⟩:=kV h7;clear h7;exact jS);refine aF.fr 6 ?_ (hS:=.inr eD.o);refine aF.on 4 ?_;intro K hK;refine Calls.mono (CB.o _ eD.o.1) ?_;rintro e W6 ⟨o,rfl,x91,g6⟩;have HO6:=hid x91;clear x91;have HC6:=hid (eD.o.1.grown g6);have LM:=hid (aA eD.o.2 g6);have HS6:Hid (w.heap.size+1<=W5.drew.heap.size):=WX.o.w.r.lt;clear  g6;go_wp2_with fail;refine hK.out _ _ (.inr ⟨HC6.o,LM.o⟩) ?_;clear hK K CB eD;try simp only[Act.put,List.getElem_toArray,ft,List.getElem_cons_succ,de,dy,eo]
       have eD:=hid (And.intro HC6.o LM.o);refine aF.fr 7 ?_ (hS:=.inr eD.o);obtain ⟨⟨dd0,kk0⟩,⟨dd1,kk1⟩,⟨dd2,kk2⟩,⟨dd3,kk3⟩,⟨dd4,kk4⟩,⟨dd5,kk5⟩,⟨dd6,kk6⟩,ff0,ff1,ff2,ff3,ff4,ff5,ff6⟩:=oK HC6.o.w.r;refine aF.on 8 ?_;intro K hK;refine hkl ?_;clear hK K;refine aF.fr 9 ?_;refine aF.done afv ?_;go_wp2;refine bodyPost_ret (Aw results73 _ _ _ w.heap.size rfl _ (gY (eZ HC6.o.w.r _ _ _ _ _ _ _))) rfl ?_;refine ⟨o,t,tb,Box.box 48 p2.ins,rfl,?_,?_,HTc.o,az (az (az (az (az (az (az (HC6.o.w.g) (bd _)) (bd _)) (bd _)) (bd _)) (bd _)) (bd _)) (bd _)⟩
       ·have h0:=HS6.o;refine eF (fT HO6.o afp) (fun b hb=>?_);have hb2:=(HO6.o.lt b hb).1;have hne:b≠w.heap.size:=(by omega);rw[Below.heap_setCell _ _ _ b hne,Below.heap_setCell _ _ _ b hne,Below.heap_setCell _ _ _ b hne,Below.heap_setCell _ _ _ b hne,Below.heap_setCell _ _ _ b hne,Below.heap_setCell _ _ _ b hne,Below.heap_setCell _ _ _ b hne]
       ·have:=H2L.o;have:=lC 48 p2.ins;omega
theorem Tryz.RU:(prog.info? 170).map (fun i=>(i.zero,i.size,i.bytes))=some (some (.agg #[.slice none 0 0,.int .u64 0,.string ⟨#[]⟩]),3,48):=by kernel_rfl
def og (w w':World) (base sb so:Nat) (sv:Value) (kl:List KN):Prop:=
 ∃ RV kl',SaidAt w' base sb so RV kl'/\kl'.length<=kl.length+1/\(∀ b,RV.ownBlock=some b->sv.ownBlock=some b\/w.heap.size<=b)/\(∀ k∈kl',k∈kl\/∀ b,k.box.ownBlock=some b->w.heap.size<=b/\RV.ownBlock≠some b)/\(∀ k∈kl,∀ b,k.box.ownBlock=some b->RV.ownBlock≠some b)/\lN w w' (fun b=>b=sb\/sv.ownBlock=some b)/\(∀ cs,dX w sb cs->dX w' sb (cs.setIfInBounds so RV))
theorem WB {P:Program} {md:Region.Mode} {ops:Array Oper} {Q:Exit->Act->World->Prop} {S:World->Prop} {z n:Nat} {l:Array Bool} {a:Act} {W:World} (X:World->Prop) (hX:X W) (h:∀ V,X V->aF P md ops Q S z n l a V):aF P md ops Q S z n l a W:=h W hX
theorem WC {W W':World} {b n:Nat} {r:Option Nat} (h:Live W b n) (k:W.grownBy W' r) (hn:r≠some b):Live W' b n:=by
 have hl:=h.lt;obtain ⟨cur,e,h1,h2⟩:=h;exact ⟨cur,e,(k.block b hl (fun e=>hn e.symm)).trans h1,h2⟩
theorem WE {w:World} {sb so:Nat} {sv:Value} {cs:Array Value} (h:dX w sb cs) (hc:w.cell? ⟨sb,so,none⟩=some sv):cs.setIfInBounds so sv=cs:=by
 have h1:=h.cell so;rw[hc] at h1;refine Array.ext_getElem? fun i=>?_;rw[Array.getElem?_setIfInBounds];split
 ·rename_i e;subst e;split
  ·exact h1
  ·rename_i hl;rw[eM afp] at h1;cases h1
 ·rfl
theorem IA (l:List KN) (k:KN):nZ (l++[k])=nZ l++k.cells:=by simp[nZ]
theorem Oo (base yb:Nat) (M:DM) (g:RG) (a:oL) (rep:List UInt8) (v:Value) (sb so:Nat) (sv:Value) (kl:List KN) (w:World) (hD:RD w base yb M g) (hok:gU 4611686018427387904 M.bg) (hv:Has w v rep) (hrl:rep.length<=900) (hS:SaidAt w base sb so sv kl) (aj3:kl.length<=1073741824) (hbase:base<=w.heap.size) (hsb:Live w sb (so+1))
  (hne1:sv.ownBlock≠some sb) (hne2:∀ k∈kl,∀ b,k.box.ownBlock=some b->b≠sb/\sv.ownBlock≠some b) :
  Calls prog 36 #[.pointer (some ⟨sb,so,none⟩),v,.agg a.arr,.pointer (some ⟨yb,0,none⟩)] w fun e w'=>e = .returned (.tuple #[])/\og w w' base sb so sv kl:=by
 obtain ⟨i0,hif,hz0,hz1,hz2⟩:=info_parts Tryz.RU
 have G0:=aE w (.cells a.arr 45) none
 have Pg:=hid (aW w a.arr 45)
 have CG:=hid (fun W (hW:w.grownBy W none)=>RN base yb M g rep v W (hD.keep (fun b hb=>hW.block b (hD.lt b hb).2 aft)) hok (hv.grown hW) hrl)
 obtain ⟨va,vc,hvs⟩:=hv.shape
 obtain ⟨vn,Xv⟩:=aq rep.length
 rw[Xv] at hvs
 subst hvs
 have uH:=hid G0
 have HS:=hid hS
 have IJ:=hid hne2
 have LK:=hid hne1
 have hsl:=World.block_lt_of_cell? w _ hS.cell
 clear hD hv Xv G0 hS hne2 hne1
 go_enter func36,ntmps36
 go_upto_region 1 with fail
 refine jP (fun V=>w.grownBy V none/\V.rangeAt w.heap.size 0 a.cells) ⟨uH.o,Pg.o⟩ ?_
 clear uH Pg
 rintro W ⟨x91,x92⟩;have HR:=hid x92;clear x92;have HG:=hid x91;clear x91
 go_wp2_with fail
 refine (CG.o _ HG.o).mono ?_
 rintro e W1 ⟨o,t,b,z,rfl,hown,hzl,hcl,g1⟩
 have hcells:t.cells.toArray=#[.int .i64 t.ay,.int .u64 (t.aM.toNat:Int),.string ⟨t.ax.toArray⟩,.int .i64 t.dY,.int .i64 t.start,.int .i64 t.fin,.int .i64 t.aD]:=rfl
 rw[hcells]
 clear hcells CG
 have HO:=hid (fT hown HG.o.size)
 have HOn:=hid (fun b (hb:o.ownBlock=some b)=>(hown.lt b hb).1)
 have HZl:=hid hzl
 have GL:=hid hcl
 have jC:=hid (aa HG.o g1)
 have HR1:=hid (aA HR.o g1)
 have HW1:Hid (w.heap.size+1<=W.heap.size):=Lh (v:=.int .i64 a.kind) HR.o
 obtain ⟨oa,oc,hos⟩:=cu hown
 obtain ⟨zn,hzn⟩:=aq z.length
 rw[hzn] at hos
 have HOs:=hid hos
 subst hos
 have HZn:=hid hzn
 clear hown hzl hcl g1 HG HR hzn HOs
 go_upto_region 2 with fail
 refine jP (fun V=>W1.grownBy V none/\V.rangeAt W1.heap.size 0 t.cells) ⟨aE W1 _ none,aW W1 t.cells.toArray _⟩ ?_
 obtain ⟨bt,hbt⟩:=aq W1.heap.size
 rw[hbt]
 clear hbt
 rintro V ⟨hg,x91⟩;have HT:=hid x91;clear x91
 have IU:=hid (aa jC.o hg)
 have HRV:=hid (aA HR1.o hg)
 have HOV:=hid (HO.o.kept hg (eW _))
 clear hg  jC HR1 HO
 have c0:V.cell? ⟨w.heap.size,0,none⟩=some (.int .i64 a.kind):=HRV.o 0 _ rfl
 obtain ⟨kb,x91⟩:=aq ((b && !decide (a.kind=0)));have QX:=hid x91;clear x91
 go_cut [23] (fun x wx=>x = .bool kb/\V=wx)
 case first=>
  cases b with
  | false=>
   go_wp2;go_meet
   case rel=>exact ⟨by rw[<-QX.o];rfl,rfl⟩
  | true=>
   by_cases hk0:a.kind=0
   ·have hkb:(a.kind==0)=true:=(by rw[hk0];rfl);have HK0:=hid hk0;clear hk0;go_wp2;go_meet
    case rel=>exact ⟨by rw[<-QX.o,cH HK0.o];first | rfl|(congr 1;simp[HK0.o]),rfl⟩
   ·have hkb:(a.kind==0)=false:=(by simpa using hk0);have HK0:=hid hk0;clear hk0;go_wp2;go_meet
    case rel=>exact ⟨by rw[<-QX.o,cA HK0.o];first | rfl|(congr 1;simpa using HK0.o),rfl⟩
 case rest=>
  obtain ⟨rfl,rfl⟩:=hcut;cases kb with
  | false=>
   go_wp2;go_end0;refine ⟨rfl,sv,kl,HS.o.grown IU.o,gn _,fun b hb=>.inl hb,fun k hk=>.inl hk,fun k hk b hb=>(IJ.o k hk b hb).2,⟨IU.o.os,IU.o.tape,IU.o.output,IU.o.size,fun b hb _=>IU.o.block b hb aft⟩,fun cs hcs=>?_⟩;rw[WE hcs HS.o.cell];exact hcs.grown IU.o aft
  | true=>
   have hbt:b=true:=by
    have h:=QX.o;cases b with
    | true=>rfl
    | false=>cases h
   have HCc:=hid (GL.o hbt);clear hbt QX GL c0;obtain ⟨m,hm⟩:=aq kl.length;obtain ⟨sa,sc,hsv⟩:=cu HS.o.row;rw[hm] at hsv;have HSV:=hid (HS.o.grown IU.o);have HSs:=hid hsv;have HM:=hid hm;clear hsv hm;go_wp2_with fail;refine aF.start (S:=fun X=>V.grownBy X none) 12 afv ?_;have eD:Hid (V.grownBy V.drew none):=bD (bh _ _);refine aF.fr 0 ?_ (hS:=.inr eD.o);refine aF.tk 1 [4,3,2,1] ?_;refine aF.tk 2 [4,3,2] ?_;refine aF.tk 3 [4,3] ?_;refine aF.tk 4 [4] ?_ (hy:=by intro W hW;have e1:W.cell? ⟨sb,so,none⟩=some (.slice sa m sc):=(by have:=(HSV.o.grown hW).cell;rw[HSs.o] at this;exact this);exact jS);refine aF.tk 5 [11,10,5] ?_;refine aF.tk 6 [11,10,7,6] ?_;refine aF.tk 7 [11,10,7] ?_ (hy:=by intro W hW;have e1:W.cell? ⟨bt,1,none⟩=some (.int .u64 (t.aM.toNat:Int)):=(aA HT.o hW) 1 _ rfl;exact jS);refine aF.tk 8 [11,10,9,8] ?_;refine aF.tk 9 [11,10,9] ?_ (hy:=by intro W hW;have e1:W.cell? ⟨bt,2,none⟩=some (.string ⟨t.ax.toArray⟩):=(aA HT.o hW) 2 _ rfl;exact jS);refine aF.tk 10 [11,10] ?_;refine aF.on 11 ?_;intro K hK;refine hkx (aR eD.o _) ?_;clear hK K;refine WB (fun Y=>V.grownBy Y none/\Y.rangeAt V.heap.size 0 [.slice oa zn oc,.int .u64 (t.aM.toNat:Int),.string ⟨t.ax.toArray⟩]) ⟨aR eD.o _,aW V.drew #[.slice oa zn oc,.int .u64 (t.aM.toNat:Int),.string ⟨t.ax.toArray⟩] _⟩ ?_;rintro Y ⟨hYg,hYr⟩;have HYg:=hid hYg;have aak:Y.ownsRow base 170 3 (.slice sa m sc) m (nZ kl):=by
    have:=(HSV.o.grown hYg).row;rw[HSs.o,HM.o] at this;exact this
   have hmb:m<=1073741824:=by rw[<-HM.o];exact aj3
   obtain ⟨v6,w6,hrun,hr6,wY,hb6⟩:=pW (P:=prog) Y base 86 86 170 i0 _ 3 48 underlying86 hif hz0 hz1 hz2 rfl afq (.slice sa m sc) m (nZ kl) aak ⟨V.heap.size,0,none⟩ 1 1 [.slice oa zn oc,.int .u64 (t.aM.toNat:Int),.string ⟨t.ax.toArray⟩] rfl (fun j u hu=>by
     have:=hYr j u hu;rw[cC] at this;rw[Addr.add_lit,cC]
     exact this) agc afq afL afp (br hbase (br IU.o.size hYg.size))
   obtain ⟨va2,vc2,hv6⟩:=cu hr6;subst hv6;have KC:Hid (Live w6 sb (so+1)):=WC (r:=(Value.slice sa m sc).ownBlock) ((hsb.grown IU.o).grown hYg) wY (by rw[<-HSs.o];exact LK.o);have HAp:Hid (w6.ownsRow base 170 3 (.slice va2 (m+1) vc2) (m+1) (nZ kl++(KN.mk (.slice oa zn oc) z t.aM t.ax).cells)/\Y.grownBy w6 sv.ownBlock/\((Value.slice va2 (m+1) vc2).ownBlock=sv.ownBlock\/(Value.slice va2 (m+1) vc2).ownBlock=some Y.heap.size)/\True):=by
    rw[HSs.o];exact ⟨hr6,wY,hb6,trivial⟩
   clear hYg hYr aak hr6 wY hb6 hmb eD;refine aF.on0 12 ?_;intro K hK;refine Lib.wp_append_run _ _ _ _ _ rfl _ _ rfl rfl _ _ hrun ?_;refine hkl ?_;clear hK K hrun;refine aF.fr 13 ?_;refine aF.fr 14 ?_;have l0:=KC.o.frozen so;obtain ⟨d0,j0⟩:=bw.1 (KC.o.some so (Nat.lt_succ_self so));refine aF.on 15 ?_;intro K hK;refine hkl ?_;clear hK K;refine aF.done afv ?_;go_wp2;go_end0;obtain ⟨hrow2,hgA,hblk2,hsz2⟩:=HAp.o;have hS2:=HSV.o.grown HYg.o;have hV:=IU.o;have ap8:=HYg.o.size;have ap9:=hV.size;have keep:∀ b,b<Y.heap.size->b≠sb->sv.ownBlock≠some b->(w6.setCell ⟨sb,so,none⟩ (.slice va2 (m+1) vc2)).heap[b]?=Y.heap[b]?:=fun b hb h1 h2=>(Below.heap_setCell w6 _ _ b h1).trans (hgA.block b hb (fun e=>h2 e.symm));have LV:∀ b,(Value.slice oa zn oc).ownBlock=some b->W.heap.size<=b/\b<V.heap.size:=fun b hb=>⟨HOn.o b hb,(HOV.o.lt b hb).2⟩
   have agf:∀ b,sv.ownBlock=some b->b<w.heap.size:=fun b hb=>(HS.o.row.lt b hb).2;have hvb:∀ b,(Value.slice va2 (m+1) vc2).ownBlock=some b->sv.ownBlock=some b\/b=Y.heap.size:=by
    intro b hb;rcases hblk2 with h | h
    ·left;rw[<-h];exact hb
    ·right;rw[h] at hb;injection hb with hb;exact hb.symm
   have Xv:∀ b,(Value.slice va2 (m+1) vc2).ownBlock=some b->b≠sb:=by
    intro b hb e;rcases hvb b hb with h | h
    ·exact LK.o (by rw[<-e];exact h)
    ·omega
   have hW1:=HW1.o;refine ⟨rfl,.slice va2 (m+1) vc2,kl++[⟨.slice oa zn oc,z,t.aM,t.ax⟩],⟨?_,?_,?_⟩,by simp,?_,?_,?_,?_,?_⟩
   ·obtain ⟨d,hd⟩:=bw.1 (KC.o.some so (Nat.lt_succ_self so));exact dB _ hd
   ·rw[IA,bj,fX,HM.o];exact eF hrow2 (fun b hb=>Below.heap_setCell w6 _ _ b (Xv b hb))
   ·intro k hk;rcases eg.1 hk with hk | hk
    ·have ho:=hS2.own k hk;refine ⟨eF ho.1 (fun b hb=>keep b (ho.1.lt b hb).2 (IJ.o k hk b hb).1 (IJ.o k hk b hb).2),ho.2⟩
    ·rw[da] at hk;subst hk;refine ⟨?_,HZl.o,br HCc.o afq⟩;have ho:=fT (HOV.o.kept HYg.o (eW _)) hbase;rw[<-HZn.o] at ho ⊢;refine eF ho (fun b hb=>?_);rw[HZn.o] at hb;have h1:=LV b hb;refine keep b afp afp (fun e=>?_);have:=agf b e;omega
   ·intro b hb;rcases hvb b hb with h | h
    ·exact .inl h
    ·right;omega
   ·intro k hk;rcases eg.1 hk with hk | hk
    ·exact .inl hk
    ·right;rw[da] at hk;subst hk;intro b hb;have h1:=LV b hb;refine ⟨by omega,fun e=>?_⟩;rcases hvb b e with h | h
     ·have:=agf b h;omega
     ·omega
   ·intro k hk b hb e;rcases hvb b e with h | h
    ·exact (IJ.o k hk b hb).2 h
    ·have:=((HS.o.own k hk).1.lt b hb).2;omega
   ·refine ⟨?_,?_,?_,?_,fun b hb hx=>?_⟩
    ·exact (hgA.os.trans HYg.o.os).trans hV.os
    ·exact (hgA.tape.trans HYg.o.tape).trans hV.tape
    ·exact (hgA.output.trans HYg.o.output).trans hV.output
    ·rw[World.size_setCell];have:=hgA.size;omega
    ·rw[keep b afp (fun e=>hx (.inl e)) (fun e=>hx (.inr e)),HYg.o.block b afp aft,hV.block b hb aft]
   ·intro cs hcs;have h1:dX w6 sb cs:=((hcs.grown hV aft).grown HYg.o aft).grown hgA (fun e=>LK.o e.symm);exact h1.set so _
end Go.Proofs.YteknelimjfgmaaaGreatDoor
