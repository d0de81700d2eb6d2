import Derived.Test.YteknelimjfgmaaaGreatDoorGJPMayB
namespace Go.Proofs.YteknelimjfgmaaaGreatDoor
set_option maxHeartbeats 20000000
open Proofs.Tryz Go.RowKit
set_option maxRecDepth 100000
theorem af5 {p:Prop} (h:p:=by have:=Pb.o.size;omega):p:=h
variable {b:Nat} {w:World}
abbrev Hr:Array Value:=#[.string ⟨#[]⟩,.int .i64 0,.int .u64 0,.int .u64 0,.int .i64 0,.int .i64 0,.int .i64 0,.int .i64 0,.string ⟨#[]⟩,.int .i64 0,.int .u64 0,.int .u64 0,.int .i64 0,.int .i64 0,.int .i64 0,.int .i64 0]
def O4 (w:World) (po:Option Pl) (dS:Nat->Nat->Prop) (q:FQ) (pn:Int) (v:Value):Prop:=
 q.pre=none\/∃ z ao cap,q.pre=some (pn,z)/\v = .slice ao z.length cap/\z.length<=cap/\At w ao z/\∀ b off,ao=some ⟨b,off,none⟩->∀ j,j<z.length->¬ Pl.has po b (off+j)/\¬ dS b (off+j)/\b<w.heap.size
structure Fin (w w':World) (g:Nat) (po pr dp:Option Pl) (dS:Nat->Nat->Prop) (v':Value) (R:List UInt8×DM):Prop where
 out:∃ p',Out w' v' p' R.1/\(p'=pr\/Pl.fresh w.heap.size p')
 dF:∃ IM,dO w' g 0 IM R.2/\∀ q',IM=some q'->∃ q,dp=some q/\q.g=q'.g
 cf:CF w w' (fun b y=>b=g/\(y=1\/163<=y/\y<188)\/Yx po dS b y\/Pl.has pr b y)
theorem jg:∀ (vs:List Value) (o:Nat) (w:World) (b n:Nat),Live w b n->o+vs.length<=n->(w.setCells b o vs).rangeAt b o vs:=by
 intro vs;induction vs with
 | nil=>intro o w b n _ _ j v hv;simp at hv
 | cons x r ih=>
  intro o w b n hl hn j v hv;rw[cN] at hn;have hl2:Live (w.setCell ⟨b,o,none⟩ x) b n:=hl.cf (ex:=fun _ _=>True) ((CF.refl w _).setCell b o x (fun _=>trivial));cases j with
  | zero=>
   obtain rfl:x=v:=by simpa using hv
   show ((w.setCell ⟨b,o,none⟩ x).setCells b (o+1) r).cell? _=_;rw[World.cell?_setCells_out b r (o+1) _ ⟨b,o+0,none⟩ (fun _ _=>.inl (by show o+0<o+1;omega))];obtain ⟨d,hd⟩:=bw.1 (hl.some o afp);exact World.cell?_setCell_same _ _ _ hd
  | succ j=>
   have:=ih (o+1) (w.setCell ⟨b,o,none⟩ x) b n hl2 afp j v (by simpa using hv);rw[show o+(j+1)=o+1+j from by omega];exact this
theorem yU (h:Live w b 16):(∀ j,j<16->∃ d,w.cell? ⟨b,j,none⟩=some d)/\∀ j,w.frozen? ⟨b,j,none⟩=false:=⟨fun j hj=>bw.1 (h.some j hj),fun j=>h.frozen j⟩
theorem range_split {v0 v1 v2 v3 v4 v5 v6 v7:Value} {us:List Value} (h:w.rangeAt b 0 (v0::v1::v2::v3::v4::v5::v6::v7::us)):w.rangeAt b 0 [v0,v1,v2,v3,v4,v5,v6,v7]/\w.rangeAt b 8 us:=by
 constructor
 ·intro j v hv;refine h j v ?_;rw[<-hv];have hj:j<8:=by have:=(cq.1 hv).1;simpa using this
  rcases j with _ | _ | _ | _ | _ | _ | _ | _ | j;all_goals first | rfl | omega
 ·intro j v hv;have:=h (8+j) v (by rw[show 8+j=j+8 from by omega];simpa using hv);rwa [cC] at this
theorem iP {q:FQ} {pn:Int} {v:Value} (h:w.rangeAt b 0 (q.cells pn v)):w.cell? ⟨b,0,none⟩=some (.string ⟨q.ax.toArray⟩)/\w.cell? ⟨b,1,none⟩=some (.string ⟨q.aV.toArray⟩)/\w.cell? ⟨b,2,none⟩=some (.int .i64 q.bS)/\w.cell? ⟨b,3,none⟩=some (.int .i64 q.kX)/\w.cell? ⟨b,4,none⟩=some (.int .i64 q.dJ)/\w.cell? ⟨b,5,none⟩=some (.int .i64 q.bV)/\w.cell? ⟨b,6,none⟩=some (.int .i64 q.aL)/\w.cell? ⟨b,7,none⟩=some (.bool q.pre.isSome)/\w.cell? ⟨b,8,none⟩=some (.int .i64 pn)/\w.cell? ⟨b,9,none⟩=some v:=
 ⟨h 0 _ rfl,h 1 _ rfl,h 2 _ rfl,h 3 _ rfl,h 4 _ rfl,h 5 _ rfl,h 6 _ rfl,h 7 _ rfl,h 8 _ rfl,h 9 _ rfl⟩
theorem jZ {X o:Nat} {v0 v1 v2 v3 v4 v5 v6 v7 v8 v9 v10 v11 v12 v13 v14 u:Value} (hne:b≠X) (h:w.cell? ⟨b,o,none⟩=some u):(((((((((((((((w.setCell ⟨X,0,none⟩ v0).setCell ⟨X,1,none⟩ v1).setCell ⟨X,2,none⟩ v2).setCell ⟨X,3,none⟩ v3).setCell ⟨X,4,none⟩ v4).setCell ⟨X,5,none⟩ v5).setCell ⟨X,6,none⟩ v6).setCell ⟨X,7,none⟩ v7).setCell ⟨X,8,none⟩ v8).setCell ⟨X,9,none⟩ v9).setCell ⟨X,10,none⟩ v10).setCell ⟨X,11,none⟩ v11).setCell ⟨X,12,none⟩ v12).setCell ⟨X,13,none⟩ v13).setCell ⟨X,14,none⟩ v14).cell? ⟨b,o,none⟩=some u:=by
 have k:∀ (W:World) (i:Nat) (x:Value),W.cell? ⟨b,o,none⟩=some u->(W.setCell ⟨X,i,none⟩ x).cell? ⟨b,o,none⟩=some u:=fun W i x hW=>by
  rw[World.cell?_setCell_other _ _ _ _ (fun e=>hne afO)];exact hW
 exact k _ _ _ (k _ _ _ (k _ _ _ (k _ _ _ (k _ _ _ (k _ _ _ (k _ _ _ (k _ _ _ (k _ _ _ (k _ _ _ (k _ _ _ (k _ _ _ (k _ _ _ (k _ _ _ (k _ _ _ (h)))))))))))))))
theorem UW {X:Nat} {z0 z1 z2 z3 z4 z5 z6 z7 z8 z9 UX Sq z12 O5 Nt:Value} (h:dX w X #[z0,z1,z2,z3,z4,z5,z6,z7,z8,z9,UX,Sq,z12,O5,Nt]) (v0 v1 v2 v3 v4 v5 v6 v7 v8 v9 v10 v11 v12 v13 v14:Value):dX (((((((((((((((w.setCell ⟨X,0,none⟩ v0).setCell ⟨X,1,none⟩ v1).setCell ⟨X,2,none⟩ v2).setCell ⟨X,3,none⟩ v3).setCell ⟨X,4,none⟩ v4).setCell ⟨X,5,none⟩ v5).setCell ⟨X,6,none⟩ v6).setCell ⟨X,7,none⟩ v7).setCell ⟨X,8,none⟩ v8).setCell ⟨X,9,none⟩ v9).setCell ⟨X,10,none⟩ v10).setCell ⟨X,11,none⟩ v11).setCell ⟨X,12,none⟩ v12).setCell ⟨X,13,none⟩ v13).setCell ⟨X,14,none⟩ v14) X #[v0,v1,v2,v3,v4,v5,v6,v7,v8,v9,v10,v11,v12,v13,v14]:=by
 have h:dX _ X #[v0,z1,z2,z3,z4,z5,z6,z7,z8,z9,UX,Sq,z12,O5,Nt]:=h.set 0 v0;have h:dX _ X #[v0,v1,z2,z3,z4,z5,z6,z7,z8,z9,UX,Sq,z12,O5,Nt]:=h.set 1 v1;have h:dX _ X #[v0,v1,v2,z3,z4,z5,z6,z7,z8,z9,UX,Sq,z12,O5,Nt]:=h.set 2 v2;have h:dX _ X #[v0,v1,v2,v3,z4,z5,z6,z7,z8,z9,UX,Sq,z12,O5,Nt]:=h.set 3 v3;have h:dX _ X #[v0,v1,v2,v3,v4,z5,z6,z7,z8,z9,UX,Sq,z12,O5,Nt]:=h.set 4 v4;have h:dX _ X #[v0,v1,v2,v3,v4,v5,z6,z7,z8,z9,UX,Sq,z12,O5,Nt]:=h.set 5 v5;have h:dX _ X #[v0,v1,v2,v3,v4,v5,v6,z7,z8,z9,UX,Sq,z12,O5,Nt]:=h.set 6 v6;have h:dX _ X #[v0,v1,v2,v3,v4,v5,v6,v7,z8,z9,UX,Sq,z12,O5,Nt]:=h.set 7 v7;have h:dX _ X #[v0,v1,v2,v3,v4,v5,v6,v7,v8,z9,UX,Sq,z12,O5,Nt]:=h.set 8 v8;have h:dX _ X #[v0,v1,v2,v3,v4,v5,v6,v7,v8,v9,UX,Sq,z12,O5,Nt]:=h.set 9 v9;have h:dX _ X #[v0,v1,v2,v3,v4,v5,v6,v7,v8,v9,v10,Sq,z12,O5,Nt]:=h.set 10 v10;have h:dX _ X #[v0,v1,v2,v3,v4,v5,v6,v7,v8,v9,v10,v11,z12,O5,Nt]:=h.set 11 v11;have h:dX _ X #[v0,v1,v2,v3,v4,v5,v6,v7,v8,v9,v10,v11,v12,O5,Nt]:=h.set 12 v12;have h:dX _ X #[v0,v1,v2,v3,v4,v5,v6,v7,v8,v9,v10,v11,v12,v13,Nt]:=h.set 13 v13;have h:dX _ X #[v0,v1,v2,v3,v4,v5,v6,v7,v8,v9,v10,v11,v12,v13,v14]:=h.set 14 v14;exact h
theorem abn (w:World) (X:Nat) (ex:Nat->Nat->Prop) (v0 v1 v2 v3 v4 v5 v6 v7 v8 v9 v10 v11 v12 v13 v14:Value) (hx:∀ y,ex X y):CF w (((((((((((((((w.setCell ⟨X,0,none⟩ v0).setCell ⟨X,1,none⟩ v1).setCell ⟨X,2,none⟩ v2).setCell ⟨X,3,none⟩ v3).setCell ⟨X,4,none⟩ v4).setCell ⟨X,5,none⟩ v5).setCell ⟨X,6,none⟩ v6).setCell ⟨X,7,none⟩ v7).setCell ⟨X,8,none⟩ v8).setCell ⟨X,9,none⟩ v9).setCell ⟨X,10,none⟩ v10).setCell ⟨X,11,none⟩ v11).setCell ⟨X,12,none⟩ v12).setCell ⟨X,13,none⟩ v13).setCell ⟨X,14,none⟩ v14) ex:=by
 repeat refine CF.setCell ?_ _ _ _ (fun _=>hx _)
 exact CF.refl _ _
theorem afj {p:Prop} (h:p:=by
 injection hq with hq
 subst hq
 rw[hg] at e
 exact ((S.Kn qd hdp).2.2.2 _).2.2 e):p:=h
theorem UY {W W1 W2:World} {hb g base T rb:Nat} {fv rv ro rr v':Value} {po pr dp:Option Pl} {J:World->Prop} {dS rP:Nat->Nat->Prop} {M M':DM} {now:Int} {sb:Nat} {ask:List Value} {bs:List UInt8} {qd IM:Pl} (X:D8 J w W hb g base T fv ro rr po pr dp dS M now sb ask) (k:CF W W1 (fun b y=>b=g/\y=1\/b=rb)) (hrb:w.heap.size<=rb) (hbase:base<=w.heap.size) (h:aU W1 W2 v' pr bs) (S:HS hb g base T fv rv po pr dp J dS rP M.bg) (hd:dO W1 g 0 (some IM) M') (hdp:dp=some qd) (hg:IM.g=qd.g):Fin w W2 g po pr dp dS v' (bs,M')/\J W2:=by
 obtain ⟨p',h1,h2,h3,_⟩:=h;refine ⟨?_,S.finds.stay _ _ (S.finds.stay _ _ X.j (k.mono (fun b y _ e=>by rcases e with e | e;rw[e.1,e.2];exact S.ZN;rw[e];exact S.zL _ _ afp))) (h2.mono (fun b y _ e=>S.prJ b y e))⟩;refine ⟨⟨p',h1,h3.imp id (fun q=>lK q (br X.big k.size))⟩,⟨some IM,hd.cf h2 (fun j _ hj e=>S.prG j afp e) (fun q hq j _ e=>?_),fun q' hq'=>⟨qd,hdp,?_⟩⟩,?_⟩
 ·exact afj
 ·injection hq' with hq';subst hq';exact hg.symm
 ·exact ((X.cf.mono (fun _ _ _ e=>.inr (.inl e))).trans k (fun i o hi e=>by rcases e with e | e;exact .inl ⟨e.1,.inl e.2⟩;omega)).trans h2 (fun _ _ _ e=>.inr (.inr e))
theorem Nu {W W':World} {hb g base T:Nat} {fv rv ro rr v':Value} {po pr dp:Option Pl} {J:World->Prop} {dS rP:Nat->Nat->Prop} {M:DM} {now code:Int} {sb:Nat} {ask:List Value} (X:D8 J w W hb g base T fv ro rr po pr dp dS M now sb ask) (h:aU W W' v' pr (bu now code)) (S:HS hb g base T fv rv po pr dp J dS rP M.bg):Fin w W' g po pr dp dS v' (bu now code,M)/\J W':=by
 obtain ⟨p',h1,h2,h3,_⟩:=h;refine ⟨?_,S.finds.stay _ _ X.j (h2.mono (fun b y _ e=>S.prJ b y e))⟩;refine ⟨⟨p',h1,h3.imp id (fun k=>lK k X.big)⟩,⟨dp,X.dF.cf h2 (fun j _ hj e=>S.prG j afp e) (fun q hq j _ e=>((S.Kn q hq).2.2.2 _).2.2 e),fun q' hq'=>⟨q',hq',rfl⟩⟩,?_⟩;exact (X.cf.mono (fun _ _ _ e=>.inr (.inl e))).trans h2 (fun _ _ _ e=>.inr (.inr e))
theorem AV (hb g base T:Nat) (fv rv ro rr:Value) (po pr dp:Option Pl) (J:World->Prop) (dS rP:Nat->Nat->Prop) (M:DM) (now pn:Int) (q:FQ) (v:Value) (w:World) (S:HS hb g base T fv rv po pr dp J dS rP M.bg) (h:xE w hb g T fv ro rr now) (hd:dO w g 0 dp M) (hJ:J w) (ho:Out w ro po []) (hr:Out w rr pr []) (hpre:O4 w po dS q pn v) (dm:In64 now) (hsk:In64 M.aC) (hq1:In64 q.bS) (hq2:In64 q.kX) (hq3:In64 q.dJ) (hq4:In64 q.bV) (hq5:In64 q.aL) (hbase:base<=w.heap.size) :
  Calls prog 140 #[.pointer (some ⟨hb,0,none⟩),.agg (q.cells pn v).toArray] w fun e w'=>∃ v',e = .returned v'/\Fin w w' g po pr dp dS v' (dC M now (firstM M now q))/\J w':=by
 have hbb:=S.hbb
 have hgb:=S.gb
 obtain ⟨W0,hW0⟩:=ar ((w.alloc (.cells (q.cells pn v).toArray 269)).alloc (.cells Hr 324))
 have G0:w.grownBy W0 none:=by rw[hW0];exact aR (aE w _ none) _
 have s0:W0.heap.size=w.heap.size+1+1:=by rw[hW0];simp only[ch]
 have RQ:W0.rangeAt w.heap.size 0 (q.cells pn v):=by rw[hW0];exact jR (aW w (q.cells pn v).toArray _) (aE _ _ none)
 have LP:Live W0 (w.heap.size+1) 16:=by
  have h:=Live.new (w.alloc (.cells (q.cells pn v).toArray 269)) Hr 324;rw[ch] at h;rw[hW0];exact h
 have hpo:∀ b y,Pl.has po b y->b<w.heap.size:=fun b y e=>ho.lt e
 have UZ:∀ p,pr=some p->p.g<w.heap.size:=fun p hp=>hr.Sa p hp
 have abo:=hid UZ
 have X0:D8 J w W0 hb g base T fv ro rr po pr dp dS M now w.heap.size (q.cells pn v):=⟨⟨h.grown G0,hd.grown G0,ho.grown G0,hr.grown G0,RQ,G0.size,CF.bN G0 _⟩,S.finds.stay _ _ hJ (CF.bN G0 _)⟩
 obtain ⟨x,hx⟩:=aq (BE.find M.bg q.ax)
 obtain ⟨y,hy⟩:=aq (BE.find M.bg q.aV)
 have U0:Hid (∀ W,J W->D8 J w W hb g base T fv ro rr po pr dp dS M now w.heap.size (q.cells pn v)->Calls prog 173 #[.pointer (some ⟨hb,0,none⟩),.agg #[.string ⟨q.ax.toArray⟩,.int .i64 6,.int .i64 1],.agg #[.string ⟨q.aV.toArray⟩,.int .i64 7,.int .i64 2]] W fun e w'=>e = .returned (.tuple #[.agg (tQ x).toArray,.agg (tQ y).toArray,.int .i64 (dV x y now 6 7 1 2)])/\J w'/\CF W w' dS):=by
  intro W hJW XW;have:=Fy hb base T fv rv J dS rP M.bg q.ax q.aV 6 1 7 2 now W S.abl S.finds hJW XW.hear.c0 XW.hear.c4 S.hbF S.QT S.zL (br hbase XW.big);rw[hx,hy] at this;exact this
 have HST:=hid S.finds.stay
 have HX0:=hid X0
 have HJ:=hid hJ
 have uK:=hid S
 have HLP:=hid LP
 have uH:=hid G0
 have HW0:=hid hW0
 have HQ:Hid (In64 now/\In64 M.aC/\In64 q.bS/\In64 q.kX/\In64 q.dJ/\In64 q.bV/\In64 q.aL):=⟨dm,hsk,hq1,hq2,hq3,hq4,hq5⟩
 have aoL:=hid hpre
 have wS:=hid (And.intro hx hy)
 have HN:Hid (hb<w.heap.size/\g<w.heap.size):=⟨by omega,by omega⟩
 have ku:Hid (∀ W W',D8 J w W hb g base T fv ro rr po pr dp dS M now w.heap.size (q.cells pn v)->CF W W' (fun b y=>Pl.has po b y\/w.heap.size<b)->D8 J w W' hb g base T fv ro rr po pr dp dS M now w.heap.size (q.cells pn v)):=fun W W' h k=>h.step S k rfl hbase hpo
 have zM:Hid (∀ W W',D8 J w W hb g base T fv ro rr po pr dp dS M now w.heap.size (q.cells pn v)->CF W W' dS->J W'->D8 J w W' hb g base T fv ro rr po pr dp dS M now w.heap.size (q.cells pn v)):=fun W W' h k j=>h.found S k j rfl hbase hpo
 have U4:=hid hbase
 have HCP:Hid (∀ e f W,D8 J w W hb g base T fv ro rr po pr dp dS M now w.heap.size (q.cells pn v)->fB W (w.heap.size+1) e f->Calls prog 176 #[.pointer (some ⟨hb,0,none⟩),.pointer (some ⟨w.heap.size+1,0,none⟩),.agg (q.cells pn v).toArray] W fun r w'=>r = .returned (.int .i64 (eX M.aC now e q.pre))/\CF W w' (Pl.has po)):=by
  intro e f W X P;rcases hpre with hn | ⟨z,ao,cap,h1,rfl,h3,h4,h5⟩
  ·exact (Ez hb (w.heap.size+1) M.aC now pn v q e f W P hn).mono fun _ _ ⟨a,b⟩=>⟨a,CF.bN b _⟩
  ·exact EA hb g (w.heap.size+1) ro po [] M.aC now pn z ao z.length cap q e f W P h1 X.hear.c1 X.hear.c3 X.hear.c4 X.dF.aC dm X.o S.poH (fun p hp e=>by have:=ho.Sa p hp;omega) S.poG (hid rfl) h3 (h4.cf X.cf (fun b off e j hj n=>by rcases n with n | n;exact (h5 b off e j hj).2.1 n;exact (h5 b off e j hj).1 n)) (fun b off e j hj=>(h5 b off e j hj).1)
 have U5:Hid (∀ e f W,D8 J w W hb g base T fv ro rr po pr dp dS M now w.heap.size (q.cells pn v)->fB W (w.heap.size+1) e f->Calls prog 177 #[.pointer (some ⟨hb,0,none⟩),.pointer (some ⟨w.heap.size+1,0,none⟩),.agg (q.cells pn v).toArray] W fun r w'=>r = .returned (.tuple #[.int .i64 (bH now q),.bool (rD now M.aC q e f)])/\W.grownBy w' none):=
  fun e f W X P=>QS hb g (w.heap.size+1) now M.aC pn v q e f W X.hear.c3 X.hear.c4 X.dF.aC dm hsk P
 have hst:In64 (bH now q):=by unfold bH;split <;> assumption
 have abp:Hid (∀ e f W,e∈M.bg->f∈M.bg->fB W (w.heap.size+1) e f->Calls prog 178 #[.pointer (some ⟨w.heap.size+1,0,none⟩),.int .i64 (bH now q),.int .i64 q.dJ] W fun r w'=>r = .returned (.int .i64 (fJ now q e f))/\∃ m,w'=W.drewN m):=
  fun e f W he hf P=>JR (w.heap.size+1) e f (bH now q) q.dJ W P hst (S.rQ e he).bI (S.rQ f hf).bI
 have aeF:Hid (∀ e f W,e∈M.bg->f∈M.bg->fB W (w.heap.size+1) e f->Calls prog 181 #[.pointer (some ⟨w.heap.size+1,0,none⟩),.int .i64 (bH now q),.int .i64 q.bV] W fun r w'=>r = .returned (.int .i64 (lesser (asked q.bV) (lesser (aX (bH now q) e.aD) (aX (bH now q) f.aD))))/\∃ m,w'=W.drewN m):=
  fun e f W he hf P=>Cw (w.heap.size+1) e f (bH now q) q.bV W P hst (S.rQ e he).aD (S.rQ f hf).aD
 have fZ:Hid (∀ e f W W',D8 J w W hb g base T fv ro rr po pr dp dS M now w.heap.size (q.cells pn v)->fB W (w.heap.size+1) e f->CF W W' (fun b y=>Pl.has po b y\/w.heap.size+1<b)->D8 J w W' hb g base T fv ro rr po pr dp dS M now w.heap.size (q.cells pn v)/\fB W' (w.heap.size+1) e f):=by
  intro e f W W' X P k;refine ⟨X.step S (k.mono (fun b _ _ e=>by rcases e with e | e;exact .inl e;exact .inr afp)) rfl hbase hpo,P.cf k (fun y e=>?_)⟩;rcases e with e | e
  ·have:=hpo _ _ e;omega
  ·omega
 obtain ⟨FR,LU⟩:=aq (dC M now (firstM M now q))
 have O6:=hid LU
 rw[LU]
 obtain ⟨v0,v1,v2,v3,v4,v5,v6,v7,hv⟩:=iZ x
 obtain ⟨u0,u1,u2,u3,u4,u5,u6,u7,hu⟩:=iZ y
 have Hv:=hid hv
 have Hu:=hid hu
 rw[hv,hu] at U0
 clear hst hv hu LU h hd hJ ho hr hpre dm hsk hq1 hq2 hq3 hq4 hq5 hW0 G0 RQ LP X0 hpo UZ S hx hy s0
 go_enter func140,ntmps140
 go_wp2_with fail
 go_step3
 go_wp2_with fail
 go_step3
 go_upto_block 0 with fail
 go_cut [5] (fun c wx=>∃ code,c = .int .i64 code/\In64 code/\FR=(bu now code,M)/\D8 J w wx hb g base T fv ro rr po pr dp dS M now w.heap.size (q.cells pn v))
 case first=>
  go_wp2_with (rw[<-HW0.o];fail_if_success done)
  have a0:W0.cell? ⟨w.heap.size,0,none⟩=some (.string ⟨q.ax.toArray⟩):=HX0.o.ask 0 _ rfl;have a1:W0.cell? ⟨w.heap.size,1,none⟩=some (.string ⟨q.aV.toArray⟩):=HX0.o.ask 1 _ rfl;go_cut [5] (fun c wx=>c = .int .i64 (dV x y now 6 7 1 2)/\wx.rangeAt (w.heap.size+1) 0 [.string v0,.int .i64 v1,.int .u64 v2,.int .u64 v3,.int .i64 v4,.int .i64 v5,.int .i64 v6,.int .i64 v7]/\wx.rangeAt (w.heap.size+1) 8 [.string u0,.int .i64 u1,.int .u64 u2,.int .u64 u3,.int .i64 u4,.int .i64 u5,.int .i64 u6,.int .i64 u7]/\J wx/\D8 J w wx hb g base T fv ro rr po pr dp dS M now w.heap.size (q.cells pn v))
  case first=>
   go_region_held3 (fun w'=>w'.cell? ⟨w.heap.size,0,none⟩=some (.string ⟨q.ax.toArray⟩)/\w'.cell? ⟨w.heap.size,1,none⟩=some (.string ⟨q.aV.toArray⟩)) (go_keep) (first
    | (go_at_call 174;refine (yT _ _).mono ?_;rintro e w1 ⟨rfl,g1⟩;have jC:=hid (iN g1);have rW:=hid (ku.o _ _ HX0.o (CF.bN (iN g1) _));clear g1;have a0':=rW.o.ask 0 _ rfl;have a1':=rW.o.ask 1 _ rfl)
    | (go_at_call 175;refine (wR _ _).mono ?_;rintro e w2 ⟨rfl,g2⟩;have HG2:=hid (aa jC.o g2);have uU:=hid (ku.o _ _ rW.o (CF.bN g2 _));clear g2;have b0':=uU.o.ask 0 _ rfl;have b1':=uU.o.ask 1 _ rfl)
    | (go_at_call 173;refine (U0.o _ (HST.o _ _ HJ.o (CF.bN (aa uH.o HG2.o) _)) uU.o).mono ?_;rintro e w3 ⟨rfl,j3,C3⟩;have Az:=hid C3;have HJ3:=hid j3;have ZP:=hid (zM.o _ _ uU.o C3 j3);clear C3 j3;have c0':=ZP.o.ask 0 _ rfl;have c1':=ZP.o.ask 1 _ rfl;have HL3:=hid ((HLP.o.grown HG2.o).cf Az.o);have lg:=yU HL3.o;obtain ⟨d0,q0⟩:=lg.1 0 afq;have f0:=lg.2 0;obtain ⟨d1,q1⟩:=lg.1 1 afq;have f1:=lg.2 1;obtain ⟨d2,q2⟩:=lg.1 2 afq;have f2:=lg.2 2;obtain ⟨d3,q3⟩:=lg.1 3 afq;have f3:=lg.2 3;obtain ⟨d4,q4⟩:=lg.1 4 afq;have f4:=lg.2 4;obtain ⟨d5,q5⟩:=lg.1 5 afq;have f5:=lg.2 5;obtain ⟨d6,q6⟩:=lg.1 6 afq;have f6:=lg.2 6;obtain ⟨d7,q7⟩:=lg.1 7 afq;have f7:=lg.2 7;obtain ⟨d8,q8⟩:=lg.1 8 afq;have f8:=lg.2 8;obtain ⟨d9,q9⟩:=lg.1 9 afq;have f9:=lg.2 9;obtain ⟨d10,q10⟩:=lg.1 10 afq;have f10:=lg.2 10;obtain ⟨d11,q11⟩:=lg.1 11 afq;have f11:=lg.2 11;obtain ⟨d12,q12⟩:=lg.1 12 afq;have f12:=lg.2 12;obtain ⟨d13,q13⟩:=lg.1 13 afq;have f13:=lg.2 13;obtain ⟨d14,q14⟩:=lg.1 14 afq;have f14:=lg.2 14;obtain ⟨d15,q15⟩:=lg.1 15 afq;have f15:=lg.2 15;clear lg))
   go_wp2;go_meet;have HR:=range_split (jg ([.string v0,.int .i64 v1,.int .u64 v2,.int .u64 v3,.int .i64 v4,.int .i64 v5,.int .i64 v6,.int .i64 v7]++[.string u0,.int .i64 u1,.int .u64 u2,.int .u64 u3,.int .i64 u4,.int .i64 u5,.int .i64 u6,.int .i64 u7]) 0 w3 (w.heap.size+1) 16 HL3.o aft);refine ⟨rfl,HR.1,HR.2,?_,?_⟩
   ·refine HST.o _ _ HJ3.o ?_;repeat refine CF.setCell ?_ _ _ _ (fun _=>uK.o.zL _ _ afp)
    exact CF.refl _ _
   ·refine ku.o _ _ ZP.o ?_;repeat refine CF.setCell ?_ _ _ _ (fun _=>.inr afp)
    exact CF.refl _ _
  case rest=>
   obtain ⟨rfl,x91,x92,hj,x93⟩:=hcut;have D9:=hid x93;clear x93;have OP:=hid x92;clear x92;have Eu:=hid x91;clear x91;clear  hj  a0 a1 U0 HX0 HJ HLP uH HW0;obtain ⟨k0,k1,k2,k3,k4,k5,k6,k7,k8,k9⟩:=iP D9.o.ask;by_cases hpc:dV x y now 6 7 1 2=0
   ·obtain ⟨e,f,rfl,rfl⟩:=FN afq afq hpc;have he:=lF wS.o.1;have hf:=lF wS.o.2;have hP4:fB wc (w.heap.size+1) e f:=⟨by have h:=Eu.o;rw[<-Hv.o] at h;exact h,by have h:=OP.o;rw[<-Hu.o] at h;exact h⟩
    have D7:=hid hP4;have xO:=hid hpc;rw[hpc];clear hpc hP4 Eu OP Hv Hu;have IP:=hid (UR M.aC now e q.pre);obtain ⟨pc,Dj⟩:=aq (eX M.aC now e q.pre);have O7:=hid Dj;have Nv:=hid (HCP.o e f);rw[Dj] at Nv;by_cases h0:pc=0
    ·subst h0;clear IP;cases LV:(bits .andNot .i64 q.aL 15==0) with
     | false=>
      have yV:Hid (FR=(bu now 13,M)):=by
       have hc:=QU (f:=f) O7.o HQ.o.2.2.2.2.2.2 LV;rw[<-O6.o,uh wS.o.1 wS.o.2 xO.o (by rw[hc];decide),hc];exact rfl
      have hop:=cg.1 LV;clear Dj LV;go_wp2_with (first|(go_at_call 176;refine (Nv.o _ D9.o D7.o).mono ?_;rintro r w5 ⟨rfl,C5⟩;have Al:=hid (fZ.o e f _ _ D9.o D7.o (C5.mono (fun _ _ _ n=>.inl n))).1;have O8:=hid (fZ.o e f _ _ D9.o D7.o (C5.mono (fun _ _ _ n=>.inl n))).2;clear C5;obtain ⟨k0',k1',k2',WW,k4',k5',U6,k7',k8',k9'⟩:=iP Al.o.ask))
      go_meet;exact ⟨_,rfl,⟨by decide,by decide⟩,yV.o,Al.o⟩
     | true=>
      have hop:=cL.1 LV;have U7:=hid (U5.o e f);obtain ⟨sk,QW⟩:=aq (rD now M.aC q e f);rw[QW] at U7;cases sk with
      | false=>
       have yV:Hid (FR=(bu now 10,M)):=by
        have hc:=Nq O7.o HQ.o.2.2.2.2.2.2 LV QW;rw[<-O6.o,uh wS.o.1 wS.o.2 xO.o (by rw[hc];decide),hc];exact rfl
       clear Dj LV QW;go_wp2_with (first|(go_at_call 176;refine (Nv.o _ D9.o D7.o).mono ?_;rintro r w5 ⟨rfl,C5⟩;have Al:=hid (fZ.o e f _ _ D9.o D7.o (C5.mono (fun _ _ _ n=>.inl n))).1;have O8:=hid (fZ.o e f _ _ D9.o D7.o (C5.mono (fun _ _ _ n=>.inl n))).2;clear C5;obtain ⟨k0',k1',k2',WW,k4',k5',U6,k7',k8',k9'⟩:=iP Al.o.ask)|(go_at_call 177;refine (U7.o _ Al.o O8.o).mono ?_;rintro r w6 ⟨rfl,g6⟩;have Nw:=hid (fZ.o e f _ _ Al.o O8.o (CF.bN g6 _)).1;have YA:=hid (fZ.o e f _ _ Al.o O8.o (CF.bN g6 _)).2;clear g6;obtain ⟨m0',m1',m2',m3',m4',m5',m6',m7',m8',m9'⟩:=iP Nw.o.ask))
       go_meet;exact ⟨_,rfl,⟨by decide,by decide⟩,yV.o,Nw.o⟩
      | true=>
       have hce:=UT O7.o HQ.o.2.2.2.2.2.2 LV QW;by_cases hle:fJ now q e f<=bH now q
       ·rw[if_pos hle] at hce;have yV:Hid (FR=(bu now 11,M)):=by
         rw[<-O6.o,uh wS.o.1 wS.o.2 xO.o (by rw[hce];decide),hce];exact rfl
        clear Dj LV QW hce;go_wp2_with (first|(go_at_call 176;refine (Nv.o _ D9.o D7.o).mono ?_;rintro r w5 ⟨rfl,C5⟩;have Al:=hid (fZ.o e f _ _ D9.o D7.o (C5.mono (fun _ _ _ n=>.inl n))).1;have O8:=hid (fZ.o e f _ _ D9.o D7.o (C5.mono (fun _ _ _ n=>.inl n))).2;clear C5;obtain ⟨k0',k1',k2',WW,k4',k5',U6,k7',k8',k9'⟩:=iP Al.o.ask)|(go_at_call 177;refine (U7.o _ Al.o O8.o).mono ?_;rintro r w6 ⟨rfl,g6⟩;have Nw:=hid (fZ.o e f _ _ Al.o O8.o (CF.bN g6 _)).1;have YA:=hid (fZ.o e f _ _ Al.o O8.o (CF.bN g6 _)).2;clear g6;obtain ⟨m0',m1',m2',m3',m4',m5',m6',m7',m8',m9'⟩:=iP Nw.o.ask)|(go_at_call 178;refine (abp.o e f _ he hf YA.o).mono ?_;rintro r w7 ⟨rfl,m,hw7⟩;have g7:=hid (hw7 ▸ aY (bh w6 none) m:w6.grownBy w7 none);clear hw7;have xP:=hid (fZ.o e f _ _ Nw.o YA.o (CF.bN g7.o _)).1;have Kt:=hid (fZ.o e f _ _ Nw.o YA.o (CF.bN g7.o _)).2;clear g7;obtain ⟨l0',l1',l2',l3',l4',l5',l6',l7',l8',l9'⟩:=iP xP.o.ask))
        go_meet;exact ⟨_,rfl,⟨by decide,by decide⟩,yV.o,xP.o⟩
       ·rw[if_neg hle] at hce;have yV:=hid (UQ wS.o.1 wS.o.2 xO.o hce);rw[O6.o] at yV;clear Dj LV QW hce;go_wp2_with (first|(go_at_call 176;refine (Nv.o _ D9.o D7.o).mono ?_;rintro r w5 ⟨rfl,C5⟩;have Al:=hid (fZ.o e f _ _ D9.o D7.o (C5.mono (fun _ _ _ n=>.inl n))).1;have O8:=hid (fZ.o e f _ _ D9.o D7.o (C5.mono (fun _ _ _ n=>.inl n))).2;clear C5;obtain ⟨k0',k1',k2',WW,k4',k5',U6,k7',k8',k9'⟩:=iP Al.o.ask)|(go_at_call 177;refine (U7.o _ Al.o O8.o).mono ?_;rintro r w6 ⟨rfl,g6⟩;have Nw:=hid (fZ.o e f _ _ Al.o O8.o (CF.bN g6 _)).1;have YA:=hid (fZ.o e f _ _ Al.o O8.o (CF.bN g6 _)).2;clear g6;obtain ⟨m0',m1',m2',m3',m4',m5',m6',m7',m8',m9'⟩:=iP Nw.o.ask)|(go_at_call 178;refine (abp.o e f _ he hf YA.o).mono ?_;rintro r w7 ⟨rfl,m,hw7⟩;have g7:=hid (hw7 ▸ aY (bh w6 none) m:w6.grownBy w7 none);clear hw7;have xP:=hid (fZ.o e f _ _ Nw.o YA.o (CF.bN g7.o _)).1;have Kt:=hid (fZ.o e f _ _ Nw.o YA.o (CF.bN g7.o _)).2;clear g7;obtain ⟨l0',l1',l2',l3',l4',l5',l6',l7',l8',l9'⟩:=iP xP.o.ask))
        clear k0 k1 k2 k3 k4 k5 k6 k7 k8 k9 k0' k1' k2' WW k4' k5' U6 k7' k8' k9' m0' m1' m2' m3' m4' m5' m6' m7' m8' m9' l3' l4' l5' l6' l7' l8' l9' D9 Al Nw D7 O8 YA HCP Nv U5 U7 abp;have l4:=xP.o.hear.c4;go_cut [10] (fun p wx=>∃ rb,p = .pointer (some ⟨rb,0,none⟩)/\w.heap.size+1<rb/\dX wx rb #[.int .i64 0,.int .u64 0,.string ⟨q.ax.toArray⟩,.int .i64 now,.int .i64 (bH now q),.int .i64 (fJ now q e f),.int .i64 0,.string ⟨q.aV.toArray⟩,.int .i64 f.aH,.int .u64 (f.key.toNat:Int),.int .u64 0,.int .i64 q.bS,.int .i64 e.aH,.int .u64 (e.key.toNat:Int),.int .u64 0]/\D8 J w wx hb g base T fv ro rr po pr dp dS M now w.heap.size (q.cells pn v)/\fB wx (w.heap.size+1) e f)
        case first=>
         have hb7:w.heap.size+1<w7.heap.size:=je (Kt.o.c 0 _ rfl);have na:w.heap.size≠w7.heap.size:=(by omega);have nb:hb≠w7.heap.size:=(by have:=HN.o.1;omega);have O9:Hid (∀ W,w7.grownBy W none->W.cell? ⟨w.heap.size,0,none⟩=some (.string ⟨q.ax.toArray⟩)/\W.cell? ⟨w.heap.size,1,none⟩=some (.string ⟨q.aV.toArray⟩)/\W.cell? ⟨w.heap.size,2,none⟩=some (.int .i64 q.bS)/\W.cell? ⟨hb,4,none⟩=some (.int .i64 now)):=fun W hW=>⟨hW.cell (xP.o.ask 0 _ rfl) aft,hW.cell (xP.o.ask 1 _ rfl) aft,hW.cell (xP.o.ask 2 _ rfl) aft,hW.cell xP.o.hear.c4 aft⟩
         have hK8:∀ W,w7.grownBy W none->Calls prog 179 #[.pointer (some ⟨w.heap.size+1,8,none⟩)] W fun r w'=>r = .returned (.agg #[.int .i64 f.aH,.int .u64 (f.key.toNat:Int)])/\W.grownBy w' none:=fun W hW=>rO (w.heap.size+1) 8 f W (hW.cell (Kt.o.s 1 _ rfl) aft) (hW.cell (Kt.o.s 2 _ rfl) aft);have hK0:∀ W,w7.grownBy W none->Calls prog 179 #[.pointer (some ⟨w.heap.size+1,0,none⟩)] W fun r w'=>r = .returned (.agg #[.int .i64 e.aH,.int .u64 (e.key.toNat:Int)])/\W.grownBy w' none:=fun W hW=>rO (w.heap.size+1) 0 e W (hW.cell (Kt.o.c 1 _ rfl) aft) (hW.cell (Kt.o.c 2 _ rfl) aft);have HKa:Hid (Calls prog 179 #[.pointer (some ⟨w.heap.size+1,8,none⟩)] w7.drew fun r w'=>r = .returned (.agg #[.int .i64 f.aH,.int .u64 (f.key.toNat:Int)])/\w7.grownBy w' none):=(hK8 _ (bD (bh _ _))).mono fun _ _ ⟨a,b⟩=>⟨a,iN b⟩
         have QX:Hid (Calls prog 179 #[.pointer (some ⟨w.heap.size+1,8,none⟩)] ((w7.alloc (.cells #[.int .i64 0,.int .u64 0,.string ⟨#[]⟩,.int .i64 0,.int .i64 0,.int .i64 0,.int .i64 0,.string ⟨#[]⟩,.int .i64 0,.int .u64 0,.int .u64 0,.int .i64 0,.int .i64 0,.int .u64 0,.int .u64 0] 338)).drew) fun r w'=>r = .returned (.agg #[.int .i64 f.aH,.int .u64 (f.key.toNat:Int)])/\w7.grownBy w' none/\dX w' w7.heap.size #[.int .i64 0,.int .u64 0,.string ⟨#[]⟩,.int .i64 0,.int .i64 0,.int .i64 0,.int .i64 0,.string ⟨#[]⟩,.int .i64 0,.int .u64 0,.int .u64 0,.int .i64 0,.int .i64 0,.int .u64 0,.int .u64 0]):=(hK8 _ (bD (aE _ _ none))).mono fun _ _ ⟨a,b⟩=>⟨a,aa (bD (aE _ _ none)) b,(dX.new w7 _ _).drew.grown b aft⟩
         have HKc:Hid (∀ W,w7.grownBy W none->Calls prog 179 #[.pointer (some ⟨w.heap.size+1,0,none⟩)] W fun r w'=>r = .returned (.agg #[.int .i64 e.aH,.int .u64 (e.key.toNat:Int)])/\w7.grownBy w' none):=fun W hW=>(hK0 W hW).mono fun _ _ ⟨a,b⟩=>⟨a,aa hW b⟩
         have HKd:Hid (∀ W,w7.grownBy W none->Calls prog 179 #[.pointer (some ⟨w.heap.size+1,0,none⟩)] (W.alloc (.cells #[.int .i64 0,.int .u64 0,.string ⟨#[]⟩,.int .i64 0,.int .i64 0,.int .i64 0,.int .i64 0,.string ⟨#[]⟩,.int .i64 0,.int .u64 0,.int .u64 0,.int .i64 0,.int .i64 0,.int .u64 0,.int .u64 0] 338)) fun r w'=>r = .returned (.agg #[.int .i64 e.aH,.int .u64 (e.key.toNat:Int)])/\w7.grownBy w' none/\dX w' W.heap.size #[.int .i64 0,.int .u64 0,.string ⟨#[]⟩,.int .i64 0,.int .i64 0,.int .i64 0,.int .i64 0,.string ⟨#[]⟩,.int .i64 0,.int .u64 0,.int .u64 0,.int .i64 0,.int .i64 0,.int .u64 0,.int .u64 0]):=fun W hW=>(hK0 _ (aR hW _)).mono fun _ _ ⟨a,b⟩=>⟨a,aa (aR hW _) b,(dX.new W _ _).grown b aft⟩
         have HKe:Hid (∀ W,w7.grownBy W none->dX W w7.heap.size #[.int .i64 0,.int .u64 0,.string ⟨#[]⟩,.int .i64 0,.int .i64 0,.int .i64 0,.int .i64 0,.string ⟨#[]⟩,.int .i64 0,.int .u64 0,.int .u64 0,.int .i64 0,.int .i64 0,.int .u64 0,.int .u64 0]->Calls prog 179 #[.pointer (some ⟨w.heap.size+1,0,none⟩)] W fun r w'=>r = .returned (.agg #[.int .i64 e.aH,.int .u64 (e.key.toNat:Int)])/\w7.grownBy w' none/\dX w' w7.heap.size #[.int .i64 0,.int .u64 0,.string ⟨#[]⟩,.int .i64 0,.int .i64 0,.int .i64 0,.int .i64 0,.string ⟨#[]⟩,.int .i64 0,.int .u64 0,.int .u64 0,.int .i64 0,.int .i64 0,.int .u64 0,.int .u64 0]):=fun W hW hB=>(hK0 W hW).mono fun _ _ ⟨a,b⟩=>⟨a,aa hW b,hB.grown b aft⟩
         clear hK8 hK0;obtain ⟨x0,x1,x2,x4⟩:=O9.o _ (aE w7 (.cells #[.int .i64 0,.int .u64 0,.string ⟨#[]⟩,.int .i64 0,.int .i64 0,.int .i64 0,.int .i64 0,.string ⟨#[]⟩,.int .i64 0,.int .u64 0,.int .u64 0,.int .i64 0,.int .i64 0,.int .u64 0,.int .u64 0] 338) none)
         go_region_held3 (fun w'=>w'.cell? ⟨w.heap.size,0,none⟩=some (.string ⟨q.ax.toArray⟩)/\w'.cell? ⟨w.heap.size,1,none⟩=some (.string ⟨q.aV.toArray⟩)/\w'.cell? ⟨w.heap.size,2,none⟩=some (.int .i64 q.bS)/\w'.cell? ⟨hb,4,none⟩=some (.int .i64 now)) (first|(with_reducible exact ⟨jZ na z0,jZ na z1,jZ na z2,jZ nb z4⟩)|(with_reducible exact ⟨jZ EX z0,jZ EX z1,jZ EX z2,jZ aeM z4⟩) | go_keep) (first
          | (go_at_call 179;(with_reducible apply Calls.mono HKa.o);rintro r w8 ⟨rfl,g8⟩;have Pb:=hid g8;clear g8;obtain ⟨y0,y1,y2,y4⟩:=O9.o w8 Pb.o;obtain ⟨yy0,yy1,yy2,yy4⟩:=O9.o _ (aR Pb.o (.cells #[.int .i64 0,.int .u64 0,.string ⟨#[]⟩,.int .i64 0,.int .i64 0,.int .i64 0,.int .i64 0,.string ⟨#[]⟩,.int .i64 0,.int .u64 0,.int .u64 0,.int .i64 0,.int .i64 0,.int .u64 0,.int .u64 0] 338));have EX:w.heap.size≠w8.heap.size:=af5;have aeM:hb≠w8.heap.size:=(by have:=Pb.o.size;have:=HN.o.1;omega);have HKf:=hid (HKc.o w8 Pb.o);have HKg:=hid (HKd.o w8 Pb.o))
          | (go_at_call 179;(with_reducible apply Calls.mono QX.o);rintro r w8 ⟨rfl,g8,bz⟩;have HBz:=hid bz;clear bz;have Pb:=hid g8;clear g8;obtain ⟨y0,y1,y2,y4⟩:=O9.o w8 Pb.o;obtain ⟨yy0,yy1,yy2,yy4⟩:=O9.o _ (aR Pb.o (.cells #[.int .i64 0,.int .u64 0,.string ⟨#[]⟩,.int .i64 0,.int .i64 0,.int .i64 0,.int .i64 0,.string ⟨#[]⟩,.int .i64 0,.int .u64 0,.int .u64 0,.int .i64 0,.int .i64 0,.int .u64 0,.int .u64 0] 338));have EX:w.heap.size≠w8.heap.size:=af5;have aeM:hb≠w8.heap.size:=(by have:=Pb.o.size;have:=HN.o.1;omega);have HKh:=hid (HKe.o w8 Pb.o HBz.o))
          | (go_at_call 179;(with_reducible apply Calls.mono HKf.o);rintro r w9 ⟨rfl,g9⟩;have LW:=hid g9;clear g9;obtain ⟨z0,z1,z2,z4⟩:=O9.o w9 LW.o;obtain ⟨zz0,zz1,zz2,zz4⟩:=O9.o _ (aR LW.o (.cells #[.int .i64 0,.int .u64 0,.string ⟨#[]⟩,.int .i64 0,.int .i64 0,.int .i64 0,.int .i64 0,.string ⟨#[]⟩,.int .i64 0,.int .u64 0,.int .u64 0,.int .i64 0,.int .i64 0,.int .u64 0,.int .u64 0] 338));obtain ⟨zr0,zr1,zr2,zr4⟩:=O9.o _ (aR LW.o (.cells #[.int .i64 0,.int .u64 0,.string ⟨q.ax.toArray⟩,.int .i64 now,.int .i64 (bH now q),.int .i64 (fJ now q e f),.int .i64 0,.string ⟨q.aV.toArray⟩,.int .i64 f.aH,.int .u64 (f.key.toNat:Int),.int .u64 0,.int .i64 q.bS,.int .i64 e.aH,.int .u64 (e.key.toNat:Int),.int .u64 0] 338)))
          | (go_at_call 179;(with_reducible apply Calls.mono HKg.o);rintro r w9 ⟨rfl,g9,bz⟩;have LW:=hid g9;have dP:=hid bz;clear g9 bz;have t0:=dP.o.cell 0;have tf0:=dP.o.frozen 0;have t1:=dP.o.cell 1;have tf1:=dP.o.frozen 1;have t2:=dP.o.cell 2;have tf2:=dP.o.frozen 2;have t3:=dP.o.cell 3;have tf3:=dP.o.frozen 3;have t4:=dP.o.cell 4;have tf4:=dP.o.frozen 4;have t5:=dP.o.cell 5;have tf5:=dP.o.frozen 5;have t6:=dP.o.cell 6;have tf6:=dP.o.frozen 6;have t7:=dP.o.cell 7;have tf7:=dP.o.frozen 7;have t8:=dP.o.cell 8;have tf8:=dP.o.frozen 8;have t9:=dP.o.cell 9;have tf9:=dP.o.frozen 9;have t10:=dP.o.cell 10;have aeN:=dP.o.frozen 10;have t11:=dP.o.cell 11;have aeO:=dP.o.frozen 11;have t12:=dP.o.cell 12;have aeP:=dP.o.frozen 12;have t13:=dP.o.cell 13;have aeQ:=dP.o.frozen 13;have t14:=dP.o.cell 14;have aeR:=dP.o.frozen 14;obtain ⟨z0,z1,z2,z4⟩:=O9.o w9 LW.o;obtain ⟨zz0,zz1,zz2,zz4⟩:=O9.o _ (aR LW.o (.cells #[.int .i64 0,.int .u64 0,.string ⟨#[]⟩,.int .i64 0,.int .i64 0,.int .i64 0,.int .i64 0,.string ⟨#[]⟩,.int .i64 0,.int .u64 0,.int .u64 0,.int .i64 0,.int .i64 0,.int .u64 0,.int .u64 0] 338));obtain ⟨zr0,zr1,zr2,zr4⟩:=O9.o _ (aR LW.o (.cells #[.int .i64 0,.int .u64 0,.string ⟨q.ax.toArray⟩,.int .i64 now,.int .i64 (bH now q),.int .i64 (fJ now q e f),.int .i64 0,.string ⟨q.aV.toArray⟩,.int .i64 f.aH,.int .u64 (f.key.toNat:Int),.int .u64 0,.int .i64 q.bS,.int .i64 e.aH,.int .u64 (e.key.toNat:Int),.int .u64 0] 338)))
          | (go_at_call 179;(with_reducible apply Calls.mono HKh.o);rintro r w9 ⟨rfl,g9,bz⟩;have LW:=hid g9;have dP:=hid bz;clear g9 bz;have t0:=dP.o.cell 0;have tf0:=dP.o.frozen 0;have t1:=dP.o.cell 1;have tf1:=dP.o.frozen 1;have t2:=dP.o.cell 2;have tf2:=dP.o.frozen 2;have t3:=dP.o.cell 3;have tf3:=dP.o.frozen 3;have t4:=dP.o.cell 4;have tf4:=dP.o.frozen 4;have t5:=dP.o.cell 5;have tf5:=dP.o.frozen 5;have t6:=dP.o.cell 6;have tf6:=dP.o.frozen 6;have t7:=dP.o.cell 7;have tf7:=dP.o.frozen 7;have t8:=dP.o.cell 8;have tf8:=dP.o.frozen 8;have t9:=dP.o.cell 9;have tf9:=dP.o.frozen 9;have t10:=dP.o.cell 10;have aeN:=dP.o.frozen 10;have t11:=dP.o.cell 11;have aeO:=dP.o.frozen 11;have t12:=dP.o.cell 12;have aeP:=dP.o.frozen 12;have t13:=dP.o.cell 13;have aeQ:=dP.o.frozen 13;have t14:=dP.o.cell 14;have aeR:=dP.o.frozen 14;obtain ⟨z0,z1,z2,z4⟩:=O9.o w9 LW.o;obtain ⟨zz0,zz1,zz2,zz4⟩:=O9.o _ (aR LW.o (.cells #[.int .i64 0,.int .u64 0,.string ⟨#[]⟩,.int .i64 0,.int .i64 0,.int .i64 0,.int .i64 0,.string ⟨#[]⟩,.int .i64 0,.int .u64 0,.int .u64 0,.int .i64 0,.int .i64 0,.int .u64 0,.int .u64 0] 338));obtain ⟨zr0,zr1,zr2,zr4⟩:=O9.o _ (aR LW.o (.cells #[.int .i64 0,.int .u64 0,.string ⟨q.ax.toArray⟩,.int .i64 now,.int .i64 (bH now q),.int .i64 (fJ now q e f),.int .i64 0,.string ⟨q.aV.toArray⟩,.int .i64 f.aH,.int .u64 (f.key.toNat:Int),.int .u64 0,.int .i64 q.bS,.int .i64 e.aH,.int .u64 (e.key.toNat:Int),.int .u64 0] 338))))
         all_goals go_wp2
         all_goals go_meet
         all_goals have wT:=fZ.o e f _ _ xP.o Kt.o (CF.bN LW.o _)
         ·exact ⟨_,rfl,(by have:=LW.o.size;omega),dX.new _ _ _,fZ.o e f _ _ wT.1 wT.2 (CF.bN (aE _ _ none) _)⟩
         ·exact ⟨w8.heap.size,rfl,af5,UW dP.o _ _ _ _ _ _ _ _ _ _ _ _ _ _ _,fZ.o e f _ _ wT.1 wT.2 (abn w9 w8.heap.size _ _ _ _ _ _ _ _ _ _ _ _ _ _ _ _ (fun _=>.inr af5))⟩
         ·exact ⟨w7.heap.size,rfl,hb7,UW dP.o _ _ _ _ _ _ _ _ _ _ _ _ _ _ _,fZ.o e f _ _ wT.1 wT.2 (abn w9 w7.heap.size _ _ _ _ _ _ _ _ _ _ _ _ _ _ _ _ (fun _=>.inr afp))⟩
        case rest=>
         obtain ⟨rb,rfl,hrb,x91,x92,x93⟩:=hcut;have HP8:=hid x93;clear x93;have HX8:=hid x92;clear x92;have Yh:=hid x91;clear x91;clear  l0' l1' l2' l4 xP Kt;obtain ⟨k0,k1,k2,k3,k4,k5,k6,k7,k8,k9⟩:=iP HX8.o.ask;have Ea:=hid (De (w.heap.size+1) pn v q e f wc HP8.o);have HR4:Hid (QV now q e f=if aG (nN q e f) 4=true then lesser (asked q.bV) (lesser (aX (bH now q) e.aD) (aX (bH now q) f.aD)) else 0):=rfl;have HA4:=hid (jQ (nN q e f) 4 2 afq afq);have HTK:=hid (Nr now q e f);have HFI:=hid (UU q e f);have aeS:=hid (aeF.o e f);have HRI:=hid (Yy now q e f HQ.o.2.2.2.2.2.1);generalize nN q e f=fl at *;generalize QV now q e f=rn at *
         go_upto_if 78 with (first
          | (go_at_call 180;refine Ea.o.mono ?_;clear Ea;rintro r w9 ⟨rfl,g9⟩;have HB9:=hid (Yh.o.grown g9 aft);have wT:=hid (fZ.o e f _ _ HX8.o HP8.o (CF.bN g9 _)).1;have YB:=hid (fZ.o e f _ _ HX8.o HP8.o (CF.bN g9 _)).2;clear g9;have b0:=HB9.o.cell 0;have bf0:=HB9.o.frozen 0))
         go_cut [5] (fun c wx=>c = .int .i64 11/\dX wx rb #[.int .i64 fl,.int .u64 0,.string ⟨q.ax.toArray⟩,.int .i64 now,.int .i64 (bH now q),.int .i64 (fJ now q e f),.int .i64 rn,.string ⟨q.aV.toArray⟩,.int .i64 f.aH,.int .u64 (f.key.toNat:Int),.int .u64 0,.int .i64 q.bS,.int .i64 e.aH,.int .u64 (e.key.toNat:Int),.int .u64 0]/\D8 J w wx hb g base T fv ro rr po pr dp dS M now w.heap.size (q.cells pn v)/\fB wx (w.heap.size+1) e f)
         case first=>
          have hS:=fZ.o e f _ (w9.setCell ⟨rb,0,none⟩ (.int .i64 fl)) wT.o YB.o ((CF.refl _ _).setCell _ _ _ (fun _=>.inr hrb));have lU:=hid hS.1;have abu:=hid hS.2;have Ku:Hid (dX (w9.setCell ⟨rb,0,none⟩ (.int .i64 fl)) rb #[.int .i64 fl,.int .u64 0,.string ⟨q.ax.toArray⟩,.int .i64 now,.int .i64 (bH now q),.int .i64 (fJ now q e f),.int .i64 0,.string ⟨q.aV.toArray⟩,.int .i64 f.aH,.int .u64 (f.key.toNat:Int),.int .u64 0,.int .i64 q.bS,.int .i64 e.aH,.int .u64 (e.key.toNat:Int),.int .u64 0]):=HB9.o.set 0 (.int .i64 fl);have hq:=HA4.o;have u5:=wT.o.ask 5 _ rfl;clear hS;generalize aG fl 4=o4 at *;cases o4 with
          | true=>
           rw[eE] at hq;have hp:=cg.1 hq;clear hq;have aeT:=hid (aeS.o _ he hf abu.o)
           go_wp2_with (first
            | (go_at_call 181;refine aeT.o.mono ?_;clear aeT;rintro r ZQ ⟨rfl,m,abv⟩;have abw:Hid (dX ZQ rb #[.int .i64 fl,.int .u64 0,.string ⟨q.ax.toArray⟩,.int .i64 now,.int .i64 (bH now q),.int .i64 (fJ now q e f),.int .i64 0,.string ⟨q.aV.toArray⟩,.int .i64 f.aH,.int .u64 (f.key.toNat:Int),.int .u64 0,.int .i64 q.bS,.int .i64 e.aH,.int .u64 (e.key.toNat:Int),.int .u64 0]):=(by rw[abv];exact Ku.o.drewN m);have aiN:Hid ((w9.setCell ⟨rb,0,none⟩ (.int .i64 fl)).grownBy ZQ none):=(by rw[abv];exact aY (bh _ _) m);clear abv;have b6:=abw.o.cell 6;have bf6:=abw.o.frozen 6))
           go_meet;have hS:=fZ.o e f _ _ lU.o abu.o (CF.bN aiN.o _);exact ⟨rfl,by rw[HR4.o];exact abw.o.set 6 _,fZ.o e f _ _ hS.1 hS.2 ((CF.refl _ _).setCell _ _ _ (fun _=>.inr hrb))⟩
          | false=>
           rw[en] at hq;have hp:=cL.1 hq;clear hq;go_wp2_with fail;go_meet;exact ⟨rfl,by rw[HR4.o];exact Ku.o,lU.o,abu.o⟩
         case rest=>
          obtain ⟨rfl,x91,x92,hP⟩:=hcut;have lU:=hid x92;clear x92;have Ku:=hid x91;clear x91;clear  hP  HX8 HP8 Yh wT YB HB9 k0 k1 k2 k3 k4 k5 k6 k7 k8 k9 b0 bf0 aeF aeS HR4 HA4;obtain ⟨rp,pM⟩:∃ r:RP,r=⟨⟨fl,0,q.ax,now,bH now q,fJ now q e f,rn⟩,q.aV,f.aH,f.key,0,q.bS,e.aH,e.key,0⟩:=⟨_,rfl⟩
          have YC:mU wc rb rp:=(by rw[pM];exact Ku.o.range);have U9:Live wc rb 15:=Di Ku.o 15 (bd 15);by_cases Er:M.aO.length<24
          ·obtain ⟨ao,cap,hc⟩:=Kq lU.o.dF;have HD:=hid (O1 hb g rb M.aO.length cap ao rp wc lU.o.hear.c3 Er hc YC U9);rw[if_pos Er] at yV;clear hc YC U9 pM Er
           go_wp2_with (first
            | (go_at_call 182;refine HD.o.mono ?_;clear HD;rintro r ZQ ⟨rfl,Va⟩;have xH:=hid Va;clear Va))
           go_meet;exact ⟨_,rfl,⟨by decide,by decide⟩,yV.o,ku.o _ _ lU.o (xH.o.mono (fun _ _ _ e=>.inr afp))⟩
          ·obtain ⟨qd,hqd,hc,hcl,hcm,hcr,hcL⟩:=FO lU.o.dF afp;have hdp:=uK.o.Kn qd hqd;have hgw:=HN.o.2;have HD:=hid (Km hb g rb qd M.aO M.aO.length rp wc lU.o.hear.c3 (hid rfl) afp hcl hcm hc (by have:=lU.o.dF.live;rwa [cC] at this) hcr hdp.1 (hcL.lt) YC U9 afp (by have:=HN.o.1;omega) uK.o.hbg);have ZR:=hid (fun W' off=>Dh (W':=W') (rb:=rb) (off:=off) lU.o.dF afp hcl hcm hcr hcL);rw[if_neg Er] at yV;obtain ⟨ao,cap,hv,hsl⟩:=vD lU.o.r;subst hv;have c2:=lU.o.hear.c2;have Hrp:=hid pM;have Hqd:=hid hqd;have Hdp:=hid hdp;have HHr:Hid (hb≠rb):=(by have:=HN.o.1;exact hid afp);have HLc:=hid U9.lt;have HOr:Hid (Off pr rb):=fun p hp e=>by have:=abo.o p hp;omega
           have abz:Hid (∀ W,mU W rb (rp.drawn (eO M.aO 0) (eO M.aO 1) (eO M.aO 2))->Out W (.slice ao 0 cap) pr []->rb<W.heap.size->Calls prog 183 #[.pointer (some ⟨rb,0,none⟩),.slice ao 0 cap] W fun e w'=>∃ v',e = .returned v'/\aU W w' v' pr ([]++(rp.drawn (eO M.aO 0) (eO M.aO 1) (eO M.aO 2)).uB 11 3)):=
            fun W h1 h2 h3=>yI (.slice ao 0 cap) pr [] rb _ W h2 h1 h3 HOr.o (Ns Hrp.o HFI.o HRI.o HQ.o wS.o uK.o.rQ) aft
           clear hc hcl hcm hcr hcL hdp hgw YC U9 pM hqd Er
           go_wp2_with (first
            | (go_at_call 182;refine HD.o.mono ?_;clear HD;rintro r ZQ ⟨rfl,Vb,Vd,Va⟩;have abA:=hid Vb;have abB:=hid Vd;have xH:=hid Va;clear Vb Vd Va;have c2':=xH.o.cell c2 (fun e=>by rcases e with ⟨e,_⟩ | e;exact uK.o.hbg e;exact HHr.o e);have HLt:=hid (fW HLc.o xH.o.size))
            | (go_at_call 183;refine (abz.o _ abA.o (lU.o.r.cf xH.o (fun _ _ j hj=>absurd hj aft)) HLt.o).mono ?_;rintro r w12 ⟨v',rfl,M12⟩;have abC:=hid M12;clear M12))
           first | go_ret|(rw[Exit.noGoto_ret];go_ret)
           refine ⟨_,rfl,?_⟩;rw[yV.o];obtain ⟨off,k1,k2,k3⟩:=abB.o;have hM:=abC.o;rw[Kr Hrp.o HTK.o (kT wS.o.2)] at hM;exact UY lU.o xH.o afp U4.o hM uK.o (ZR.o ZQ off k1 k2 k3 xH.o Hdp.o.1 (by have:=Hdp.o.2.2.1;omega) (by have:=HN.o.2;omega)) Hqd.o rfl
    ·have yV:Hid (FR=(bu now pc,M)):=by
      rw[<-O6.o,uh wS.o.1 wS.o.2 xO.o (by rw[Ko (by rw[Dj];exact h0),Dj];exact h0),Ko (by rw[Dj];exact h0),Dj];exact rfl
     clear Dj;go_wp2_with (first|(go_at_call 176;refine (Nv.o _ D9.o D7.o).mono ?_;rintro r w5 ⟨rfl,C5⟩;have Al:=hid (fZ.o e f _ _ D9.o D7.o (C5.mono (fun _ _ _ n=>.inl n))).1;have O8:=hid (fZ.o e f _ _ D9.o D7.o (C5.mono (fun _ _ _ n=>.inl n))).2;clear C5;obtain ⟨k0',k1',k2',WW,k4',k5',U6,k7',k8',k9'⟩:=iP Al.o.ask))
     go_meet;exact ⟨_,rfl,by have:=IP.o;rw[O7.o] at this;exact this,yV.o,Al.o⟩
   ·have IP:=hid (O3 x y now 6 7 1 2 afq afq afq afq);have yV:Hid (FR=(bu now (dV x y now 6 7 1 2),M)):=(by rw[<-O6.o];exact Np wS.o.1 wS.o.2 hpc);generalize dV x y now 6 7 1 2=pcd at *;go_wp2_with fail;go_meet;exact ⟨_,rfl,IP.o,yV.o,D9.o⟩
 case rest=>
  obtain ⟨code,rfl,hcd,x91,hX⟩:=hcut;have yV:=hid x91;clear x91;have abD:=hid (xG hb g T fv ro rr pr now code _ hX.hear hX.r uK.o.prH HQ.o.1 hcd);have wT:=hid hX;clear hX  hcd;go_wp2_with (first|(go_at_call 143;refine abD.o.mono ?_;rintro e w9 ⟨v',rfl,M9⟩;have Pd:=hid M9;clear M9))
  rw[Exit.noGoto_ret];go_ret;refine ⟨_,rfl,?_⟩;rw[yV.o];exact Nu wT.o Pd.o uK.o
end Go.Proofs.YteknelimjfgmaaaGreatDoor
