/-
  
-/
import Derived.Test.YtpibgolaaaemnaaGreatDoorGUPFindP
import Derived.Deep.CutBlock
namespace Go.Proofs.YtpibgolaaaemnaaGreatDoor
open Go.RowKit
set_option maxRecDepth 100000
abbrev Fs:Array Value:=#[.string ⟨#[]⟩,.int .i64 0,.int .u64 0,.int .u64 0,.int .i64 0,.int .i64 0,.int .i64 0,.int .i64 0,.string ⟨#[]⟩,.int .i64 0,.int .u64 0,.int .u64 0,.int .i64 0,.int .i64 0,.int .i64 0,.int .i64 0]
def M4 (w:World) (po:Option Pl) (dB:Nat→Nat→Prop) (q:FQ) (pn:Int) (v:Value):Prop:=
 q.pre=none∨∃ z ao cap,q.pre=some (pn,z)∧v = .slice ao z.length cap∧z.length≤cap∧At w ao z∧∀ b off,ao=some ⟨b,off,none⟩→∀ j,j<z.length→¬ Pl.has po b (off+j)∧¬ dB b (off+j)∧b<w.heap.size
structure Fin (w w':World) (g:Nat) (po pr dp:Option Pl) (dB:Nat→Nat→Prop) (v':Value) (R:List UInt8×DM):Prop where
 out:∃ p',Out w' v' p' R.1∧(p'=pr∨Pl.fresh w.heap.size p')
 dX:∃ rH,cz w' g 0 rH R.2∧∀ q',rH=some q'→∃ q,dp=some q∧q.g=q'.g
 cf:CF w w' (fun b y=>b=g∧(y=1∨163≤y∧y<188)∨Ws po dB b y∨Pl.has pr b y)
theorem jk:∀ (vs:List Value) (o:Nat) (w:World) (b n:Nat),Live w b n→o+vs.length≤n→(w.setCells b o vs).rangeAt b o vs:=by
 intro vs
 induction vs with
 | nil=>intro o w b n _ _ j v hv;simp at hv
 | cons x r ih=>
  intro o w b n hl hn j v hv
  rw[List.length_cons] at hn
  have hl2:Live (w.setCell ⟨b,o,none⟩ x) b n:=hl.cf (ex:=fun _ _=>True) ((CF.refl w _).setCell b o x (fun _=>trivial))
  cases j with
  | zero=>
   obtain rfl:x=v:=by simpa using hv
   show ((w.setCell ⟨b,o,none⟩ x).setCells b (o+1) r).cell? _=_
   rw[World.cell?_setCells_out b r (o+1) _ ⟨b,o+0,none⟩ (fun _ _=>.inl (by show o+0<o+1;omega))]
   obtain ⟨d,hd⟩:=Option.isSome_iff_exists.1 (hl.some o (by omega))
   exact World.cell?_setCell_same _ _ _ hd
  | succ j=>
   have:=ih (o+1) (w.setCell ⟨b,o,none⟩ x) b n hl2 (by omega) j v (by simpa using hv)
   rw[show o+(j+1)=o+1+j from by omega]
   exact this
theorem wY {w:World} {b:Nat} (h:Live w b 16):(∀ j,j<16→∃ d,w.cell? ⟨b,j,none⟩=some d)∧∀ j,w.frozen? ⟨b,j,none⟩=false:=⟨fun j hj=>Option.isSome_iff_exists.1 (h.some j hj),fun j=>h.frozen j⟩
theorem range_split {w:World} {b:Nat} {v0 v1 v2 v3 v4 v5 v6 v7:Value} {us:List Value} (h:w.rangeAt b 0 (v0::v1::v2::v3::v4::v5::v6::v7::us)):w.rangeAt b 0 [v0,v1,v2,v3,v4,v5,v6,v7]∧w.rangeAt b 8 us:=by
 constructor
 ·intro j v hv
  refine h j v ?_
  rw[←hv]
  have hj:j<8:=by have:=(List.getElem?_eq_some_iff.1 hv).1;simpa using this
  rcases j with _ | _ | _ | _ | _ | _ | _ | _ | j
  all_goals first | rfl | omega
 ·intro j v hv
  have:=h (8+j) v (by rw[show 8+j=j+8 from by omega];simpa using hv)
  rwa [Nat.zero_add] at this
theorem gY {w:World} {b:Nat} {q:FQ} {pn:Int} {v:Value} (h:w.rangeAt b 0 (q.cells pn v)):w.cell? ⟨b,0,none⟩=some (.string ⟨q.af.toArray⟩)∧w.cell? ⟨b,1,none⟩=some (.string ⟨q.az.toArray⟩)∧w.cell? ⟨b,2,none⟩=some (.int .i64 q.aB)∧w.cell? ⟨b,3,none⟩=some (.int .i64 q.eY)∧w.cell? ⟨b,4,none⟩=some (.int .i64 q.dF)∧w.cell? ⟨b,5,none⟩=some (.int .i64 q.bQ)∧w.cell? ⟨b,6,none⟩=some (.int .i64 q.aJ)∧w.cell? ⟨b,7,none⟩=some (.bool q.pre.isSome)∧w.cell? ⟨b,8,none⟩=some (.int .i64 pn)∧w.cell? ⟨b,9,none⟩=some v:=
 ⟨h 0 _ rfl,h 1 _ rfl,h 2 _ rfl,h 3 _ rfl,h 4 _ rfl,h 5 _ rfl,h 6 _ rfl,h 7 _ rfl,h 8 _ rfl,h 9 _ rfl⟩
theorem iZ {w:World} {X b o:Nat} {v0 v1 v2 v3 v4 v5 v6 v7 v8 v9 v10 v11 v12 v13 v14 u:Value} (hne:b≠X) (h:w.cell? ⟨b,o,none⟩=some u):(((((((((((((((w.setCell ⟨X,0,none⟩ v0).setCell ⟨X,1,none⟩ v1).setCell ⟨X,2,none⟩ v2).setCell ⟨X,3,none⟩ v3).setCell ⟨X,4,none⟩ v4).setCell ⟨X,5,none⟩ v5).setCell ⟨X,6,none⟩ v6).setCell ⟨X,7,none⟩ v7).setCell ⟨X,8,none⟩ v8).setCell ⟨X,9,none⟩ v9).setCell ⟨X,10,none⟩ v10).setCell ⟨X,11,none⟩ v11).setCell ⟨X,12,none⟩ v12).setCell ⟨X,13,none⟩ v13).setCell ⟨X,14,none⟩ v14).cell? ⟨b,o,none⟩=some u:=by
 have k:∀ (W:World) (i:Nat) (x:Value),W.cell? ⟨b,o,none⟩=some u→(W.setCell ⟨X,i,none⟩ x).cell? ⟨b,o,none⟩=some u:=fun W i x hW=>by
  rw[World.cell?_setCell_other _ _ _ _ (fun e=>hne (by injection e with e;exact e.symm))]
  exact hW
 exact k _ _ _ (k _ _ _ (k _ _ _ (k _ _ _ (k _ _ _ (k _ _ _ (k _ _ _ (k _ _ _ (k _ _ _ (k _ _ _ (k _ _ _ (k _ _ _ (k _ _ _ (k _ _ _ (k _ _ _ (h)))))))))))))))
theorem Td {w:World} {X:Nat} {z0 z1 z2 z3 z4 z5 z6 z7 z8 z9 Te Qu z12 M5 Lp:Value} (h:bI w X #[z0,z1,z2,z3,z4,z5,z6,z7,z8,z9,Te,Qu,z12,M5,Lp]) (v0 v1 v2 v3 v4 v5 v6 v7 v8 v9 v10 v11 v12 v13 v14:Value):bI (((((((((((((((w.setCell ⟨X,0,none⟩ v0).setCell ⟨X,1,none⟩ v1).setCell ⟨X,2,none⟩ v2).setCell ⟨X,3,none⟩ v3).setCell ⟨X,4,none⟩ v4).setCell ⟨X,5,none⟩ v5).setCell ⟨X,6,none⟩ v6).setCell ⟨X,7,none⟩ v7).setCell ⟨X,8,none⟩ v8).setCell ⟨X,9,none⟩ v9).setCell ⟨X,10,none⟩ v10).setCell ⟨X,11,none⟩ v11).setCell ⟨X,12,none⟩ v12).setCell ⟨X,13,none⟩ v13).setCell ⟨X,14,none⟩ v14) X #[v0,v1,v2,v3,v4,v5,v6,v7,v8,v9,v10,v11,v12,v13,v14]:=by
 have h:bI _ X #[v0,z1,z2,z3,z4,z5,z6,z7,z8,z9,Te,Qu,z12,M5,Lp]:=h.set 0 v0
 have h:bI _ X #[v0,v1,z2,z3,z4,z5,z6,z7,z8,z9,Te,Qu,z12,M5,Lp]:=h.set 1 v1
 have h:bI _ X #[v0,v1,v2,z3,z4,z5,z6,z7,z8,z9,Te,Qu,z12,M5,Lp]:=h.set 2 v2
 have h:bI _ X #[v0,v1,v2,v3,z4,z5,z6,z7,z8,z9,Te,Qu,z12,M5,Lp]:=h.set 3 v3
 have h:bI _ X #[v0,v1,v2,v3,v4,z5,z6,z7,z8,z9,Te,Qu,z12,M5,Lp]:=h.set 4 v4
 have h:bI _ X #[v0,v1,v2,v3,v4,v5,z6,z7,z8,z9,Te,Qu,z12,M5,Lp]:=h.set 5 v5
 have h:bI _ X #[v0,v1,v2,v3,v4,v5,v6,z7,z8,z9,Te,Qu,z12,M5,Lp]:=h.set 6 v6
 have h:bI _ X #[v0,v1,v2,v3,v4,v5,v6,v7,z8,z9,Te,Qu,z12,M5,Lp]:=h.set 7 v7
 have h:bI _ X #[v0,v1,v2,v3,v4,v5,v6,v7,v8,z9,Te,Qu,z12,M5,Lp]:=h.set 8 v8
 have h:bI _ X #[v0,v1,v2,v3,v4,v5,v6,v7,v8,v9,Te,Qu,z12,M5,Lp]:=h.set 9 v9
 have h:bI _ X #[v0,v1,v2,v3,v4,v5,v6,v7,v8,v9,v10,Qu,z12,M5,Lp]:=h.set 10 v10
 have h:bI _ X #[v0,v1,v2,v3,v4,v5,v6,v7,v8,v9,v10,v11,z12,M5,Lp]:=h.set 11 v11
 have h:bI _ X #[v0,v1,v2,v3,v4,v5,v6,v7,v8,v9,v10,v11,v12,M5,Lp]:=h.set 12 v12
 have h:bI _ X #[v0,v1,v2,v3,v4,v5,v6,v7,v8,v9,v10,v11,v12,v13,Lp]:=h.set 13 v13
 have h:bI _ X #[v0,v1,v2,v3,v4,v5,v6,v7,v8,v9,v10,v11,v12,v13,v14]:=h.set 14 v14
 exact h
theorem Zh (w:World) (X:Nat) (ex:Nat→Nat→Prop) (v0 v1 v2 v3 v4 v5 v6 v7 v8 v9 v10 v11 v12 v13 v14:Value) (hx:∀ y,ex X y):CF w (((((((((((((((w.setCell ⟨X,0,none⟩ v0).setCell ⟨X,1,none⟩ v1).setCell ⟨X,2,none⟩ v2).setCell ⟨X,3,none⟩ v3).setCell ⟨X,4,none⟩ v4).setCell ⟨X,5,none⟩ v5).setCell ⟨X,6,none⟩ v6).setCell ⟨X,7,none⟩ v7).setCell ⟨X,8,none⟩ v8).setCell ⟨X,9,none⟩ v9).setCell ⟨X,10,none⟩ v10).setCell ⟨X,11,none⟩ v11).setCell ⟨X,12,none⟩ v12).setCell ⟨X,13,none⟩ v13).setCell ⟨X,14,none⟩ v14) ex:=by
 repeat refine CF.setCell ?_ _ _ _ (fun _=>hx _)
 exact CF.refl _ _
theorem Tf {w W W1 W2:World} {hb g base T rb:Nat} {fv rv ro rr v':Value} {po pr dp:Option Pl} {J:World→Prop} {dB oK:Nat→Nat→Prop} {M M':DM} {now:Int} {sb:Nat} {ask:List Value} {bs:List UInt8} {qd rH:Pl} (X:Cj J w W hb g base T fv ro rr po pr dp dB M now sb ask) (k:CF W W1 (fun b y=>b=g∧y=1∨b=rb)) (hrb:w.heap.size≤rb) (hbase:base≤w.heap.size) (h:aI W1 W2 v' pr bs) (S:HS hb g base T fv rv po pr dp J dB oK M.aH) (hd:cz W1 g 0 (some rH) M') (hdp:dp=some qd) (hg:rH.g=qd.g):Fin w W2 g po pr dp dB v' (bs,M')∧J W2:=by
 obtain ⟨p',h1,h2,h3,_⟩:=h
 refine ⟨?_,S.finds.stay _ _ (S.finds.stay _ _ X.j (k.mono (fun b y _ e=>by rcases e with e | e;rw[e.1,e.2];exact S.XU;rw[e];exact S.xS _ _ (by omega)))) (h2.mono (fun b y _ e=>S.prJ b y e))⟩
 refine ⟨⟨p',h1,h3.imp id (fun q=>jK q (Nat.le_trans X.big k.size))⟩,⟨some rH,hd.cf h2 (fun j _ hj e=>S.prG j (by omega) e) (fun q hq j _ e=>?_),fun q' hq'=>⟨qd,hdp,?_⟩⟩,?_⟩
 ·injection hq with hq
  subst hq
  rw[hg] at e
  exact ((S.IP qd hdp).2.2.2 _).2.2 e
 ·injection hq' with hq'
  subst hq'
  exact hg.symm
 ·exact ((X.cf.mono (fun _ _ _ e=>.inr (.inl e))).trans k (fun i o hi e=>by rcases e with e | e;exact .inl ⟨e.1,.inl e.2⟩;omega)).trans h2 (fun _ _ _ e=>.inr (.inr e))
theorem Lr {w W W':World} {hb g base T:Nat} {fv rv ro rr v':Value} {po pr dp:Option Pl} {J:World→Prop} {dB oK:Nat→Nat→Prop} {M:DM} {now code:Int} {sb:Nat} {ask:List Value} (X:Cj J w W hb g base T fv ro rr po pr dp dB M now sb ask) (h:aI W W' v' pr (aL now code)) (S:HS hb g base T fv rv po pr dp J dB oK M.aH):Fin w W' g po pr dp dB v' (aL now code,M)∧J W':=by
 obtain ⟨p',h1,h2,h3,_⟩:=h
 refine ⟨?_,S.finds.stay _ _ X.j (h2.mono (fun b y _ e=>S.prJ b y e))⟩
 refine ⟨⟨p',h1,h3.imp id (fun k=>jK k X.big)⟩,⟨dp,X.dX.cf h2 (fun j _ hj e=>S.prG j (by omega) e) (fun q hq j _ e=>((S.IP q hq).2.2.2 _).2.2 e),fun q' hq'=>⟨q',hq',rfl⟩⟩,?_⟩
 exact (X.cf.mono (fun _ _ _ e=>.inr (.inl e))).trans h2 (fun _ _ _ e=>.inr (.inr e))
set_option maxHeartbeats 20000000 in
theorem zl (hb g base T:Nat) (fv rv ro rr:Value) (po pr dp:Option Pl) (J:World→Prop) (dB oK:Nat→Nat→Prop) (M:DM) (now pn:Int) (q:FQ) (v:Value) (w:World) (S:HS hb g base T fv rv po pr dp J dB oK M.aH) (h:vz w hb g T fv ro rr now) (hd:cz w g 0 dp M) (hJ:J w) (ho:Out w ro po []) (hr:Out w rr pr []) (hpre:M4 w po dB q pn v) (dC:In64 now) (hsk:In64 M.ax) (hq1:In64 q.aB) (hq2:In64 q.eY) (hq3:In64 q.dF) (hq4:In64 q.bQ) (hq5:In64 q.aJ) (hbase:base≤w.heap.size) :
  Calls Tryz.prog 62 #[.pointer (some ⟨hb,0,none⟩),.agg (q.cells pn v).toArray] w fun e w'=>∃ v',e = .returned v'∧Fin w w' g po pr dp dB v' (dJ M now (firstM M now q))∧J w':=by
 have hbb:=S.hbb
 have hgb:=S.gb
 obtain ⟨W0,hW0⟩:∃ W,W=(w.alloc (.cells (q.cells pn v).toArray 161)).alloc (.cells Fs 199):=⟨_,rfl⟩
 have G0:w.grownBy W0 none:=by rw[hW0];exact aC (World.grownBy_alloc w _ none) _
 have s0:W0.heap.size=w.heap.size+1+1:=by rw[hW0];simp only[World.size_alloc]
 have RQ:W0.rangeAt w.heap.size 0 (q.cells pn v):=by rw[hW0];exact fH (aQ w (q.cells pn v).toArray _) (World.grownBy_alloc _ _ none)
 have LP:Live W0 (w.heap.size+1) 16:=by
  have h:=Live.new (w.alloc (.cells (q.cells pn v).toArray 161)) Fs 199
  rw[World.size_alloc] at h
  rw[hW0]
  exact h
 have hpo:∀ b y,Pl.has po b y→b<w.heap.size:=fun b y e=>ho.lt e
 have hpr:∀ b y,Pl.has pr b y→b<w.heap.size:=fun b y e=>hr.lt e
 have Tg:∀ p,pr=some p→p.g<w.heap.size:=fun p hp=>hr.Et p hp
 have Zi:=hid Tg
 have X0:Cj J w W0 hb g base T fv ro rr po pr dp dB M now w.heap.size (q.cells pn v):=⟨⟨h.grown G0,hd.grown G0,ho.grown G0,hr.grown G0,RQ,G0.size,CF.aW G0 _⟩,S.finds.stay _ _ hJ (CF.aW G0 _)⟩
 obtain ⟨x,hx⟩:∃ x,BE.find M.aH q.af=x:=⟨_,rfl⟩
 obtain ⟨y,hy⟩:∃ y,BE.find M.aH q.az=y:=⟨_,rfl⟩
 have Ti:Hid (∀ W,J W→Cj J w W hb g base T fv ro rr po pr dp dB M now w.heap.size (q.cells pn v)→Calls Tryz.prog 87 #[.pointer (some ⟨hb,0,none⟩),.agg #[.string ⟨q.af.toArray⟩,.int .i64 6,.int .i64 1],.agg #[.string ⟨q.az.toArray⟩,.int .i64 7,.int .i64 2]] W fun e w'=>e = .returned (.tuple #[.agg (nG x).toArray,.agg (nG y).toArray,.int .i64 (dw x y now 6 7 1 2)])∧J w'∧CF W w' dB):=by
  intro W hJW XW
  have:=DF hb base T fv rv J dB oK M.aH q.af q.az 6 1 7 2 now W S.Zc S.finds hJW XW.hear.c0 XW.hear.c4 S.hbF S.O3 S.xS (Nat.le_trans hbase XW.big)
  rw[hx,hy] at this
  exact this
 have HST:=hid S.finds.stay
 have HX0:=hid X0
 have HJ:=hid hJ
 have rW:=hid S
 have HLP:=hid LP
 have mD:=hid G0
 have HW0:=hid hW0
 have HQ:Hid (In64 now∧In64 M.ax∧In64 q.aB∧In64 q.eY∧In64 q.dF∧In64 q.bQ∧In64 q.aJ):=⟨dC,hsk,hq1,hq2,hq3,hq4,hq5⟩
 have MM:=hid hpo
 have HPr:=hid hpr
 have amQ:=hid hpre
 have uJ:=hid (And.intro hx hy)
 have HN:Hid (hb<w.heap.size∧g<w.heap.size):=⟨by omega,by omega⟩
 have iM:Hid (∀ W W',Cj J w W hb g base T fv ro rr po pr dp dB M now w.heap.size (q.cells pn v)→CF W W' (fun b y=>Pl.has po b y∨w.heap.size<b)→Cj J w W' hb g base T fv ro rr po pr dp dB M now w.heap.size (q.cells pn v)):=fun W W' h k=>h.step S k rfl hbase hpo
 have xU:Hid (∀ W W',Cj J w W hb g base T fv ro rr po pr dp dB M now w.heap.size (q.cells pn v)→CF W W' dB→J W'→Cj J w W' hb g base T fv ro rr po pr dp dB M now w.heap.size (q.cells pn v)):=fun W W' h k j=>h.found S k j rfl hbase hpo
 have Tj:=hid hbase
 have HCP:Hid (∀ e f W,Cj J w W hb g base T fv ro rr po pr dp dB M now w.heap.size (q.cells pn v)→dZ W (w.heap.size+1) e f→Calls Tryz.prog 90 #[.pointer (some ⟨hb,0,none⟩),.pointer (some ⟨w.heap.size+1,0,none⟩),.agg (q.cells pn v).toArray] W fun r w'=>r = .returned (.int .i64 (gP M.ax now e q.pre))∧CF W w' (Pl.has po)):=by
  intro e f W X P
  rcases hpre with hn | ⟨z,ao,cap,h1,rfl,h3,h4,h5⟩
  ·exact (CO hb (w.heap.size+1) M.ax now pn v q e f W P hn).mono fun _ _ ⟨a,b⟩=>⟨a,CF.aW b _⟩
  ·exact CP hb g (w.heap.size+1) ro po [] M.ax now pn z ao z.length cap q e f W P h1 X.hear.c1 X.hear.c3 X.hear.c4 X.dX.ax dC X.o S.poH (fun p hp e=>by have:=ho.Et p hp;omega) S.poG (hid rfl) h3 (h4.cf X.cf (fun b off e j hj n=>by rcases n with n | n;exact (h5 b off e j hj).2.1 n;exact (h5 b off e j hj).1 n)) (fun b off e j hj=>(h5 b off e j hj).1)
 have Tk:Hid (∀ e f W,Cj J w W hb g base T fv ro rr po pr dp dB M now w.heap.size (q.cells pn v)→dZ W (w.heap.size+1) e f→Calls Tryz.prog 91 #[.pointer (some ⟨hb,0,none⟩),.pointer (some ⟨w.heap.size+1,0,none⟩),.agg (q.cells pn v).toArray] W fun r w'=>r = .returned (.tuple #[.int .i64 (bB now q),.bool (ou now M.ax q e f)])∧W.grownBy w' none):=
  fun e f W X P=>OZ hb g (w.heap.size+1) now M.ax pn v q e f W X.hear.c3 X.hear.c4 X.dX.ax dC hsk P
 have hst:In64 (bB now q):=by unfold bB;split <;> assumption
 have Zj:Hid (∀ e f W,e∈M.aH→f∈M.aH→dZ W (w.heap.size+1) e f→Calls Tryz.prog 92 #[.pointer (some ⟨w.heap.size+1,0,none⟩),.int .i64 (bB now q),.int .i64 q.dF] W fun r w'=>r = .returned (.int .i64 (fG now q e f))∧∃ m,w'=W.drewN m):=
  fun e f W he hf P=>H9 (w.heap.size+1) e f (bB now q) q.dF W P hst (S.oL e he).cO (S.oL f hf).cO
 have ab8:Hid (∀ e f W,e∈M.aH→f∈M.aH→dZ W (w.heap.size+1) e f→Calls Tryz.prog 95 #[.pointer (some ⟨w.heap.size+1,0,none⟩),.int .i64 (bB now q),.int .i64 q.bQ] W fun r w'=>r = .returned (.int .i64 (lesser (asked q.bQ) (lesser (aX (bB now q) e.aF) (aX (bB now q) f.aF))))∧∃ m,w'=W.drewN m):=
  fun e f W he hf P=>AQ (w.heap.size+1) e f (bB now q) q.bQ W P hst (S.oL e he).aF (S.oL f hf).aF
 have fB:Hid (∀ e f W W',Cj J w W hb g base T fv ro rr po pr dp dB M now w.heap.size (q.cells pn v)→dZ W (w.heap.size+1) e f→CF W W' (fun b y=>Pl.has po b y∨w.heap.size+1<b)→Cj J w W' hb g base T fv ro rr po pr dp dB M now w.heap.size (q.cells pn v)∧dZ W' (w.heap.size+1) e f):=by
  intro e f W W' X P k
  refine ⟨X.step S (k.mono (fun b _ _ e=>by rcases e with e | e;exact .inl e;exact .inr (by omega))) rfl hbase hpo,P.cf k (fun y e=>?_)⟩
  rcases e with e | e
  ·have:=hpo _ _ e;omega
  ·omega
 obtain ⟨FR,XX⟩:∃ R,dJ M now (firstM M now q)=R:=⟨_,rfl⟩
 have Zk:=hid XX
 rw[XX]
 obtain ⟨v0,v1,v2,v3,v4,v5,v6,v7,hv⟩:=gB x
 obtain ⟨u0,u1,u2,u3,u4,u5,u6,u7,hu⟩:=gB y
 have Hv:=hid hv
 have Hu:=hid hu
 rw[hv,hu] at Ti
 clear hst hv hu XX h hd hJ ho hr hpre dC hsk hq1 hq2 hq3 hq4 hq5 hW0 G0 RQ LP X0 hpo hpr Tg S hx hy s0
 have n1:w.heap.size+1≠w.heap.size:=by omega
 go_enter Tryz.func62,Tryz.ntmps62
 go_wp2_with fail
 go_step3
 go_wp2_with fail
 go_step3
 go_upto_block 0 with fail
 go_cut [5] (fun c wx=>∃ code,c = .int .i64 code∧In64 code∧FR=(aL now code,M)∧Cj J w wx hb g base T fv ro rr po pr dp dB M now w.heap.size (q.cells pn v))
 case first=>
  go_wp2_with (rw[←HW0.out];fail_if_success done)
  have a0:W0.cell? ⟨w.heap.size,0,none⟩=some (.string ⟨q.af.toArray⟩):=HX0.out.ask 0 _ rfl
  have a1:W0.cell? ⟨w.heap.size,1,none⟩=some (.string ⟨q.az.toArray⟩):=HX0.out.ask 1 _ rfl
  go_cut [5] (fun c wx=>c = .int .i64 (dw x y now 6 7 1 2)∧wx.rangeAt (w.heap.size+1) 0 [.string v0,.int .i64 v1,.int .u64 v2,.int .u64 v3,.int .i64 v4,.int .i64 v5,.int .i64 v6,.int .i64 v7]∧wx.rangeAt (w.heap.size+1) 8 [.string u0,.int .i64 u1,.int .u64 u2,.int .u64 u3,.int .i64 u4,.int .i64 u5,.int .i64 u6,.int .i64 u7]∧J wx∧Cj J w wx hb g base T fv ro rr po pr dp dB M now w.heap.size (q.cells pn v))
  case first=>
   go_region_held3 (fun w'=>w'.cell? ⟨w.heap.size,0,none⟩=some (.string ⟨q.af.toArray⟩)∧w'.cell? ⟨w.heap.size,1,none⟩=some (.string ⟨q.az.toArray⟩)) (go_keep) (first
    | (go_at_call 88;refine (wW _ _).mono ?_;rintro e w1 ⟨rfl,g1⟩;have nH:=hid (gW g1);have CU:=hid (iM.out _ _ HX0.out (CF.aW (gW g1) _));clear g1;have a0':=CU.out.ask 0 _ rfl;have a1':=CU.out.ask 1 _ rfl)
    | (go_at_call 89;refine (uI _ _).mono ?_;rintro e w2 ⟨rfl,g2⟩;have HG2:=hid (ae nH.out g2);have Dr:=hid (iM.out _ _ CU.out (CF.aW g2 _));clear g2;have b0':=Dr.out.ask 0 _ rfl;have b1':=Dr.out.ask 1 _ rfl)
    | (go_at_call 87;refine (Ti.out _ (HST.out _ _ HJ.out (CF.aW (ae mD.out HG2.out) _)) Dr.out).mono ?_;rintro e w3 ⟨rfl,j3,C3⟩;have MO:=hid C3;have HJ3:=hid j3;have XY:=hid (xU.out _ _ Dr.out C3 j3);clear C3 j3;have c0':=XY.out.ask 0 _ rfl;have c1':=XY.out.ask 1 _ rfl;have XZ:=hid ((HLP.out.grown HG2.out).cf MO.out);have jC:=wY XZ.out;obtain ⟨d0,q0⟩:=jC.1 0 (by decide);have f0:=jC.2 0;obtain ⟨d1,q1⟩:=jC.1 1 (by decide);have f1:=jC.2 1;obtain ⟨d2,q2⟩:=jC.1 2 (by decide);have f2:=jC.2 2;obtain ⟨d3,q3⟩:=jC.1 3 (by decide);have f3:=jC.2 3;obtain ⟨d4,q4⟩:=jC.1 4 (by decide);have f4:=jC.2 4;obtain ⟨d5,q5⟩:=jC.1 5 (by decide);have f5:=jC.2 5;obtain ⟨d6,q6⟩:=jC.1 6 (by decide);have f6:=jC.2 6;obtain ⟨d7,q7⟩:=jC.1 7 (by decide);have f7:=jC.2 7;obtain ⟨d8,q8⟩:=jC.1 8 (by decide);have f8:=jC.2 8;obtain ⟨d9,q9⟩:=jC.1 9 (by decide);have f9:=jC.2 9;obtain ⟨d10,Ve⟩:=jC.1 10 (by decide);have f10:=jC.2 10;obtain ⟨d11,Wv⟩:=jC.1 11 (by decide);have f11:=jC.2 11;obtain ⟨d12,q12⟩:=jC.1 12 (by decide);have f12:=jC.2 12;obtain ⟨d13,q13⟩:=jC.1 13 (by decide);have f13:=jC.2 13;obtain ⟨d14,q14⟩:=jC.1 14 (by decide);have f14:=jC.2 14;obtain ⟨d15,q15⟩:=jC.1 15 (by decide);have f15:=jC.2 15;clear jC))
   go_wp2
   go_meet
   have HR:=range_split (jk ([.string v0,.int .i64 v1,.int .u64 v2,.int .u64 v3,.int .i64 v4,.int .i64 v5,.int .i64 v6,.int .i64 v7]++[.string u0,.int .i64 u1,.int .u64 u2,.int .u64 u3,.int .i64 u4,.int .i64 u5,.int .i64 u6,.int .i64 u7]) 0 w3 (w.heap.size+1) 16 XZ.out (by simp))
   refine ⟨rfl,HR.1,HR.2,?_,?_⟩
   ·refine HST.out _ _ HJ3.out ?_
    repeat refine CF.setCell ?_ _ _ _ (fun _=>rW.out.xS _ _ (by omega))
    exact CF.refl _ _
   ·refine iM.out _ _ XY.out ?_
    repeat refine CF.setCell ?_ _ _ _ (fun _=>.inr (by omega))
    exact CF.refl _ _
  case rest=>
   obtain ⟨rfl,JV,QG,hj,hX⟩:=hcut
   have Ck:=hid hX
   have JW:=hid JV
   have MP:=hid QG
   clear JV QG hj hX a0 a1 Ti HX0 HJ HLP mD HW0
   obtain ⟨k0,k1,k2,k3,k4,k5,k6,k7,k8,k9⟩:=gY Ck.out.ask
   by_cases hpc:dw x y now 6 7 1 2=0
   ·obtain ⟨e,f,rfl,rfl⟩:=DY (by decide) (by decide) hpc
    have he:=jG uJ.out.1
    have hf:=jG uJ.out.2
    have hP4:dZ wc (w.heap.size+1) e f:=⟨by have h:=JW.out;rw[←Hv.out] at h;exact h,by have h:=MP.out;rw[←Hu.out] at h;exact h⟩
    have zA:=hid hP4
    have KF:=hid hpc
    rw[hpc]
    clear hpc hP4 JW MP Hv Hu
    have CV:=hid (Zd M.ax now e q.pre)
    obtain ⟨pc,Bu⟩:∃ c,gP M.ax now e q.pre=c:=⟨_,rfl⟩
    have M6:=hid Bu
    have Ls:=hid (HCP.out e f)
    rw[Bu] at Ls
    by_cases h0:pc=0
    ·subst h0
     clear CV
     cases Qv:(bits .andNot .i64 q.aJ 15==0) with
     | false=>
      have wZ:Hid (FR=(aL now 13,M)):=by
       have hc:=O4 (f:=f) M6.out HQ.out.2.2.2.2.2.2 Qv
       rw[←Zk.out,qR uJ.out.1 uJ.out.2 KF.out (by rw[hc];decide),hc]
       exact rfl
      have hop:=beq_eq_false_iff_ne.1 Qv
      clear Bu Qv
      go_wp2_with (first|(go_at_call 90;refine (Ls.out _ Ck.out zA.out).mono ?_;rintro r w5 ⟨rfl,C5⟩;have yM:=hid (fB.out e f _ _ Ck.out zA.out (C5.mono (fun _ _ _ n=>.inl n))).1;have JZ:=hid (fB.out e f _ _ Ck.out zA.out (C5.mono (fun _ _ _ n=>.inl n))).2;clear C5;obtain ⟨k0',k1',k2',k3',k4',k5',k6',k7',k8',k9'⟩:=gY yM.out.ask))
      go_meet
      exact ⟨_,rfl,⟨by decide,by decide⟩,wZ.out,yM.out⟩
     | true=>
      have hop:=beq_iff_eq.1 Qv
      have Tm:=hid (Tk.out e f)
      obtain ⟨sk,O7⟩:∃ b,ou now M.ax q e f=b:=⟨_,rfl⟩
      rw[O7] at Tm
      cases sk with
      | false=>
       have wZ:Hid (FR=(aL now 10,M)):=by
        have hc:=Li M6.out HQ.out.2.2.2.2.2.2 Qv O7
        rw[←Zk.out,qR uJ.out.1 uJ.out.2 KF.out (by rw[hc];decide),hc]
        exact rfl
       clear Bu Qv O7
       go_wp2_with (first|(go_at_call 90;refine (Ls.out _ Ck.out zA.out).mono ?_;rintro r w5 ⟨rfl,C5⟩;have yM:=hid (fB.out e f _ _ Ck.out zA.out (C5.mono (fun _ _ _ n=>.inl n))).1;have JZ:=hid (fB.out e f _ _ Ck.out zA.out (C5.mono (fun _ _ _ n=>.inl n))).2;clear C5;obtain ⟨k0',k1',k2',k3',k4',k5',k6',k7',k8',k9'⟩:=gY yM.out.ask)|(go_at_call 91;refine (Tm.out _ yM.out JZ.out).mono ?_;rintro r w6 ⟨rfl,g6⟩;have Lt:=hid (fB.out e f _ _ yM.out JZ.out (CF.aW g6 _)).1;have Tn:=hid (fB.out e f _ _ yM.out JZ.out (CF.aW g6 _)).2;clear g6;obtain ⟨m0',m1',m2',m3',m4',m5',m6',m7',m8',m9'⟩:=gY Lt.out.ask))
       go_meet
       exact ⟨_,rfl,⟨by decide,by decide⟩,wZ.out,Lt.out⟩
      | true=>
       have hce:=SK M6.out HQ.out.2.2.2.2.2.2 Qv O7
       by_cases hle:fG now q e f≤bB now q
       ·rw[if_pos hle] at hce
        have wZ:Hid (FR=(aL now 11,M)):=by
         rw[←Zk.out,qR uJ.out.1 uJ.out.2 KF.out (by rw[hce];decide),hce]
         exact rfl
        clear Bu Qv O7 hce
        go_wp2_with (first|(go_at_call 90;refine (Ls.out _ Ck.out zA.out).mono ?_;rintro r w5 ⟨rfl,C5⟩;have yM:=hid (fB.out e f _ _ Ck.out zA.out (C5.mono (fun _ _ _ n=>.inl n))).1;have JZ:=hid (fB.out e f _ _ Ck.out zA.out (C5.mono (fun _ _ _ n=>.inl n))).2;clear C5;obtain ⟨k0',k1',k2',k3',k4',k5',k6',k7',k8',k9'⟩:=gY yM.out.ask)|(go_at_call 91;refine (Tm.out _ yM.out JZ.out).mono ?_;rintro r w6 ⟨rfl,g6⟩;have Lt:=hid (fB.out e f _ _ yM.out JZ.out (CF.aW g6 _)).1;have Tn:=hid (fB.out e f _ _ yM.out JZ.out (CF.aW g6 _)).2;clear g6;obtain ⟨m0',m1',m2',m3',m4',m5',m6',m7',m8',m9'⟩:=gY Lt.out.ask)|(go_at_call 92;refine (Zj.out e f _ he hf Tn.out).mono ?_;rintro r w7 ⟨rfl,m,hw7⟩;have g7:=hid (hw7 ▸ aO (World.grownBy.refl w6 none) m:w6.grownBy w7 none);clear hw7;have vU:=hid (fB.out e f _ _ Lt.out Tn.out (CF.aW g7.out _)).1;have I1:=hid (fB.out e f _ _ Lt.out Tn.out (CF.aW g7.out _)).2;clear g7;obtain ⟨l0',l1',l2',l3',l4',l5',l6',l7',l8',l9'⟩:=gY vU.out.ask))
        go_meet
        exact ⟨_,rfl,⟨by decide,by decide⟩,wZ.out,vU.out⟩
       ·rw[if_neg hle] at hce
        have wZ:=hid (SI uJ.out.1 uJ.out.2 KF.out hce)
        rw[Zk.out] at wZ
        clear Bu Qv O7 hce
        go_wp2_with (first|(go_at_call 90;refine (Ls.out _ Ck.out zA.out).mono ?_;rintro r w5 ⟨rfl,C5⟩;have yM:=hid (fB.out e f _ _ Ck.out zA.out (C5.mono (fun _ _ _ n=>.inl n))).1;have JZ:=hid (fB.out e f _ _ Ck.out zA.out (C5.mono (fun _ _ _ n=>.inl n))).2;clear C5;obtain ⟨k0',k1',k2',k3',k4',k5',k6',k7',k8',k9'⟩:=gY yM.out.ask)|(go_at_call 91;refine (Tm.out _ yM.out JZ.out).mono ?_;rintro r w6 ⟨rfl,g6⟩;have Lt:=hid (fB.out e f _ _ yM.out JZ.out (CF.aW g6 _)).1;have Tn:=hid (fB.out e f _ _ yM.out JZ.out (CF.aW g6 _)).2;clear g6;obtain ⟨m0',m1',m2',m3',m4',m5',m6',m7',m8',m9'⟩:=gY Lt.out.ask)|(go_at_call 92;refine (Zj.out e f _ he hf Tn.out).mono ?_;rintro r w7 ⟨rfl,m,hw7⟩;have g7:=hid (hw7 ▸ aO (World.grownBy.refl w6 none) m:w6.grownBy w7 none);clear hw7;have vU:=hid (fB.out e f _ _ Lt.out Tn.out (CF.aW g7.out _)).1;have I1:=hid (fB.out e f _ _ Lt.out Tn.out (CF.aW g7.out _)).2;clear g7;obtain ⟨l0',l1',l2',l3',l4',l5',l6',l7',l8',l9'⟩:=gY vU.out.ask))
        clear k0 k1 k2 k3 k4 k5 k6 k7 k8 k9 k0' k1' k2' k3' k4' k5' k6' k7' k8' k9' m0' m1' m2' m3' m4' m5' m6' m7' m8' m9' l3' l4' l5' l6' l7' l8' l9' Ck yM Lt zA JZ Tn HCP Ls Tk Tm Zj
        have l4:=vU.out.hear.c4
        go_cut [10] (fun p wx=>∃ rb,p = .pointer (some ⟨rb,0,none⟩)∧w.heap.size+1<rb∧bI wx rb #[.int .i64 0,.int .u64 0,.string ⟨q.af.toArray⟩,.int .i64 now,.int .i64 (bB now q),.int .i64 (fG now q e f),.int .i64 0,.string ⟨q.az.toArray⟩,.int .i64 f.ag,.int .u64 (f.key.toNat:Int),.int .u64 0,.int .i64 q.aB,.int .i64 e.ag,.int .u64 (e.key.toNat:Int),.int .u64 0]∧Cj J w wx hb g base T fv ro rr po pr dp dB M now w.heap.size (q.cells pn v)∧dZ wx (w.heap.size+1) e f)
        case first=>
         have hb7:w.heap.size+1<w7.heap.size:=jh (I1.out.c 0 _ rfl)
         have na:w.heap.size≠w7.heap.size:=by omega
         have nb:hb≠w7.heap.size:=by have:=HN.out.1;omega
         have na':w7.heap.size≠w.heap.size:=fun e=>na e.symm
         have nb':w7.heap.size≠hb:=fun e=>nb e.symm
         have J3:Hid (∀ W,w7.grownBy W none→W.cell? ⟨w.heap.size,0,none⟩=some (.string ⟨q.af.toArray⟩)∧W.cell? ⟨w.heap.size,1,none⟩=some (.string ⟨q.az.toArray⟩)∧W.cell? ⟨w.heap.size,2,none⟩=some (.int .i64 q.aB)∧W.cell? ⟨hb,4,none⟩=some (.int .i64 now)):=fun W hW=>⟨hW.cell (vU.out.ask 0 _ rfl) (by simp),hW.cell (vU.out.ask 1 _ rfl) (by simp),hW.cell (vU.out.ask 2 _ rfl) (by simp),hW.cell vU.out.hear.c4 (by simp)⟩
         have Zl:∀ W,w7.grownBy W none→Calls Tryz.prog 93 #[.pointer (some ⟨w.heap.size+1,8,none⟩)] W fun r w'=>r = .returned (.agg #[.int .i64 f.ag,.int .u64 (f.key.toNat:Int)])∧W.grownBy w' none:=fun W hW=>oJ (w.heap.size+1) 8 f W (hW.cell (I1.out.s 1 _ rfl) (by simp)) (hW.cell (I1.out.s 2 _ rfl) (by simp))
         have hK0:∀ W,w7.grownBy W none→Calls Tryz.prog 93 #[.pointer (some ⟨w.heap.size+1,0,none⟩)] W fun r w'=>r = .returned (.agg #[.int .i64 e.ag,.int .u64 (e.key.toNat:Int)])∧W.grownBy w' none:=fun W hW=>oJ (w.heap.size+1) 0 e W (hW.cell (I1.out.c 1 _ rfl) (by simp)) (hW.cell (I1.out.c 2 _ rfl) (by simp))
         have Zm:Hid (Calls Tryz.prog 93 #[.pointer (some ⟨w.heap.size+1,8,none⟩)] w7.drew fun r w'=>r = .returned (.agg #[.int .i64 f.ag,.int .u64 (f.key.toNat:Int)])∧w7.grownBy w' none):=(Zl _ (dA (World.grownBy.refl _ _))).mono fun _ _ ⟨a,b⟩=>⟨a,gW b⟩
         have Zn:Hid (Calls Tryz.prog 93 #[.pointer (some ⟨w.heap.size+1,8,none⟩)] ((w7.alloc (.cells #[.int .i64 0,.int .u64 0,.string ⟨#[]⟩,.int .i64 0,.int .i64 0,.int .i64 0,.int .i64 0,.string ⟨#[]⟩,.int .i64 0,.int .u64 0,.int .u64 0,.int .i64 0,.int .i64 0,.int .u64 0,.int .u64 0] 216)).drew) fun r w'=>r = .returned (.agg #[.int .i64 f.ag,.int .u64 (f.key.toNat:Int)])∧w7.grownBy w' none∧bI w' w7.heap.size #[.int .i64 0,.int .u64 0,.string ⟨#[]⟩,.int .i64 0,.int .i64 0,.int .i64 0,.int .i64 0,.string ⟨#[]⟩,.int .i64 0,.int .u64 0,.int .u64 0,.int .i64 0,.int .i64 0,.int .u64 0,.int .u64 0]):=(Zl _ (dA (World.grownBy_alloc _ _ none))).mono fun _ _ ⟨a,b⟩=>⟨a,ae (dA (World.grownBy_alloc _ _ none)) b,(bI.new w7 _ _).drew.grown b (by simp)⟩
         have HKc:Hid (∀ W,w7.grownBy W none→Calls Tryz.prog 93 #[.pointer (some ⟨w.heap.size+1,0,none⟩)] W fun r w'=>r = .returned (.agg #[.int .i64 e.ag,.int .u64 (e.key.toNat:Int)])∧w7.grownBy w' none):=fun W hW=>(hK0 W hW).mono fun _ _ ⟨a,b⟩=>⟨a,ae hW b⟩
         have HKd:Hid (∀ W,w7.grownBy W none→Calls Tryz.prog 93 #[.pointer (some ⟨w.heap.size+1,0,none⟩)] (W.alloc (.cells #[.int .i64 0,.int .u64 0,.string ⟨#[]⟩,.int .i64 0,.int .i64 0,.int .i64 0,.int .i64 0,.string ⟨#[]⟩,.int .i64 0,.int .u64 0,.int .u64 0,.int .i64 0,.int .i64 0,.int .u64 0,.int .u64 0] 216)) fun r w'=>r = .returned (.agg #[.int .i64 e.ag,.int .u64 (e.key.toNat:Int)])∧w7.grownBy w' none∧bI w' W.heap.size #[.int .i64 0,.int .u64 0,.string ⟨#[]⟩,.int .i64 0,.int .i64 0,.int .i64 0,.int .i64 0,.string ⟨#[]⟩,.int .i64 0,.int .u64 0,.int .u64 0,.int .i64 0,.int .i64 0,.int .u64 0,.int .u64 0]):=fun W hW=>(hK0 _ (aC hW _)).mono fun _ _ ⟨a,b⟩=>⟨a,ae (aC hW _) b,(bI.new W _ _).grown b (by simp)⟩
         have HKe:Hid (∀ W,w7.grownBy W none→bI W w7.heap.size #[.int .i64 0,.int .u64 0,.string ⟨#[]⟩,.int .i64 0,.int .i64 0,.int .i64 0,.int .i64 0,.string ⟨#[]⟩,.int .i64 0,.int .u64 0,.int .u64 0,.int .i64 0,.int .i64 0,.int .u64 0,.int .u64 0]→Calls Tryz.prog 93 #[.pointer (some ⟨w.heap.size+1,0,none⟩)] W fun r w'=>r = .returned (.agg #[.int .i64 e.ag,.int .u64 (e.key.toNat:Int)])∧w7.grownBy w' none∧bI w' w7.heap.size #[.int .i64 0,.int .u64 0,.string ⟨#[]⟩,.int .i64 0,.int .i64 0,.int .i64 0,.int .i64 0,.string ⟨#[]⟩,.int .i64 0,.int .u64 0,.int .u64 0,.int .i64 0,.int .i64 0,.int .u64 0,.int .u64 0]):=fun W hW hB=>(hK0 W hW).mono fun _ _ ⟨a,b⟩=>⟨a,ae hW b,hB.grown b (by simp)⟩
         clear Zl hK0
         obtain ⟨x0,x1,x2,x4⟩:=J3.out _ (World.grownBy_alloc w7 (.cells #[.int .i64 0,.int .u64 0,.string ⟨#[]⟩,.int .i64 0,.int .i64 0,.int .i64 0,.int .i64 0,.string ⟨#[]⟩,.int .i64 0,.int .u64 0,.int .u64 0,.int .i64 0,.int .i64 0,.int .u64 0,.int .u64 0] 216) none)
         go_region_held3 (fun w'=>w'.cell? ⟨w.heap.size,0,none⟩=some (.string ⟨q.af.toArray⟩)∧w'.cell? ⟨w.heap.size,1,none⟩=some (.string ⟨q.az.toArray⟩)∧w'.cell? ⟨w.heap.size,2,none⟩=some (.int .i64 q.aB)∧w'.cell? ⟨hb,4,none⟩=some (.int .i64 now)) (first|(with_reducible exact ⟨iZ na z0,iZ na z1,iZ na z2,iZ nb z4⟩)|(with_reducible exact ⟨iZ Dq z0,iZ Dq z1,iZ Dq z2,iZ ack z4⟩) | go_keep) (first
          | (go_at_call 93;(with_reducible apply Calls.mono Zm.out);rintro r w8 ⟨rfl,g8⟩;have M7:=hid g8;clear g8;obtain ⟨y0,y1,y2,y4⟩:=J3.out w8 M7.out;obtain ⟨yy0,yy1,yy2,yy4⟩:=J3.out _ (aC M7.out (.cells #[.int .i64 0,.int .u64 0,.string ⟨#[]⟩,.int .i64 0,.int .i64 0,.int .i64 0,.int .i64 0,.string ⟨#[]⟩,.int .i64 0,.int .u64 0,.int .u64 0,.int .i64 0,.int .i64 0,.int .u64 0,.int .u64 0] 216));have Dq:w.heap.size≠w8.heap.size:=(by have:=M7.out.size;omega);have ack:hb≠w8.heap.size:=(by have:=M7.out.size;have:=HN.out.1;omega);have HKf:=hid (HKc.out w8 M7.out);have HKg:=hid (HKd.out w8 M7.out))
          | (go_at_call 93;(with_reducible apply Calls.mono Zn.out);rintro r w8 ⟨rfl,g8,bz⟩;have HBz:=hid bz;clear bz;have M7:=hid g8;clear g8;obtain ⟨y0,y1,y2,y4⟩:=J3.out w8 M7.out;obtain ⟨yy0,yy1,yy2,yy4⟩:=J3.out _ (aC M7.out (.cells #[.int .i64 0,.int .u64 0,.string ⟨#[]⟩,.int .i64 0,.int .i64 0,.int .i64 0,.int .i64 0,.string ⟨#[]⟩,.int .i64 0,.int .u64 0,.int .u64 0,.int .i64 0,.int .i64 0,.int .u64 0,.int .u64 0] 216));have Dq:w.heap.size≠w8.heap.size:=(by have:=M7.out.size;omega);have ack:hb≠w8.heap.size:=(by have:=M7.out.size;have:=HN.out.1;omega);have HKh:=hid (HKe.out w8 M7.out HBz.out))
          | (go_at_call 93;(with_reducible apply Calls.mono HKf.out);rintro r w9 ⟨rfl,g9⟩;have J4:=hid g9;clear g9;obtain ⟨z0,z1,z2,z4⟩:=J3.out w9 J4.out;obtain ⟨zz0,zz1,zz2,zz4⟩:=J3.out _ (aC J4.out (.cells #[.int .i64 0,.int .u64 0,.string ⟨#[]⟩,.int .i64 0,.int .i64 0,.int .i64 0,.int .i64 0,.string ⟨#[]⟩,.int .i64 0,.int .u64 0,.int .u64 0,.int .i64 0,.int .i64 0,.int .u64 0,.int .u64 0] 216));obtain ⟨zr0,zr1,zr2,zr4⟩:=J3.out _ (aC J4.out (.cells #[.int .i64 0,.int .u64 0,.string ⟨q.af.toArray⟩,.int .i64 now,.int .i64 (bB now q),.int .i64 (fG now q e f),.int .i64 0,.string ⟨q.az.toArray⟩,.int .i64 f.ag,.int .u64 (f.key.toNat:Int),.int .u64 0,.int .i64 q.aB,.int .i64 e.ag,.int .u64 (e.key.toNat:Int),.int .u64 0] 216)))
          | (go_at_call 93;(with_reducible apply Calls.mono HKg.out);rintro r w9 ⟨rfl,g9,bz⟩;have J4:=hid g9;have dz:=hid bz;clear g9 bz;have t0:=dz.out.cell 0;have tf0:=dz.out.frozen 0;have t1:=dz.out.cell 1;have tf1:=dz.out.frozen 1;have t2:=dz.out.cell 2;have tf2:=dz.out.frozen 2;have t3:=dz.out.cell 3;have tf3:=dz.out.frozen 3;have t4:=dz.out.cell 4;have tf4:=dz.out.frozen 4;have t5:=dz.out.cell 5;have tf5:=dz.out.frozen 5;have t6:=dz.out.cell 6;have tf6:=dz.out.frozen 6;have t7:=dz.out.cell 7;have tf7:=dz.out.frozen 7;have t8:=dz.out.cell 8;have tf8:=dz.out.frozen 8;have t9:=dz.out.cell 9;have tf9:=dz.out.frozen 9;have t10:=dz.out.cell 10;have acm:=dz.out.frozen 10;have t11:=dz.out.cell 11;have acn:=dz.out.frozen 11;have t12:=dz.out.cell 12;have aco:=dz.out.frozen 12;have t13:=dz.out.cell 13;have acp:=dz.out.frozen 13;have t14:=dz.out.cell 14;have acr:=dz.out.frozen 14;obtain ⟨z0,z1,z2,z4⟩:=J3.out w9 J4.out;obtain ⟨zz0,zz1,zz2,zz4⟩:=J3.out _ (aC J4.out (.cells #[.int .i64 0,.int .u64 0,.string ⟨#[]⟩,.int .i64 0,.int .i64 0,.int .i64 0,.int .i64 0,.string ⟨#[]⟩,.int .i64 0,.int .u64 0,.int .u64 0,.int .i64 0,.int .i64 0,.int .u64 0,.int .u64 0] 216));obtain ⟨zr0,zr1,zr2,zr4⟩:=J3.out _ (aC J4.out (.cells #[.int .i64 0,.int .u64 0,.string ⟨q.af.toArray⟩,.int .i64 now,.int .i64 (bB now q),.int .i64 (fG now q e f),.int .i64 0,.string ⟨q.az.toArray⟩,.int .i64 f.ag,.int .u64 (f.key.toNat:Int),.int .u64 0,.int .i64 q.aB,.int .i64 e.ag,.int .u64 (e.key.toNat:Int),.int .u64 0] 216)))
          | (go_at_call 93;(with_reducible apply Calls.mono HKh.out);rintro r w9 ⟨rfl,g9,bz⟩;have J4:=hid g9;have dz:=hid bz;clear g9 bz;have t0:=dz.out.cell 0;have tf0:=dz.out.frozen 0;have t1:=dz.out.cell 1;have tf1:=dz.out.frozen 1;have t2:=dz.out.cell 2;have tf2:=dz.out.frozen 2;have t3:=dz.out.cell 3;have tf3:=dz.out.frozen 3;have t4:=dz.out.cell 4;have tf4:=dz.out.frozen 4;have t5:=dz.out.cell 5;have tf5:=dz.out.frozen 5;have t6:=dz.out.cell 6;have tf6:=dz.out.frozen 6;have t7:=dz.out.cell 7;have tf7:=dz.out.frozen 7;have t8:=dz.out.cell 8;have tf8:=dz.out.frozen 8;have t9:=dz.out.cell 9;have tf9:=dz.out.frozen 9;have t10:=dz.out.cell 10;have acm:=dz.out.frozen 10;have t11:=dz.out.cell 11;have acn:=dz.out.frozen 11;have t12:=dz.out.cell 12;have aco:=dz.out.frozen 12;have t13:=dz.out.cell 13;have acp:=dz.out.frozen 13;have t14:=dz.out.cell 14;have acr:=dz.out.frozen 14;obtain ⟨z0,z1,z2,z4⟩:=J3.out w9 J4.out;obtain ⟨zz0,zz1,zz2,zz4⟩:=J3.out _ (aC J4.out (.cells #[.int .i64 0,.int .u64 0,.string ⟨#[]⟩,.int .i64 0,.int .i64 0,.int .i64 0,.int .i64 0,.string ⟨#[]⟩,.int .i64 0,.int .u64 0,.int .u64 0,.int .i64 0,.int .i64 0,.int .u64 0,.int .u64 0] 216));obtain ⟨zr0,zr1,zr2,zr4⟩:=J3.out _ (aC J4.out (.cells #[.int .i64 0,.int .u64 0,.string ⟨q.af.toArray⟩,.int .i64 now,.int .i64 (bB now q),.int .i64 (fG now q e f),.int .i64 0,.string ⟨q.az.toArray⟩,.int .i64 f.ag,.int .u64 (f.key.toNat:Int),.int .u64 0,.int .i64 q.aB,.int .i64 e.ag,.int .u64 (e.key.toNat:Int),.int .u64 0] 216))))
         all_goals go_wp2
         all_goals go_meet
         all_goals have uK:=fB.out e f _ _ vU.out I1.out (CF.aW J4.out _)
         ·exact ⟨_,rfl,(by have:=J4.out.size;omega),bI.new _ _ _,fB.out e f _ _ uK.1 uK.2 (CF.aW (World.grownBy_alloc _ _ none) _)⟩
         ·exact ⟨w8.heap.size,rfl,(by have:=M7.out.size;omega),Td dz.out _ _ _ _ _ _ _ _ _ _ _ _ _ _ _,fB.out e f _ _ uK.1 uK.2 (Zh w9 w8.heap.size _ _ _ _ _ _ _ _ _ _ _ _ _ _ _ _ (fun _=>.inr (by have:=M7.out.size;omega)))⟩
         ·exact ⟨w7.heap.size,rfl,hb7,Td dz.out _ _ _ _ _ _ _ _ _ _ _ _ _ _ _,fB.out e f _ _ uK.1 uK.2 (Zh w9 w7.heap.size _ _ _ _ _ _ _ _ _ _ _ _ _ _ _ _ (fun _=>.inr (by omega)))⟩
        case rest=>
         obtain ⟨rb,rfl,hrb,hB,hX,hP⟩:=hcut
         have HX8:=hid hX
         have HP8:=hid hP
         have YZ:=hid hB
         clear hX hP hB l0' l1' l2' l4 vU I1
         obtain ⟨k0,k1,k2,k3,k4,k5,k6,k7,k8,k9⟩:=gY HX8.out.ask
         have Lu:=hid (Bp (w.heap.size+1) pn v q e f wc HP8.out)
         have HR4:Hid (O5 now q e f=if aA (lI q e f) 4=true then lesser (asked q.bQ) (lesser (aX (bB now q) e.aF) (aX (bB now q) f.aF)) else 0):=rfl
         have HA4:=hid (ji (lI q e f) 4 2 (by decide) (by decide))
         have HTK:=hid (Lj now q e f)
         have HFI:=hid (SL q e f)
         have acs:=hid (ab8.out e f)
         have HRI:=hid (Wt now q e f HQ.out.2.2.2.2.2.1)
         generalize lI q e f=fl at *
         generalize O5 now q e f=rn at *
         go_upto_if 78 with (first
          | (go_at_call 94;refine Lu.out.mono ?_;clear Lu;rintro r w9 ⟨rfl,g9⟩;have HB9:=hid (YZ.out.grown g9 (by simp));have uK:=hid (fB.out e f _ _ HX8.out HP8.out (CF.aW g9 _)).1;have Ww:=hid (fB.out e f _ _ HX8.out HP8.out (CF.aW g9 _)).2;clear g9;have b0:=HB9.out.cell 0;have bf0:=HB9.out.frozen 0))
         have nr:rb≠w.heap.size:=by omega
         have nr':w.heap.size≠rb:=by omega
         go_cut [5] (fun c wx=>c = .int .i64 11∧bI wx rb #[.int .i64 fl,.int .u64 0,.string ⟨q.af.toArray⟩,.int .i64 now,.int .i64 (bB now q),.int .i64 (fG now q e f),.int .i64 rn,.string ⟨q.az.toArray⟩,.int .i64 f.ag,.int .u64 (f.key.toNat:Int),.int .u64 0,.int .i64 q.aB,.int .i64 e.ag,.int .u64 (e.key.toNat:Int),.int .u64 0]∧Cj J w wx hb g base T fv ro rr po pr dp dB M now w.heap.size (q.cells pn v)∧dZ wx (w.heap.size+1) e f)
         case first=>
          have hS:=fB.out e f _ (w9.setCell ⟨rb,0,none⟩ (.int .i64 fl)) uK.out Ww.out ((CF.refl _ _).setCell _ _ _ (fun _=>.inr hrb))
          have jN:=hid hS.1
          have Zo:=hid hS.2
          have I4:Hid (bI (w9.setCell ⟨rb,0,none⟩ (.int .i64 fl)) rb #[.int .i64 fl,.int .u64 0,.string ⟨q.af.toArray⟩,.int .i64 now,.int .i64 (bB now q),.int .i64 (fG now q e f),.int .i64 0,.string ⟨q.az.toArray⟩,.int .i64 f.ag,.int .u64 (f.key.toNat:Int),.int .u64 0,.int .i64 q.aB,.int .i64 e.ag,.int .u64 (e.key.toNat:Int),.int .u64 0]):=HB9.out.set 0 (.int .i64 fl)
          have hq:=HA4.out
          have u5:=uK.out.ask 5 _ rfl
          clear hS
          generalize aA fl 4=o4 at *
          cases o4 with
          | true=>
           rw[Bool.not_true] at hq
           have hp:=beq_eq_false_iff_ne.1 hq
           clear hq
           have acu:=hid (acs.out _ he hf Zo.out)
           go_wp2_with (first
            | (go_at_call 95;refine acu.out.mono ?_;clear acu;rintro r Wx ⟨rfl,m,Zp⟩;have Zq:Hid (bI Wx rb #[.int .i64 fl,.int .u64 0,.string ⟨q.af.toArray⟩,.int .i64 now,.int .i64 (bB now q),.int .i64 (fG now q e f),.int .i64 0,.string ⟨q.az.toArray⟩,.int .i64 f.ag,.int .u64 (f.key.toNat:Int),.int .u64 0,.int .i64 q.aB,.int .i64 e.ag,.int .u64 (e.key.toNat:Int),.int .u64 0]):=(by rw[Zp];exact I4.out.drewN m);have agD:Hid ((w9.setCell ⟨rb,0,none⟩ (.int .i64 fl)).grownBy Wx none):=(by rw[Zp];exact aO (World.grownBy.refl _ _) m);clear Zp;have b6:=Zq.out.cell 6;have bf6:=Zq.out.frozen 6))
           go_meet
           have hS:=fB.out e f _ _ jN.out Zo.out (CF.aW agD.out _)
           exact ⟨rfl,by rw[HR4.out];exact Zq.out.set 6 _,fB.out e f _ _ hS.1 hS.2 ((CF.refl _ _).setCell _ _ _ (fun _=>.inr hrb))⟩
          | false=>
           rw[Bool.not_false] at hq
           have hp:=beq_iff_eq.1 hq
           clear hq
           go_wp2_with fail
           go_meet
           exact ⟨rfl,by rw[HR4.out];exact I4.out,jN.out,Zo.out⟩
         case rest=>
          obtain ⟨rfl,hB,hX,hP⟩:=hcut
          have jN:=hid hX
          have I4:=hid hB
          clear hX hP hB HX8 HP8 YZ uK Ww HB9 k0 k1 k2 k3 k4 k5 k6 k7 k8 k9 b0 bf0 ab8 acs HR4 HA4
          obtain ⟨rp,IX⟩:∃ r:RP,r=⟨⟨fl,0,q.af,now,bB now q,fG now q e f,rn⟩,q.az,f.ag,f.key,0,q.aB,e.ag,e.key,0⟩:=⟨_,rfl⟩
          have Wy:kQ wc rb rp:=by rw[IX];exact I4.out.range
          have Tp:Live wc rb 15:=IV I4.out 15 (Nat.le_refl 15)
          by_cases EP:M.aV.length<24
          ·obtain ⟨ao,cap,hc⟩:=IU jN.out.dX
           have HD:=hid (M0 hb g rb M.aV.length cap ao rp wc jN.out.hear.c3 EP hc Wy Tp)
           rw[if_pos EP] at wZ
           clear hc Wy Tp IX EP
           go_wp2_with (first
            | (go_at_call 96;refine HD.out.mono ?_;clear HD;rintro r Wx ⟨rfl,Tq⟩;have vC:=hid Tq;clear Tq))
           go_meet
           exact ⟨_,rfl,⟨by decide,by decide⟩,wZ.out,iM.out _ _ jN.out (vC.out.mono (fun _ _ _ e=>.inr (by omega)))⟩
          ·obtain ⟨qd,Zr,hc,hcl,hcm,hcr,Zt⟩:=DZ jN.out.dX (by omega)
           have hdp:=rW.out.IP qd Zr
           have hgw:=HN.out.2
           have HD:=hid (IM hb g rb qd M.aV M.aV.length rp wc jN.out.hear.c3 (hid rfl) (by omega) hcl hcm hc (by have:=jN.out.dX.live;rwa [Nat.zero_add] at this) hcr hdp.1 (Zt.lt) Wy Tp (by omega) (by have:=HN.out.1;omega) rW.out.hbg)
           have X6:=hid (fun W' off=>Bt (W':=W') (rb:=rb) (off:=off) jN.out.dX (by omega) hcl hcm hcr Zt)
           rw[if_neg EP] at wZ
           obtain ⟨ao,cap,hv,hsl⟩:=sV jN.out.r
           subst hv
           have c2:=jN.out.hear.c2
           have Hrp:=hid IX
           have Hqd:=hid Zr
           have Hdp:=hid hdp
           have HHr:Hid (hb≠rb):=by have:=HN.out.1;exact hid (by omega)
           have HLc:=hid Tp.lt
           have HOr:Hid (Off pr rb):=fun p hp e=>by have:=Zi.out p hp;omega
           have Zu:Hid (∀ W,kQ W rb (rp.drawn (dU M.aV 0) (dU M.aV 1) (dU M.aV 2))→Out W (.slice ao 0 cap) pr []→rb<W.heap.size→Calls Tryz.prog 97 #[.pointer (some ⟨rb,0,none⟩),.slice ao 0 cap] W fun e w'=>∃ v',e = .returned v'∧aI W w' v' pr ([]++(rp.drawn (dU M.aV 0) (dU M.aV 1) (dU M.aV 2)).rF 11 3)):=
            fun W h1 h2 h3=>wD (.slice ao 0 cap) pr [] rb _ W h2 h1 h3 HOr.out (Ll Hrp.out HFI.out HRI.out HQ.out uJ.out rW.out.oL) (by simp)
           clear hc hcl hcm hcr Zt hdp hgw Wy Tp IX Zr EP
           go_wp2_with (first
            | (go_at_call 96;refine HD.out.mono ?_;clear HD;rintro r Wx ⟨rfl,Tt,Tu,Tq⟩;have Zv:=hid Tt;have Zw:=hid Tu;have vC:=hid Tq;clear Tt Tu Tq;have c2':=vC.out.cell c2 (fun e=>by rcases e with ⟨e,_⟩ | e;exact rW.out.hbg e;exact HHr.out e);have HLt:=hid (Nat.lt_of_lt_of_le HLc.out vC.out.size))
            | (go_at_call 97;refine (Zu.out _ Zv.out (jN.out.r.cf vC.out (fun _ _ j hj=>absurd hj (by simp))) HLt.out).mono ?_;rintro r w12 ⟨v',rfl,M12⟩;have Zx:=hid M12;clear M12))
           first | go_ret|(rw[Exit.noGoto_ret];go_ret)
           refine ⟨_,rfl,?_⟩
           rw[wZ.out]
           obtain ⟨off,k1,k2,k3⟩:=Zw.out
           have hM:=Zx.out
           rw[IY Hrp.out HTK.out (lJ uJ.out.2)] at hM
           exact Tf jN.out vC.out (by omega) Tj.out hM rW.out (X6.out Wx off k1 k2 k3 vC.out Hdp.out.1 (by have:=Hdp.out.2.2.1;omega) (by have:=HN.out.2;omega)) Hqd.out rfl
    ·have wZ:Hid (FR=(aL now pc,M)):=by
      rw[←Zk.out,qR uJ.out.1 uJ.out.2 KF.out (by rw[IQ (by rw[Bu];exact h0),Bu];exact h0),IQ (by rw[Bu];exact h0),Bu]
      exact rfl
     clear Bu
     go_wp2_with (first|(go_at_call 90;refine (Ls.out _ Ck.out zA.out).mono ?_;rintro r w5 ⟨rfl,C5⟩;have yM:=hid (fB.out e f _ _ Ck.out zA.out (C5.mono (fun _ _ _ n=>.inl n))).1;have JZ:=hid (fB.out e f _ _ Ck.out zA.out (C5.mono (fun _ _ _ n=>.inl n))).2;clear C5;obtain ⟨k0',k1',k2',k3',k4',k5',k6',k7',k8',k9'⟩:=gY yM.out.ask))
     go_meet
     exact ⟨_,rfl,by have:=CV.out;rw[M6.out] at this;exact this,wZ.out,yM.out⟩
   ·have CV:=hid (M3 x y now 6 7 1 2 (by decide) (by decide) (by decide) (by decide))
    have wZ:Hid (FR=(aL now (dw x y now 6 7 1 2),M)):=by rw[←Zk.out];exact Lh uJ.out.1 uJ.out.2 hpc
    generalize dw x y now 6 7 1 2=pcd at *
    go_wp2_with fail
    go_meet
    exact ⟨_,rfl,CV.out,wZ.out,Ck.out⟩
 case rest=>
  obtain ⟨code,rfl,hcd,Tv,hX⟩:=hcut
  have Zy:=hid (vB hb g T fv ro rr pr now code _ hX.hear hX.r rW.out.prH HQ.out.1 hcd)
  have uK:=hid hX
  have wZ:=hid Tv
  clear hX Tv hcd
  go_wp2_with (first|(go_at_call 65;refine Zy.out.mono ?_;rintro e w9 ⟨v',rfl,M9⟩;have Na:=hid M9;clear M9))
  rw[Exit.noGoto_ret]
  go_ret
  refine ⟨_,rfl,?_⟩
  rw[wZ.out]
  exact Lr uK.out Na.out rW.out
end Go.Proofs.YtpibgolaaaemnaaGreatDoor
