/-
  
  
  
  
  
-/
import Derived.Test.YtpibgolaaaemnaaGreatDoorGUPFindP
import Derived.Test.YtpibgolaaaemnaaGreatDoorGUPNexB
import Derived.Test.YtpibgolaaaemnaaGreatDoorGUPBookG
import Derived.Test.YtpibgolaaaemnaaGreatDoorGUPAdmB
namespace Go.Proofs.YtpibgolaaaemnaaGreatDoor
open Go.RowKit
set_option maxRecDepth 100000
set_option maxHeartbeats 2000000 in
theorem EW (g o m nx m' nx':Nat) (e:BE) (w:World) (hl:Live w g (o+34)) (hc:w.cell? ⟨g,o+32,none⟩=some (.int .i64 m)) (hx:w.cell? ⟨g,o+33,none⟩=some (.int .i64 nx)) (hn:nx<4) (hm:m≤4)
  (hm':min ((m:Int)+1) 4=m') (hn':((nx:Int)+1) % 4=nx') :
  Calls Tryz.prog 226 #[.pointer (some ⟨g,o,none⟩),.agg e.aR.toArray] w fun r w'=>r = .returned (.tuple #[])∧w'.rangeAt g (o+nx*8) e.aR∧w'.cell? ⟨g,o+32,none⟩=some (.int .i64 m')∧w'.cell? ⟨g,o+33,none⟩=some (.int .i64 nx')∧CF w w' (fun b y=>b=g∧(o+nx*8≤y∧y<o+nx*8+8∨y=o+32∨y=o+33)):=by
 obtain ⟨v0,v1,v2,v3,v4,v5,v6,v7,hv,hv0⟩:=qH e
 clear hv0
 rw[hv]
 obtain ⟨W0,hW0⟩:∃ W,W=w.alloc (.cells #[.string v0,.int .i64 v1,.int .u64 v2,.int .u64 v3,.int .i64 v4,.int .i64 v5,.int .i64 v6,.int .i64 v7] 87):=⟨_,rfl⟩
 have hG0:w.grownBy W0 none:=by rw[hW0];exact World.grownBy_alloc w _ none
 have hX:W0.rangeAt w.heap.size 0 [.string v0,.int .i64 v1,.int .u64 v2,.int .u64 v3,.int .i64 v4,.int .i64 v5,.int .i64 v6,.int .i64 v7]:=by rw[hW0];exact aQ w #[.string v0,.int .i64 v1,.int .u64 v2,.int .u64 v3,.int .i64 v4,.int .i64 v5,.int .i64 v6,.int .i64 v7] _
 obtain ⟨x0,x1,x2,x3,x4,x5,x6,x7⟩:=iL hX
 have c1:=hG0.cell hc (by simp)
 have c2:=hG0.cell hx (by simp)
 have hne:w.heap.size≠g:=fun e=>by have:=hl.lt;omega
 have hL:=hl.grown hG0
 have f0:=hL.frozen (o+nx*8)
 have f1:=hL.frozen (o+nx*8+1)
 have f2:=hL.frozen (o+nx*8+2)
 have f3:=hL.frozen (o+nx*8+3)
 have f4:=hL.frozen (o+nx*8+4)
 have f5:=hL.frozen (o+nx*8+5)
 have f6:=hL.frozen (o+nx*8+6)
 have f7:=hL.frozen (o+nx*8+7)
 obtain ⟨d0,q0⟩:=Option.isSome_iff_exists.1 (hL.some (o+nx*8) (by omega))
 obtain ⟨d1,q1⟩:=Option.isSome_iff_exists.1 (hL.some (o+nx*8+1) (by omega))
 obtain ⟨d2,q2⟩:=Option.isSome_iff_exists.1 (hL.some (o+nx*8+2) (by omega))
 obtain ⟨d3,q3⟩:=Option.isSome_iff_exists.1 (hL.some (o+nx*8+3) (by omega))
 obtain ⟨d4,q4⟩:=Option.isSome_iff_exists.1 (hL.some (o+nx*8+4) (by omega))
 obtain ⟨d5,q5⟩:=Option.isSome_iff_exists.1 (hL.some (o+nx*8+5) (by omega))
 obtain ⟨d6,q6⟩:=Option.isSome_iff_exists.1 (hL.some (o+nx*8+6) (by omega))
 obtain ⟨d7,q7⟩:=Option.isSome_iff_exists.1 (hL.some (o+nx*8+7) (by omega))
 have hnI:(nx:Int)<4:=by omega
 have HG:=hid hG0
 have HW0:=hid hW0
 have HL:=hid hl
 have HLW:=hid hL
 obtain ⟨W1,hW1⟩:∃ W,W=W0.setCells g (o+nx*8) [.string v0,.int .i64 v1,.int .u64 v2,.int .u64 v3,.int .i64 v4,.int .i64 v5,.int .i64 v6,.int .i64 v7]:=⟨_,rfl⟩
 have HRG:Hid (W1.rangeAt g (o+nx*8) [.string v0,.int .i64 v1,.int .u64 v2,.int .u64 v3,.int .i64 v4,.int .i64 v5,.int .i64 v6,.int .i64 v7]):=by
  show World.rangeAt _ _ _ _
  rw[hW1]
  exact World.rangeAt_setCells_same W0 g (o+nx*8) _ (hL.there _ _ (by show _+8≤_;omega))
 have U9:Hid (CF W0 W1 (fun b y=>b=g∧o+nx*8≤y∧y<o+nx*8+8)):=by
  show CF _ _ _
  rw[hW1]
  exact CF.setCells g _ _ W0 (CF.refl _ _) (fun j hj _=>⟨rfl,by omega,by have hj:j<8:=hj;omega⟩)
 have HY:Hid (W1.cell? ⟨g,o+32,none⟩=some (.int .i64 m)∧W1.cell? ⟨g,o+33,none⟩=some (.int .i64 nx)):=⟨U9.out.cell c1 (fun e=>by omega),U9.out.cell c2 (fun e=>by omega)⟩
 have HF:Hid (∀ j,W1.frozen? ⟨g,j,none⟩=false):=fun j=>(hL.cf U9.out).frozen j
 have HY1:Hid (∀ v,(W1.setCell ⟨g,o+33,none⟩ v).cell? ⟨g,o+32,none⟩=some (.int .i64 m)):=fun v=>by
  rw[World.cell?_setCell_other _ _ _ _ (fun e=>by injection e with _ e;omega)]
  exact HY.out.1
 have afN:Hid (∀ v,CF W1 (W1.setCell ⟨g,o+33,none⟩ v) (fun b y=>b=g∧y=o+33)):=fun v=>(CF.refl _ _).setCell g (o+33) _ (fun _=>⟨rfl,rfl⟩)
 have y1:∀ v,(W1.setCell ⟨g,o+33,none⟩ v).drew.cell? ⟨g,o+32,none⟩=some (.int .i64 m):=HY1.out
 have y2:W1.drew.cell? ⟨g,o+33,none⟩=some (.int .i64 nx):=HY.out.2
 have z1:∀ v,(W1.setCell ⟨g,o+33,none⟩ v).drew.frozen? ⟨g,o+32,none⟩=false:=fun v=>((hL.cf U9.out).cf (afN.out v)).frozen _
 have z2:W1.drew.frozen? ⟨g,o+33,none⟩=false:=HF.out _
 have HW1:=hid hW1
 have HM':=hid hm'
 have HN':=hid hn'
 clear hG0 hX hW0 hc hx hL hl hW1 hm' hn'
 go_enter Tryz.func226,Tryz.ntmps226
 go_wp2_with (first|(rw[←HW0.out];fail_if_success done) | fail)
 go_region
 all_goals
  simp only[World.setCells] at HW1
  rw[←HW1.out]
  go_wp2
  go_end0
  refine ⟨rfl,?_,?_,?_,?_⟩
  ·refine CF.range (w:=W1) (ex:=fun b y=>b=g∧(y=o+32∨y=o+33)) ?_ HRG.out (fun j hj e=>by have hj:j<8:=hj;omega)
   first
   | exact (((CF.refl _ _).setCell g (o+33) _ (fun _=>⟨rfl,.inr rfl⟩)).setCell g (o+32) _ (fun _=>⟨rfl,.inl rfl⟩)).drew
   | exact (((CF.refl _ _).setCell g (o+33) _ (fun _=>⟨rfl,.inr rfl⟩)).drew.setCell g (o+32) _ (fun _=>⟨rfl,.inl rfl⟩))
  ·rw[←HM'.out]
   exact World.cell?_setCell_same _ _ _ (HY1.out _)
  ·rw[←HN'.out]
   show ((W1.setCell ⟨g,o+33,none⟩ _).setCell ⟨g,o+32,none⟩ _).cell? _=_
   rw[World.cell?_setCell_other _ _ _ _ (fun e=>by injection e with _ e;omega)]
   exact World.cell?_setCell_same _ _ _ HY.out.2
  ·have C0:=(CF.before HG.out U9.out).mono (ex':=fun b y=>b=g∧(o+nx*8≤y∧y<o+nx*8+8∨y=o+32∨y=o+33)) (fun _ _ _ e=>⟨e.1,.inl e.2⟩)
   first
   | exact ((C0.setCell g (o+33) _ (fun _=>⟨rfl,.inr (.inr rfl)⟩)).setCell g (o+32) _ (fun _=>⟨rfl,.inr (.inl rfl)⟩)).drew
   | exact ((C0.setCell g (o+33) _ (fun _=>⟨rfl,.inr (.inr rfl)⟩)).drew.setCell g (o+32) _ (fun _=>⟨rfl,.inr (.inl rfl)⟩))
theorem EX (g o:Nat) (ls:List BE) (nx:Nat) (e:BE) (w:World) (h:jB w g o ls nx) :
  Calls Tryz.prog 226 #[.pointer (some ⟨g,o,none⟩),.agg e.aR.toArray] w fun r w'=>r = .returned (.tuple #[])∧(∃ nx',jB w' g o (Ic ls nx e) nx')∧CF w w' (fun b y=>b=g∧o≤y∧y<o+34):=by
 have h4:=h.len
 have hn:=h.nx4
 obtain ⟨m',hm'⟩:∃ m':Nat,min ((ls.length:Int)+1) 4=m':=⟨(min ((ls.length:Int)+1) 4).toNat,by omega⟩
 obtain ⟨nx',hn'⟩:∃ n':Nat,((nx:Int)+1) % 4=n':=⟨(((nx:Int)+1) % 4).toNat,by omega⟩
 refine (EW g o ls.length nx m' nx' e w h.live h.count h.next hn h4 hm' hn').mono ?_
 rintro r w' ⟨rfl,h1,h2,h3,h5⟩
 have hk:∀ k (hk:k<ls.length),k≠nx→w'.rangeAt g (o+k*8) ls[k].aR:=fun k hk hne=>h5.range (h.ent k hk) (fun j hj e=>by have hj:j<8:=hj;omega)
 refine ⟨rfl,⟨nx',h.live.cf h5,?_,?_,h3,?_,by omega,?_⟩,h5.mono (fun b y _ e=>⟨e.1,by omega,by omega⟩)⟩
 ·unfold Ic
  split
  ·rename_i hlt
   have hnx:=h.nxl hlt
   intro k hk2
   rw[List.length_append,List.length_singleton] at hk2
   by_cases e1:k<ls.length
   ·rw[List.getElem_append_left e1]
    exact hk k e1 (by omega)
   ·obtain rfl:k=ls.length:=by omega
    rw[List.getElem_append_right (Nat.le_refl _)]
    simp only[Nat.sub_self,List.getElem_cons_zero]
    rw[hnx] at h1
    exact h1
  ·intro k hk2
   rw[List.length_set] at hk2
   by_cases e1:nx=k
   ·subst e1
    rw[List.getElem_set_self]
    exact h1
   ·rw[List.getElem_set_ne e1]
    exact hk k hk2 (fun q=>e1 q.symm)
 ·rw[h2,←hm']
  congr 2
  unfold Ic
  split
  ·rw[List.length_append,List.length_singleton];omega
  ·rw[List.length_set];omega
 ·unfold Ic
  split
  ·rw[List.length_append,List.length_singleton];omega
  ·rw[List.length_set];omega
 ·unfold Ic
  split
  ·rename_i hlt
   have hnx:=h.nxl hlt
   rw[List.length_append,List.length_singleton];omega
  ·rw[List.length_set];omega
end Go.Proofs.YtpibgolaaaemnaaGreatDoor
namespace Go.Proofs.YtpibgolaaaemnaaGreatDoor
open Go.RowKit
set_option maxRecDepth 100000
theorem TH {S:Source} {v:Value} {z:List UInt8} {w:World} (h:Bs S v z) (hs:At w S.1 S.2):∃ ao cap,v = .slice ao z.length cap∧z.length≤cap∧At w ao z∧∀ b off,ao=some ⟨b,off,none⟩→∀ j,j<z.length→∃ off',S.1=some ⟨b,off',none⟩∧off'≤off+j∧off+j<off'+S.2.length:=by
 obtain ⟨ao,cap,h1,h2,_,_,h5⟩:=h
 refine ⟨ao,cap,h1,h2,h5 w hs,fun b off hao j hj=>Classical.byContradiction fun hno=>?_⟩
 have key:At (w.setCell ⟨b,off+j,none⟩ (.bool true)) S.1 S.2:=by
  intro i hi
  obtain ⟨b',off',e,hc⟩:=hs i hi
  refine ⟨b',off',e,?_⟩
  rw[World.cell?_setCell_other _ _ _ _ (fun e'=>?_)]
  ·exact hc
  ·have e1:=congrArg Addr.block e'
   have e2:=congrArg Addr.off e'
   simp at e1 e2
   exact hno ⟨off',by rw[e,e1],by omega,by omega⟩
 obtain ⟨b1,o1,e1,c1⟩:=h5 w hs j hj
 obtain ⟨b2,o2,e2,c2⟩:=h5 _ key j hj
 rw[hao] at e1 e2
 injection e1 with e1
 injection e1 with e1a e1b _
 injection e2 with e2
 injection e2 with e2a e2b _
 subst e1a e1b e2a e2b
 rw[World.cell?_setCell_same _ _ _ c1] at c2
 injection c2 with c2
 cases c2
def Apart (S:Source) (po:Option Pl) (dB:Nat→Nat→Prop):Prop:=∀ b off,S.1=some ⟨b,off,none⟩→∀ j,j<S.2.length→¬ Pl.has po b (off+j)∧¬ dB b (off+j)
theorem xV {S:Source} {v:Value} {z:List UInt8} {w:World} {po:Option Pl} {dB:Nat→Nat→Prop} (h:Bs S v z) (hs:At w S.1 S.2) (ha:Apart S po dB):sW w po dB z v:=by
 obtain ⟨ao,cap,h1,h2,h3,h4⟩:=TH h hs
 refine ⟨ao,cap,h1,h2,h3,fun b off e j hj=>?_⟩
 obtain ⟨off',e1,l1,l2⟩:=h4 b off e j hj
 have:=ha b off' e1 (off+j-off') (by omega)
 rw[show off'+(off+j-off')=off+j from by omega] at this
 refine ⟨this.1,this.2,?_⟩
 obtain ⟨b',o',e',hc⟩:=h3 j hj
 rw[e] at e'
 injection e' with e'
 injection e' with e1 _ _
 subst e1
 exact jh hc
theorem Nc (aG:List UInt8):(MX aG).pre=if (zh aG).1=[] then none else some (Bg aG).1:=by
 unfold MX
 with_reducible rfl
theorem TJ {S:Source} {v:Value} {w:World} {po:Option Pl} {dB:Nat→Nat→Prop} (aG:List UInt8) (h:Bs S v (Bg aG).1.2) (hs:At w S.1 S.2) (ha:Apart S po dB):M4 w po dB (MX aG) (Bg aG).1.1 v:=by
 have hp:=Nc aG
 unfold M4
 rw[hp]
 generalize (Bg aG).1=P at *
 generalize (zh aG).1=c at *
 clear hp
 obtain ⟨n,z⟩:=P
 by_cases hc:c=[]
 ·rw[if_pos hc]
  exact .inl rfl
 ·rw[if_neg hc]
  obtain ⟨ao,cap,h1,h2,h3,h4⟩:=xV (z:=z) h hs ha
  exact .inr ⟨z,ao,cap,rfl,h1,h2,h3,h4⟩
theorem LJ (aG:List UInt8) (v:Value):qO aG v=(MX aG).cells (Bg aG).1.1 v:=by
 have h1:(MX aG).pre.isSome=decide ((zh aG).1≠[]):=by
  rw[Nc]
  generalize (zh aG).1=c
  generalize (Bg aG).1=P
  by_cases hc:c=[]
  ·rw[if_pos hc];simp[hc]
  ·rw[if_neg hc];simp[hc]
 unfold FQ.cells
 rw[h1]
 unfold qO MX
 with_reducible rfl
theorem Po (aG:List UInt8) (v u:Value):xP aG v u=(Vb aG).cells v u:=by
 unfold xP NQ.cells Vb
 with_reducible rfl
theorem Fin.before {w W w':World} {g:Nat} {po pr dp:Option Pl} {dB:Nat→Nat→Prop} {v':Value} {R:List UInt8×DM} (h:Fin W w' g po pr dp dB v' R) (k:w.grownBy W none):Fin w w' g po pr dp dB v' R:=by
 obtain ⟨⟨p',o1,o2⟩,h2,h3⟩:=h
 exact ⟨⟨p',o1,o2.imp id (fun q=>jK q k.size)⟩,h2,CF.before k h3⟩
end Go.Proofs.YtpibgolaaaemnaaGreatDoor
namespace Go.Proofs.YtpibgolaaaemnaaGreatDoor
open Go.RowKit
set_option maxRecDepth 100000
theorem WL (aG:List UInt8):∃ (q:FQ) (pn:Int) (z:List UInt8) (ok:Bool) (FC:Value→List Value),MX aG=q∧qM aG=ok∧(Bg aG).1.2=z∧qO aG=FC∧(∀ v,FC v=q.cells pn v)∧(∀ S v w po dB,Bs S v z→At w S.1 S.2→Apart S po dB→M4 w po dB q pn v)∧In64 q.aB∧In64 q.eY∧In64 q.dF∧In64 q.bQ∧In64 q.aJ:=by
 with_reducible refine ⟨MX aG,(Bg aG).1.1,(Bg aG).1.2,qM aG,qO aG,rfl,rfl,rfl,rfl,LJ aG,fun S v w po dB h1 h2 h3=>TJ aG h1 h2 h3,?_⟩
 have h:∀ j,In64 (wS aG j):=fun j=>by unfold wS;exact pU _
 unfold MX
 dsimp only
 with_reducible exact ⟨h 0,h 1,h 2,h 3,h 4⟩
theorem WM (aG:List UInt8):∃ (q:NQ) (z u:List UInt8) (ok:Bool) (NC:Value→Value→List Value),Vb aG=q∧wV aG=ok∧(JX aG).1.2=z∧(Sr aG).1=u∧xP aG=NC∧(∀ v x,NC v x=q.cells v x)∧q.iO=z∧q.proof=u∧In64 q.aB∧In64 q.dF∧In64 q.bQ∧In64 q.aJ:=by
 with_reducible refine ⟨Vb aG,(JX aG).1.2,(Sr aG).1,wV aG,xP aG,rfl,rfl,rfl,rfl,rfl,Po aG,?_⟩
 have h:∀ j,In64 (zD aG j):=fun j=>by unfold zD;exact pU _
 unfold Vb
 dsimp only
 with_reducible exact ⟨rfl,rfl,h 0,h 1,h 2,h 3⟩
theorem LK (M:DM) (now:Int) (aG:List UInt8):cB M now aG=if qM aG=true then dJ M now (firstM M now (MX aG)) else if wV aG=true then pJ M now (Vb aG) else (aL now 60,M):=by
 unfold cB
 rw[K5,OL]
 generalize qM aG=a
 generalize wV aG=b
 generalize MX aG=q
 generalize Vb aG=q2
 cases a <;> cases b <;> rfl
set_option maxHeartbeats 4000000 in
theorem xe (g T:Nat) (fv rv ro rr:Value) (po pr dp:Option Pl) (J:World→Prop) (dB oK:Nat→Nat→Prop) (M:DM) (now:Int) (S:Source) (aG:List UInt8) (n:Nat) (ao:Option Addr) (cap:Nat) (w:World)
  (SS:HS (w.heap.size+1) g (w.heap.size+2) T fv rv po pr dp J dB oK M.aH) (hd:cz w g 0 dp M) (hJ:J w) (ho:Out w ro po []) (hr:Out w rr pr []) (hn:Hid (aG.length=n)) (hs:At w S.1 S.2) (hb:Bs S (.slice ao n cap) aG) (ha:Apart S po dB) (dC:In64 now) (hsk:In64 M.ax) (yN:∀ y∈M.bK,In64 y.time) :
  Calls Tryz.prog 44 #[.pointer (some ⟨g,0,none⟩),.agg #[.iface T fv,ro,rr],.int .i64 now,.slice ao n cap] w fun e w'=>∃ v',e = .returned v'∧Fin w w' g po pr dp dB v' (cB M now aG)∧J w':=by
 rw[LK]
 obtain ⟨ZE,ZF,hro,_⟩:=sV ho
 obtain ⟨ZG,ZH,hrr,_⟩:=sV hr
 subst hro hrr
 obtain ⟨W0,hW0⟩:∃ W,W=(w.alloc (.cells #[.iface T fv,.slice ZE 0 ZF,.slice ZG 0 ZH] 142)).alloc (.cells #[.iface T fv,.slice ZE 0 ZF,.slice ZG 0 ZH,.pointer (some ⟨g,0,none⟩),.int .i64 now] 157):=⟨_,rfl⟩
 have G0:w.grownBy W0 none:=by rw[hW0];exact aC (World.grownBy_alloc w _ none) _
 have s0:W0.heap.size=w.heap.size+2:=by rw[hW0,World.size_alloc,World.size_alloc]
 have H0:vz W0 (w.heap.size+1) g T fv (.slice ZE 0 ZF) (.slice ZG 0 ZH) now:=by
  have h:=aQ (w.alloc (.cells #[.iface T fv,.slice ZE 0 ZF,.slice ZG 0 ZH] 142)) #[.iface T fv,.slice ZE 0 ZF,.slice ZG 0 ZH,.pointer (some ⟨g,0,none⟩),.int .i64 now] 157
  rw[World.size_alloc,←hW0] at h
  exact ⟨h 0 _ rfl,h 1 _ rfl,h 2 _ rfl,h 3 _ rfl,h 4 _ rfl⟩
 have C1:=hid (CJ S aG n ao cap W0 hn (hs.below G0) hb)
 have C2:=hid (fun W (hW:At W S.1 S.2)=>Ff S aG n ao cap W hn hW hb)
 obtain ⟨q,pn,z,ok1,FC,hq,hok,hz,hFC,f1,f2,i1,i2,i3,i4,i5⟩:=WL aG
 obtain ⟨nq,nz,nu,ok2,NC,hnq,hok2,hnz,hnu,hNC,n1,n2,n3,m1,m2,m3,m4⟩:=WM aG
 rw[hok,hz,hFC] at C1
 simp only[hok2,hnz,hnu,hNC] at C2
 rw[hok,hq,hok2,hnq]
 clear hq hok hz hFC hnq hok2 hnz hnu hNC
 have HQ:Hid (∀ W,W0.grownBy W none→HS (w.heap.size+1) g (w.heap.size+2) T fv rv po pr dp J dB oK M.aH∧vz W (w.heap.size+1) g T fv (.slice ZE 0 ZF) (.slice ZG 0 ZH) now∧cz W g 0 dp M∧J W∧Out W (.slice ZE 0 ZF) po []∧Out W (.slice ZG 0 ZH) pr []∧At W S.1 S.2∧w.heap.size+2≤W.heap.size∧w.grownBy W none):=by
  intro W k
  have k2:=ae G0 k
  exact ⟨SS,H0.grown k,hd.grown k2,SS.finds.stay _ _ hJ (CF.aW k2 _),ho.grown k2,hr.grown k2,hs.below k2,by have:=k.size;omega,k2⟩
 have CF1:Hid (∀ (v:Value) (W:World),W0.grownBy W none→Bs S v z→Calls Tryz.prog 62 #[.pointer (some ⟨w.heap.size+1,0,none⟩),.agg (FC v).toArray] W fun e w'=>∃ v',e = .returned v'∧Fin w w' g po pr dp dB v' (dJ M now (firstM M now q))∧J w'):=by
  intro v W k hv
  obtain ⟨q1,q2,q3,q4,q5,q6,q7,q8,q9⟩:=HQ.out W k
  rw[f1]
  refine (zl (w.heap.size+1) g (w.heap.size+2) T fv rv _ _ po pr dp J dB oK M now pn q v W q1 q2 q3 q4 q5 q6 (f2 S v W po dB hv q7 ha) dC hsk i1 i2 i3 i4 i5 q8).mono ?_
  rintro e w' ⟨v',r1,r2,rj⟩
  exact ⟨v',r1,r2.before q9,rj⟩
 have CN1:Hid (∀ (v u:Value) (W:World),W0.grownBy W none→Bs S v nz→Bs S u nu→Calls Tryz.prog 64 #[.pointer (some ⟨w.heap.size+1,0,none⟩),.agg (NC v u).toArray] W fun e w'=>∃ v',e = .returned v'∧Fin w w' g po pr dp dB v' (pJ M now nq)∧J w'):=by
  intro v u W k hv hu
  obtain ⟨q1,q2,q3,q4,q5,q6,q7,q8,q9⟩:=HQ.out W k
  rw[n1]
  refine (BA (w.heap.size+1) g (w.heap.size+2) T fv rv _ _ po pr dp J dB oK M now nq v u W q1 q2 q3 q4 q5 q6 (by rw[n2];exact xV hv q7 ha) (by rw[n3];exact xV hu q7 ha) dC hsk yN m1 m2 m3 m4 q8).mono ?_
  rintro e w' ⟨v',r1,r2,rj⟩
  exact ⟨v',r1,r2.before q9,rj⟩
 have CR1:Hid (∀ (W:World),W0.grownBy W none→Calls Tryz.prog 65 #[.pointer (some ⟨w.heap.size+1,0,none⟩),.int .i64 60] W fun e w'=>∃ v',e = .returned v'∧Fin w w' g po pr dp dB v' (aL now 60,M)∧J w'):=by
  intro W k
  obtain ⟨q1,q2,q3,q4,q5,q6,q7,q8,q9⟩:=HQ.out W k
  refine (vB (w.heap.size+1) g T fv _ _ pr now 60 W q2 q6 q1.prH dC ⟨by decide,by decide⟩).mono ?_
  rintro e w' ⟨v',r1,r2⟩
  obtain ⟨p',o1,o2,o3,_⟩:=r2
  have hfin:Fin W w' g po pr dp dB v' (aL now 60,M):=by
   refine ⟨⟨p',o1,o3⟩,⟨dp,q3.cf o2 (fun j _ hj e=>q1.prG j (by omega) e) (fun q hq j _ e=>((q1.IP q hq).2.2.2 _).2.2 e),fun q' hq'=>⟨q',hq',rfl⟩⟩,o2.mono (fun _ _ _ e=>.inr (.inr e))⟩
  exact ⟨v',r1,hfin.before q9,q1.finds.stay _ _ q4 (o2.mono (fun b y _ e=>q1.prJ b y e))⟩
 have HAt:Hid (∀ W,W0.grownBy W none→At W S.1 S.2):=fun W k=>(HQ.out W k).2.2.2.2.2.2.1
 obtain ⟨R,hR⟩:∃ R,(if ok1=true then dJ M now (firstM M now q) else if ok2=true then pJ M now nq else (aL now 60,M))=R:=⟨_,rfl⟩
 rw[hR]
 have HR:=hid hR
 clear hR
 have HW0:=hid hW0
 clear HQ hW0 G0 s0 H0 SS hd hJ ho hr hs hb ha dC hsk yN f1 f2 n1 n2 n3 i1 i2 i3 i4 i5 m1 m2 m3 m4 hn
 go_enter Tryz.func44,Tryz.ntmps44
 go_wp2_with (first|(rw[←HW0.out];fail_if_success done) | fail)
 refine C1.out.mono ?_
 rintro e w1 ⟨cs,rfl,k1,⟨k2,k3⟩,g1⟩
 have L1:Live (w1.alloc (.cells qN 161)) w1.heap.size 10:=Live.new w1 qN 161
 have h1:∀ v∈cs.toList,v.oneCell'=true:=fun v hv=>by rw[List.all_eq_true] at k3;exact k3 v hv
 have hst:=gJ (P:=Tryz.prog) cs.toList L1 (by rw[Array.length_toList,k2];exact Nat.le_refl _) h1
 have RA:=World.rangeAt_setCells_same (w1.alloc (.cells qN 161)) w1.heap.size 0 cs.toList (L1.there 0 _ (by rw[Array.length_toList,k2];omega))
 have JW:=hid (And.intro RA (show (Tryz.prog.info? 161).map (·.size)=some cs.toList.length by rw[Tryz.DT,Array.length_toList,k2]))
 have nH:=hid (ae g1 (iK w1.heap.size (Nat.le_refl _) cs.toList 0 _ (World.grownBy_alloc w1 (.cells qN 161) none)))
 have Qo:=hid k1
 clear C1 k1 k3 g1 HW0 RA L1 h1
 cases ok1 with
 | true=>
  obtain ⟨v,hv,hB⟩:=Qo.out rfl
  have C3:=hid (CF1.out v _ nH.out hB)
  rw[←hv] at C3
  rw[if_pos rfl] at HR
  clear Qo hv hB C2 CN1 CR1 CF1
  go_wp2_with (first|(refine wpList_load_mid rfl 161 _ rfl w1.heap.size 0 rfl cs.toList _ JW.out.1 Tryz.underlying161 rfl JW.out.2 ?_)|(go_at_call 62;refine C3.out.mono ?_;rintro e w' ⟨v',rfl,r2⟩))
  go_ret
  exact ⟨_,rfl,by rw[←HR.out];exact r2⟩
 | false=>
  rw[if_neg (by decide)] at HR
  have C4:=hid (C2.out _ (HAt.out _ nH.out))
  clear C2 Qo CF1 JW
  go_wp2_with fail
  refine C4.out.mono ?_
  rintro e w2 ⟨cs2,rfl,k1,⟨k22,k3⟩,g2⟩
  have L2:Live (w2.alloc (.cells sQ 168)) w2.heap.size 9:=Live.new w2 sQ 168
  have h2:∀ v∈cs2.toList,v.oneCell'=true:=fun v hv=>by rw[List.all_eq_true] at k3;exact k3 v hv
  have LM:=gJ (P:=Tryz.prog) cs2.toList L2 (by rw[Array.length_toList,k22];exact Nat.le_refl _) h2
  have RA:=World.rangeAt_setCells_same (w2.alloc (.cells sQ 168)) w2.heap.size 0 cs2.toList (L2.there 0 _ (by rw[Array.length_toList,k22];omega))
  have Ot:=hid (And.intro RA (show (Tryz.prog.info? 168).map (·.size)=some cs2.toList.length by rw[Tryz.Iu,Array.length_toList,k22]))
  have HG2:=hid (ae nH.out (ae g2 (iK w2.heap.size (Nat.le_refl _) cs2.toList 0 _ (World.grownBy_alloc w2 (.cells sQ 168) none))))
  have ER:=hid k1
  clear C4 k1 k3 g2 nH L2 h2 RA hst
  cases ok2 with
  | true=>
   obtain ⟨v,u,hv,hB,hU⟩:=ER.out rfl
   have C3:=hid (CN1.out v u _ HG2.out hB hU)
   rw[←hv] at C3
   rw[if_pos rfl] at HR
   clear ER hv hB hU CN1 CR1
   go_wp2_with (first|(refine wpList_load_mid rfl 168 _ rfl w2.heap.size 0 rfl cs2.toList _ Ot.out.1 Tryz.underlying168 rfl Ot.out.2 ?_)|(go_at_call 64;refine C3.out.mono ?_;rintro e w' ⟨v',rfl,r2⟩))
   go_ret
   exact ⟨_,rfl,by rw[←HR.out];exact r2⟩
  | false=>
   rw[if_neg (by decide)] at HR
   have C3:=hid (CR1.out _ HG2.out)
   clear ER CN1 CR1
   go_wp2_with (go_at_call 65;refine C3.out.mono ?_;rintro e w' ⟨v',rfl,r2⟩)
   go_ret
   exact ⟨_,rfl,by rw[←HR.out];exact r2⟩
end Go.Proofs.YtpibgolaaaemnaaGreatDoor
namespace Go.Proofs.YtpibgolaaaemnaaGreatDoor
open Go.RowKit
set_option maxRecDepth 100000
theorem cz.Et {w:World} {g o:Nat} {dp:Option Pl} {d:DM} (h:cz w g o dp d) {q:Pl} (hq:dp=some q):q.g<w.heap.size:=by
 obtain ⟨v,_,ho⟩:=h.aV
 exact ho.Et q hq
abbrev WN (g:Nat) (b y:Nat):Prop:=¬ (b=g∧2≤y∧y<163)
theorem Pp (w:World) (g:Nat) (dp:Option Pl) (M:DM) (hd:cz w g 0 dp M) (vV:∀ q,dp=some q→q.g≠g) (hin:∀ e∈M.aH,e.In) (hso:M.aH.Pairwise (fun x y=>Op.bytesLess x.name y.name=true)) :
  HS (w.heap.size+1) g (w.heap.size+2) 137 (.pointer (some ⟨g,0,none⟩)) (.pointer (some ⟨g,0,none⟩)) none none dp (fun W=>bE W g 2 M.aH) (fun _ _=>False) (WN g) M.aH:=by
 have hg:g<w.heap.size:=hd.live.lt
 have hno:∀ b y,¬ Pl.has none b y:=fun b y h=>by obtain ⟨q,e,_⟩:=h;cases e
 refine ⟨KJ g,Ia g M.aH hso,fun _ h=>h,fun _ _ _ h=>h,fun b y hb h=>by have:=h.1;omega,fun b y h=>absurd h (hno b y),fun b y h=>absurd h (hno b y),fun h=>by omega,fun y h1 _ h=>by omega,(fun q h=>by cases h),(fun q h=>by cases h),fun j _=>hno _ _,fun j _=>hno _ _,fun _ _ h=>h,by omega,fun p hp=>?_,by omega,by omega,hin,hso⟩
 have h1:p.g<w.heap.size:=hd.Et hp
 exact ⟨vV p hp,by omega,by omega,fun y=>⟨fun h=>h,hno _ _,hno _ _⟩⟩
set_option maxHeartbeats 1000000 in
theorem Fv (g:Nat) (dp:Option Pl) (M:DM) (now:Int) (S:Source) (aG:List UInt8) (n:Nat) (ao:Option Addr) (cap:Nat) (w:World) (hd:cz w g 0 dp M) (vV:∀ q,dp=some q→q.g≠g) (hin:∀ e∈M.aH,e.In) (hso:M.aH.Pairwise (fun x y=>Op.bytesLess x.name y.name=true))
  (hn:Hid (aG.length=n)) (hs:At w S.1 S.2) (hb:Bs S (.slice ao n cap) aG) (dC:In64 now) (hsk:In64 M.ax) (yN:∀ y∈M.bK,In64 y.time) :
  Calls Tryz.prog 32 #[.pointer (some ⟨g,0,none⟩),.int .i64 now,.slice ao n cap] w fun e w'=>∃ v',e = .returned v'∧Fin w w' g none none dp (fun _ _=>False) v' (cB M now aG):=by
 have C1:=hid (xe g 137 (.pointer (some ⟨g,0,none⟩)) (.pointer (some ⟨g,0,none⟩)) (.slice none 0 0) (.slice none 0 0) none none dp _ _ _ M now S aG n ao cap w (Pp w g dp M hd vV hin hso) hd hd.aH (Out.nil w) (Out.nil w) hn hs hb (fun b off _ j _=>⟨fun h=>(by obtain ⟨q,e,_⟩:=h;cases e),fun h=>h⟩) dC hsk yN)
 obtain ⟨R,hR⟩:∃ R,cB M now aG=R:=⟨_,rfl⟩
 rw[hR] at C1 ⊢
 clear hR hd vV hin hso hn hs hb dC hsk yN
 go_enter Tryz.func32,Tryz.ntmps32
 go_wp2_with (go_at_call 44;refine C1.out.mono ?_;rintro e w' ⟨v',rfl,r,_⟩)
 go_ret
 exact ⟨_,rfl,r⟩
set_option maxHeartbeats 1000000 in
theorem CX (g:Nat) (dp:Option Pl) (M:DM) (now:Int) (S:Source) (aG:List UInt8) (n:Nat) (ao:Option Addr) (cap:Nat) (w:World) (hd:cz w g 0 dp M) (vV:∀ q,dp=some q→q.g≠g) (hin:∀ e∈M.aH,e.In) (hso:M.aH.Pairwise (fun x y=>Op.bytesLess x.name y.name=true))
  (hn:Hid (aG.length=n)) (hs:At w S.1 S.2) (hb:Bs S (.slice ao n cap) aG) (dC:In64 now) (hsk:In64 M.ax) (yN:∀ y∈M.bK,In64 y.time) :
  Calls Tryz.prog 20 #[.pointer (some ⟨g,0,none⟩),.int .i64 now,.slice ao n cap] w fun e w'=>∃ v',e = .returned v'∧Fin w w' g none none dp (fun _ _=>False) v' (cB M now aG):=by
 have C1:=hid (Fv g dp M now S aG n ao cap w hd vV hin hso hn hs hb dC hsk yN)
 obtain ⟨R,hR⟩:∃ R,cB M now aG=R:=⟨_,rfl⟩
 rw[hR] at C1 ⊢
 clear hR hd vV hin hso hn hs hb dC hsk yN
 go_enter Tryz.func20,Tryz.ntmps20
 go_wp2_with (go_at_call 32;refine C1.out.mono ?_;rintro e w' ⟨v',rfl,r⟩)
 go_ret
 exact ⟨_,rfl,r⟩
end Go.Proofs.YtpibgolaaaemnaaGreatDoor
namespace Go.Proofs.YtpibgolaaaemnaaGreatDoor
open Go.RowKit
set_option maxRecDepth 100000
theorem tu (tag:UInt8) (l:List UInt8):(Box.box tag l).length≤l.length+4:=by
 rw[Box.jf]
 split
 ·omega
 ·split <;> omega
theorem Nk {l:List UInt8} (h:dH l=true):l.length≤90:=by
 unfold dH at h
 simp only[Bool.and_eq_true,decide_eq_true_eq] at h
 omega
structure dE (M:DM) (n:Nat):Prop where
 aH:kg n M.aH
 FJ:∀ e∈M.aH,In64 e.cO∧In64 e.aF
 ax:In64 M.ax
 aV:M.aV.length≤140737488355328
 times:∀ y∈M.bK,In64 y.time
theorem dE.mono {M:DM} {n m:Nat} (h:dE M n) (hm:n≤m):dE M m:=⟨h.aH.mono hm,h.FJ,h.ax,h.aV,h.times⟩
theorem dE.new {ax:Int} {zs:List UInt8} (h0:0≤ax) (h1:ax≤300) (hz:zs.length≤140737488355328) (n:Nat):dE ⟨ax,[],[],zs⟩ n:=
 ⟨kg.nil n,fun e he=>(by cases he),⟨by show _≤ax;omega,by show ax≤_;omega⟩,hz,fun y hy=>by cases hy⟩
theorem dE.bin {M:DM} {n:Nat} (h:dE M n) (hn:n≤4611686018427387904):∀ e∈M.aH,e.In:=fun e he=>
 ⟨⟨(h.aH.num e he).1,by have:=(h.aH.num e he).2;omega⟩,(h.FJ e he).1,(h.FJ e he).2,by have:=Nk (h.aH.name e he);omega⟩
theorem Um (M:DM) (now:Int) (R:Except Int GR):∃ ds,(dJ M now R).2={M with aV:=ds}∧ds.length≤M.aV.length:=by
 unfold dJ
 cases R with
 | error c=>exact ⟨M.aV,rfl,Nat.le_refl _⟩
 | ok g=>
  dsimp only
  split
  ·exact ⟨M.aV,rfl,Nat.le_refl _⟩
  ·exact ⟨M.aV.drop 24,rfl,by rw[List.length_drop];omega⟩
theorem Md {ax now:Int} {l:List PF} {p:PF} (h:∀ y∈l,In64 y.time) (hp:In64 p.time):∀ y∈dx ax now l p,In64 y.time:=by
 intro y hy
 have hn:∀ y∈su ax now l,In64 y.time:=fun y hy=>h y (List.mem_filter.1 hy).1
 unfold dx at hy
 split at hy
 ·rcases List.mem_append.1 hy with hy | hy
  ·exact hn y hy
  ·rw[List.mem_singleton.1 hy];exact hp
 ·exact hn y hy
theorem PV {M:DM} {now:Int} {q:NQ} {t:TK} {p:PF} (h:gZ M now q = .ok (t,p)):In64 p.time:=by
 unfold gZ at h
 split at h
 ·cases h
 ·split at h
  ·cases h
  ·split at h
   ·cases h
   ·split at h
    ·cases h
    ·split at h
     ·cases h
     ·rename_i p' hp
      split at h
      ·cases h
      ·split at h
       ·cases h
       ·injection h with h
        injection h with h1 h2
        subst h1 h2
        rw[vg] at hp
        split at hp
        ·injection hp with hp
         rw[←hp]
         exact SV _
        ·cases hp
theorem dE.draw {M:DM} {n:Nat} (h:dE M n) {ds:List UInt8} (hd:ds.length≤M.aV.length):dE {M with aV:=ds} n:=⟨h.aH,h.FJ,h.ax,Nat.le_trans hd h.aV,h.times⟩
theorem dE.proof {M:DM} {n:Nat} (h:dE M n) {ps:List PF} (hd:∀ y∈ps,In64 y.time):dE {M with bK:=ps} n:=⟨h.aH,h.FJ,h.ax,h.aV,hd⟩
theorem dE.fin {M:DM} {n:Nat} (h:dE M n) (now:Int) (R:Except Int GR):dE (dJ M now R).2 n:=by
 obtain ⟨ds,h1,h2⟩:=Um M now R
 rw[h1]
 exact h.draw h2
theorem dE.answer {M:DM} {n:Nat} (h:dE M n) (now:Int) (aG:List UInt8):dE (cB M now aG).2 n:=by
 unfold cB
 split
 ·exact h.fin now _
 ·split
  ·rename_i q _
   unfold pJ
   split
   ·exact h
   ·rename_i t p hp
    have h2:dE {M with bK:=dx M.ax now M.bK p} n:=h.proof (Md h.times (PV hp))
    dsimp only
    split
    ·exact h2
    ·exact h2.fin now _
  ·exact h
theorem dE.adm {M:DM} {n:Nat} (h:dE M n) (hn:1≤n) (a:jJ) (hl:In64 a.cO) (hr:In64 a.aF):dE {M with aH:=(fU M.aH a).1} (n+1):=by
 refine ⟨h.aH.fU hn a,?_,h.ax,h.aV,h.times⟩
 have hset:∀ (i:Nat) (y:BE),(In64 y.cO∧In64 y.aF)→∀ e∈M.aH.set i y,In64 e.cO∧In64 e.aF:=by
  intro i y hy e he
  rcases List.mem_or_eq_of_mem_set he with he | rfl
  ·exact h.FJ e he
  ·exact hy
 show ∀ e∈(fU M.aH a).1,_
 unfold fU
 split
 ·split
  ·exact h.FJ
  ·split
   ·exact h.FJ
   ·split
    ·exact h.FJ
    ·split
     ·exact h.FJ
     ·intro e he
      rcases List.mem_append.1 he with he | he
      ·rcases List.mem_append.1 he with he | he
       ·exact h.FJ e (List.mem_of_mem_take he)
       ·rw[List.mem_singleton.1 he];exact ⟨hl,hr⟩
      ·exact h.FJ e (List.mem_of_mem_drop he)
 ·split
  ·split
   ·exact h.FJ
   ·split
    ·intro e he
     rcases List.mem_append.1 he with he | he
     ·exact h.FJ e (List.mem_of_mem_take he)
     ·exact h.FJ e (List.mem_of_mem_drop he)
    ·split
     ·exact h.FJ
     ·rename_i x hx
      split
      ·exact hset _ _ (h.FJ x (List.mem_of_getElem? hx))
      ·split
       ·exact h.FJ
       ·exact hset _ _ ⟨hl,hr⟩
  ·exact h.FJ
theorem vI {l:List (List UInt8)} {n:Nat} (h:l.flatten.length≤n):(iX l).length≤n+4:=Nat.le_trans (tu 48 _) (Nat.add_le_add_right h 4)
theorem gV (v:Int):(aN v).length≤10:=(eZ v).2
theorem Un (k:UInt64):(kY k).length≤12:=Nat.le_trans (tu 4 _) (by rw[Pure.di];exact Nat.le_refl _)
theorem nL (now c:Int):(aL now c).length≤900:=by
 unfold aL
 have h1:=gV 30
 have h2:=gV now
 have h3:=gV c
 refine Nat.le_trans (vI (n:=30) ?_) (by decide)
 simp only[List.flatten_cons,List.flatten_nil,List.length_append,List.length_nil]
 omega
theorem WW (kind:Int) (t:TK) (s:BE) (aB ag:Int) (key use a b:UInt64) (hc:t.af.length≤90) (hs:s.name.length≤90):(gM kind t s aB ag key use a b).length≤900:=by
 have hp:t.plain.length≤160:=by
  unfold TK.plain
  have:=gV t.ay
  have:=gV t.eH
  have:=gV t.start
  have:=gV t.fin
  have:=gV t.aF
  have:=Un t.aU
  have:(bD t.af).length≤94:=Nat.le_trans (tu 4 _) (by omega)
  refine Nat.le_trans (vI (n:=156) ?_) (by decide)
  simp only[List.flatten_cons,List.flatten_nil,List.length_append,List.length_nil]
  omega
 have hq:(dR t aB s).length≤170:=by
  unfold dR
  have:=gV aB
  have:=gV t.ay
  have:=gV t.eH
  have:=gV t.start
  have:=gV t.fin
  have:=gV t.aF
  have:=Un t.aU
  have:(bD s.name).length≤94:=Nat.le_trans (tu 4 _) (by omega)
  refine Nat.le_trans (vI (n:=166) ?_) (by decide)
  simp only[List.flatten_cons,List.flatten_nil,List.length_append,List.length_nil]
  omega
 have ht:(tN t s a).length≤288:=by
  unfold tN
  have:=gV s.ag
  have:(bD s.name).length≤94:=Nat.le_trans (tu 4 _) (by omega)
  have:(bD (Pure.dK s.key 2 a t.plain)).length≤180:=Nat.le_trans (tu 4 _) (by rw[Pure.bO];omega)
  refine Nat.le_trans (vI (n:=284) ?_) (by decide)
  simp only[List.flatten_cons,List.flatten_nil,List.length_append,List.length_nil]
  omega
 have hi:(iX [aN ag,bD (Pure.dK key use b (dR t aB s))]).length≤204:=by
  have:=gV ag
  have:(bD (Pure.dK key use b (dR t aB s))).length≤190:=Nat.le_trans (tu 4 _) (by rw[Pure.bO];omega)
  refine Nat.le_trans (vI (n:=200) ?_) (by decide)
  simp only[List.flatten_cons,List.flatten_nil,List.length_append,List.length_nil]
  omega
 unfold gM
 have:=gV kind
 have:(bD t.af).length≤94:=Nat.le_trans (tu 4 _) (by omega)
 refine Nat.le_trans (vI (n:=596) ?_) (by decide)
 simp only[List.flatten_cons,List.flatten_nil,List.length_append,List.length_nil]
 omega
theorem FK {now:Int} {old t:TK} {x s:BE} {dF bQ aJ:Int} (h:fresh now old x s dF bQ aJ = .ok t):t.af=old.af:=by
 unfold fresh at h
 split at h
 ·split at h
  ·cases h
  ·injection h with h;rw[←h]
 ·split at h
  ·split at h
   ·cases h
   ·injection h with h;rw[←h]
  ·split at h
   ·cases h
   ·injection h with h;rw[←h]
theorem Uo {M:DM} {now:Int} {R:Except Int GR} (h:∀ g,R = .ok g→g.t.af.length≤90∧g.s.name.length≤90):(dJ M now R).1.length≤900:=by
 unfold dJ
 cases R with
 | error c=>exact nL now c
 | ok g=>
  dsimp only
  split
  ·exact nL now 60
  ·exact WW _ _ _ _ _ _ _ _ _ (h g rfl).1 (h g rfl).2
theorem zH {n:Nat} {M:DM} (h:dE M n) {l:List UInt8} {e:BE} (hf:BE.find M.aH l=some e):l.length≤90∧e.name.length≤90:=by
 have h1:=Nk (h.aH.name e (jG hf))
 exact ⟨by rw[←lJ hf];exact h1,h1⟩
theorem PW {M:DM} {n:Nat} (h:dE M n) (now:Int) (aG:List UInt8):(cB M now aG).1.length≤900:=by
 unfold cB
 split
 ·rename_i q _
  refine Uo (fun g hg=>?_)
  unfold firstM at hg
  split at hg
  ·cases hg
  ·cases hg
  ·rename_i x s hx hs
   split at hg
   ·cases hg
   ·split at hg
    ·cases hg
    ·injection hg with hg
     rw[←hg]
     exact ⟨(zH h hx).1,(zH h hs).2⟩
 ·split
  ·rename_i q _
   unfold pJ
   split
   ·exact nL now _
   ·rename_i t p hp
    dsimp only
    split
    ·exact nL now _
    ·refine Uo (fun g hg=>?_)
     unfold fV at hg
     split at hg
     ·cases hg
     ·split at hg
      ·cases hg
      ·split at hg
       ·cases hg
       ·cases hg
       ·rename_i s x hs hx
        split at hg
        ·cases hg
        ·split at hg
         ·cases hg
         ·split at hg
          ·cases hg
          ·rename_i u hu
           injection hg with hg
           rw[←hg]
           exact ⟨by show u.af.length≤90;rw[FK hu];exact (zH h hx).1,(zH h hs).2⟩
  ·exact nL now 60
end Go.Proofs.YtpibgolaaaemnaaGreatDoor
