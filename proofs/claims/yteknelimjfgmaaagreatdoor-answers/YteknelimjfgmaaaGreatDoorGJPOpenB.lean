import Derived.Test.YteknelimjfgmaaaGreatDoorGJRPieB
import Derived.Deep.RegionHeld3
namespace Go.Proofs.YteknelimjfgmaaaGreatDoor
set_option maxHeartbeats 1000000
open Proofs.Tryz Go.RowKit
set_option maxRecDepth 100000
variable {p:Option Pl} {v:Value} {w:World}
theorem Bs.self {S:Source} {c:Nat} (h1:S.2.length<=c) (h2:c<=9223372036854775807) (h3:S.2.length<=200):Bs S (.slice S.1 S.2.length c) S.2:=⟨S.1,c,rfl,h1,h2,by omega,fun _ h=>h⟩
theorem Out.abb {bs:List UInt8} (h:Out w v p bs) {g:Nat} (hg:w.heap.size<=g):Pl.blk p≠some g:=by
 rcases h with ⟨hp,_⟩ | ⟨q,hp,_,_,_,hl,_⟩
 ·rw[hp];exact fun e=>by cases e
 ·rw[hp];intro e;injection e with e;have e:q.g=g:=e;have:=hl.lt;omega
theorem Yi {b o:Nat} (h:Pl.has p b o):Pl.blk p=some b:=by
 obtain ⟨q,hq,e,_⟩:=h;rw[hq,e];rfl
theorem RS.open {w1 w2:World} {rv:Value} {rb:List UInt8} {z0:Array Value} {t t':TypeId} {l:List UInt8} {a:Option Addr} {s:List UInt8×Bool} (hR:Out w rv p rb) (c1:CF (w.alloc (.cells z0 t)) w1 (Pl.has p)) (h1:At w1 a l) (hn:∀ g,g<(w.alloc (.cells z0 t)).heap.size->Pl.blk p≠some g->iF (a,l) g) (g2:w1.grownBy w2 none) (hb:Bs (a,l) v s.1) (hf:s.2=true->s.1=[]) :
  RS w (w2.alloc (.cells #[v,.bool s.2] t')) (Pl.has p) (a,l) w2.heap.size s w.heap.size z0:=by
 have sz:(w.alloc (.cells z0 t)).heap.size=w.heap.size+1:=ch _ _
 have hnew:=hR.abb (bd w.heap.size)
 have z1:=c1.size
 have z2:=g2.size
 have h2:=h1.below g2
 obtain ⟨av,cv,rfl,_⟩:=id hb
 refine ⟨Rd.new (w:=w2) hb hf t',((((dX.new w z0 t).kept (c1.block _ afp (fun o e=>hnew (Yi e)))).grown g2 aft).alloc _),((CF.before (aE w _ none) c1).grown g2).alloc _,h2.below (aE w2 _ none),iF.new (S:=(a,l)) h2 (bd _),hn _ afp hnew,bd _,by omega,by omega⟩
theorem Uu {b:Nat} (h:w.cell? ⟨b,0,none⟩=some v):(loadVar 2 ⟨b,0,none⟩).run prog w = .ok v w:=by
 go_simp
def gK (s:List UInt8×Bool):Bool:=!s.2 && decide (s.1=[])
theorem J3 (rv:Value) (p:Option Pl) (rb:List UInt8) (key:UInt64) (ao:Option Addr) (z:List UInt8) (n cap:Nat) (w:World) (hR:Out w rv p rb) (hn:Hid (z.length=n)) (hcap:n<=cap) (hz:At w ao z) (hsep:∀ b off,ao=some ⟨b,off,none⟩->∀ j,j<z.length->¬ Pl.has p b (off+j)) :
  Calls prog 211 #[rv,.int .u64 (key.toNat:Int),.slice ao n cap] w fun e w'=>e = .returned (.tuple #[.int .i64 (bO (dD key 1 z,false)).1,.bool (gK (bO (dD key 1 z,false)).2)])/\CF w w' (Pl.has p):=by
 have G0:=aE w (.cells #[.int .i64 0] 2) none
 have HO:=hid (zG rv p rb key 1 1 ao z n cap _ (hR.grown G0) rfl (hid rfl) hn hcap (hz.below G0) hsep)
 obtain ⟨l,hl⟩:=aq (dD key 1 z)
 obtain ⟨q,hq⟩:=aq (bO (l,false))
 have HQ:Hid (bO (dD key 1 z,false)=q):=by show _=_;rw[hl,hq]
 have Ew:=hid hq
 rw[hl] at HO
 have HR:=hid hR
 clear hR hn hcap hz hsep G0 hl hq
 go_enter func211,ntmps211
 go_wp2_with fail
 refine HO.o.mono ?_
 rintro e w1 ⟨a,c,rfl,p1,p2,p3,p4,p5,p6⟩
 have hb:Bs (a,l) (.slice a l.length c) l:=Bs.self (S:=(a,l)) p1 p2 p3
 have HX:=hid (And.intro p5 (And.intro p4 (And.intro p6 hb)))
 clear p1 p2 p3 p4 p5 p6 hb HO
 go_wp2_with fail
 refine (JV a l.length c w1).mono ?_
 rintro e w2 ⟨rfl,g2⟩
 have rs:RS w (w2.alloc (.cells #[.slice a l.length c,.bool false] 314)) (Pl.has p) (a,l) w2.heap.size (l,false) w.heap.size #[.int .i64 0]:=RS.open (s:=(l,false)) HR.o HX.o.1 HX.o.2.1 HX.o.2.2.1 g2 HX.o.2.2.2 (fun e=>by cases e)
 obtain ⟨w3,hw3⟩:=ar (w2.alloc (.cells #[.slice a l.length c,.bool false] 314))
 rw[<-hw3] at rs
 have pl:=rs.places [0] (fun j hj=>by show j<1;simp at hj;omega) afq 319
 have rsa:=rs.alloc (.cells #[.pointer (some ⟨w.heap.size,0,none⟩)] 319)
 have HT:=hid (jY (a,l) w2.heap.size w3.heap.size _ 1 (l,false) _ (hid rfl) afp (rsa.stays [0]) rsa.rd pl)
 have hst:gM (l,false) 1=q.2:=eh Prod.snd Ew.o
 rw[hst] at HT
 have HN:Hid ((bO (gM (l,false) 0)).1=q.1):=eh Prod.fst Ew.o
 have Hrs:=hid rsa
 rw[hw3] at HT Hrs
 rw[ch] at HT
 clear rs pl rsa hst g2 hw3
 go_wp2_with fail
 refine HT.o.mono ?_
 rintro e w4 ⟨rfl,r4,c4,f4⟩
 have AU:RS w w4 (Pl.has p) (a,l) w2.heap.size q.2 w.heap.size #[.int .i64 q.1]:=by
  refine Hrs.o.nums f4 r4 (fun p hp=>?_) rfl (fun j hj=>?_)
  ·exact acK
  ·have hj':j<1:=hj;match j,hj' with
   | 0,_=>rw[<-HN.o];exact c4 0 (w.heap.size,0) rfl
 have x0:w4.cell? ⟨w.heap.size,0,none⟩=some (.int .i64 q.1):=AU.blk.cell 0
 have z0:=AU.blk.frozen 0
 have HY:Hid (((w4.drewN 1).setCell ⟨w.heap.size,0,none⟩ (.int .i64 q.1)).cell? ⟨w.heap.size,0,none⟩=some (.int .i64 q.1)):=dB (w:=w4.drewN 1) _ x0
 have HD1:=hid (jw (a,l) w2.heap.size _ _ (w4.drewN 1) (AU.rd.drewN 1))
 have HD2:=hid (jw (a,l) w2.heap.size _ _ ((w4.drewN 1).setCell ⟨w.heap.size,0,none⟩ (.int .i64 q.1)) ((AU.rd.drewN 1).Tg ((lN.refl (w4.drewN 1) (fun b=>b=w.heap.size)).set (g:=w.heap.size) rfl 0 _) (fun e=>AU.ne e.symm)))
 have HC:Hid (CF w ((w4.drewN 1).setCell ⟨w.heap.size,0,none⟩ (.int .i64 q.1)) (Pl.has p)):=(AU.cf.drewN 1).setCell w.heap.size 0 _ (fun e=>absurd e (fS _))
 obtain ⟨dn,HDn⟩:∃ dn,Hid ((!q.2.2 && decide (q.2.1=[]))=dn):=⟨_,hid rfl⟩
 rw[HDn.o] at HD1 HD2
 clear r4 c4 f4 AU HT Hrs HX HR
 go_wp2_with fail
 go_region_held3 (fun w'=>w'.cell? ⟨w.heap.size,0,none⟩=some (.int .i64 q.1)) (first | exact HY.o | go_keep) (first|(go_at_call 172;refine HD1.o.mono ?_;rintro e w5 ⟨rfl,rfl⟩)|(go_at_call 172;refine HD2.o.mono ?_;rintro e w5 ⟨rfl,rfl⟩))
 go_wp2
 exact bodyPost_ret (aJ results211 _ _ _ w.heap.size rfl _ (Uu HY.o)) rfl ⟨by rw[HQ.o,gK,HDn.o];rfl,HC.o⟩
set_option maxHeartbeats 2000000
variable {fb g:Nat} {ex:Nat->Nat->Prop} {S:Source} {W:World}
theorem RS.drewN {s:List UInt8×Bool} {cs:Array Value} (h:RS w W ex S g s fb cs) (n:Nat):RS w (W.drewN n) ex S g s fb cs:=h.grown (aY (bh W none) n)
def Yj (W:World) (g:Nat) (c0 c1 c2:Value):World:=(((W.setCell ⟨g,0,none⟩ c0).setCell ⟨g,1,none⟩ c1).setCell ⟨g,2,none⟩ c2)
theorem Tryz.QB:(prog.info? 131).map (·.size)=some 3:=by kernel_rfl
theorem RS.Yj {s:List UInt8×Bool} {x0 x1 x2:Value} (h:RS w W ex S g s fb #[x0,x1,x2]) (c0 c1 c2:Value):RS w (Yj W fb c0 c1 c2) ex S g s fb #[c0,c1,c2]:=by
 have k:=((h.store 0 c0).store 1 c1).store 2 c2;exact afd
theorem RS.aep {s:List UInt8×Bool} {c0 c1 c2:Value} (h:RS w W ex S g s fb #[c0,c1,c2]):(loadVar 131 ⟨fb,0,none⟩).run prog W = .ok (.agg #[c0,c1,c2]) W:=h.blk.load 131 _ underlying131 rfl Tryz.QB
theorem dX.aeq {c0 c1 c2:Value} (h:dX w g #[c0,c1,c2]):w.cell? ⟨g,0,none⟩=some c0/\w.cell? ⟨g,1,none⟩=some c1/\w.cell? ⟨g,2,none⟩=some c2:=⟨h.cell 0,h.cell 1,h.cell 2⟩
def IL (l:List UInt8):List UInt8×(List UInt8×Bool):=fF (bJ l)
def Hd (l:List UInt8) (j:Nat):Int:=(bO (gM (IL l).2 j)).1
def OQ (l:List UInt8):List UInt8×Bool:=gM (IL l).2 2
theorem Ex (rv:Value) (p:Option Pl) (rb:List UInt8) (key:UInt64) (ao:Option Addr) (z:List UInt8) (n cap:Nat) (w:World) (hR:Out w rv p rb) (hn:Hid (z.length=n)) (hcap:n<=cap) (hz:At w ao z) (hsep:∀ b off,ao=some ⟨b,off,none⟩->∀ j,j<z.length->¬ Pl.has p b (off+j)) :
  Calls prog 221 #[rv,.int .u64 (key.toNat:Int),.slice ao n cap] w fun e w'=>e = .returned (.tuple #[.agg #[.string ⟨(IL (dD key 4 z)).1.toArray⟩,.int .i64 (Hd (dD key 4 z) 0),.int .i64 (Hd (dD key 4 z) 1)],.bool (gK (OQ (dD key 4 z)))])/\CF w w' (Pl.has p):=by
 have G0:=aE w (.cells #[.string ⟨#[]⟩,.int .i64 0,.int .i64 0] 131) none
 have HO:=hid (zG rv p rb key 4 4 ao z n cap _ (hR.grown G0) rfl (hid rfl) hn hcap (hz.below G0) hsep)
 obtain ⟨l,hl⟩:=aq (dD key 4 z)
 obtain ⟨q0,h0⟩:=aq (bJ l)
 obtain ⟨qA,hA⟩:=aq (fF q0)
 obtain ⟨N,hN⟩:∃ N:Nat->Int,∀ j,(bO (gM qA.2 j)).1=N j:=⟨_,fun _=>rfl⟩
 obtain ⟨qE,hE⟩:=aq (gM qA.2 2)
 have hbad:=lD l
 rw[h0] at hbad
 have HQ0:=hid h0
 have HA:Hid (IL (dD key 4 z)=qA):=by show _=_;rw[IL,hl,h0,hA]
 have TY:Hid (∀ j,Hd (dD key 4 z) j=N j):=fun j=>by rw[Hd,HA.o,hN]
 have HE:Hid (OQ (dD key 4 z)=qE):=by show _=_;rw[OQ,HA.o,hE]
 have HQ:=hid (And.intro hA (And.intro hN hE))
 clear hA hN hE
 rw[hl] at HO
 have HR:=hid hR
 clear hR hn hcap hz hsep G0 hl h0
 go_enter func221,ntmps221
 go_wp2_with fail
 refine HO.o.mono ?_
 rintro e w1 ⟨a,c,rfl,p1,p2,p3,p4,p5,p6⟩
 have hb:Bs (a,l) (.slice a l.length c) l:=Bs.self (S:=(a,l)) p1 p2 p3
 have HX:=hid (And.intro p5 (And.intro p4 p6))
 have PY:=hid (tX (a,l) l l.length a c w1 (hid rfl) p4 hb)
 rw[HQ0.o] at PY
 clear p1 p2 p3 p4 p5 p6 hb HO
 go_wp2_with fail
 refine PY.o.mono ?_
 rintro e w2 ⟨v,rfl,b2,g2⟩
 obtain ⟨a2,c2,rfl,_⟩:=id b2
 have FI:RS w (w2.alloc (.cells #[.slice a2 q0.1.length c2,.bool q0.2] 314)) (Pl.has p) (a,l) w2.heap.size q0 w.heap.size #[.string ⟨#[]⟩,.int .i64 0,.int .i64 0]:=RS.open HR.o HX.o.1 HX.o.2.1 HX.o.2.2 g2 b2 hbad
 have HT1:=hid (nK (a,l) w2.heap.size q0 _ FI.src FI.ng FI.rd)
 rw[HQ.o.1] at HT1
 have H1:=hid FI
 clear b2 g2 PY hbad FI HX HR
 go_wp2_with fail
 refine HT1.o.mono ?_
 rintro e w3 ⟨rfl,r3,f3⟩
 have Si:RS w w3 (Pl.has p) (a,l) w2.heap.size qA.2 w.heap.size #[.string ⟨#[]⟩,.int .i64 0,.int .i64 0]:=H1.o.read f3 r3
 obtain ⟨⟨d2,hd2⟩,hz2⟩:=Si.slot 0 (by show 0<3;decide)
 have Ha:RS w (w3.setCell ⟨w.heap.size,0,none⟩ (.string ⟨qA.1.toArray⟩)) (Pl.has p) (a,l) w2.heap.size qA.2 w.heap.size #[.string ⟨qA.1.toArray⟩,.int .i64 0,.int .i64 0]:=Si.store 0 _
 have pl:=Ha.places [1,2] (fun j hj=>by show j<3;simp at hj;omega) afq 319
 rw[World.size_setCell] at pl
 have ra:=Ha.alloc (.cells #[.pointer (some ⟨w.heap.size,1,none⟩),.pointer (some ⟨w.heap.size,2,none⟩)] 319)
 have HT2:=hid (jY (a,l) w2.heap.size _ _ 2 qA.2 _ (hid rfl) afp (ra.stays [1,2]) ra.rd pl)
 simp only[HQ.o.2.1] at HT2
 rw[HQ.o.2.2] at HT2
 have H2:=hid ra
 clear r3 f3 Si Ha HT1 H1 pl ra
 go_wp2_with fail
 refine HT2.o.mono ?_
 rintro e w4 ⟨rfl,rw4,cw4,fw4⟩
 have AU:RS w w4 (Pl.has p) (a,l) w2.heap.size qE w.heap.size #[.string ⟨qA.1.toArray⟩,.int .i64 (N 0),.int .i64 (N 1)]:=by
  refine H2.o.nums fw4 rw4 (fun p hp=>?_) rfl (fun j hj=>?_)
  ·exact acK
  ·have hj':j<3:=hj;match j,hj' with
   | 0,_=>exact fw4.cell (H2.o.blk.cell 0) (fun e=>by rcases e with e | e;exact H2.o.ne e;simp at e)
   | 1,_=>exact cw4 0 (w.heap.size,1) rfl
   | 2,_=>exact cw4 1 (w.heap.size,2) rfl
 clear rw4 cw4 fw4 HT2 H2 hd2 hz2
 obtain ⟨x0,x1,x2⟩:=AU.blk.aeq
 have z0:=AU.blk.frozen 0
 have z1:=AU.blk.frozen 1
 have z2:=AU.blk.frozen 2
 have rX:=(AU.drewN 1).Yj (.string ⟨qA.1.toArray⟩) (.int .i64 (N 0)) (.int .i64 (N 1))
 unfold Yj at rX
 have HY:=hid rX.blk.aeq
 have HRX:=hid rX
 have HD1:=hid (jw (a,l) w2.heap.size _ _ (w4.drewN 1) (AU.rd.drewN 1))
 have HD2:=hid (jw (a,l) w2.heap.size _ _ _ rX.rd)
 obtain ⟨dn,HDn⟩:∃ dn,Hid ((!qE.2 && decide (qE.1=[]))=dn):=⟨_,hid rfl⟩
 rw[HDn.o] at HD1 HD2
 clear rX AU
 go_wp2_with fail
 go_region_held3 (fun w'=>w'.cell? ⟨w.heap.size,0,none⟩=some (.string ⟨qA.1.toArray⟩)/\w'.cell? ⟨w.heap.size,1,none⟩=some (.int .i64 (N 0))/\w'.cell? ⟨w.heap.size,2,none⟩=some (.int .i64 (N 1))) (first | exact HY.o | go_keep) (first|(go_at_call 172;refine HD1.o.mono ?_;rintro e w9 ⟨rfl,rfl⟩)|(go_at_call 172;refine HD2.o.mono ?_;rintro e w9 ⟨rfl,rfl⟩))
 go_wp2
 exact bodyPost_ret (aJ results221 _ _ _ w.heap.size rfl _ HRX.o.aep) rfl ⟨by rw[HA.o,TY.o,TY.o,HE.o,gK,HDn.o];rfl,HRX.o.cf⟩
def Yk (W:World) (g:Nat) (c0 c1 c2 c3 c4 c5 c6:Value):World:=(((((((W.setCell ⟨g,0,none⟩ c0).setCell ⟨g,1,none⟩ c1).setCell ⟨g,2,none⟩ c2).setCell ⟨g,3,none⟩ c3).setCell ⟨g,4,none⟩ c4).setCell ⟨g,5,none⟩ c5).setCell ⟨g,6,none⟩ c6)
theorem Tryz.iO:(prog.info? 333).map (·.size)=some 7:=by kernel_rfl
theorem RS.Yk {W:World} {ex:Nat->Nat->Prop} {S:Source} {fb:Nat} {s:List UInt8×Bool} {x0 x1 x2 x3 x4 x5 x6:Value} (h:RS w W ex S g s fb #[x0,x1,x2,x3,x4,x5,x6]) (c0 c1 c2 c3 c4 c5 c6:Value):RS w (Yk W fb c0 c1 c2 c3 c4 c5 c6) ex S g s fb #[c0,c1,c2,c3,c4,c5,c6]:=by
 have k:=((((((h.store 0 c0).store 1 c1).store 2 c2).store 3 c3).store 4 c4).store 5 c5).store 6 c6;exact afd
theorem RS.aer {W:World} {ex:Nat->Nat->Prop} {S:Source} {fb:Nat} {s:List UInt8×Bool} {c0 c1 c2 c3 c4 c5 c6:Value} (h:RS w W ex S g s fb #[c0,c1,c2,c3,c4,c5,c6]):(loadVar 333 ⟨fb,0,none⟩).run prog W = .ok (.agg #[c0,c1,c2,c3,c4,c5,c6]) W:=h.blk.load 333 _ underlying333 rfl Tryz.iO
theorem dX.aes {c0 c1 c2 c3 c4 c5 c6:Value} (h:dX w g #[c0,c1,c2,c3,c4,c5,c6]):w.cell? ⟨g,0,none⟩=some c0/\w.cell? ⟨g,1,none⟩=some c1/\w.cell? ⟨g,2,none⟩=some c2/\w.cell? ⟨g,3,none⟩=some c3/\w.cell? ⟨g,4,none⟩=some c4/\w.cell? ⟨g,5,none⟩=some c5/\w.cell? ⟨g,6,none⟩=some c6:=⟨h.cell 0,h.cell 1,h.cell 2,h.cell 3,h.cell 4,h.cell 5,h.cell 6⟩
def OT (l:List UInt8):Int×(List UInt8×Bool):=bO (bJ l)
def Uv (l:List UInt8):UInt64×(List UInt8×Bool):=qO (OT l).2
def Bg (l:List UInt8):List UInt8×(List UInt8×Bool):=fF (Uv l).2
def uJ (l:List UInt8) (j:Nat):Int:=(bO (gM (Bg l).2 j)).1
def M4 (l:List UInt8):List UInt8×Bool:=gM (Bg l).2 4
theorem CY (rv:Value) (p:Option Pl) (rb:List UInt8) (key:UInt64) (ao:Option Addr) (z:List UInt8) (n cap:Nat) (w:World) (hR:Out w rv p rb) (hn:Hid (z.length=n)) (hcap:n<=cap) (hz:At w ao z) (hsep:∀ b off,ao=some ⟨b,off,none⟩->∀ j,j<z.length->¬ Pl.has p b (off+j)) :
  Calls prog 220 #[rv,.int .u64 (key.toNat:Int),.slice ao n cap] w fun e w'=>e = .returned (.tuple #[.agg #[.int .i64 (OT (dD key 2 z)).1,.int .u64 ((Uv (dD key 2 z)).1.toNat:Int),.string ⟨(Bg (dD key 2 z)).1.toArray⟩,.int .i64 (uJ (dD key 2 z) 0),.int .i64 (uJ (dD key 2 z) 1),.int .i64 (uJ (dD key 2 z) 2),.int .i64 (uJ (dD key 2 z) 3)],.bool (gK (M4 (dD key 2 z)))])/\CF w w' (Pl.has p):=by
 have G0:=aE w (.cells #[.int .i64 0,.int .u64 0,.string ⟨#[]⟩,.int .i64 0,.int .i64 0,.int .i64 0,.int .i64 0] 333) none
 have HO:=hid (zG rv p rb key 2 2 ao z n cap _ (hR.grown G0) rfl (hid rfl) hn hcap (hz.below G0) hsep)
 obtain ⟨l,hl⟩:=aq (dD key 2 z)
 obtain ⟨q0,h0⟩:=aq (bJ l)
 obtain ⟨qF,hF⟩:=aq (bO q0)
 obtain ⟨qK,hK⟩:=aq (qO qF.2)
 obtain ⟨qC,hC⟩:=aq (fF qK.2)
 obtain ⟨N,hN⟩:∃ N:Nat->Int,∀ j,(bO (gM qC.2 j)).1=N j:=⟨_,fun _=>rfl⟩
 obtain ⟨qE,hE⟩:=aq (gM qC.2 4)
 have hbad:=lD l
 rw[h0] at hbad
 have HQ0:=hid h0
 have HF:Hid (OT (dD key 2 z)=qF):=by show _=_;rw[OT,hl,h0,hF]
 have HK:Hid (Uv (dD key 2 z)=qK):=by show _=_;rw[Uv,HF.o,hK]
 have HC:Hid (Bg (dD key 2 z)=qC):=by show _=_;rw[Bg,HK.o,hC]
 have TY:Hid (∀ j,uJ (dD key 2 z) j=N j):=fun j=>by rw[uJ,HC.o,hN]
 have HE:Hid (M4 (dD key 2 z)=qE):=by show _=_;rw[M4,HC.o,hE]
 have HQ:=hid (And.intro hF (And.intro hK (And.intro hC (And.intro hN hE))))
 clear hF hK hC hN hE
 rw[hl] at HO
 have HR:=hid hR
 clear hR hn hcap hz hsep G0 hl h0
 go_enter func220,ntmps220
 go_wp2_with fail
 refine HO.o.mono ?_
 rintro e w1 ⟨a,c,rfl,p1,p2,p3,p4,p5,p6⟩
 have hb:Bs (a,l) (.slice a l.length c) l:=Bs.self (S:=(a,l)) p1 p2 p3
 have HX:=hid (And.intro p5 (And.intro p4 p6))
 have PY:=hid (tX (a,l) l l.length a c w1 (hid rfl) p4 hb)
 rw[HQ0.o] at PY
 clear p1 p2 p3 p4 p5 p6 hb HO
 go_wp2_with fail
 refine PY.o.mono ?_
 rintro e w2 ⟨v,rfl,b2,g2⟩
 obtain ⟨a2,c2,rfl,_⟩:=id b2
 have FI:RS w (w2.alloc (.cells #[.slice a2 q0.1.length c2,.bool q0.2] 314)) (Pl.has p) (a,l) w2.heap.size q0 w.heap.size #[.int .i64 0,.int .u64 0,.string ⟨#[]⟩,.int .i64 0,.int .i64 0,.int .i64 0,.int .i64 0]:=RS.open HR.o HX.o.1 HX.o.2.1 HX.o.2.2 g2 b2 hbad
 have pl:=FI.places [0] (fun j hj=>by show j<7;simp at hj;omega) afq 319
 rw[ch] at pl
 have ra:=FI.alloc (.cells #[.pointer (some ⟨w.heap.size,0,none⟩)] 319)
 have HT0:=hid (jY (a,l) w2.heap.size _ _ 1 q0 _ (hid rfl) afp (ra.stays [0]) ra.rd pl)
 have hst:gM q0 1=qF.2:=eh Prod.snd HQ.o.1
 rw[hst] at HT0
 have HF1:Hid ((bO (gM q0 0)).1=qF.1):=eh Prod.fst HQ.o.1
 have H0:=hid ra
 clear b2 g2 PY hbad FI HX HR pl ra hst
 go_wp2_with fail
 refine HT0.o.mono ?_
 rintro e w3 ⟨rfl,rw3,cw3,ZI⟩
 have Yf:RS w w3 (Pl.has p) (a,l) w2.heap.size qF.2 w.heap.size #[.int .i64 qF.1,.int .u64 0,.string ⟨#[]⟩,.int .i64 0,.int .i64 0,.int .i64 0,.int .i64 0]:=by
  refine H0.o.nums ZI rw3 (fun p hp=>?_) rfl (fun j hj=>?_)
  ·exact acK
  ·have hj':j<7:=hj;match j,hj' with
   | 0,_=>rw[<-HF1.o];exact cw3 0 (w.heap.size,0) rfl
   | 1,_=>exact ZI.cell (H0.o.blk.cell 1) (fun e=>by rcases e with e | e;exact H0.o.ne e;simp at e)
   | 2,_=>exact ZI.cell (H0.o.blk.cell 2) (fun e=>by rcases e with e | e;exact H0.o.ne e;simp at e)
   | 3,_=>exact ZI.cell (H0.o.blk.cell 3) (fun e=>by rcases e with e | e;exact H0.o.ne e;simp at e)
   | 4,_=>exact ZI.cell (H0.o.blk.cell 4) (fun e=>by rcases e with e | e;exact H0.o.ne e;simp at e)
   | 5,_=>exact ZI.cell (H0.o.blk.cell 5) (fun e=>by rcases e with e | e;exact H0.o.ne e;simp at e)
   | 6,_=>exact ZI.cell (H0.o.blk.cell 6) (fun e=>by rcases e with e | e;exact H0.o.ne e;simp at e)
 have Us:=hid (QA (a,l) w2.heap.size qF.2 _ Yf.src Yf.ng Yf.rd)
 rw[HQ.o.2.1] at Us
 have H4:=hid Yf
 clear rw3 cw3 ZI Yf HT0 H0
 go_wp2_with fail
 refine Us.o.mono ?_
 rintro e w4 ⟨rfl,r4,f4⟩
 have AU:RS w w4 (Pl.has p) (a,l) w2.heap.size qK.2 w.heap.size #[.int .i64 qF.1,.int .u64 0,.string ⟨#[]⟩,.int .i64 0,.int .i64 0,.int .i64 0,.int .i64 0]:=H4.o.read f4 r4
 obtain ⟨⟨d4,hd4⟩,QC⟩:=AU.slot 1 (by show 1<7;decide)
 have Uw:RS w (w4.setCell ⟨w.heap.size,1,none⟩ (.int .u64 (qK.1.toNat:Int))) (Pl.has p) (a,l) w2.heap.size qK.2 w.heap.size #[.int .i64 qF.1,.int .u64 (qK.1.toNat:Int),.string ⟨#[]⟩,.int .i64 0,.int .i64 0,.int .i64 0,.int .i64 0]:=AU.store 1 _
 have OU:=hid (nK (a,l) w2.heap.size qK.2 _ Uw.src Uw.ng Uw.rd)
 rw[HQ.o.2.2.1] at OU
 have H5:=hid Uw
 clear r4 f4 AU Uw Us H4
 go_wp2_with fail
 refine OU.o.mono ?_
 rintro e w6 ⟨rfl,r6,f6⟩
 have rs6:RS w w6 (Pl.has p) (a,l) w2.heap.size qC.2 w.heap.size #[.int .i64 qF.1,.int .u64 (qK.1.toNat:Int),.string ⟨#[]⟩,.int .i64 0,.int .i64 0,.int .i64 0,.int .i64 0]:=H5.o.read f6 r6
 obtain ⟨⟨d6,hd6⟩,hz6⟩:=rs6.slot 2 (by show 2<7;decide)
 have abd:RS w (w6.setCell ⟨w.heap.size,2,none⟩ (.string ⟨qC.1.toArray⟩)) (Pl.has p) (a,l) w2.heap.size qC.2 w.heap.size #[.int .i64 qF.1,.int .u64 (qK.1.toNat:Int),.string ⟨qC.1.toArray⟩,.int .i64 0,.int .i64 0,.int .i64 0,.int .i64 0]:=rs6.store 2 _
 have pl:=abd.places [3,4,5,6] (fun j hj=>by show j<7;simp at hj;omega) afq 319
 rw[World.size_setCell] at pl
 have ra:=abd.alloc (.cells #[.pointer (some ⟨w.heap.size,3,none⟩),.pointer (some ⟨w.heap.size,4,none⟩),.pointer (some ⟨w.heap.size,5,none⟩),.pointer (some ⟨w.heap.size,6,none⟩)] 319)
 have LM:=hid (jY (a,l) w2.heap.size _ _ 4 qC.2 _ (hid rfl) afp (ra.stays [3,4,5,6]) ra.rd pl)
 simp only[HQ.o.2.2.2.1] at LM
 rw[HQ.o.2.2.2.2] at LM
 have H6:=hid ra
 clear r6 f6 rs6 abd OU H5 pl ra hd4 QC
 go_wp2_with fail
 refine LM.o.mono ?_
 rintro e w7 ⟨rfl,rw7,cw7,fw7⟩
 have JZ:RS w w7 (Pl.has p) (a,l) w2.heap.size qE w.heap.size #[.int .i64 qF.1,.int .u64 (qK.1.toNat:Int),.string ⟨qC.1.toArray⟩,.int .i64 (N 0),.int .i64 (N 1),.int .i64 (N 2),.int .i64 (N 3)]:=by
  refine H6.o.nums fw7 rw7 (fun p hp=>?_) rfl (fun j hj=>?_)
  ·exact acK
  ·have hj':j<7:=hj;match j,hj' with
   | 0,_=>exact fw7.cell (H6.o.blk.cell 0) (fun e=>by rcases e with e | e;exact H6.o.ne e;simp at e)
   | 1,_=>exact fw7.cell (H6.o.blk.cell 1) (fun e=>by rcases e with e | e;exact H6.o.ne e;simp at e)
   | 2,_=>exact fw7.cell (H6.o.blk.cell 2) (fun e=>by rcases e with e | e;exact H6.o.ne e;simp at e)
   | 3,_=>exact cw7 0 (w.heap.size,3) rfl
   | 4,_=>exact cw7 1 (w.heap.size,4) rfl
   | 5,_=>exact cw7 2 (w.heap.size,5) rfl
   | 6,_=>exact cw7 3 (w.heap.size,6) rfl
 clear rw7 cw7 fw7 LM H6 hd6 hz6
 obtain ⟨x0,x1,x2,x3,x4,x5,x6⟩:=JZ.blk.aes
 have z0:=JZ.blk.frozen 0
 have z1:=JZ.blk.frozen 1
 have z2:=JZ.blk.frozen 2
 have z3:=JZ.blk.frozen 3
 have z4:=JZ.blk.frozen 4
 have z5:=JZ.blk.frozen 5
 have z6:=JZ.blk.frozen 6
 have rX:=(JZ.drewN 1).Yk (.int .i64 qF.1) (.int .u64 (qK.1.toNat:Int)) (.string ⟨qC.1.toArray⟩) (.int .i64 (N 0)) (.int .i64 (N 1)) (.int .i64 (N 2)) (.int .i64 (N 3))
 unfold Yk at rX
 have HY:=hid rX.blk.aes
 have HRX:=hid rX
 have HD1:=hid (jw (a,l) w2.heap.size _ _ (w7.drewN 1) (JZ.rd.drewN 1))
 have HD2:=hid (jw (a,l) w2.heap.size _ _ _ rX.rd)
 obtain ⟨dn,HDn⟩:∃ dn,Hid ((!qE.2 && decide (qE.1=[]))=dn):=⟨_,hid rfl⟩
 rw[HDn.o] at HD1 HD2
 clear rX JZ
 go_wp2_with fail
 go_region_held3 (fun w'=>w'.cell? ⟨w.heap.size,0,none⟩=some (.int .i64 qF.1)/\w'.cell? ⟨w.heap.size,1,none⟩=some (.int .u64 (qK.1.toNat:Int))/\w'.cell? ⟨w.heap.size,2,none⟩=some (.string ⟨qC.1.toArray⟩)/\w'.cell? ⟨w.heap.size,3,none⟩=some (.int .i64 (N 0))/\w'.cell? ⟨w.heap.size,4,none⟩=some (.int .i64 (N 1))/\w'.cell? ⟨w.heap.size,5,none⟩=some (.int .i64 (N 2))/\w'.cell? ⟨w.heap.size,6,none⟩=some (.int .i64 (N 3))) (first | go_keep | exact HY.o) (first|(go_at_call 172;refine HD1.o.mono ?_;rintro e w9 ⟨rfl,rfl⟩)|(go_at_call 172;refine HD2.o.mono ?_;rintro e w9 ⟨rfl,rfl⟩))
 go_wp2
 exact bodyPost_ret (aJ results220 _ _ _ w.heap.size rfl _ HRX.o.aer) rfl ⟨by rw[HF.o,HK.o,HC.o,TY.o,TY.o,TY.o,TY.o,HE.o,gK,HDn.o];rfl,HRX.o.cf⟩
variable {l:List UInt8}
theorem afo {p:Prop} (h:p:=by
 split at hc
 ·injection hc with hc
  injection hc with hc _
  omega
 ·cases hc):p:=h
theorem Na {i r:List UInt8} {t:UInt8} (h:Box.cut l=some (t,i,r)) (hi:i.length<128):l.length=i.length+r.length+2:=by
 unfold Box.cut at h;split at h
 ·cases h
 ·rename_i hl;have hd:(l.drop 1).length=l.length-1:=cy;cases hc:Box.gu (l.drop 1) with
  | none=>rw[hc] at h;cases h
  | some q=>
   obtain ⟨n,r'⟩:=q;rw[hc] at h;simp only at h;split at h
   ·rename_i hn;injection h with h;injection h with _ h;injection h with h1 h2;have e1:i.length=n:=(by rw[<-h1,cG];omega);have e2:r.length=r'.length-n:=(by rw[<-h2,cy]);unfold Box.gu at hc;split at hc
    ·rename_i hq;injection hc with hc;injection hc with _ hc;have e3:r'.length=l.length-1-1:=(by rw[<-hc,cy,hd]);have:1<=(l.drop 1).length:=hq.1;omega
    ·split at hc
     ·exact afo
     ·split at hc
      ·exact afo
      ·cases hc
   ·cases h
theorem take_len {due:Nat} {s:List UInt8×Bool} (h:(bB due s.1 s.2).2.2=false) (hi:(bB due s.1 s.2).1.length<128):s.2=false/\s.1.length=(bB due s.1 s.2).1.length+(bB due s.1 s.2).2.1.length+2:=by
 revert h hi;unfold bB;cases hc:Box.cut s.1 with
 | none=>intro h;cases h
 | some q=>
  obtain ⟨t,i,r⟩:=q;simp only;split
  ·intro h hi;exact ⟨h,Na hc hi⟩
  ·intro h;cases h
theorem Yq {i:List UInt8} {v:Int} (h:Box.num i=some v):i.length<=8:=by
 unfold Box.num at h;split at h
 ·rename_i q;exact q.2.1
 ·cases h
theorem oI {s:List UInt8×Bool} (h:(bO s).2.2=false):s.2=false/\s.1.length<=(bO s).2.1.length+10:=by
 revert h;unfold bO;cases hn:Box.num (bB 2 s.1 s.2).1 with
 | none=>intro h;cases h
 | some v=>
  intro h;have:=Yq hn;obtain ⟨h1,h2⟩:=take_len h afp;exact ⟨h1,by show _<=(bB 2 s.1 s.2).2.1.length+10;omega⟩
theorem Nb (h:cO l=true):l.length<=16:=by
 unfold cO at h;simp at h;omega
theorem J9 {s:List UInt8×Bool} (h:(fF s).2.2=false):s.2=false/\s.1.length<=(fF s).2.1.length+18:=by
 revert h;unfold fF;simp only;split
 ·rename_i hb;intro h;have:=Nb hb;obtain ⟨h1,h2⟩:=take_len h afp;exact ⟨h1,by omega⟩
 ·intro h;cases h
theorem Yr {s:List UInt8×Bool} (h:(qO s).2.2=false):s.2=false/\s.1.length<=(qO s).2.1.length+10:=by
 revert h;unfold qO;simp only;split
 ·rename_i hb;intro h;obtain ⟨h1,h2⟩:=take_len h afp;exact ⟨h1,by omega⟩
 ·intro h;cases h
theorem Kb (h:(bJ l).2=false) (hi:(bJ l).1.length<128):l.length=(bJ l).1.length+2:=by
 revert h hi;unfold bJ;split
 ·rename_i q;intro _ hi;have:=(take_len (s:=(l,false)) q.1 hi).2;rw[q.2] at this;simpa using this
 ·intro h;cases h
theorem abg {β:Type} {s:List UInt8×Bool} (h:pU s) (k:UInt64->List UInt8->Option β):(st s).bind (dI MG k)=(st (qO s).2).bind (k (qO s).1):=by
 obtain ⟨l,f⟩:=s;cases f
 ·cases hc:Box.cut l with
  | none=>
   have ht:bB 4 l false=([],[],true):=(by rw[bB,hc]);simp[st,dI,hc,qO,ht]
  | some q=>
   obtain ⟨t,i,r⟩:=q;by_cases e:t.toNat=4
   ·have ht:bB 4 l false=(i,r,false):=(by rw[bB,hc];simp only[e,ez]);by_cases hb:i.length=8 <;> simp[st,dI,hc,qO,ht,MG,e,hb]
   ·have ht:bB 4 l false=([],[],true):=(by rw[bB,hc];simp only[e,eC]);simp[st,dI,hc,qO,ht,MG,e]
 ·have hl:l=[]:=h rfl;subst hl;simp[st,qO,nL]
theorem pU.key {s:List UInt8×Bool} (h:pU s):pU (qO s).2:=by
 unfold qO;simp only;split
 ·exact h.take 4
 ·exact fun _=>rfl
theorem Kc {key use:UInt64} {z:List UInt8} (h:z.length<=216):dD key use z=(eH key use z).getD []:=by
 unfold dD eH;by_cases e:16<=z.length/\Pure.opens key use z=true
 ·rw[if_pos ⟨e.1,h,e.2⟩,if_pos e];rfl
 ·rw[if_neg (fun q=>e ⟨q.1,q.2.2⟩),if_neg e];rfl
theorem zI {α:Type} (f:List UInt8->Option α) (key use:UInt64) (z:List UInt8) (h0:f []=none) (hl:∀ l a,f l=some a->l.length<=200):(eH key use z).bind f=f (dD key use z):=by
 by_cases h:z.length<=216
 ·rw[Kc h];cases ho:eH key use z with
  | none=>exact h0.symm
  | some l=>rfl
 ·have e:dD key use z=[]:=by rw[dD,if_neg (fun q=>h q.2.1)]
  rw[e,h0];cases ho:eH key use z with
  | none=>rfl
  | some l=>
   have hlen:l.length=z.length-16:=by
    unfold eH at ho;split at ho
    ·injection ho with ho;rw[<-ho,Pure.kC]
    ·cases ho
   cases hf:f l with
   | none=>simpa using hf
   | some a=>have:=hl l a hf;omega
def Ke:List UInt8->Option Int:=dI bF fun t=>uG t
theorem Yt (l:List UInt8):jH l=Ke l:=by
 unfold jH Ke dI;cases hc:Box.cut l with
 | none=>rfl
 | some q=>
  obtain ⟨t,i,r⟩:=q;cases r with
  | nil=>cases hn:bF (t,i) <;> simp[hn,uG]
  | cons x r=>cases hn:bF (t,i) <;> simp[hn,uG]
theorem zJ (l:List UInt8):jH l=if gK (bO (l,false)).2=true then some (bO (l,false)).1 else none:=by
 rw[Yt];have:Ke l=(st (l,false)).bind Ke:=rfl;rw[this,Ke,jL (s:=(l,false)) (fun e=>by cases e),vw];rfl
theorem Hl {s:List UInt8×Bool} (h:gK s=true):s.2=false/\s.1=[]:=by
 unfold gK at h;simpa using h
theorem UE (key:UInt64) (z:List UInt8):(eH key 1 z).bind jH=if gK (bO (dD key 1 z,false)).2=true then some (bO (dD key 1 z,false)).1 else none:=by
 rw[zI jH key 1 z (by rw[zJ];rfl) (fun l a h=>?_),zJ];rw[zJ] at h;split at h
 ·rename_i hd;obtain ⟨h1,h2⟩:=Hl hd;have:=(oI h1).2;rw[h2] at this;simp at this;omega
 ·cases h
def Ho:List UInt8->Option PF:=dI di fun c=>dI bF fun t=>dI bF fun n=>uG ⟨c,t,n⟩
theorem QI (l:List UInt8):Ho l=(Box.dH l).bind sF:=
 dN _ _ _ (fun c l=>dN _ _ _ (fun t l=>dN _ _ _ (fun n l=>vU (⟨c,t,n⟩:PF) l) l) l) l
theorem Nc {q0 s0 s1 s2:List UInt8×Bool} {a:List UInt8} {n0 n1:Int} (h0:pU q0) (hA:fF q0=(a,s0)) (e0:bO s0=(n0,s1)) (e1:bO s1=(n1,s2)) :
  (st q0).bind Ho=(if gK s2=true then some ⟨a,n0,n1⟩ else none)/\(gK s2=true->q0.2=false/\q0.1.length<=38):=by
 have b0:pU s0:=by have:=h0.name;rw[hA] at this;exact this
 have b1:pU s1:=by have:=b0.step;rw[e0] at this;exact this
 refine ⟨?_,fun h=>?_⟩
 ·unfold Ho;rw[vX h0,hA,jL b0,e0,jL b1,e1,vw];rfl
 ·obtain ⟨h1,h2⟩:=Hl h;have l1:=oI (s:=s1) (by rw[e1];exact h1);have l0:=oI (s:=s0) (by rw[e0];exact l1.1);have la:=J9 (s:=q0) (by rw[hA];exact l0.1);rw[e1] at l1;rw[e0] at l0;rw[hA] at la;have l1':=l1.2;have l0':=l0.2;have la':=la.2;simp only[h2,List.length_nil] at l1' l0' la';exact ⟨la.1,by omega⟩
def Sk (l:List UInt8):PF:=⟨(IL l).1,Hd l 0,Hd l 1⟩
theorem aem {p:Prop} (h:p:=by
 rw[c1,hQ,hE]
 refine ⟨rfl,fun h=>?_⟩
 obtain ⟨d1,d2⟩:=c2 h
 have:=hlen d1 afp
 omega):p:=h
theorem xA (l:List UInt8):fE l=(if gK (OQ l)=true then some (Sk l) else none)/\(gK (OQ l)=true->l.length<=200):=by
 have e0:fE l=(st (bJ l)).bind Ho:=by
  unfold fE;rw[yR,Option.bind_assoc];congr 1;funext i;exact (QI i).symm
 have hA:fF (bJ l)=IL l:=rfl;have hN0:bO (IL l).2=(Hd l 0,gM (IL l).2 1):=vY _;have hN1:bO (gM (IL l).2 1)=(Hd l 1,gM (IL l).2 2):=mK _ 1;have hE:OQ l=gM (IL l).2 2:=rfl;have hQ:Sk l=⟨(IL l).1,Hd l 0,Hd l 1⟩:=rfl;have bb:=ug l;have hlen:=fun (h:(bJ l).2=false) (hi:(bJ l).1.length<128)=>Kb h hi;rw[e0];clear e0;generalize Sk l=Q at *;generalize OQ l=E at *;generalize gM (IL l).2 1=s1 at *;generalize gM (IL l).2 2=s2 at *;generalize Hd l 0=n0 at *;generalize Hd l 1=n1 at *;generalize IL l=qA at *;generalize bJ l=q0 at *;obtain ⟨a,s0⟩:=qA;obtain ⟨c1,c2⟩:=Nc bb hA hN0 hN1;exact aem
theorem xB (key:UInt64) (z:List UInt8):(eH key 4 z).bind fE=if gK (OQ (dD key 4 z))=true then some (Sk (dD key 4 z)) else none:=by
 have hnil:fE []=none:=by
  rw[fE,yR];have:bJ []=([],true):=by rw[bJ,nL];rfl
  rw[this];rfl
 rw[zI fE key 4 z hnil (fun l a h=>?_),(xA _).1];have:=(xA l).1;rw[h] at this;by_cases hd:gK (OQ l)=true
 ·exact (xA l).2 hd
 ·rw[if_neg hd] at this;cases this
def Bj:List UInt8->Option TK:=dI bF fun f=>dI MG fun k=>dI di fun c=>dI bF fun a=>dI bF fun s=>dI bF fun e=>dI bF fun r=>uG ⟨f,k,c,a,s,e,r⟩
theorem Nf (l:List UInt8):Bj l=(Box.dH l).bind jo:=
 dN _ _ _ (fun f l=>dN _ _ _ (fun k l=>dN _ _ _ (fun c l=>dN _ _ _ (fun a l=>dN _ _ _ (fun s l=>dN _ _ _ (fun e l=>dN _ _ _ (fun r l=>vU (⟨f,k,c,a,s,e,r⟩:TK) l) l) l) l) l) l) l) l
theorem Kg {q0 sf sk s0 s1 s2 s3 s4:List UInt8×Bool} {fl:Int} {k:UInt64} {c:List UInt8} {n0 n1 n2 n3:Int} (h0:pU q0) (hF:bO q0=(fl,sf)) (hK:qO sf=(k,sk)) (hC:fF sk=(c,s0)) (e0:bO s0=(n0,s1)) (e1:bO s1=(n1,s2)) (e2:bO s2=(n2,s3)) (e3:bO s3=(n3,s4)) :
  (st q0).bind Bj=(if gK s4=true then some ⟨fl,k,c,n0,n1,n2,n3⟩ else none)/\(gK s4=true->q0.2=false/\q0.1.length<=100):=by
 have bf:pU sf:=by have:=h0.step;rw[hF] at this;exact this
 have bk:pU sk:=by have:=bf.key;rw[hK] at this;exact this
 have b0:pU s0:=by have:=bk.name;rw[hC] at this;exact this
 have b1:pU s1:=by have:=b0.step;rw[e0] at this;exact this
 have b2:pU s2:=by have:=b1.step;rw[e1] at this;exact this
 have b3:pU s3:=by have:=b2.step;rw[e2] at this;exact this
 refine ⟨?_,fun h=>?_⟩
 ·unfold Bj;rw[jL h0,hF,abg bf,hK,vX bk,hC,jL b0,e0,jL b1,e1,jL b2,e2,jL b3,e3,vw];rfl
 ·obtain ⟨h1,h2⟩:=Hl h;have l3:=oI (s:=s3) (by rw[e3];exact h1);have l2:=oI (s:=s2) (by rw[e2];exact l3.1);have l1:=oI (s:=s1) (by rw[e1];exact l2.1);have l0:=oI (s:=s0) (by rw[e0];exact l1.1);have lc:=J9 (s:=sk) (by rw[hC];exact l0.1);have lk:=Yr (s:=sf) (by rw[hK];exact lc.1);have lf:=oI (s:=q0) (by rw[hF];exact lk.1);rw[e3] at l3;rw[e2] at l2;rw[e1] at l1;rw[e0] at l0;rw[hC] at lc;rw[hK] at lk;rw[hF] at lf;have l3':=l3.2;have l2':=l2.2;have l1':=l1.2;have l0':=l0.2;have lc':=lc.2;have lk':=lk.2;have lf':=lf.2;simp only[h2,List.length_nil] at l3' l2' l1' l0' lc' lk' lf';exact ⟨lf.1,by omega⟩
def QJ (l:List UInt8):TK:=⟨(OT l).1,(Uv l).1,(Bg l).1,uJ l 0,uJ l 1,uJ l 2,uJ l 3⟩
theorem vC (l:List UInt8):dU l=(if gK (M4 l)=true then some (QJ l) else none)/\(gK (M4 l)=true->l.length<=200):=by
 have e0:dU l=(st (bJ l)).bind Bj:=by
  unfold dU;rw[yR,Option.bind_assoc];congr 1;funext i;exact (Nf i).symm
 have hF:bO (bJ l)=OT l:=rfl;have hK:qO (OT l).2=Uv l:=rfl;have hC:fF (Uv l).2=Bg l:=rfl;have hN0:bO (Bg l).2=(uJ l 0,gM (Bg l).2 1):=vY _;have hN1:bO (gM (Bg l).2 1)=(uJ l 1,gM (Bg l).2 2):=mK _ 1;have hN2:bO (gM (Bg l).2 2)=(uJ l 2,gM (Bg l).2 3):=mK _ 2;have hN3:bO (gM (Bg l).2 3)=(uJ l 3,gM (Bg l).2 4):=mK _ 3;have hE:M4 l=gM (Bg l).2 4:=rfl;have hQ:QJ l=⟨(OT l).1,(Uv l).1,(Bg l).1,uJ l 0,uJ l 1,uJ l 2,uJ l 3⟩:=rfl;have bb:=ug l;have hlen:=fun (h:(bJ l).2=false) (hi:(bJ l).1.length<128)=>Kb h hi;rw[e0];clear e0;generalize QJ l=Q at *;generalize M4 l=E at *;generalize gM (Bg l).2 1=s1 at *;generalize gM (Bg l).2 2=s2 at *;generalize gM (Bg l).2 3=s3 at *;generalize gM (Bg l).2 4=s4 at *;generalize uJ l 0=n0 at *;generalize uJ l 1=n1 at *;generalize uJ l 2=n2 at *;generalize uJ l 3=n3 at *;generalize Bg l=qC at *;generalize Uv l=qK at *;generalize OT l=qF at *;generalize bJ l=q0 at *;obtain ⟨fl,sf⟩:=qF;obtain ⟨k,sk⟩:=qK;obtain ⟨c,s0⟩:=qC;obtain ⟨c1,c2⟩:=Kg bb hF hK hC hN0 hN1 hN2 hN3;exact aem
theorem rA (key:UInt64) (z:List UInt8):(eH key 2 z).bind dU=if gK (M4 (dD key 2 z))=true then some (QJ (dD key 2 z)) else none:=by
 have hnil:dU []=none:=by
  rw[dU,yR];have:bJ []=([],true):=by rw[bJ,nL];rfl
  rw[this];rfl
 rw[zI dU key 2 z hnil (fun l a h=>?_),(vC _).1];have:=(vC l).1;rw[h] at this;by_cases hd:gK (M4 l)=true
 ·exact (vC l).2 hd
 ·rw[if_neg hd] at this;cases this
end Go.Proofs.YteknelimjfgmaaaGreatDoor
