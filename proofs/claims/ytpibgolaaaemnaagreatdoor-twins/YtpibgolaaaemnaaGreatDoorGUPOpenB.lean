/-
  
  
  
  
  
-/
import Derived.Test.YtpibgolaaaemnaaGreatDoorGUPOpenA
import Derived.Deep.RegionHeld3
namespace Go.Proofs.YtpibgolaaaemnaaGreatDoor
open Go.RowKit
set_option maxRecDepth 100000
theorem Bs.self {S:Source} {c:Nat} (h1:S.2.length≤c) (h2:c≤9223372036854775807) (h3:S.2.length≤200):Bs S (.slice S.1 S.2.length c) S.2:=⟨S.1,c,rfl,h1,h2,by omega,fun _ h=>h⟩
theorem Out.Y0 {w:World} {v:Value} {p:Option Pl} {bs:List UInt8} (h:Out w v p bs) {g:Nat} (hg:w.heap.size≤g):Pl.blk p≠some g:=by
 rcases h with ⟨hp,_⟩ | ⟨q,hp,_,_,_,hl,_⟩
 ·rw[hp];exact fun e=>by cases e
 ·rw[hp]
  intro e
  injection e with e
  have e:q.g=g:=e
  have:=hl.lt
  omega
theorem V6 {p:Option Pl} {b o:Nat} (h:Pl.has p b o):Pl.blk p=some b:=by
 obtain ⟨q,hq,e,_⟩:=h
 rw[hq,e]
 rfl
theorem RS.open {w w1 w2:World} {rv:Value} {p:Option Pl} {rb:List UInt8} {z0:Array Value} {t t':TypeId} {l:List UInt8} {a:Option Addr} {v:Value} {s:List UInt8×Bool} (hR:Out w rv p rb) (c1:CF (w.alloc (.cells z0 t)) w1 (Pl.has p)) (h1:At w1 a l) (hn:∀ g,g<(w.alloc (.cells z0 t)).heap.size→Pl.blk p≠some g→gG (a,l) g) (g2:w1.grownBy w2 none) (hb:Bs (a,l) v s.1) (hf:s.2=true→s.1=[]) :
  RS w (w2.alloc (.cells #[v,.bool s.2] t')) (Pl.has p) (a,l) w2.heap.size s w.heap.size z0:=by
 have sz:(w.alloc (.cells z0 t)).heap.size=w.heap.size+1:=World.size_alloc _ _
 have hnew:=hR.Y0 (Nat.le_refl w.heap.size)
 have z1:=c1.size
 have z2:=g2.size
 have h2:=h1.below g2
 obtain ⟨av,cv,rfl,_⟩:=id hb
 refine ⟨Rd.new (w:=w2) hb hf t',((((bI.new w z0 t).kept (c1.block _ (by omega) (fun o e=>hnew (V6 e)))).grown g2 (by simp)).alloc _),((CF.before (World.grownBy_alloc w _ none) c1).grown g2).alloc _,h2.below (World.grownBy_alloc w2 _ none),gG.new (S:=(a,l)) h2 (Nat.le_refl _),hn _ (by omega) hnew,Nat.le_refl _,by omega,by omega⟩
theorem Sd {w:World} {b:Nat} {v:Value} (h:w.cell? ⟨b,0,none⟩=some v):(loadVar 2 ⟨b,0,none⟩).run Tryz.prog w = .ok v w:=by
 have hu:=Tryz.underlying2
 go_simp
def fM (s:List UInt8×Bool):Bool:=!s.2 && decide (s.1=[])
set_option maxHeartbeats 1000000 in
theorem Ip (rv:Value) (p:Option Pl) (rb:List UInt8) (key:UInt64) (ao:Option Addr) (z:List UInt8) (n cap:Nat) (w:World) (hR:Out w rv p rb) (hn:Hid (z.length=n)) (hcap:n≤cap) (hz:At w ao z) (hsep:∀ b off,ao=some ⟨b,off,none⟩→∀ j,j<z.length→¬ Pl.has p b (off+j)) :
  Calls Tryz.prog 124 #[rv,.int .u64 (key.toNat:Int),.slice ao n cap] w fun e w'=>e = .returned (.tuple #[.int .i64 (bq (bW key 1 z,false)).1,.bool (fM (bq (bW key 1 z,false)).2)])∧CF w w' (Pl.has p):=by
 have G0:=World.grownBy_alloc w (.cells #[.int .i64 0] 2) none
 have HO:=hid (xO rv p rb key 1 1 ao z n cap _ (hR.grown G0) rfl (hid rfl) hn hcap (hz.below G0) hsep)
 obtain ⟨l,hl⟩:∃ l,bW key 1 z=l:=⟨_,rfl⟩
 obtain ⟨q,hq⟩:∃ q,bq (l,false)=q:=⟨_,rfl⟩
 have HQ:Hid (bq (bW key 1 z,false)=q):=by show _=_;rw[hl,hq]
 have HQ1:=hid hq
 rw[hl] at HO
 have HR:=hid hR
 clear hR hn hcap hz hsep G0 hl hq
 go_enter Tryz.func124,Tryz.ntmps124
 go_wp2_with fail
 refine HO.out.mono ?_
 rintro e w1 ⟨a,c,rfl,p1,p2,p3,p4,p5,p6⟩
 have hb:Bs (a,l) (.slice a l.length c) l:=Bs.self (S:=(a,l)) p1 p2 p3
 have HX:=hid (And.intro p5 (And.intro p4 (And.intro p6 hb)))
 clear p1 p2 p3 p4 p5 p6 hb HO
 go_wp2_with fail
 refine (Ik a l.length c w1).mono ?_
 rintro e w2 ⟨rfl,g2⟩
 have rs:RS w (w2.alloc (.cells #[.slice a l.length c,.bool false] 189)) (Pl.has p) (a,l) w2.heap.size (l,false) w.heap.size #[.int .i64 0]:=RS.open (s:=(l,false)) HR.out HX.out.1 HX.out.2.1 HX.out.2.2.1 g2 HX.out.2.2.2 (fun e=>by cases e)
 obtain ⟨w3,hw3⟩:∃ w3,w3=w2.alloc (.cells #[.slice a l.length c,.bool false] 189):=⟨_,rfl⟩
 rw[←hw3] at rs
 have pl:=rs.places [0] (fun j hj=>by show j<1;simp at hj;omega) (by decide) 194
 have rsa:=rs.alloc (.cells #[.pointer (some ⟨w.heap.size,0,none⟩)] 194)
 have HT:=hid (iV (a,l) w2.heap.size w3.heap.size _ 1 (l,false) _ (hid rfl) (by omega) (rsa.stays [0]) rsa.rd pl)
 have hst:fQ (l,false) 1=q.2:=congrArg Prod.snd HQ1.out
 rw[hst] at HT
 have HN:Hid ((bq (fQ (l,false) 0)).1=q.1):=congrArg Prod.fst HQ1.out
 have Hrs:=hid rsa
 have sz3:w3.heap.size=w2.heap.size+1:=by rw[hw3];exact World.size_alloc _ _
 rw[hw3] at HT Hrs
 rw[World.size_alloc] at HT
 clear rs pl rsa hst g2 hw3 sz3
 go_wp2_with fail
 refine HT.out.mono ?_
 rintro e w4 ⟨rfl,r4,c4,f4⟩
 have zi:RS w w4 (Pl.has p) (a,l) w2.heap.size q.2 w.heap.size #[.int .i64 q.1]:=by
  refine Hrs.out.nums f4 r4 (fun p hp=>?_) rfl (fun j hj=>?_)
  ·obtain ⟨j,_,rfl⟩:=List.mem_map.1 hp
   rfl
  ·have hj':j<1:=hj
   match j,hj' with
   | 0,_=>rw[←HN.out];exact c4 0 (w.heap.size,0) rfl
 have x0:w4.cell? ⟨w.heap.size,0,none⟩=some (.int .i64 q.1):=zi.blk.cell 0
 have z0:=zi.blk.frozen 0
 have HY:Hid (((w4.drewN 1).setCell ⟨w.heap.size,0,none⟩ (.int .i64 q.1)).cell? ⟨w.heap.size,0,none⟩=some (.int .i64 q.1)):=bL (w:=w4.drewN 1) _ x0
 have HD1:=hid (iF (a,l) w2.heap.size _ _ (w4.drewN 1) (zi.rd.drewN 1))
 have HD2:=hid (iF (a,l) w2.heap.size _ _ ((w4.drewN 1).setCell ⟨w.heap.size,0,none⟩ (.int .i64 q.1)) ((zi.rd.drewN 1).XN ((uW.refl (w4.drewN 1) (fun b=>b=w.heap.size)).set (g:=w.heap.size) rfl 0 _) (fun e=>zi.ne e.symm)))
 have HC:Hid (CF w ((w4.drewN 1).setCell ⟨w.heap.size,0,none⟩ (.int .i64 q.1)) (Pl.has p)):=(zi.cf.drewN 1).setCell w.heap.size 0 _ (fun e=>absurd e (Nat.lt_irrefl _))
 obtain ⟨dn,HDn⟩:∃ dn,Hid ((!q.2.2 && decide (q.2.1=[]))=dn):=⟨_,hid rfl⟩
 rw[HDn.out] at HD1 HD2
 clear r4 c4 f4 zi HT Hrs HX HR
 go_wp2_with fail
 go_region_held3 (fun w'=>w'.cell? ⟨w.heap.size,0,none⟩=some (.int .i64 q.1)) (first | exact HY.out | go_keep) (first|(go_at_call 86;refine HD1.out.mono ?_;rintro e w5 ⟨rfl,rfl⟩)|(go_at_call 86;refine HD2.out.mono ?_;rintro e w5 ⟨rfl,rfl⟩))
 go_wp2
 exact bodyPost_ret (aD Tryz.results124 _ _ _ w.heap.size rfl _ (Sd HY.out)) rfl ⟨by rw[HQ.out,fM,HDn.out];rfl,HC.out⟩
end Go.Proofs.YtpibgolaaaemnaaGreatDoor
namespace Go.Proofs.YtpibgolaaaemnaaGreatDoor
open Go.RowKit
set_option maxRecDepth 100000
theorem RS.drewN {w W:World} {ex:Nat→Nat→Prop} {S:Source} {g fb:Nat} {s:List UInt8×Bool} {cs:Array Value} (h:RS w W ex S g s fb cs) (n:Nat):RS w (W.drewN n) ex S g s fb cs:=h.grown (aO (World.grownBy.refl W none) n)
def V7 (W:World) (g:Nat) (c0 c1 c2:Value):World:=(((W.setCell ⟨g,0,none⟩ c0).setCell ⟨g,1,none⟩ c1).setCell ⟨g,2,none⟩ c2)
theorem Tryz.OD:(Tryz.prog.info? 92).map (·.size)=some 3:=by kernel_rfl
theorem RS.V7 {w W:World} {ex:Nat→Nat→Prop} {S:Source} {g fb:Nat} {s:List UInt8×Bool} {x0 x1 x2:Value} (h:RS w W ex S g s fb #[x0,x1,x2]) (c0 c1 c2:Value):RS w (V7 W fb c0 c1 c2) ex S g s fb #[c0,c1,c2]:=by
 have h0:RS w (W.setCell ⟨fb,0,none⟩ c0) ex S g s fb #[c0,x1,x2]:=h.store 0 c0
 have h1:RS w ((W.setCell ⟨fb,0,none⟩ c0).setCell ⟨fb,1,none⟩ c1) ex S g s fb #[c0,c1,x2]:=h0.store 1 c1
 have h2:RS w (((W.setCell ⟨fb,0,none⟩ c0).setCell ⟨fb,1,none⟩ c1).setCell ⟨fb,2,none⟩ c2) ex S g s fb #[c0,c1,c2]:=h1.store 2 c2
 exact h2
theorem RS.abT {w W:World} {ex:Nat→Nat→Prop} {S:Source} {g fb:Nat} {s:List UInt8×Bool} {c0 c1 c2:Value} (h:RS w W ex S g s fb #[c0,c1,c2]):(loadVar 92 ⟨fb,0,none⟩).run Tryz.prog W = .ok (.agg #[c0,c1,c2]) W:=h.blk.load 92 _ Tryz.underlying92 rfl Tryz.OD
theorem bI.abU {w:World} {g:Nat} {c0 c1 c2:Value} (h:bI w g #[c0,c1,c2]):w.cell? ⟨g,0,none⟩=some c0∧w.cell? ⟨g,1,none⟩=some c1∧w.cell? ⟨g,2,none⟩=some c2:=⟨h.cell 0,h.cell 1,h.cell 2⟩
def F7 (l:List UInt8):List UInt8×(List UInt8×Bool):=eF (bg l)
def Fa (l:List UInt8) (j:Nat):Int:=(bq (fQ (F7 l).2 j)).1
def MS (l:List UInt8):List UInt8×Bool:=fQ (F7 l).2 2
set_option maxHeartbeats 2000000 in
theorem CK (rv:Value) (p:Option Pl) (rb:List UInt8) (key:UInt64) (ao:Option Addr) (z:List UInt8) (n cap:Nat) (w:World) (hR:Out w rv p rb) (hn:Hid (z.length=n)) (hcap:n≤cap) (hz:At w ao z) (hsep:∀ b off,ao=some ⟨b,off,none⟩→∀ j,j<z.length→¬ Pl.has p b (off+j)) :
  Calls Tryz.prog 134 #[rv,.int .u64 (key.toNat:Int),.slice ao n cap] w fun e w'=>e = .returned (.tuple #[.agg #[.string ⟨(F7 (bW key 4 z)).1.toArray⟩,.int .i64 (Fa (bW key 4 z) 0),.int .i64 (Fa (bW key 4 z) 1)],.bool (fM (MS (bW key 4 z)))])∧CF w w' (Pl.has p):=by
 have G0:=World.grownBy_alloc w (.cells #[.string ⟨#[]⟩,.int .i64 0,.int .i64 0] 92) none
 have HO:=hid (xO rv p rb key 4 4 ao z n cap _ (hR.grown G0) rfl (hid rfl) hn hcap (hz.below G0) hsep)
 obtain ⟨l,hl⟩:∃ l,bW key 4 z=l:=⟨_,rfl⟩
 obtain ⟨q0,h0⟩:∃ q,bg l=q:=⟨_,rfl⟩
 obtain ⟨qA,hA⟩:∃ q,eF q0=q:=⟨_,rfl⟩
 obtain ⟨N,hN⟩:∃ N:Nat→Int,∀ j,(bq (fQ qA.2 j)).1=N j:=⟨_,fun _=>rfl⟩
 obtain ⟨qE,hE⟩:∃ q,fQ qA.2 2=q:=⟨_,rfl⟩
 have hbad:=jF l
 rw[h0] at hbad
 have HQ0:=hid h0
 have HA:Hid (F7 (bW key 4 z)=qA):=by show _=_;rw[F7,hl,h0,hA]
 have VB:Hid (∀ j,Fa (bW key 4 z) j=N j):=fun j=>by rw[Fa,HA.out,hN]
 have HE:Hid (MS (bW key 4 z)=qE):=by show _=_;rw[MS,HA.out,hE]
 have HQ:=hid (And.intro hA (And.intro hN hE))
 clear hA hN hE
 rw[hl] at HO
 have HR:=hid hR
 clear hR hn hcap hz hsep G0 hl h0
 go_enter Tryz.func134,Tryz.ntmps134
 go_wp2_with fail
 refine HO.out.mono ?_
 rintro e w1 ⟨a,c,rfl,p1,p2,p3,p4,p5,p6⟩
 have hb:Bs (a,l) (.slice a l.length c) l:=Bs.self (S:=(a,l)) p1 p2 p3
 have HX:=hid (And.intro p5 (And.intro p4 p6))
 have NY:=hid (qL (a,l) l l.length a c w1 (hid rfl) p4 hb)
 rw[HQ0.out] at NY
 clear p1 p2 p3 p4 p5 p6 hb HO
 go_wp2_with fail
 refine NY.out.mono ?_
 rintro e w2 ⟨v,rfl,b2,g2⟩
 obtain ⟨a2,c2,rfl,_⟩:=id b2
 have DU:RS w (w2.alloc (.cells #[.slice a2 q0.1.length c2,.bool q0.2] 189)) (Pl.has p) (a,l) w2.heap.size q0 w.heap.size #[.string ⟨#[]⟩,.int .i64 0,.int .i64 0]:=RS.open HR.out HX.out.1 HX.out.2.1 HX.out.2.2 g2 b2 hbad
 have HT1:=hid (lF (a,l) w2.heap.size q0 _ DU.src DU.ng DU.rd)
 rw[HQ.out.1] at HT1
 have H1:=hid DU
 clear b2 g2 NY hbad DU HX HR
 go_wp2_with fail
 refine HT1.out.mono ?_
 rintro e w3 ⟨rfl,r3,f3⟩
 have Qp:RS w w3 (Pl.has p) (a,l) w2.heap.size qA.2 w.heap.size #[.string ⟨#[]⟩,.int .i64 0,.int .i64 0]:=H1.out.read f3 r3
 obtain ⟨⟨d2,hd2⟩,hz2⟩:=Qp.slot 0 (by show 0<3;decide)
 have E9:RS w (w3.setCell ⟨w.heap.size,0,none⟩ (.string ⟨qA.1.toArray⟩)) (Pl.has p) (a,l) w2.heap.size qA.2 w.heap.size #[.string ⟨qA.1.toArray⟩,.int .i64 0,.int .i64 0]:=Qp.store 0 _
 have pl:=E9.places [1,2] (fun j hj=>by show j<3;simp at hj;omega) (by decide) 194
 rw[World.size_setCell] at pl
 have ra:=E9.alloc (.cells #[.pointer (some ⟨w.heap.size,1,none⟩),.pointer (some ⟨w.heap.size,2,none⟩)] 194)
 have HT2:=hid (iV (a,l) w2.heap.size _ _ 2 qA.2 _ (hid rfl) (by omega) (ra.stays [1,2]) ra.rd pl)
 simp only[HQ.out.2.1] at HT2
 rw[HQ.out.2.2] at HT2
 have H2:=hid ra
 clear r3 f3 Qp E9 HT1 H1 pl ra
 go_wp2_with fail
 refine HT2.out.mono ?_
 rintro e w4 ⟨rfl,rw4,cw4,fw4⟩
 have zi:RS w w4 (Pl.has p) (a,l) w2.heap.size qE w.heap.size #[.string ⟨qA.1.toArray⟩,.int .i64 (N 0),.int .i64 (N 1)]:=by
  refine H2.out.nums fw4 rw4 (fun p hp=>?_) rfl (fun j hj=>?_)
  ·obtain ⟨j,_,rfl⟩:=List.mem_map.1 hp
   rfl
  ·have hj':j<3:=hj
   match j,hj' with
   | 0,_=>exact fw4.cell (H2.out.blk.cell 0) (fun e=>by rcases e with e | e;exact H2.out.ne e;simp at e)
   | 1,_=>exact cw4 0 (w.heap.size,1) rfl
   | 2,_=>exact cw4 1 (w.heap.size,2) rfl
 clear rw4 cw4 fw4 HT2 H2 hd2 hz2
 obtain ⟨x0,x1,x2⟩:=zi.blk.abU
 have z0:=zi.blk.frozen 0
 have z1:=zi.blk.frozen 1
 have z2:=zi.blk.frozen 2
 have rX:=(zi.drewN 1).V7 (.string ⟨qA.1.toArray⟩) (.int .i64 (N 0)) (.int .i64 (N 1))
 unfold V7 at rX
 have HY:=hid rX.blk.abU
 have YU:=hid rX
 have HD1:=hid (iF (a,l) w2.heap.size _ _ (w4.drewN 1) (zi.rd.drewN 1))
 have HD2:=hid (iF (a,l) w2.heap.size _ _ _ rX.rd)
 obtain ⟨dn,HDn⟩:∃ dn,Hid ((!qE.2 && decide (qE.1=[]))=dn):=⟨_,hid rfl⟩
 rw[HDn.out] at HD1 HD2
 clear rX zi
 go_wp2_with fail
 go_region_held3 (fun w'=>w'.cell? ⟨w.heap.size,0,none⟩=some (.string ⟨qA.1.toArray⟩)∧w'.cell? ⟨w.heap.size,1,none⟩=some (.int .i64 (N 0))∧w'.cell? ⟨w.heap.size,2,none⟩=some (.int .i64 (N 1))) (first | exact HY.out | go_keep) (first|(go_at_call 86;refine HD1.out.mono ?_;rintro e w9 ⟨rfl,rfl⟩)|(go_at_call 86;refine HD2.out.mono ?_;rintro e w9 ⟨rfl,rfl⟩))
 go_wp2
 exact bodyPost_ret (aD Tryz.results134 _ _ _ w.heap.size rfl _ YU.out.abT) rfl ⟨by rw[HA.out,VB.out,VB.out,HE.out,fM,HDn.out];rfl,YU.out.cf⟩
end Go.Proofs.YtpibgolaaaemnaaGreatDoor
namespace Go.Proofs.YtpibgolaaaemnaaGreatDoor
open Go.RowKit
set_option maxRecDepth 100000
def V8 (W:World) (g:Nat) (c0 c1 c2 c3 c4 c5 c6:Value):World:=(((((((W.setCell ⟨g,0,none⟩ c0).setCell ⟨g,1,none⟩ c1).setCell ⟨g,2,none⟩ c2).setCell ⟨g,3,none⟩ c3).setCell ⟨g,4,none⟩ c4).setCell ⟨g,5,none⟩ c5).setCell ⟨g,6,none⟩ c6)
theorem Tryz.gX:(Tryz.prog.info? 211).map (·.size)=some 7:=by kernel_rfl
theorem RS.V8 {w W:World} {ex:Nat→Nat→Prop} {S:Source} {g fb:Nat} {s:List UInt8×Bool} {x0 x1 x2 x3 x4 x5 x6:Value} (h:RS w W ex S g s fb #[x0,x1,x2,x3,x4,x5,x6]) (c0 c1 c2 c3 c4 c5 c6:Value):RS w (V8 W fb c0 c1 c2 c3 c4 c5 c6) ex S g s fb #[c0,c1,c2,c3,c4,c5,c6]:=by
 have h0:RS w (W.setCell ⟨fb,0,none⟩ c0) ex S g s fb #[c0,x1,x2,x3,x4,x5,x6]:=h.store 0 c0
 have h1:RS w ((W.setCell ⟨fb,0,none⟩ c0).setCell ⟨fb,1,none⟩ c1) ex S g s fb #[c0,c1,x2,x3,x4,x5,x6]:=h0.store 1 c1
 have h2:RS w (((W.setCell ⟨fb,0,none⟩ c0).setCell ⟨fb,1,none⟩ c1).setCell ⟨fb,2,none⟩ c2) ex S g s fb #[c0,c1,c2,x3,x4,x5,x6]:=h1.store 2 c2
 have h3:RS w ((((W.setCell ⟨fb,0,none⟩ c0).setCell ⟨fb,1,none⟩ c1).setCell ⟨fb,2,none⟩ c2).setCell ⟨fb,3,none⟩ c3) ex S g s fb #[c0,c1,c2,c3,x4,x5,x6]:=h2.store 3 c3
 have h4:RS w (((((W.setCell ⟨fb,0,none⟩ c0).setCell ⟨fb,1,none⟩ c1).setCell ⟨fb,2,none⟩ c2).setCell ⟨fb,3,none⟩ c3).setCell ⟨fb,4,none⟩ c4) ex S g s fb #[c0,c1,c2,c3,c4,x5,x6]:=h3.store 4 c4
 have h5:RS w ((((((W.setCell ⟨fb,0,none⟩ c0).setCell ⟨fb,1,none⟩ c1).setCell ⟨fb,2,none⟩ c2).setCell ⟨fb,3,none⟩ c3).setCell ⟨fb,4,none⟩ c4).setCell ⟨fb,5,none⟩ c5) ex S g s fb #[c0,c1,c2,c3,c4,c5,x6]:=h4.store 5 c5
 have h6:RS w (((((((W.setCell ⟨fb,0,none⟩ c0).setCell ⟨fb,1,none⟩ c1).setCell ⟨fb,2,none⟩ c2).setCell ⟨fb,3,none⟩ c3).setCell ⟨fb,4,none⟩ c4).setCell ⟨fb,5,none⟩ c5).setCell ⟨fb,6,none⟩ c6) ex S g s fb #[c0,c1,c2,c3,c4,c5,c6]:=h5.store 6 c6
 exact h6
theorem RS.abV {w W:World} {ex:Nat→Nat→Prop} {S:Source} {g fb:Nat} {s:List UInt8×Bool} {c0 c1 c2 c3 c4 c5 c6:Value} (h:RS w W ex S g s fb #[c0,c1,c2,c3,c4,c5,c6]):(loadVar 211 ⟨fb,0,none⟩).run Tryz.prog W = .ok (.agg #[c0,c1,c2,c3,c4,c5,c6]) W:=h.blk.load 211 _ Tryz.underlying211 rfl Tryz.gX
theorem bI.abW {w:World} {g:Nat} {c0 c1 c2 c3 c4 c5 c6:Value} (h:bI w g #[c0,c1,c2,c3,c4,c5,c6]):w.cell? ⟨g,0,none⟩=some c0∧w.cell? ⟨g,1,none⟩=some c1∧w.cell? ⟨g,2,none⟩=some c2∧w.cell? ⟨g,3,none⟩=some c3∧w.cell? ⟨g,4,none⟩=some c4∧w.cell? ⟨g,5,none⟩=some c5∧w.cell? ⟨g,6,none⟩=some c6:=⟨h.cell 0,h.cell 1,h.cell 2,h.cell 3,h.cell 4,h.cell 5,h.cell 6⟩
def MU (l:List UInt8):Int×(List UInt8×Bool):=bq (bg l)
def Sg (l:List UInt8):UInt64×(List UInt8×Bool):=nP (MU l).2
def zB (l:List UInt8):List UInt8×(List UInt8×Bool):=eF (Sg l).2
def rV (l:List UInt8) (j:Nat):Int:=(bq (fQ (zB l).2 j)).1
def KZ (l:List UInt8):List UInt8×Bool:=fQ (zB l).2 4
set_option maxHeartbeats 1000000 in
theorem Bi (rv:Value) (p:Option Pl) (rb:List UInt8) (key:UInt64) (ao:Option Addr) (z:List UInt8) (n cap:Nat) (w:World) (hR:Out w rv p rb) (hn:Hid (z.length=n)) (hcap:n≤cap) (hz:At w ao z) (hsep:∀ b off,ao=some ⟨b,off,none⟩→∀ j,j<z.length→¬ Pl.has p b (off+j)) :
  Calls Tryz.prog 133 #[rv,.int .u64 (key.toNat:Int),.slice ao n cap] w fun e w'=>e = .returned (.tuple #[.agg #[.int .i64 (MU (bW key 2 z)).1,.int .u64 ((Sg (bW key 2 z)).1.toNat:Int),.string ⟨(zB (bW key 2 z)).1.toArray⟩,.int .i64 (rV (bW key 2 z) 0),.int .i64 (rV (bW key 2 z) 1),.int .i64 (rV (bW key 2 z) 2),.int .i64 (rV (bW key 2 z) 3)],.bool (fM (KZ (bW key 2 z)))])∧CF w w' (Pl.has p):=by
 have G0:=World.grownBy_alloc w (.cells #[.int .i64 0,.int .u64 0,.string ⟨#[]⟩,.int .i64 0,.int .i64 0,.int .i64 0,.int .i64 0] 211) none
 have HO:=hid (xO rv p rb key 2 2 ao z n cap _ (hR.grown G0) rfl (hid rfl) hn hcap (hz.below G0) hsep)
 obtain ⟨l,hl⟩:∃ l,bW key 2 z=l:=⟨_,rfl⟩
 obtain ⟨q0,h0⟩:∃ q,bg l=q:=⟨_,rfl⟩
 obtain ⟨qF,hF⟩:∃ q,bq q0=q:=⟨_,rfl⟩
 obtain ⟨qK,hK⟩:∃ q,nP qF.2=q:=⟨_,rfl⟩
 obtain ⟨qC,hC⟩:∃ q,eF qK.2=q:=⟨_,rfl⟩
 obtain ⟨N,hN⟩:∃ N:Nat→Int,∀ j,(bq (fQ qC.2 j)).1=N j:=⟨_,fun _=>rfl⟩
 obtain ⟨qE,hE⟩:∃ q,fQ qC.2 4=q:=⟨_,rfl⟩
 have hbad:=jF l
 rw[h0] at hbad
 have HQ0:=hid h0
 have HF:Hid (MU (bW key 2 z)=qF):=by show _=_;rw[MU,hl,h0,hF]
 have HK:Hid (Sg (bW key 2 z)=qK):=by show _=_;rw[Sg,HF.out,hK]
 have HC:Hid (zB (bW key 2 z)=qC):=by show _=_;rw[zB,HK.out,hC]
 have VB:Hid (∀ j,rV (bW key 2 z) j=N j):=fun j=>by rw[rV,HC.out,hN]
 have HE:Hid (KZ (bW key 2 z)=qE):=by show _=_;rw[KZ,HC.out,hE]
 have HQ:=hid (And.intro hF (And.intro hK (And.intro hC (And.intro hN hE))))
 clear hF hK hC hN hE
 rw[hl] at HO
 have HR:=hid hR
 clear hR hn hcap hz hsep G0 hl h0
 go_enter Tryz.func133,Tryz.ntmps133
 go_wp2_with fail
 refine HO.out.mono ?_
 rintro e w1 ⟨a,c,rfl,p1,p2,p3,p4,p5,p6⟩
 have hb:Bs (a,l) (.slice a l.length c) l:=Bs.self (S:=(a,l)) p1 p2 p3
 have HX:=hid (And.intro p5 (And.intro p4 p6))
 have NY:=hid (qL (a,l) l l.length a c w1 (hid rfl) p4 hb)
 rw[HQ0.out] at NY
 clear p1 p2 p3 p4 p5 p6 hb HO
 go_wp2_with fail
 refine NY.out.mono ?_
 rintro e w2 ⟨v,rfl,b2,g2⟩
 obtain ⟨a2,c2,rfl,_⟩:=id b2
 have DU:RS w (w2.alloc (.cells #[.slice a2 q0.1.length c2,.bool q0.2] 189)) (Pl.has p) (a,l) w2.heap.size q0 w.heap.size #[.int .i64 0,.int .u64 0,.string ⟨#[]⟩,.int .i64 0,.int .i64 0,.int .i64 0,.int .i64 0]:=RS.open HR.out HX.out.1 HX.out.2.1 HX.out.2.2 g2 b2 hbad
 have pl:=DU.places [0] (fun j hj=>by show j<7;simp at hj;omega) (by decide) 194
 rw[World.size_alloc] at pl
 have ra:=DU.alloc (.cells #[.pointer (some ⟨w.heap.size,0,none⟩)] 194)
 have HT0:=hid (iV (a,l) w2.heap.size _ _ 1 q0 _ (hid rfl) (by omega) (ra.stays [0]) ra.rd pl)
 have hst:fQ q0 1=qF.2:=congrArg Prod.snd HQ.out.1
 rw[hst] at HT0
 have XD:Hid ((bq (fQ q0 0)).1=qF.1):=congrArg Prod.fst HQ.out.1
 have H0:=hid ra
 clear b2 g2 NY hbad DU HX HR pl ra hst
 go_wp2_with fail
 refine HT0.out.mono ?_
 rintro e w3 ⟨rfl,rw3,cw3,XO⟩
 have V4:RS w w3 (Pl.has p) (a,l) w2.heap.size qF.2 w.heap.size #[.int .i64 qF.1,.int .u64 0,.string ⟨#[]⟩,.int .i64 0,.int .i64 0,.int .i64 0,.int .i64 0]:=by
  refine H0.out.nums XO rw3 (fun p hp=>?_) rfl (fun j hj=>?_)
  ·obtain ⟨j,_,rfl⟩:=List.mem_map.1 hp
   rfl
  ·have hj':j<7:=hj
   match j,hj' with
   | 0,_=>rw[←XD.out];exact cw3 0 (w.heap.size,0) rfl
   | 1,_=>exact XO.cell (H0.out.blk.cell 1) (fun e=>by rcases e with e | e;exact H0.out.ne e;simp at e)
   | 2,_=>exact XO.cell (H0.out.blk.cell 2) (fun e=>by rcases e with e | e;exact H0.out.ne e;simp at e)
   | 3,_=>exact XO.cell (H0.out.blk.cell 3) (fun e=>by rcases e with e | e;exact H0.out.ne e;simp at e)
   | 4,_=>exact XO.cell (H0.out.blk.cell 4) (fun e=>by rcases e with e | e;exact H0.out.ne e;simp at e)
   | 5,_=>exact XO.cell (H0.out.blk.cell 5) (fun e=>by rcases e with e | e;exact H0.out.ne e;simp at e)
   | 6,_=>exact XO.cell (H0.out.blk.cell 6) (fun e=>by rcases e with e | e;exact H0.out.ne e;simp at e)
 have Sb:=hid (OC (a,l) w2.heap.size qF.2 _ V4.src V4.ng V4.rd)
 rw[HQ.out.2.1] at Sb
 have H4:=hid V4
 clear rw3 cw3 XO V4 HT0 H0
 go_wp2_with fail
 refine Sb.out.mono ?_
 rintro e w4 ⟨rfl,r4,f4⟩
 have zi:RS w w4 (Pl.has p) (a,l) w2.heap.size qK.2 w.heap.size #[.int .i64 qF.1,.int .u64 0,.string ⟨#[]⟩,.int .i64 0,.int .i64 0,.int .i64 0,.int .i64 0]:=H4.out.read f4 r4
 obtain ⟨⟨d4,hd4⟩,hz4⟩:=zi.slot 1 (by show 1<7;decide)
 have Si:RS w (w4.setCell ⟨w.heap.size,1,none⟩ (.int .u64 (qK.1.toNat:Int))) (Pl.has p) (a,l) w2.heap.size qK.2 w.heap.size #[.int .i64 qF.1,.int .u64 (qK.1.toNat:Int),.string ⟨#[]⟩,.int .i64 0,.int .i64 0,.int .i64 0,.int .i64 0]:=zi.store 1 _
 have Y3:=hid (lF (a,l) w2.heap.size qK.2 _ Si.src Si.ng Si.rd)
 rw[HQ.out.2.2.1] at Y3
 have H5:=hid Si
 clear r4 f4 zi Si Sb H4
 go_wp2_with fail
 refine Y3.out.mono ?_
 rintro e w6 ⟨rfl,r6,f6⟩
 have YY:RS w w6 (Pl.has p) (a,l) w2.heap.size qC.2 w.heap.size #[.int .i64 qF.1,.int .u64 (qK.1.toNat:Int),.string ⟨#[]⟩,.int .i64 0,.int .i64 0,.int .i64 0,.int .i64 0]:=H5.out.read f6 r6
 obtain ⟨⟨d6,hd6⟩,hz6⟩:=YY.slot 2 (by show 2<7;decide)
 have Y4:RS w (w6.setCell ⟨w.heap.size,2,none⟩ (.string ⟨qC.1.toArray⟩)) (Pl.has p) (a,l) w2.heap.size qC.2 w.heap.size #[.int .i64 qF.1,.int .u64 (qK.1.toNat:Int),.string ⟨qC.1.toArray⟩,.int .i64 0,.int .i64 0,.int .i64 0,.int .i64 0]:=YY.store 2 _
 have pl:=Y4.places [3,4,5,6] (fun j hj=>by show j<7;simp at hj;omega) (by decide) 194
 rw[World.size_setCell] at pl
 have ra:=Y4.alloc (.cells #[.pointer (some ⟨w.heap.size,3,none⟩),.pointer (some ⟨w.heap.size,4,none⟩),.pointer (some ⟨w.heap.size,5,none⟩),.pointer (some ⟨w.heap.size,6,none⟩)] 194)
 have OE:=hid (iV (a,l) w2.heap.size _ _ 4 qC.2 _ (hid rfl) (by omega) (ra.stays [3,4,5,6]) ra.rd pl)
 simp only[HQ.out.2.2.2.1] at OE
 rw[HQ.out.2.2.2.2] at OE
 have H6:=hid ra
 clear r6 f6 YY Y4 Y3 H5 pl ra hd4 hz4
 go_wp2_with fail
 refine OE.out.mono ?_
 rintro e w7 ⟨rfl,rw7,cw7,fw7⟩
 have Io:RS w w7 (Pl.has p) (a,l) w2.heap.size qE w.heap.size #[.int .i64 qF.1,.int .u64 (qK.1.toNat:Int),.string ⟨qC.1.toArray⟩,.int .i64 (N 0),.int .i64 (N 1),.int .i64 (N 2),.int .i64 (N 3)]:=by
  refine H6.out.nums fw7 rw7 (fun p hp=>?_) rfl (fun j hj=>?_)
  ·obtain ⟨j,_,rfl⟩:=List.mem_map.1 hp
   rfl
  ·have hj':j<7:=hj
   match j,hj' with
   | 0,_=>exact fw7.cell (H6.out.blk.cell 0) (fun e=>by rcases e with e | e;exact H6.out.ne e;simp at e)
   | 1,_=>exact fw7.cell (H6.out.blk.cell 1) (fun e=>by rcases e with e | e;exact H6.out.ne e;simp at e)
   | 2,_=>exact fw7.cell (H6.out.blk.cell 2) (fun e=>by rcases e with e | e;exact H6.out.ne e;simp at e)
   | 3,_=>exact cw7 0 (w.heap.size,3) rfl
   | 4,_=>exact cw7 1 (w.heap.size,4) rfl
   | 5,_=>exact cw7 2 (w.heap.size,5) rfl
   | 6,_=>exact cw7 3 (w.heap.size,6) rfl
 clear rw7 cw7 fw7 OE H6 hd6 hz6
 obtain ⟨x0,x1,x2,x3,x4,x5,x6⟩:=Io.blk.abW
 have z0:=Io.blk.frozen 0
 have z1:=Io.blk.frozen 1
 have z2:=Io.blk.frozen 2
 have z3:=Io.blk.frozen 3
 have z4:=Io.blk.frozen 4
 have z5:=Io.blk.frozen 5
 have z6:=Io.blk.frozen 6
 have rX:=(Io.drewN 1).V8 (.int .i64 qF.1) (.int .u64 (qK.1.toNat:Int)) (.string ⟨qC.1.toArray⟩) (.int .i64 (N 0)) (.int .i64 (N 1)) (.int .i64 (N 2)) (.int .i64 (N 3))
 unfold V8 at rX
 have HY:=hid rX.blk.abW
 have YU:=hid rX
 have HD1:=hid (iF (a,l) w2.heap.size _ _ (w7.drewN 1) (Io.rd.drewN 1))
 have HD2:=hid (iF (a,l) w2.heap.size _ _ _ rX.rd)
 obtain ⟨dn,HDn⟩:∃ dn,Hid ((!qE.2 && decide (qE.1=[]))=dn):=⟨_,hid rfl⟩
 rw[HDn.out] at HD1 HD2
 clear rX Io
 go_wp2_with fail
 go_region_held3 (fun w'=>w'.cell? ⟨w.heap.size,0,none⟩=some (.int .i64 qF.1)∧w'.cell? ⟨w.heap.size,1,none⟩=some (.int .u64 (qK.1.toNat:Int))∧w'.cell? ⟨w.heap.size,2,none⟩=some (.string ⟨qC.1.toArray⟩)∧w'.cell? ⟨w.heap.size,3,none⟩=some (.int .i64 (N 0))∧w'.cell? ⟨w.heap.size,4,none⟩=some (.int .i64 (N 1))∧w'.cell? ⟨w.heap.size,5,none⟩=some (.int .i64 (N 2))∧w'.cell? ⟨w.heap.size,6,none⟩=some (.int .i64 (N 3))) (first | go_keep | exact HY.out) (first|(go_at_call 86;refine HD1.out.mono ?_;rintro e w9 ⟨rfl,rfl⟩)|(go_at_call 86;refine HD2.out.mono ?_;rintro e w9 ⟨rfl,rfl⟩))
 go_wp2
 exact bodyPost_ret (aD Tryz.results133 _ _ _ w.heap.size rfl _ YU.out.abV) rfl ⟨by rw[HF.out,HK.out,HC.out,VB.out,VB.out,VB.out,VB.out,HE.out,fM,HDn.out];rfl,YU.out.cf⟩
end Go.Proofs.YtpibgolaaaemnaaGreatDoor
namespace Go.Proofs.YtpibgolaaaemnaaGreatDoor
open Go.RowKit
set_option maxRecDepth 100000
theorem K7 {l i r:List UInt8} {t:UInt8} (h:Box.cut l=some (t,i,r)) (hi:i.length<128):l.length=i.length+r.length+2:=by
 unfold Box.cut at h
 split at h
 ·cases h
 ·rename_i hl
  have hd:(l.drop 1).length=l.length-1:=List.length_drop
  cases hc:Box.iw (l.drop 1) with
  | none=>rw[hc] at h;cases h
  | some q=>
   obtain ⟨n,r'⟩:=q
   rw[hc] at h
   simp only at h
   split at h
   ·rename_i hn
    injection h with h
    injection h with _ h
    injection h with h1 h2
    have e1:i.length=n:=by rw[←h1,List.length_take];omega
    have e2:r.length=r'.length-n:=by rw[←h2,List.length_drop]
    unfold Box.iw at hc
    split at hc
    ·rename_i hq
     injection hc with hc
     injection hc with _ hc
     have e3:r'.length=l.length-1-1:=by rw[←hc,List.length_drop,hd]
     have:1≤(l.drop 1).length:=hq.1
     omega
    ·split at hc
     ·split at hc
      ·injection hc with hc
       injection hc with hc _
       omega
      ·cases hc
     ·split at hc
      ·split at hc
       ·injection hc with hc
        injection hc with hc _
        omega
       ·cases hc
      ·cases hc
   ·cases h
theorem take_len {due:Nat} {s:List UInt8×Bool} (h:(aM due s.1 s.2).2.2=false) (hi:(aM due s.1 s.2).1.length<128):s.2=false∧s.1.length=(aM due s.1 s.2).1.length+(aM due s.1 s.2).2.1.length+2:=by
 revert h hi
 unfold aM
 cases hc:Box.cut s.1 with
 | none=>intro h;cases h
 | some q=>
  obtain ⟨t,i,r⟩:=q
  simp only
  split
  ·intro h hi
   exact ⟨h,K7 hc hi⟩
  ·intro h;cases h
theorem Wj {i:List UInt8} {v:Int} (h:Box.num i=some v):i.length≤8:=by
 unfold Box.num at h
 split at h
 ·rename_i q;exact q.2.1
 ·cases h
theorem lW {s:List UInt8×Bool} (h:(bq s).2.2=false):s.2=false∧s.1.length≤(bq s).2.1.length+10:=by
 revert h
 unfold bq
 cases hn:Box.num (aM 2 s.1 s.2).1 with
 | none=>intro h;cases h
 | some v=>
  intro h
  have:=Wj hn
  obtain ⟨h1,h2⟩:=take_len h (by omega)
  exact ⟨h1,by show _≤(aM 2 s.1 s.2).2.1.length+10;omega⟩
theorem K8 {l:List UInt8} (h:dH l=true):l.length≤16:=by
 unfold dH at h
 simp at h
 omega
theorem Iz {s:List UInt8×Bool} (h:(eF s).2.2=false):s.2=false∧s.1.length≤(eF s).2.1.length+18:=by
 revert h
 unfold eF
 simp only
 split
 ·rename_i hb
  intro h
  have:=K8 hb
  obtain ⟨h1,h2⟩:=take_len h (by omega)
  exact ⟨h1,by omega⟩
 ·intro h;cases h
theorem Wl {s:List UInt8×Bool} (h:(nP s).2.2=false):s.2=false∧s.1.length≤(nP s).2.1.length+10:=by
 revert h
 unfold nP
 simp only
 split
 ·rename_i hb
  intro h
  obtain ⟨h1,h2⟩:=take_len h (by omega)
  exact ⟨h1,by omega⟩
 ·intro h;cases h
theorem IA {l:List UInt8} (h:(bg l).2=false) (hi:(bg l).1.length<128):l.length=(bg l).1.length+2:=by
 revert h hi
 unfold bg
 split
 ·rename_i q
  intro _ hi
  have:=(take_len (s:=(l,false)) q.1 hi).2
  rw[q.2] at this
  simpa using this
 ·intro h;cases h
theorem Y6 {β:Type} {s:List UInt8×Bool} (h:mO s) (k:UInt64→List UInt8→Option β):(st s).bind (dh QT k)=(st (nP s).2).bind (k (nP s).1):=by
 obtain ⟨l,f⟩:=s
 cases f
 ·cases hc:Box.cut l with
  | none=>
   have ht:aM 4 l false=([],[],true):=by rw[aM,hc]
   simp[st,dh,hc,nP,ht]
  | some q=>
   obtain ⟨t,i,r⟩:=q
   by_cases e:t.toNat=4
   ·have ht:aM 4 l false=(i,r,false):=by rw[aM,hc];simp only[e,if_true]
    by_cases hb:i.length=8 <;> simp[st,dh,hc,nP,ht,QT,e,hb]
   ·have ht:aM 4 l false=([],[],true):=by rw[aM,hc];simp only[e,if_false]
    simp[st,dh,hc,nP,ht,QT,e]
 ·have hl:l=[]:=h rfl
  subst hl
  simp[st,nP,lG]
theorem mO.key {s:List UInt8×Bool} (h:mO s):mO (nP s).2:=by
 unfold nP
 simp only
 split
 ·exact h.take 4
 ·exact fun _=>rfl
theorem IB {key use:UInt64} {z:List UInt8} (h:z.length≤216):bW key use z=(pI key use z).getD []:=by
 unfold bW pI
 by_cases e:16≤z.length∧Pure.opens key use z=true
 ·rw[if_pos ⟨e.1,h,e.2⟩,if_pos e];rfl
 ·rw[if_neg (fun q=>e ⟨q.1,q.2.2⟩),if_neg e];rfl
theorem xQ {α:Type} (f:List UInt8→Option α) (key use:UInt64) (z:List UInt8) (h0:f []=none) (hl:∀ l a,f l=some a→l.length≤200):(pI key use z).bind f=f (bW key use z):=by
 by_cases h:z.length≤216
 ·rw[IB h]
  cases ho:pI key use z with
  | none=>exact h0.symm
  | some l=>rfl
 ·have e:bW key use z=[]:=by rw[bW,if_neg (fun q=>h q.2.1)]
  rw[e,h0]
  cases ho:pI key use z with
  | none=>rfl
  | some l=>
   have hlen:l.length=z.length-16:=by
    unfold pI at ho
    split at ho
    ·injection ho with ho
     rw[←ho,Pure.ni]
    ·cases ho
   cases hf:f l with
   | none=>simpa using hf
   | some a=>have:=hl l a hf;omega
def IC:List UInt8→Option Int:=dh eG fun t=>rP t
theorem Wm (l:List UInt8):uS l=IC l:=by
 unfold uS IC dh
 cases hc:Box.cut l with
 | none=>rfl
 | some q=>
  obtain ⟨t,i,r⟩:=q
  cases r with
  | nil=>cases hn:eG (t,i) <;> simp[hn,rP]
  | cons x r=>cases hn:eG (t,i) <;> simp[hn,rP]
theorem xR (l:List UInt8):uS l=if fM (bq (l,false)).2=true then some (bq (l,false)).1 else none:=by
 rw[Wm]
 have:IC l=(st (l,false)).bind IC:=rfl
 rw[this,IC,iR (s:=(l,false)) (fun e=>by cases e),sP]
 rfl
theorem Fg {s:List UInt8×Bool} (h:fM s=true):s.2=false∧s.1=[]:=by
 unfold fM at h
 simpa using h
theorem Sv (key:UInt64) (z:List UInt8):(pI key 1 z).bind uS=if fM (bq (bW key 1 z,false)).2=true then some (bq (bW key 1 z,false)).1 else none:=by
 rw[xQ uS key 1 z (by rw[xR];rfl) (fun l a h=>?_),xR]
 rw[xR] at h
 split at h
 ·rename_i hd
  obtain ⟨h1,h2⟩:=Fg hd
  have:=(lW h1).2
  rw[h2] at this
  simp at this
  omega
 ·cases h
def Fh:List UInt8→Option PF:=dh jT fun c=>dh eG fun t=>dh eG fun n=>rP ⟨c,t,n⟩
theorem OM (l:List UInt8):Fh l=(Box.eX l).bind Gt:=
 dm _ _ _ (fun c l=>dm _ _ _ (fun t l=>dm _ _ _ (fun n l=>tO (⟨c,t,n⟩:PF) l) l) l) l
theorem K9 {q0 s0 s1 s2:List UInt8×Bool} {a:List UInt8} {n0 n1:Int} (h0:mO q0) (hA:eF q0=(a,s0)) (e0:bq s0=(n0,s1)) (e1:bq s1=(n1,s2)) :
  (st q0).bind Fh=(if fM s2=true then some ⟨a,n0,n1⟩ else none)∧(fM s2=true→q0.2=false∧q0.1.length≤38):=by
 have b0:mO s0:=by have:=h0.name;rw[hA] at this;exact this
 have b1:mO s1:=by have:=b0.step;rw[e0] at this;exact this
 refine ⟨?_,fun h=>?_⟩
 ·unfold Fh
  rw[ug h0,hA,iR b0,e0,iR b1,e1,sP]
  rfl
 ·obtain ⟨h1,h2⟩:=Fg h
  have l1:=lW (s:=s1) (by rw[e1];exact h1)
  have l0:=lW (s:=s0) (by rw[e0];exact l1.1)
  have la:=Iz (s:=q0) (by rw[hA];exact l0.1)
  rw[e1] at l1
  rw[e0] at l0
  rw[hA] at la
  have l1':=l1.2
  have l0':=l0.2
  have la':=la.2
  simp only[h2,List.length_nil] at l1' l0' la'
  exact ⟨la.1,by omega⟩
def Qr (l:List UInt8):PF:=⟨(F7 l).1,Fa l 0,Fa l 1⟩
theorem ve (l:List UInt8):nX l=(if fM (MS l)=true then some (Qr l) else none)∧(fM (MS l)=true→l.length≤200):=by
 have e0:nX l=(st (bg l)).bind Fh:=by
  unfold nX
  rw[wT,Option.bind_assoc]
  congr 1
  funext i
  exact (OM i).symm
 have hA:eF (bg l)=F7 l:=rfl
 have hN0:bq (F7 l).2=(Fa l 0,fQ (F7 l).2 1):=uh _
 have hN1:bq (fQ (F7 l).2 1)=(Fa l 1,fQ (F7 l).2 2):=kK _ 1
 have hE:MS l=fQ (F7 l).2 2:=rfl
 have hQ:Qr l=⟨(F7 l).1,Fa l 0,Fa l 1⟩:=rfl
 have bb:=qQ l
 have hlen:=fun (h:(bg l).2=false) (hi:(bg l).1.length<128)=>IA h hi
 rw[e0]
 clear e0
 generalize Qr l=Q at *
 generalize MS l=E at *
 generalize fQ (F7 l).2 1=s1 at *
 generalize fQ (F7 l).2 2=s2 at *
 generalize Fa l 0=n0 at *
 generalize Fa l 1=n1 at *
 generalize F7 l=qA at *
 generalize bg l=q0 at *
 obtain ⟨a,s0⟩:=qA
 obtain ⟨c1,c2⟩:=K9 bb hA hN0 hN1
 rw[c1,hQ,hE]
 refine ⟨rfl,fun h=>?_⟩
 obtain ⟨d1,d2⟩:=c2 h
 have:=hlen d1 (by omega)
 omega
theorem vg (key:UInt64) (z:List UInt8):(pI key 4 z).bind nX=if fM (MS (bW key 4 z))=true then some (Qr (bW key 4 z)) else none:=by
 have hnil:nX []=none:=by
  rw[nX,wT]
  have:bg []=([],true):=by rw[bg,lG];rfl
  rw[this]
  rfl
 rw[xQ nX key 4 z hnil (fun l a h=>?_),(ve _).1]
 have:=(ve l).1
 rw[h] at this
 by_cases hd:fM (MS l)=true
 ·exact (ve l).2 hd
 ·rw[if_neg hd] at this;cases this
end Go.Proofs.YtpibgolaaaemnaaGreatDoor
namespace Go.Proofs.YtpibgolaaaemnaaGreatDoor
open Go.RowKit
set_option maxRecDepth 100000
def zF:List UInt8→Option TK:=dh eG fun f=>dh QT fun k=>dh jT fun c=>dh eG fun a=>dh eG fun s=>dh eG fun e=>dh eG fun r=>rP ⟨f,k,c,a,s,e,r⟩
theorem La (l:List UInt8):zF l=(Box.eX l).bind Dm:=
 dm _ _ _ (fun f l=>dm _ _ _ (fun k l=>dm _ _ _ (fun c l=>dm _ _ _ (fun a l=>dm _ _ _ (fun s l=>dm _ _ _ (fun e l=>dm _ _ _ (fun r l=>tO (⟨f,k,c,a,s,e,r⟩:TK) l) l) l) l) l) l) l) l
theorem IE {q0 sf sk s0 s1 s2 s3 s4:List UInt8×Bool} {fl:Int} {k:UInt64} {c:List UInt8} {n0 n1 n2 n3:Int} (h0:mO q0) (hF:bq q0=(fl,sf)) (hK:nP sf=(k,sk)) (hC:eF sk=(c,s0)) (e0:bq s0=(n0,s1)) (e1:bq s1=(n1,s2)) (e2:bq s2=(n2,s3)) (e3:bq s3=(n3,s4)) :
  (st q0).bind zF=(if fM s4=true then some ⟨fl,k,c,n0,n1,n2,n3⟩ else none)∧(fM s4=true→q0.2=false∧q0.1.length≤100):=by
 have bf:mO sf:=by have:=h0.step;rw[hF] at this;exact this
 have bk:mO sk:=by have:=bf.key;rw[hK] at this;exact this
 have b0:mO s0:=by have:=bk.name;rw[hC] at this;exact this
 have b1:mO s1:=by have:=b0.step;rw[e0] at this;exact this
 have b2:mO s2:=by have:=b1.step;rw[e1] at this;exact this
 have b3:mO s3:=by have:=b2.step;rw[e2] at this;exact this
 refine ⟨?_,fun h=>?_⟩
 ·unfold zF
  rw[iR h0,hF,Y6 bf,hK,ug bk,hC,iR b0,e0,iR b1,e1,iR b2,e2,iR b3,e3,sP]
  rfl
 ·obtain ⟨h1,h2⟩:=Fg h
  have l3:=lW (s:=s3) (by rw[e3];exact h1)
  have l2:=lW (s:=s2) (by rw[e2];exact l3.1)
  have l1:=lW (s:=s1) (by rw[e1];exact l2.1)
  have l0:=lW (s:=s0) (by rw[e0];exact l1.1)
  have lc:=Iz (s:=sk) (by rw[hC];exact l0.1)
  have lk:=Wl (s:=sf) (by rw[hK];exact lc.1)
  have lf:=lW (s:=q0) (by rw[hF];exact lk.1)
  rw[e3] at l3
  rw[e2] at l2
  rw[e1] at l1
  rw[e0] at l0
  rw[hC] at lc
  rw[hK] at lk
  rw[hF] at lf
  have l3':=l3.2
  have l2':=l2.2
  have l1':=l1.2
  have l0':=l0.2
  have Qs:=lc.2
  have lk':=lk.2
  have lf':=lf.2
  simp only[h2,List.length_nil] at l3' l2' l1' l0' Qs lk' lf'
  exact ⟨lf.1,by omega⟩
def OO (l:List UInt8):TK:=⟨(MU l).1,(Sg l).1,(zB l).1,rV l 0,rV l 1,rV l 2,rV l 3⟩
theorem sS (l:List UInt8):lU l=(if fM (KZ l)=true then some (OO l) else none)∧(fM (KZ l)=true→l.length≤200):=by
 have e0:lU l=(st (bg l)).bind zF:=by
  unfold lU
  rw[wT,Option.bind_assoc]
  congr 1
  funext i
  exact (La i).symm
 have hF:bq (bg l)=MU l:=rfl
 have hK:nP (MU l).2=Sg l:=rfl
 have hC:eF (Sg l).2=zB l:=rfl
 have hN0:bq (zB l).2=(rV l 0,fQ (zB l).2 1):=uh _
 have hN1:bq (fQ (zB l).2 1)=(rV l 1,fQ (zB l).2 2):=kK _ 1
 have Va:bq (fQ (zB l).2 2)=(rV l 2,fQ (zB l).2 3):=kK _ 2
 have XP:bq (fQ (zB l).2 3)=(rV l 3,fQ (zB l).2 4):=kK _ 3
 have hE:KZ l=fQ (zB l).2 4:=rfl
 have hQ:OO l=⟨(MU l).1,(Sg l).1,(zB l).1,rV l 0,rV l 1,rV l 2,rV l 3⟩:=rfl
 have bb:=qQ l
 have hlen:=fun (h:(bg l).2=false) (hi:(bg l).1.length<128)=>IA h hi
 rw[e0]
 clear e0
 generalize OO l=Q at *
 generalize KZ l=E at *
 generalize fQ (zB l).2 1=s1 at *
 generalize fQ (zB l).2 2=s2 at *
 generalize fQ (zB l).2 3=s3 at *
 generalize fQ (zB l).2 4=s4 at *
 generalize rV l 0=n0 at *
 generalize rV l 1=n1 at *
 generalize rV l 2=n2 at *
 generalize rV l 3=n3 at *
 generalize zB l=qC at *
 generalize Sg l=qK at *
 generalize MU l=qF at *
 generalize bg l=q0 at *
 obtain ⟨fl,sf⟩:=qF
 obtain ⟨k,sk⟩:=qK
 obtain ⟨c,s0⟩:=qC
 obtain ⟨c1,c2⟩:=IE bb hF hK hC hN0 hN1 Va XP
 rw[c1,hQ,hE]
 refine ⟨rfl,fun h=>?_⟩
 obtain ⟨d1,d2⟩:=c2 h
 have:=hlen d1 (by omega)
 omega
theorem oo (key:UInt64) (z:List UInt8):(pI key 2 z).bind lU=if fM (KZ (bW key 2 z))=true then some (OO (bW key 2 z)) else none:=by
 have hnil:lU []=none:=by
  rw[lU,wT]
  have:bg []=([],true):=by rw[bg,lG];rfl
  rw[this]
  rfl
 rw[xQ lU key 2 z hnil (fun l a h=>?_),(sS _).1]
 have:=(sS l).1
 rw[h] at this
 by_cases hd:fM (KZ l)=true
 ·exact (sS l).2 hd
 ·rw[if_neg hd] at this;cases this
end Go.Proofs.YtpibgolaaaemnaaGreatDoor
