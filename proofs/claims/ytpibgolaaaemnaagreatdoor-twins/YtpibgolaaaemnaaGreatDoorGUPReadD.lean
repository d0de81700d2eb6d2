/-
  
  
  
-/
import Derived.Test.YtpibgolaaaemnaaGreatDoorGUDeskD
import Derived.Test.YtpibgolaaaemnaaGreatDoorGUBoxN
import Derived.Test.YtpibgolaaaemnaaGreatDoorGUPBookA
namespace Go.Proofs.YtpibgolaaaemnaaGreatDoor
open Go.RowKit
set_option maxRecDepth 100000
def eF (s:List UInt8×Bool):List UInt8×(List UInt8×Bool):=
 ((aM 4 s.1 s.2).1,if dH (aM 4 s.1 s.2).1=true then (aM 4 s.1 s.2).2 else ([],true))
set_option maxHeartbeats 1000000 in
theorem E8 (S:Source) (g:Nat) (l:List UInt8) (f:Bool) (w:World) (hs:At w S.1 S.2) (ng:gG S g) (h:Rd w S g l f) :
  Calls Tryz.prog 81 #[.pointer (some ⟨g,0,none⟩)] w fun e w'=>e = .returned (.string ⟨(eF (l,f)).1.toArray⟩)∧Rd w' S g (eF (l,f)).2.1 (eF (l,f)).2.2∧CF w w' (DK g):=by
 have HT:=hid (wP S g l f w hs h)
 have HS:=hid (And.intro hs ng)
 clear h hs ng
 go_enter Tryz.func81,Tryz.ntmps81
 go_wp2_with fail
 refine HT.out.mono ?_
 rintro e w2 ⟨v,rfl,b2,r2,f2⟩
 obtain ⟨a2,c2,rfl,_⟩:=id b2
 have ba:=b2.at (w:=w2) (gG.at HS.out.1 f2.uY (fun _ e=>e ▸ HS.out.2))
 have hcv:=iq (P:=Tryz.prog) w2 25 9 5 Tryz.underlying25 Tryz.underlying5 Tryz.underlying9 a2 c2 (aM 4 l f).1 ba.2.2.2.2
 have HI:=hid (Aj (aM 4 l f).1 (aM 4 l f).1.length ⟨(aM 4 l f).1.toArray⟩ w2 (hid rfl) (hid rfl) (by have:=ba.2.2.2.1;omega))
 have HN:=hid (pR S g _ _ (dH (aM 4 l f).1) w2 r2)
 have HF:=hid f2
 clear HT b2 r2 f2 ba
 go_wp2_with fail
 refine HI.out.mono ?_
 rintro e w3 ⟨rfl,rfl⟩
 go_wp2_with fail
 refine HN.out.mono ?_
 rintro e w4 ⟨rfl,r4,f4⟩
 have F4:=hid (HF.out.trans f4 (fun _ _ _ e=>e))
 have HR:Hid (Rd w4 S g (eF (l,f)).2.1 (eF (l,f)).2.2):=by
  unfold eF
  cases hb:dH (aM 4 l f).1
  ·rw[hb] at r4;simp only[Bool.false_eq_true,if_false] at r4 ⊢;exact r4
  ·rw[hb] at r4;simp only[if_true] at r4 ⊢;exact r4
 clear r4 f4 HN HI
 go_wp2
 go_ret
 exact ⟨rfl,HR.out,F4.out⟩
def ig (s:List UInt8×Bool):(Int×List UInt8)×(List UInt8×Bool):=
 (((bq s).1,(aM 4 (bq s).2.1 (bq s).2.2).1),(aM 4 (bq s).2.1 (bq s).2.2).2)
theorem Tryz.KW:(Tryz.prog.info? 159).map (·.size)=some 2:=by kernel_rfl
theorem YW {w:World} {g a:Nat} {c0 c1:Value} (h0:w.cell? ⟨g,a,none⟩=some c0) (h1:w.cell? ⟨g,a+1,none⟩=some c1):w.rangeAt g a [c0,c1]:=by
 intro j u hu
 match j,hu with
 | 0,hu=>injection hu with hu;subst hu;exact h0
 | 1,hu=>injection hu with hu;subst hu;exact h1
 | j+2,hu=>simp at hu
theorem Im {w:World} {g:Nat} {x y:Value} (h0:w.cell? ⟨g,0,none⟩=some x) (h1:w.cell? ⟨g,1,none⟩=some y):(loadVar 159 ⟨g,0,none⟩).run Tryz.prog w = .ok (.agg #[x,y]) w:=dN (YW h0 h1) 159 _ Tryz.underlying159 rfl Tryz.KW
set_option maxHeartbeats 1000000 in
theorem Bf (S:Source) (g:Nat) (l:List UInt8) (f:Bool) (w:World) (hs:At w S.1 S.2) (ng:gG S g) (h:Rd w S g l f) :
  Calls Tryz.prog 85 #[.pointer (some ⟨g,0,none⟩)] w fun e w'=>∃ v,e = .returned (.agg #[.int .i64 (ig (l,f)).1.1,v])∧Bs S v (ig (l,f)).1.2∧Rd w' S g (ig (l,f)).2.1 (ig (l,f)).2.2∧CF w w' (DK g):=by
 have hgl:=h.lt
 have G1:w.grownBy ((w.alloc (.cells #[.int .i64 0,.slice none 0 0] 159)).alloc (.cells #[.pointer (some ⟨w.heap.size,0,none⟩)] 194)) none:=aC (World.grownBy_alloc w _ none) _
 have r1:Rd ((w.alloc (.cells #[.int .i64 0,.slice none 0 0] 159)).alloc (.cells #[.pointer (some ⟨w.heap.size,0,none⟩)] 194)) S g l f:=h.keep (G1.block g hgl (by simp))
 have sz:(w.alloc (.cells #[.int .i64 0,.slice none 0 0] 159)).heap.size=w.heap.size+1:=World.size_alloc _ _
 have hB1:=(bI.new w #[.int .i64 0,.slice none 0 0] 159).alloc (.cells #[.pointer (some ⟨w.heap.size,0,none⟩)] 194)
 have hP1:=bI.new (w.alloc (.cells #[.int .i64 0,.slice none 0 0] 159)) #[.pointer (some ⟨w.heap.size,0,none⟩)] 194
 rw[sz] at hP1
 have L1:Live ((w.alloc (.cells #[.int .i64 0,.slice none 0 0] 159)).alloc (.cells #[.pointer (some ⟨w.heap.size,0,none⟩)] 194)) w.heap.size 2:=(Live.new w _ _).alloc _
 have pl:Bd ((w.alloc (.cells #[.int .i64 0,.slice none 0 0] 159)).alloc (.cells #[.pointer (some ⟨w.heap.size,0,none⟩)] 194)) g (w.heap.size+1) [(w.heap.size,0)]:=⟨hP1,fun p hp=>by rw[List.mem_singleton.1 hp];exact L1.mono (by omega),fun p hp=>by rw[List.mem_singleton.1 hp];exact ⟨by show w.heap.size≠g;omega,by show w.heap.size≠w.heap.size+1;omega⟩,by omega,by simp⟩
 have stay:uG ((w.alloc (.cells #[.int .i64 0,.slice none 0 0] 159)).alloc (.cells #[.pointer (some ⟨w.heap.size,0,none⟩)] 194)) S g [(w.heap.size,0)]:=uG.of (hs.below G1) ng (fun p hp=>by rw[List.mem_singleton.1 hp];exact gG.new hs (Nat.le_refl _))
 have HT:=hid (mh S g (w.heap.size+1) [(w.heap.size,0)] 1 l f _ (hid rfl) (by omega) stay r1 pl)
 have HST:=hid stay
 have yx:=hid (And.intro L1 hB1)
 have nH:=hid G1
 clear h r1 pl hP1 hB1 L1 G1 sz stay hs ng
 go_enter Tryz.func85,Tryz.ntmps85
 go_wp2_with fail
 refine HT.out.mono ?_
 rintro e w2 ⟨rfl,r2,c2,f2⟩
 have d0:w2.cell? ⟨w.heap.size,0,none⟩=some (.int .i64 (bq (l,f)).1):=c2 0 (w.heap.size,0) rfl
 have d1:w2.cell? ⟨w.heap.size,1,none⟩=some (.slice none 0 0):=f2.cell (yx.out.2.cell 1) (fun e=>by
  rcases e with e | e
  ·omega
  ·simp at e)
 have HX:=hid (wP S g _ _ w2 (HST.out _ f2) r2)
 have yG:=hid (CF.before nH.out f2)
 have L2:=hid (yx.out.1.cf f2)
 clear r2 c2 f2 HT
 go_wp2_with fail
 refine HX.out.mono ?_
 rintro e w3 ⟨v,rfl,b3,r3,f3⟩
 obtain ⟨a3,k3,rfl,_⟩:=id b3
 have hne:w.heap.size≠g:=by omega
 have e0:=f3.cell d0 hne
 have e1:=f3.cell d1 hne
 have L3:=L2.out.cf f3
 have z0:=L3.frozen 0
 have z1:=L3.frozen 1
 have s2:=yG.out.size
 have s3:=f3.size
 have c1:CF w w2 (DK g):=yG.out.mono (fun b o hb e=>by
  rcases e with e | e
  ·exact e
  ·have e2:=List.mem_singleton.1 e
   have e3:b=w.heap.size:=congrArg Prod.fst e2
   omega)
 have U9:Hid (CF w (((w3.setCell ⟨w.heap.size,1,none⟩ (.slice a3 (aM 4 (fQ (l,f) 1).1 (fQ (l,f) 1).2).1.length k3)).setCell ⟨w.heap.size,0,none⟩ (.int .i64 (bq (l,f)).1)).setCell ⟨w.heap.size,1,none⟩ (.slice a3 (aM 4 (fQ (l,f) 1).1 (fQ (l,f) 1).2).1.length k3)) (DK g)):=(((c1.trans f3 (fun _ _ _ e=>e)).setCell w.heap.size 1 _ (fun q=>absurd q (Nat.lt_irrefl _))).setCell w.heap.size 0 _ (fun q=>absurd q (Nat.lt_irrefl _))).setCell w.heap.size 1 _ (fun q=>absurd q (Nat.lt_irrefl _))
 have fx:uW w3 (((w3.setCell ⟨w.heap.size,1,none⟩ (.slice a3 (aM 4 (fQ (l,f) 1).1 (fQ (l,f) 1).2).1.length k3)).setCell ⟨w.heap.size,0,none⟩ (.int .i64 (bq (l,f)).1)).setCell ⟨w.heap.size,1,none⟩ (.slice a3 (aM 4 (fQ (l,f) 1).1 (fQ (l,f) 1).2).1.length k3)) (fun b=>b=w.heap.size):=(((uW.refl w3 (fun b=>b=w.heap.size)).set (g:=w.heap.size) rfl 1 _).set (g:=w.heap.size) rfl 0 _).set (g:=w.heap.size) rfl 1 _
 have HR:=hid (r3.XN fx (fun e=>hne e.symm))
 have HBs:=hid b3
 have HLd:=hid (Im (aa (.slice a3 (aM 4 (fQ (l,f) 1).1 (fQ (l,f) 1).2).1.length k3) (bL (.int .i64 (bq (l,f)).1) (aa (.slice a3 (aM 4 (fQ (l,f) 1).1 (fQ (l,f) 1).2).1.length k3) e0 (by decide))) (by decide)) (bL (.slice a3 (aM 4 (fQ (l,f) 1).1 (fQ (l,f) 1).2).1.length k3) (aa (.int .i64 (bq (l,f)).1) (bL (.slice a3 (aM 4 (fQ (l,f) 1).1 (fQ (l,f) 1).2).1.length k3) e1) (by decide))))
 clear fx c1 r3 b3 f3 L3 s2 s3 HX
 go_wp2
 exact bodyPost_ret (jE Tryz.results85 _ _ _ w.heap.size rfl _ HLd.out) rfl ⟨_,rfl,HBs.out,HR.out,U9.out⟩
def gQ (aG:List UInt8) (due:Int):List UInt8×Bool:=
 if (bq (bg aG)).1=due∧aG.length≤300 then (bq (bg aG)).2 else ([],true)
end Go.Proofs.YtpibgolaaaemnaaGreatDoor
namespace Go.Proofs.YtpibgolaaaemnaaGreatDoor
open Go.RowKit
set_option maxRecDepth 100000
theorem jF (zs:List UInt8):(bg zs).2=true→(bg zs).1=[]:=by
 unfold bg
 split
 ·intro e;cases e
 ·exact fun _=>rfl
set_option maxHeartbeats 2000000 in
theorem DN (S:Source) (aG:List UInt8) (n:Nat) (ao:Option Addr) (cap:Nat) (due:Int) (w:World) (hn:Hid (aG.length=n)) (hs:At w S.1 S.2) (h:Bs S (.slice ao n cap) aG) :
  Calls Tryz.prog 80 #[.slice ao n cap,.int .i64 due] w fun e w'=>∃ v,e = .returned (.agg #[v,.bool (gQ aG due).2])∧Bs S v (gQ aG due).1∧w.grownBy w' none:=by
 have G0:=World.grownBy_alloc w (.cells #[.slice none 0 0,.bool false] 189) none
 have HB0:=hid (bI.new w #[.slice none 0 0,.bool false] 189)
 have s0:(w.alloc (.cells #[.slice none 0 0,.bool false] 189)).heap.size=w.heap.size+1:=World.size_alloc _ _
 have HL:=hid (qL S aG n ao cap _ hn (hs.below G0) h)
 have mD:=hid G0
 obtain ⟨kk,HK⟩:∃ kk,Hid ((bq (bg aG)).1=kk):=⟨_,hid rfl⟩
 obtain ⟨ok,hok1,hok2⟩:∃ ok:Bool,(ok=true↔kk=due∧n≤300)∧True:=⟨decide (kk=due∧n≤300),by simp,trivial⟩
 have HM:Hid (gQ aG due=if ok=true then (bq (bg aG)).2 else ([],true)):=by
  show _=_
  unfold gQ
  rw[HK.out,hn.out]
  by_cases e:kk=due∧n≤300
  ·rw[if_pos e,if_pos (hok1.2 e)]
  ·rw[if_neg e,if_neg (fun q=>e (hok1.1 q))]
 have F6:=hid (hs.below G0)
 clear h G0 hok2 hs
 go_enter Tryz.func80,Tryz.ntmps80
 go_wp2_with fail
 refine HL.out.mono ?_
 rintro e w1 ⟨v,rfl,b1,g1⟩
 obtain ⟨a1,c1,rfl,_⟩:=id b1
 have s1:=g1.size
 obtain ⟨ll,HLL⟩:∃ ll,Hid (bg aG=ll):=⟨_,hid rfl⟩
 rw[HLL.out] at b1 HK HM
 have hbad:=jF aG
 rw[HLL.out] at hbad ⊢
 have za:(w1.alloc (.cells #[.slice a1 ll.1.length c1,.bool ll.2] 189)).heap.size=w1.heap.size+1:=World.size_alloc _ _
 have zb:((w1.alloc (.cells #[.slice a1 ll.1.length c1,.bool ll.2] 189)).alloc (.cells #[.int .i64 0] 2)).heap.size=w1.heap.size+1+1:=by rw[World.size_alloc,za]
 have ga:=World.grownBy_alloc w1 (.cells #[.slice a1 ll.1.length c1,.bool ll.2] 189) none
 have gx:(w1.alloc (.cells #[.slice a1 ll.1.length c1,.bool ll.2] 189)).grownBy (((w1.alloc (.cells #[.slice a1 ll.1.length c1,.bool ll.2] 189)).alloc (.cells #[.int .i64 0] 2)).alloc (.cells #[.pointer (some ⟨w1.heap.size+1,0,none⟩)] 194)) none:=aC (World.grownBy_alloc _ _ none) _
 have r1:=Rd.new (w:=w1) b1 hbad 189
 have R1:Rd (((w1.alloc (.cells #[.slice a1 ll.1.length c1,.bool ll.2] 189)).alloc (.cells #[.int .i64 0] 2)).alloc (.cells #[.pointer (some ⟨w1.heap.size+1,0,none⟩)] 194)) S w1.heap.size ll.1 ll.2:=r1.keep (gx.block _ (by omega) (by simp))
 have hI:=(bI.new (w1.alloc (.cells #[.slice a1 ll.1.length c1,.bool ll.2] 189)) #[.int .i64 0] 2).alloc (.cells #[.pointer (some ⟨w1.heap.size+1,0,none⟩)] 194)
 rw[za] at hI
 have hP:=bI.new ((w1.alloc (.cells #[.slice a1 ll.1.length c1,.bool ll.2] 189)).alloc (.cells #[.int .i64 0] 2)) #[.pointer (some ⟨w1.heap.size+1,0,none⟩)] 194
 rw[zb] at hP
 have LI:Live (((w1.alloc (.cells #[.slice a1 ll.1.length c1,.bool ll.2] 189)).alloc (.cells #[.int .i64 0] 2)).alloc (.cells #[.pointer (some ⟨w1.heap.size+1,0,none⟩)] 194)) (w1.heap.size+1) 1:=by
  have:=(Live.new (w1.alloc (.cells #[.slice a1 ll.1.length c1,.bool ll.2] 189)) #[.int .i64 0] 2).alloc (.cells #[.pointer (some ⟨w1.heap.size+1,0,none⟩)] 194)
  rw[za] at this
  exact this
 have pl:Bd (((w1.alloc (.cells #[.slice a1 ll.1.length c1,.bool ll.2] 189)).alloc (.cells #[.int .i64 0] 2)).alloc (.cells #[.pointer (some ⟨w1.heap.size+1,0,none⟩)] 194)) w1.heap.size (w1.heap.size+1+1) [(w1.heap.size+1,0)]:=⟨hP,fun p hp=>by rw[List.mem_singleton.1 hp];exact LI,fun p hp=>by rw[List.mem_singleton.1 hp];exact ⟨by show w1.heap.size+1≠w1.heap.size;omega,by show w1.heap.size+1≠w1.heap.size+1+1;omega⟩,by omega,by simp⟩
 have hs1:=F6.out.below g1
 have stay:=uG.of (ps:=[(w1.heap.size+1,0)]) ((hs1.below ga).below gx) (gG.new hs1 (Nat.le_refl w1.heap.size)) (fun p hp=>by rw[List.mem_singleton.1 hp];exact gG.new hs1 (Nat.le_succ _))
 have HT:=hid (mh S w1.heap.size (w1.heap.size+1+1) [(w1.heap.size+1,0)] 1 ll.1 ll.2 _ (hid rfl) (by omega) stay R1 pl)
 have HBx:Hid (bI (((w1.alloc (.cells #[.slice a1 ll.1.length c1,.bool ll.2] 189)).alloc (.cells #[.int .i64 0] 2)).alloc (.cells #[.pointer (some ⟨w1.heap.size+1,0,none⟩)] 194)) w.heap.size #[.slice none 0 0,.bool false]):=((HB0.out.grown g1 (by simp)).grown ga (by simp)).grown gx (by simp)
 have HGx:=hid (ae mD.out (ae g1 (ae ga gx)))
 have HLx:=hid LI
 have zw:(((w1.alloc (.cells #[.slice a1 ll.1.length c1,.bool ll.2] 189)).alloc (.cells #[.int .i64 0] 2)).alloc (.cells #[.pointer (some ⟨w1.heap.size+1,0,none⟩)] 194)).heap.size=w1.heap.size+1+1+1:=by rw[World.size_alloc,zb]
 clear ga gx r1 R1 hI hP LI pl mD HB0 g1 b1 HL hs1 stay F6
 go_wp2_with fail
 refine HT.out.mono ?_
 rintro e w2 ⟨rfl,r2,c2,f2⟩
 have d0:w2.cell? ⟨w1.heap.size+1,0,none⟩=some (.int .i64 kk):=by rw[←HK.out];exact c2 0 (w1.heap.size+1,0) rfl
 have hB2:bI w2 w.heap.size #[.slice none 0 0,.bool false]:=HBx.out.kept (f2.block _ HBx.out.lt (fun o e=>by
  rcases e with e | e
  ·omega
  ·have e2:=congrArg Prod.fst (List.mem_singleton.1 e);have e3:w.heap.size=w1.heap.size+1:=e2;omega))
 have hG2:w.grownBy w2 none:=⟨f2.os.trans HGx.out.os,f2.tape.trans HGx.out.tape,f2.output.trans HGx.out.output,Nat.le_trans HGx.out.size f2.size,fun b hb _=>by
  rw[f2.block b (by omega) (fun o e=>by
   rcases e with e | e
   ·omega
   ·have e2:=congrArg Prod.fst (List.mem_singleton.1 e);have e3:b=w1.heap.size+1:=e2;omega),HGx.out.block b hb (by simp)]⟩
 have s2:=f2.size
 have HN:=hid (pR S w1.heap.size _ _ ok w2 r2)
 have H2:=hid (And.intro hB2 hG2)
 clear r2 c2 f2 hB2 hG2 HT
 have hcase:(ok=true∧(kk==due)=true∧(n:Int)≤300)∨(ok=false∧(kk==due)=true∧decide ((n:Int)≤300)=false)∨(ok=false∧(kk==due)=false∧True):=by
  by_cases e1:kk=due
  ·by_cases e2:n≤300
   ·exact .inl ⟨hok1.2 ⟨e1,e2⟩,by rw[e1];exact beq_self_eq_true _,by omega⟩
   ·refine .inr (.inl ⟨?_,by rw[e1];exact beq_self_eq_true _,decide_eq_false (by omega)⟩)
    cases ok
    ·rfl
    ·exact absurd (hok1.1 rfl).2 e2
  ·refine .inr (.inr ⟨?_,by rw[beq_eq_false_iff_ne];exact e1,trivial⟩)
   cases ok
   ·rfl
   ·exact absurd (hok1.1 rfl).1 e1
 have hne:w.heap.size≠w1.heap.size:=by omega
 have hw1:w.heap.size≤w1.heap.size∧w1.heap.size<w2.heap.size:=by omega
 clear hok1 hbad s0 s1 za zb zw s2 HBx HGx HLx HLL
 have hst:fQ (ll.1,ll.2) 1=(bq ll).2:=rfl
 rw[hst] at HN
 clear hst
 rcases hcase with ⟨rfl,hq,hle⟩ | ⟨rfl,hq,hle⟩ | ⟨rfl,hq,_⟩
 all_goals
  go_wp2_with fail
  refine HN.out.mono ?_
  rintro e w4 ⟨rfl,r4,f4⟩
  simp only[Bool.false_eq_true,if_false,if_true] at r4 HM
  obtain ⟨a4,c4,hb4,p1,p2,p3,p4,p6⟩:=r4
  obtain ⟨c0,c1⟩:=hb4.two
  have hB4:bI w4 w.heap.size #[.slice none 0 0,.bool false]:=H2.out.1.kept (f4.uY.block _ H2.out.1.lt hne)
  obtain ⟨d2,d1⟩:=hB4.two
  have g0:=hB4.frozen 0
  have g1:=hB4.frozen 1
  have vS:=hid (qJ H2.out.2 f4.uY hw1.1)
  have zA:=hid (And.intro hb4 (And.intro hB4 (And.intro p1 (And.intro p2 (And.intro p3 p4)))))
  have s4:=f4.size
  clear hb4 hB4 p1 p2 p3 p4 p6 f4 HN H2 d0
  go_wp2
  refine bodyPost_ret (jE Tryz.results80 _ _ _ w.heap.size rfl _ (wQ ((zA.out.2.1.set 0 _).set 1 _))) rfl ⟨_,by rw[HM.out],?_,?_⟩
  ·rw[HM.out]
   exact ⟨a4,c4,rfl,zA.out.2.2.1,zA.out.2.2.2.1,zA.out.2.2.2.2.1,zA.out.2.2.2.2.2⟩
  ·exact aK (aK vS.out (Nat.le_refl _)) (Nat.le_refl _)
end Go.Proofs.YtpibgolaaaemnaaGreatDoor
namespace Go.Proofs.YtpibgolaaaemnaaGreatDoor
open Go.RowKit
set_option maxRecDepth 100000
theorem bI.cf {w w':World} {ex:Nat→Nat→Prop} {g:Nat} {cs cs':Array Value} (h:bI w g cs) (k:CF w w' ex) (hs:cs'.size=cs.size) (hc:∀ j,j<cs.size→w'.cell? ⟨g,j,none⟩=cs'[j]?):bI w' g cs':=by
 obtain ⟨e,he⟩:=h
 obtain ⟨cur,h1,h2,_⟩:=k.cells g cs e (0,0) he
 refine ⟨e,?_⟩
 have hb:bI w' g cur:=⟨e,h1⟩
 have:cur=cs':=Array.ext_getElem? fun j=>by
  by_cases hj:j<cs.size
  ·rw[←hc j hj,hb.cell j]
  ·rw[Array.getElem?_eq_none (by omega),Array.getElem?_eq_none (by omega)]
 rw[←this]
 exact h1
structure RS (w W:World) (ex:Nat→Nat→Prop) (S:Source) (g:Nat) (s:List UInt8×Bool) (fb:Nat) (cs:Array Value):Prop where
 rd:Rd W S g s.1 s.2
 blk:bI W fb cs
 cf:CF w W ex
 src:At W S.1 S.2
 ng:gG S g
 nf:gG S fb
 hf:w.heap.size≤fb
 hg:w.heap.size≤g
 ne:fb≠g
variable {w W W':World} {ex:Nat→Nat→Prop} {S:Source} {g fb:Nat} {s s':List UInt8×Bool} {cs:Array Value}
theorem RS.read (h:RS w W ex S g s fb cs) (c:CF W W' (DK g)) (r:Rd W' S g s'.1 s'.2):RS w W' ex S g s' fb cs:=
 ⟨r,h.blk.kept (c.uY.block fb h.blk.lt h.ne),h.cf.trans c (fun i _ hi e=>by have e:i=g:=e;have:=h.hg;omega),gG.at h.src c.uY (fun _ e=>e ▸ h.ng),h.ng,h.nf,h.hf,h.hg,h.ne⟩
theorem RS.store (h:RS w W ex S g s fb cs) (j:Nat) (v:Value):RS w (W.setCell ⟨fb,j,none⟩ v) ex S g s fb (cs.setIfInBounds j v):=by
 have f:uW W (W.setCell ⟨fb,j,none⟩ v) (fun b=>b=fb):=(uW.refl W (fun b=>b=fb)).set (g:=fb) rfl j v
 exact ⟨h.rd.XN f (fun e=>h.ne e.symm),h.blk.set j v,h.cf.setCell fb j v (fun q=>by have:=h.hf;omega),gG.at h.src f (fun _ e=>e ▸ h.nf),h.ng,h.nf,h.hf,h.hg,h.ne⟩
theorem RS.grown (h:RS w W ex S g s fb cs) (k:W.grownBy W' none):RS w W' ex S g s fb cs:=
 ⟨h.rd.keep (k.block g h.rd.lt (by simp)),h.blk.grown k (by simp),h.cf.grown k,h.src.below k,h.ng,h.nf,h.hf,h.hg,h.ne⟩
theorem RS.alloc (h:RS w W ex S g s fb cs) (o:Obj):RS w (W.alloc o) ex S g s fb cs:=h.grown (World.grownBy_alloc W o none)
theorem RS.nums {ps:List (Nat×Nat)} {cs':Array Value} (h:RS w W ex S g s fb cs) (c:CF W W' (YV g ps)) (r:Rd W' S g s'.1 s'.2) (hp:∀ p∈ps,p.1=fb) (hs:cs'.size=cs.size) (hc:∀ j,j<cs.size→W'.cell? ⟨fb,j,none⟩=cs'[j]?):RS w W' ex S g s' fb cs':=by
 refine ⟨r,h.blk.cf c hs hc,h.cf.trans c (fun i o hi e=>?_),uG.of h.src h.ng (fun p q=>by rw[hp p q];exact h.nf) W' c,h.ng,h.nf,h.hf,h.hg,h.ne⟩
 rcases e with e | e
 ·have:=h.hg;omega
 ·have e2:i=fb:=hp _ e
  have:=h.hf;omega
theorem RS.size (h:RS w W ex S g s fb cs):w.heap.size≤W.heap.size∧fb<W.heap.size∧g<W.heap.size:=⟨h.cf.size,h.blk.lt,h.rd.lt⟩
theorem RS.places (h:RS w W ex S g s fb cs) (js:List Nat) (hj:∀ j∈js,j<cs.size) (hnd:js.Nodup) (t:TypeId):Bd (W.alloc (.cells ((js.map fun j=>(fb,j)).map fun p=>Value.pointer (some ⟨p.1,p.2,none⟩)).toArray t)) g W.heap.size (js.map fun j=>(fb,j)):=by
 obtain ⟨z1,z2,z4⟩:=h.size
 have L:Live W fb cs.size:=by obtain ⟨e,he⟩:=h.blk;exact ⟨cs,e,he,Nat.le_refl _⟩
 refine ⟨bI.new W _ t,fun p hp=>?_,fun p hp=>?_,by omega,?_⟩
 ·obtain ⟨j,hj1,rfl⟩:=List.mem_map.1 hp
  exact (L.mono (by have:=hj j hj1;show j+1≤_;omega)).alloc _
 ·obtain ⟨j,hj1,rfl⟩:=List.mem_map.1 hp
  exact ⟨h.ne,by show fb≠_;omega⟩
 ·exact List.pairwise_map.2 (hnd.imp fun hab e=>hab (by injection e))
theorem RS.stays (h:RS w W ex S g s fb cs) (js:List Nat):uG W S g (js.map fun j=>(fb,j)):=uG.of h.src h.ng (fun p hp=>by
 obtain ⟨j,_,rfl⟩:=List.mem_map.1 hp
 exact h.nf)
theorem RS.other {g':Nat} (h:RS w W ex S g s fb cs) (c:CF W W' (DK g')) (n':gG S g') (h1:g'≠g) (h2:g'≠fb) (h3:w.heap.size≤g'):RS w W' ex S g s fb cs:=
 ⟨h.rd.XN c.uY (fun e=>h1 e.symm),h.blk.kept (c.uY.block fb h.blk.lt (fun e=>h2 e.symm)),h.cf.trans c (fun i _ hi e=>by have e:i=g':=e;omega),gG.at h.src c.uY (fun _ e=>e ▸ n'),h.ng,h.nf,h.hf,h.hg,h.ne⟩
theorem lF (S:Source) (g:Nat) (s:List UInt8×Bool) (w:World) (hs:At w S.1 S.2) (ng:gG S g) (h:Rd w S g s.1 s.2) :
  Calls Tryz.prog 81 #[.pointer (some ⟨g,0,none⟩)] w fun e w'=>e = .returned (.string ⟨(eF s).1.toArray⟩)∧Rd w' S g (eF s).2.1 (eF s).2.2∧CF w w' (DK g):=E8 S g s.1 s.2 w hs ng h
theorem wR (S:Source) (g:Nat) (s:List UInt8×Bool) (w:World) (hs:At w S.1 S.2) (ng:gG S g) (h:Rd w S g s.1 s.2) :
  Calls Tryz.prog 85 #[.pointer (some ⟨g,0,none⟩)] w fun e w'=>∃ v,e = .returned (.agg #[.int .i64 (ig s).1.1,v])∧Bs S v (ig s).1.2∧Rd w' S g (ig s).2.1 (ig s).2.2∧CF w w' (DK g):=Bf S g s.1 s.2 w hs ng h
theorem iV (S:Source) (g pb:Nat) (ps:List (Nat×Nat)) (n:Nat) (s:List UInt8×Bool) (w:World) (hn:Hid (ps.length=n)) (hnl:n≤100) (hs:uG w S g ps) (h:Rd w S g s.1 s.2) (hp:Bd w g pb ps) :
  Calls Tryz.prog 82 #[.pointer (some ⟨g,0,none⟩),.slice (some ⟨pb,0,none⟩) n n] w fun e w'=>e = .returned (.tuple #[])∧Rd w' S g (fQ s n).1 (fQ s n).2∧(∀ j p,ps[j]?=some p→w'.cell? ⟨p.1,p.2,none⟩=some (.int .i64 (bq (fQ s j)).1))∧CF w w' (YV g ps):=mh S g pb ps n s.1 s.2 w hn hnl hs h hp
theorem RS.slot (h:RS w W ex S g s fb cs) (j:Nat) (hj:j<cs.size):(∃ x,W.cell? ⟨fb,j,none⟩=some x)∧W.frozen? ⟨fb,j,none⟩=false:=by
 have L:Live W fb cs.size:=by obtain ⟨e,he⟩:=h.blk;exact ⟨cs,e,he,Nat.le_refl _⟩
 exact ⟨Option.isSome_iff_exists.1 (L.some j hj),L.frozen j⟩
theorem DR {s:List UInt8×Bool} (h:s.2=true→s.1=[]):(bq s).2.2=true→(bq s).2.1=[]:=by
 rw[Il]
 simp only
 split
 ·exact fun e=>(lD 2 s.1 s.2 h e).2
 ·exact fun _=>rfl
theorem uZ (aG:List UInt8) (due:Int):(gQ aG due).2=true→(gQ aG due).1=[]:=by
 unfold gQ
 split
 ·exact DR (jF aG)
 ·exact fun _=>rfl
theorem bI.ten {w:World} {g:Nat} {c0 c1 c2 c3 c4 c5 c6 c7 c8 c9:Value} (h:bI w g #[c0,c1,c2,c3,c4,c5,c6,c7,c8,c9]):w.cell? ⟨g,0,none⟩=some c0∧w.cell? ⟨g,1,none⟩=some c1∧w.cell? ⟨g,2,none⟩=some c2∧w.cell? ⟨g,3,none⟩=some c3∧w.cell? ⟨g,4,none⟩=some c4∧w.cell? ⟨g,5,none⟩=some c5∧w.cell? ⟨g,6,none⟩=some c6∧w.cell? ⟨g,7,none⟩=some c7∧w.cell? ⟨g,8,none⟩=some c8∧w.cell? ⟨g,9,none⟩=some c9:=⟨h.cell 0,h.cell 1,h.cell 2,h.cell 3,h.cell 4,h.cell 5,h.cell 6,h.cell 7,h.cell 8,h.cell 9⟩
def yL (W:World) (g:Nat) (c0 c1 c2 c3 c4 c5 c6 c7 c8 c9:Value):World:=(((((((((W.setCell ⟨g,0,none⟩ c0).setCell ⟨g,1,none⟩ c1).setCell ⟨g,2,none⟩ c2).setCell ⟨g,3,none⟩ c3).setCell ⟨g,4,none⟩ c4).setCell ⟨g,5,none⟩ c5).setCell ⟨g,6,none⟩ c6).setCell ⟨g,7,none⟩ c7).setCell ⟨g,8,none⟩ c8).setCell ⟨g,9,none⟩ c9
theorem Tryz.DT:(Tryz.prog.info? 161).map (·.size)=some 10:=by kernel_rfl
theorem RS.yL {x0 x1 x2 x3 x4 x5 x6 x7 x8 x9:Value} (h:RS w W ex S g s fb #[x0,x1,x2,x3,x4,x5,x6,x7,x8,x9]) (c0 c1 c2 c3 c4 c5 c6 c7 c8 c9:Value):RS w (yL W fb c0 c1 c2 c3 c4 c5 c6 c7 c8 c9) ex S g s fb #[c0,c1,c2,c3,c4,c5,c6,c7,c8,c9]:=by
 have h0:RS w (W.setCell ⟨fb,0,none⟩ c0) ex S g s fb #[c0,x1,x2,x3,x4,x5,x6,x7,x8,x9]:=h.store 0 c0
 have h1:RS w ((W.setCell ⟨fb,0,none⟩ c0).setCell ⟨fb,1,none⟩ c1) ex S g s fb #[c0,c1,x2,x3,x4,x5,x6,x7,x8,x9]:=h0.store 1 c1
 have h2:RS w (((W.setCell ⟨fb,0,none⟩ c0).setCell ⟨fb,1,none⟩ c1).setCell ⟨fb,2,none⟩ c2) ex S g s fb #[c0,c1,c2,x3,x4,x5,x6,x7,x8,x9]:=h1.store 2 c2
 have h3:RS w ((((W.setCell ⟨fb,0,none⟩ c0).setCell ⟨fb,1,none⟩ c1).setCell ⟨fb,2,none⟩ c2).setCell ⟨fb,3,none⟩ c3) ex S g s fb #[c0,c1,c2,c3,x4,x5,x6,x7,x8,x9]:=h2.store 3 c3
 have h4:RS w (((((W.setCell ⟨fb,0,none⟩ c0).setCell ⟨fb,1,none⟩ c1).setCell ⟨fb,2,none⟩ c2).setCell ⟨fb,3,none⟩ c3).setCell ⟨fb,4,none⟩ c4) ex S g s fb #[c0,c1,c2,c3,c4,x5,x6,x7,x8,x9]:=h3.store 4 c4
 have h5:RS w ((((((W.setCell ⟨fb,0,none⟩ c0).setCell ⟨fb,1,none⟩ c1).setCell ⟨fb,2,none⟩ c2).setCell ⟨fb,3,none⟩ c3).setCell ⟨fb,4,none⟩ c4).setCell ⟨fb,5,none⟩ c5) ex S g s fb #[c0,c1,c2,c3,c4,c5,x6,x7,x8,x9]:=h4.store 5 c5
 have h6:RS w (((((((W.setCell ⟨fb,0,none⟩ c0).setCell ⟨fb,1,none⟩ c1).setCell ⟨fb,2,none⟩ c2).setCell ⟨fb,3,none⟩ c3).setCell ⟨fb,4,none⟩ c4).setCell ⟨fb,5,none⟩ c5).setCell ⟨fb,6,none⟩ c6) ex S g s fb #[c0,c1,c2,c3,c4,c5,c6,x7,x8,x9]:=h5.store 6 c6
 have h7:RS w ((((((((W.setCell ⟨fb,0,none⟩ c0).setCell ⟨fb,1,none⟩ c1).setCell ⟨fb,2,none⟩ c2).setCell ⟨fb,3,none⟩ c3).setCell ⟨fb,4,none⟩ c4).setCell ⟨fb,5,none⟩ c5).setCell ⟨fb,6,none⟩ c6).setCell ⟨fb,7,none⟩ c7) ex S g s fb #[c0,c1,c2,c3,c4,c5,c6,c7,x8,x9]:=h6.store 7 c7
 have h8:RS w (((((((((W.setCell ⟨fb,0,none⟩ c0).setCell ⟨fb,1,none⟩ c1).setCell ⟨fb,2,none⟩ c2).setCell ⟨fb,3,none⟩ c3).setCell ⟨fb,4,none⟩ c4).setCell ⟨fb,5,none⟩ c5).setCell ⟨fb,6,none⟩ c6).setCell ⟨fb,7,none⟩ c7).setCell ⟨fb,8,none⟩ c8) ex S g s fb #[c0,c1,c2,c3,c4,c5,c6,c7,c8,x9]:=h7.store 8 c8
 have h9:RS w ((((((((((W.setCell ⟨fb,0,none⟩ c0).setCell ⟨fb,1,none⟩ c1).setCell ⟨fb,2,none⟩ c2).setCell ⟨fb,3,none⟩ c3).setCell ⟨fb,4,none⟩ c4).setCell ⟨fb,5,none⟩ c5).setCell ⟨fb,6,none⟩ c6).setCell ⟨fb,7,none⟩ c7).setCell ⟨fb,8,none⟩ c8).setCell ⟨fb,9,none⟩ c9) ex S g s fb #[c0,c1,c2,c3,c4,c5,c6,c7,c8,c9]:=h8.store 9 c9
 exact h9
theorem RS.xM {c0 c1 c2 c3 c4 c5 c6 c7 c8 c9:Value} (h:RS w W ex S g s fb #[c0,c1,c2,c3,c4,c5,c6,c7,c8,c9]):(loadVar 161 ⟨fb,0,none⟩).run Tryz.prog W = .ok (.agg #[c0,c1,c2,c3,c4,c5,c6,c7,c8,c9]) W:=h.blk.load 161 _ Tryz.underlying161 rfl Tryz.DT
def VZ (aG:List UInt8):List UInt8×(List UInt8×Bool):=eF (gQ aG 10)
def xN (aG:List UInt8):List UInt8×(List UInt8×Bool):=eF (VZ aG).2
def wS (aG:List UInt8) (j:Nat):Int:=(bq (fQ (xN aG).2 j)).1
def zh (aG:List UInt8):List UInt8×(List UInt8×Bool):=aM 48 (fQ (xN aG).2 5).1 (fQ (xN aG).2 5).2
def Bg (aG:List UInt8):(Int×List UInt8)×(List UInt8×Bool):=
 if (zh aG).1=[] then ((0,[]),((zh aG).1,(zh aG).2.2)) else ig ((zh aG).1,(zh aG).2.2)
def qM (aG:List UInt8):Bool:=(!(Bg aG).2.2 && decide ((Bg aG).2.1=[])) && (!(zh aG).2.2 && decide ((zh aG).2.1=[]))
abbrev qN:Array Value:=#[.string ⟨#[]⟩,.string ⟨#[]⟩,.int .i64 0,.int .i64 0,.int .i64 0,.int .i64 0,.int .i64 0,.bool false,.int .i64 0,.slice none 0 0]
def qO (aG:List UInt8) (v:Value):List Value:=[.string ⟨(VZ aG).1.toArray⟩,.string ⟨(xN aG).1.toArray⟩,.int .i64 (wS aG 0),.int .i64 (wS aG 1),.int .i64 (wS aG 2),.int .i64 (wS aG 3),.int .i64 (wS aG 4),.bool (decide ((zh aG).1≠[])),.int .i64 (Bg aG).1.1,v]
set_option maxHeartbeats 1000000 in
theorem CJ (S:Source) (aG:List UInt8) (n:Nat) (ao:Option Addr) (cap:Nat) (w:World) (hn:Hid (aG.length=n)) (hs:At w S.1 S.2) (h:Bs S (.slice ao n cap) aG) :
  Calls Tryz.prog 61 #[.slice ao n cap] w fun e w'=>∃ cs,e = .returned (.tuple #[.agg cs,.bool (qM aG)])∧(qM aG=true→∃ v,cs=(qO aG v).toArray∧Bs S v (Bg aG).1.2)∧(cs.size=10∧cs.toList.all (·.oneCell')=true)∧w.grownBy w' none:=by
 have G0:=World.grownBy_alloc w (.cells qN 161) none
 have s0:(w.alloc (.cells qN 161)).heap.size=w.heap.size+1:=World.size_alloc _ _
 have HL:=hid (DN S aG n ao cap 10 _ hn (hs.below G0) h)
 have HB0:=hid (And.intro (bI.new w qN 161) G0)
 have F6:=hid hs
 have hbad:=uZ aG 10
 obtain ⟨q0,h0⟩:∃ q,gQ aG 10=q:=⟨_,rfl⟩
 obtain ⟨qA,hA⟩:∃ q,eF q0=q:=⟨_,rfl⟩
 obtain ⟨qB,hqB⟩:∃ q,eF qA.2=q:=⟨_,rfl⟩
 obtain ⟨N,hN⟩:∃ N:Nat→Int,∀ j,(bq (fQ qB.2 j)).1=N j:=⟨_,fun _=>rfl⟩
 obtain ⟨q5,h5⟩:∃ q,fQ qB.2 5=q:=⟨_,rfl⟩
 obtain ⟨qC,hC⟩:∃ q,aM 48 q5.1 q5.2=q:=⟨_,rfl⟩
 have HQ:=hid (And.intro h0 (And.intro hA (And.intro hqB (And.intro hN (And.intro h5 hC)))))
 rw[h0] at HL hbad
 clear hs h G0 h0 hA hqB hN h5 hC
 go_enter Tryz.func61,Tryz.ntmps61
 go_wp2_with fail
 refine HL.out.mono ?_
 rintro e w1 ⟨v,rfl,b1,g1⟩
 obtain ⟨a1,c1,rfl,_⟩:=id b1
 have DU:RS w (w1.alloc (.cells #[.slice a1 q0.1.length c1,.bool q0.2] 189)) (fun _ _=>False) S w1.heap.size q0 w.heap.size qN:=by
  have z:=g1.size
  have hs1:=(F6.out.below HB0.out.2).below g1
  exact ⟨Rd.new (w:=w1) b1 hbad _,(HB0.out.1.grown g1 (by simp)).alloc _,CF.aW (aC (ae HB0.out.2 g1) _) _,hs1.below (World.grownBy_alloc _ _ none),gG.new hs1 (Nat.le_refl _),gG.new F6.out (Nat.le_refl _),Nat.le_refl _,by omega,by omega⟩
 have HT1:=hid (lF S w1.heap.size q0 _ DU.src DU.ng DU.rd)
 rw[HQ.out.2.1] at HT1
 have H1:=hid DU
 clear b1 g1 HB0 HL DU hbad
 go_wp2_with fail
 refine HT1.out.mono ?_
 rintro e w2 ⟨rfl,r2,f2⟩
 have Qp:RS w w2 (fun _ _=>False) S w1.heap.size qA.2 w.heap.size qN:=H1.out.read f2 r2
 obtain ⟨⟨d2,hd2⟩,hz2⟩:=Qp.slot 0 (by show 0<10;decide)
 have E9:RS w (w2.setCell ⟨w.heap.size,0,none⟩ (.string ⟨qA.1.toArray⟩)) (fun _ _=>False) S w1.heap.size qA.2 w.heap.size #[.string ⟨qA.1.toArray⟩,.string ⟨#[]⟩,.int .i64 0,.int .i64 0,.int .i64 0,.int .i64 0,.int .i64 0,.bool false,.int .i64 0,.slice none 0 0]:=Qp.store 0 _
 have HT2:=hid (lF S w1.heap.size qA.2 _ E9.src E9.ng E9.rd)
 rw[HQ.out.2.2.1] at HT2
 have H2:=hid E9
 clear r2 f2 Qp E9 HT1 H1
 go_wp2_with fail
 refine HT2.out.mono ?_
 rintro e w3 ⟨rfl,r3,f3⟩
 have V4:RS w w3 (fun _ _=>False) S w1.heap.size qB.2 w.heap.size #[.string ⟨qA.1.toArray⟩,.string ⟨#[]⟩,.int .i64 0,.int .i64 0,.int .i64 0,.int .i64 0,.int .i64 0,.bool false,.int .i64 0,.slice none 0 0]:=H2.out.read f3 r3
 obtain ⟨⟨d3,hd3⟩,hz3⟩:=V4.slot 1 (by show 1<10;decide)
 have YX:RS w (w3.setCell ⟨w.heap.size,1,none⟩ (.string ⟨qB.1.toArray⟩)) (fun _ _=>False) S w1.heap.size qB.2 w.heap.size #[.string ⟨qA.1.toArray⟩,.string ⟨qB.1.toArray⟩,.int .i64 0,.int .i64 0,.int .i64 0,.int .i64 0,.int .i64 0,.bool false,.int .i64 0,.slice none 0 0]:=V4.store 1 _
 have pl:=YX.places [2,3,4,5,6] (fun j hj=>by show j<10;simp at hj;omega) (by decide) 194
 rw[World.size_setCell] at pl
 have V5:=YX.alloc (.cells #[.pointer (some ⟨w.heap.size,2,none⟩),.pointer (some ⟨w.heap.size,3,none⟩),.pointer (some ⟨w.heap.size,4,none⟩),.pointer (some ⟨w.heap.size,5,none⟩),.pointer (some ⟨w.heap.size,6,none⟩)] 194)
 have HT3:=hid (iV S w1.heap.size w3.heap.size _ 5 qB.2 _ (hid rfl) (by omega) (V5.stays [2,3,4,5,6]) V5.rd pl)
 simp only[HQ.out.2.2.2.1] at HT3
 rw[HQ.out.2.2.2.2.1] at HT3
 have H3:=hid V5
 clear r3 f3 V4 YX HT2 H2 pl V5
 go_wp2_with fail
 refine HT3.out.mono ?_
 rintro e w4 ⟨rfl,r4,c4,f4⟩
 have zi:RS w w4 (fun _ _=>False) S w1.heap.size q5 w.heap.size #[.string ⟨qA.1.toArray⟩,.string ⟨qB.1.toArray⟩,.int .i64 (N 0),.int .i64 (N 1),.int .i64 (N 2),.int .i64 (N 3),.int .i64 (N 4),.bool false,.int .i64 0,.slice none 0 0]:=by
  refine H3.out.nums f4 r4 (fun p hp=>?_) rfl (fun j hj=>?_)
  ·obtain ⟨j,_,rfl⟩:=List.mem_map.1 hp
   rfl
  ·have hj':j<10:=hj
   match j,hj' with
   | 0,_=>exact f4.cell (H3.out.blk.cell 0) (fun e=>by rcases e with e | e;exact H3.out.ne e;simp at e)
   | 1,_=>exact f4.cell (H3.out.blk.cell 1) (fun e=>by rcases e with e | e;exact H3.out.ne e;simp at e)
   | 2,_=>exact c4 0 (w.heap.size,2) rfl
   | 3,_=>exact c4 1 (w.heap.size,3) rfl
   | 4,_=>exact c4 2 (w.heap.size,4) rfl
   | 5,_=>exact c4 3 (w.heap.size,5) rfl
   | 6,_=>exact c4 4 (w.heap.size,6) rfl
   | 7,_=>exact f4.cell (H3.out.blk.cell 7) (fun e=>by rcases e with e | e;exact H3.out.ne e;simp at e)
   | 8,_=>exact f4.cell (H3.out.blk.cell 8) (fun e=>by rcases e with e | e;exact H3.out.ne e;simp at e)
   | 9,_=>exact f4.cell (H3.out.blk.cell 9) (fun e=>by rcases e with e | e;exact H3.out.ne e;simp at e)
 have Sb:=hid (Bc S w1.heap.size q5.1 q5.2 _ zi.src zi.rd)
 have HbC:=hid (lD 48 q5.1 q5.2 zi.rd.bad)
 rw[HQ.out.2.2.2.2.2] at Sb HbC
 have H4:=hid zi
 clear r4 c4 f4 zi HT3 H3
 go_wp2_with fail
 refine Sb.out.mono ?_
 rintro e w5 ⟨v5,rfl,b5,r5,f5⟩
 obtain ⟨a5,c5,rfl,_⟩:=id b5
 have rs5:RS w w5 (fun _ _=>False) S w1.heap.size qC.2 w.heap.size #[.string ⟨qA.1.toArray⟩,.string ⟨qB.1.toArray⟩,.int .i64 (N 0),.int .i64 (N 1),.int .i64 (N 2),.int .i64 (N 3),.int .i64 (N 4),.bool false,.int .i64 0,.slice none 0 0]:=H4.out.read f5 r5
 have z5:=rs5.size
 have rp5:=Rd.new (w:=w5) b5 (fun e=>(HbC.out e).1) 189
 have HNp:=hid (gG.new rs5.src (Nat.le_refl w5.heap.size))
 have abO:=rs5.alloc (.cells #[.slice a5 qC.1.length c5,.bool qC.2.2] 189)
 have HE:=hid (DL S w5.heap.size _ _ _ rp5)
 have H5:=hid (And.intro abO rp5)
 clear b5 r5 f5 rs5 Sb H4 rp5 abO hd2 hz2 hd3 hz3
 go_wp2_with fail
 refine HE.out.mono ?_
 rintro e wE ⟨rfl,rfl⟩
 obtain ⟨w6,hw6⟩:∃ w6,w6=w5.alloc (.cells #[.slice a5 qC.1.length c5,.bool qC.2.2] 189):=⟨_,rfl⟩
 have z5a:w6.heap.size=w5.heap.size+1:=by rw[hw6];exact World.size_alloc _ _
 rw[←hw6] at H5 ⊢
 clear hw6 HE
 have JW:Hid (VZ aG=qA):=by show _=_;rw[VZ,HQ.out.1,HQ.out.2.1]
 have MP:Hid (xN aG=qB):=by show _=_;rw[xN,JW.out,HQ.out.2.2.1]
 have KY:Hid (∀ j,wS aG j=N j):=fun j=>by rw[wS,MP.out,HQ.out.2.2.2.1]
 have HRC:Hid (zh aG=qC):=by show _=_;rw[zh,MP.out,HQ.out.2.2.2.2.1,HQ.out.2.2.2.2.2]
 clear HQ HbC hn s0
 by_cases hpre:qC.1=[]
 ·have hd:decide (qC.1=[])=true:=by rw[hpre];rfl
  rw[hd]
  have HP:Hid (Bg aG=((0,[]),(qC.1,qC.2.2))):=by show _=_;rw[Bg,HRC.out,if_pos hpre]
  have Sc:Hid (qM aG=((!qC.2.2 && decide (qC.1=[])) && (!qC.2.2 && decide (qC.2.1=[])))):=by show _=_;rw[qM,HP.out,HRC.out]
  have HT:=hid H5.out
  clear H5
  obtain ⟨y0,y1,y2,y3,y4,y5,y6,y7,y8,y9⟩:=HT.out.1.blk.ten
  have zz0:=(HT.out.1.slot 0 (by show 0<10;decide)).2
  have zz1:=(HT.out.1.slot 1 (by show 1<10;decide)).2
  have zz2:=(HT.out.1.slot 2 (by show 2<10;decide)).2
  have zz3:=(HT.out.1.slot 3 (by show 3<10;decide)).2
  have zz4:=(HT.out.1.slot 4 (by show 4<10;decide)).2
  have zz5:=(HT.out.1.slot 5 (by show 5<10;decide)).2
  have zz6:=(HT.out.1.slot 6 (by show 6<10;decide)).2
  have zz7:=(HT.out.1.slot 7 (by show 7<10;decide)).2
  have zz8:=(HT.out.1.slot 8 (by show 8<10;decide)).2
  have zz9:=(HT.out.1.slot 9 (by show 9<10;decide)).2
  have HD1:=hid (iF S w5.heap.size _ _ _ HT.out.2)
  have HD2:=hid (iF S w1.heap.size _ _ _ HT.out.1.rd)
  have HZ:=hid (HT.out.1.yL (.string ⟨#[]⟩) (.string ⟨#[]⟩) (.int .i64 0) (.int .i64 0) (.int .i64 0) (.int .i64 0) (.int .i64 0) (.bool false) (.int .i64 0) (.slice none 0 0))
  have HY:=hid (HT.out.1.yL (.string ⟨qA.1.toArray⟩) (.string ⟨qB.1.toArray⟩) (.int .i64 (N 0)) (.int .i64 (N 1)) (.int .i64 (N 2)) (.int .i64 (N 3)) (.int .i64 (N 4)) (.bool false) (.int .i64 0) (.slice none 0 0))
  unfold yL at HZ HY
  cases hq1:(!qC.2.2 && decide (qC.1=[]))
  ·have uH:Hid (qM aG=false):=by show _=_;rw[Sc.out,hq1];rfl
   rw[hq1] at HD1
   go_wp2_with fail
   refine HD1.out.mono ?_
   rintro e w8 ⟨rfl,rfl⟩
   clear HD1 HD2 HY hq1
   go_wp2
   refine bodyPost_ret (aD Tryz.results61 _ _ _ w.heap.size rfl _ HZ.out.xM) rfl ⟨_,by rw[uH.out];rfl,fun e=>(by rw[uH.out] at e;cases e),⟨rfl,rfl⟩,HZ.out.cf.gb (fun _ _ _ e=>e)⟩
  ·rw[hq1] at HD1
   cases hq2:(!qC.2.2 && decide (qC.2.1=[]))
   ·have uH:Hid (qM aG=false):=by show _=_;rw[Sc.out,hq1,hq2];rfl
    rw[hq2] at HD2
    go_wp2_with fail
    refine HD1.out.mono ?_
    rintro e w8 ⟨rfl,rfl⟩
    go_wp2_with fail
    refine HD2.out.mono ?_
    rintro e w8 ⟨rfl,rfl⟩
    clear HD1 HD2 HY hq1 hq2
    go_wp2
    refine bodyPost_ret (aD Tryz.results61 _ _ _ w.heap.size rfl _ HZ.out.xM) rfl ⟨_,by rw[uH.out];rfl,fun e=>(by rw[uH.out] at e;cases e),⟨rfl,rfl⟩,HZ.out.cf.gb (fun _ _ _ e=>e)⟩
   ·have uH:Hid (qM aG=true):=by show _=_;rw[Sc.out,hq1,hq2];rfl
    rw[hq2] at HD2
    go_wp2_with fail
    refine HD1.out.mono ?_
    rintro e w8 ⟨rfl,rfl⟩
    go_wp2_with fail
    refine HD2.out.mono ?_
    rintro e w8 ⟨rfl,rfl⟩
    clear HD1 HD2 HZ hq1 hq2
    go_wp2
    refine bodyPost_ret (aD Tryz.results61 _ _ _ w.heap.size rfl _ HY.out.xM) rfl ⟨_,by rw[uH.out];rfl,fun _=>?_,⟨rfl,rfl⟩,HY.out.cf.gb (fun _ _ _ e=>e)⟩
    exact ⟨_,by rw[qO,JW.out,MP.out,KY.out,KY.out,KY.out,KY.out,KY.out,HRC.out,HP.out,hpre];rfl,by rw[HP.out];exact Bs.nil _⟩
 ·have hd:decide (qC.1=[])=false:=decide_eq_false hpre
  rw[hd]
  obtain ⟨⟨x7,hx7⟩,hz7⟩:=H5.out.1.slot 7 (by show 7<10;decide)
  have YY:RS w (w6.setCell ⟨w.heap.size,7,none⟩ (.bool true)) (fun _ _=>False) S w1.heap.size qC.2 w.heap.size #[.string ⟨qA.1.toArray⟩,.string ⟨qB.1.toArray⟩,.int .i64 (N 0),.int .i64 (N 1),.int .i64 (N 2),.int .i64 (N 3),.int .i64 (N 4),.bool true,.int .i64 0,.slice none 0 0]:=H5.out.1.store 7 _
  have fx6:uW w6 (w6.setCell ⟨w.heap.size,7,none⟩ (.bool true)) (fun b=>b=w.heap.size):=(uW.refl _ (fun b=>b=w.heap.size)).set (g:=w.heap.size) rfl 7 _
  have rp6:=H5.out.2.XN fx6 (by omega)
  obtain ⟨qP,hqP⟩:∃ q,ig (qC.1,qC.2.2)=q:=⟨_,rfl⟩
  have HP:Hid (Bg aG=qP):=by show _=_;rw[Bg,HRC.out,if_neg hpre];exact hqP
  have Sc:Hid (qM aG=((!qP.2.2 && decide (qP.2.1=[])) && (!qC.2.2 && decide (qC.2.1=[])))):=by show _=_;rw[qM,HP.out,HRC.out]
  have HS:=hid (wR S w5.heap.size (qC.1,qC.2.2) _ YY.src HNp.out rp6)
  rw[hqP] at HS
  have H6:=hid YY
  have hpF:decide (qC.1≠[])=true:=decide_eq_true hpre
  have HPF:=hid hpF
  clear hqP YY rp6 fx6 H5 hpF
  go_wp2_with fail
  refine HS.out.mono ?_
  rintro e w7 ⟨v7,rfl,b7,r7,f7⟩
  obtain ⟨a7,c7,rfl,_⟩:=id b7
  have Io:=H6.out.other f7 HNp.out (by omega) (by omega) (by omega)
  obtain ⟨⟨x8,hx8⟩,hz8⟩:=Io.slot 8 (by show 8<10;decide)
  obtain ⟨⟨x9,hx9⟩,hz9⟩:=Io.slot 9 (by show 9<10;decide)
  have rs8:RS w ((w7.setCell ⟨w.heap.size,8,none⟩ (.int .i64 qP.1.1)).setCell ⟨w.heap.size,9,none⟩ (.slice a7 qP.1.2.length c7)) (fun _ _=>False) S w1.heap.size qC.2 w.heap.size #[.string ⟨qA.1.toArray⟩,.string ⟨qB.1.toArray⟩,.int .i64 (N 0),.int .i64 (N 1),.int .i64 (N 2),.int .i64 (N 3),.int .i64 (N 4),.bool true,.int .i64 qP.1.1,.slice a7 qP.1.2.length c7]:=(Io.store 8 _).store 9 _
  have fx8:uW w7 ((w7.setCell ⟨w.heap.size,8,none⟩ (.int .i64 qP.1.1)).setCell ⟨w.heap.size,9,none⟩ (.slice a7 qP.1.2.length c7)) (fun b=>b=w.heap.size):=((uW.refl w7 (fun b=>b=w.heap.size)).set (g:=w.heap.size) rfl 8 _).set (g:=w.heap.size) rfl 9 _
  have z7:=Io.size
  have rp8:=r7.XN fx8 (by omega)
  have YZ:=hid b7
  have HT:=hid (And.intro rs8 rp8)
  clear Io rs8 rp8 fx8 r7 f7 b7 H6 HS
  obtain ⟨y0,y1,y2,y3,y4,y5,y6,y7,y8,y9⟩:=HT.out.1.blk.ten
  have zz0:=(HT.out.1.slot 0 (by show 0<10;decide)).2
  have zz1:=(HT.out.1.slot 1 (by show 1<10;decide)).2
  have zz2:=(HT.out.1.slot 2 (by show 2<10;decide)).2
  have zz3:=(HT.out.1.slot 3 (by show 3<10;decide)).2
  have zz4:=(HT.out.1.slot 4 (by show 4<10;decide)).2
  have zz5:=(HT.out.1.slot 5 (by show 5<10;decide)).2
  have zz6:=(HT.out.1.slot 6 (by show 6<10;decide)).2
  have zz7:=(HT.out.1.slot 7 (by show 7<10;decide)).2
  have zz8:=(HT.out.1.slot 8 (by show 8<10;decide)).2
  have zz9:=(HT.out.1.slot 9 (by show 9<10;decide)).2
  have HD1:=hid (iF S w5.heap.size _ _ _ HT.out.2)
  have HD2:=hid (iF S w1.heap.size _ _ _ HT.out.1.rd)
  have HZ:=hid (HT.out.1.yL (.string ⟨#[]⟩) (.string ⟨#[]⟩) (.int .i64 0) (.int .i64 0) (.int .i64 0) (.int .i64 0) (.int .i64 0) (.bool false) (.int .i64 0) (.slice none 0 0))
  have HY:=hid (HT.out.1.yL (.string ⟨qA.1.toArray⟩) (.string ⟨qB.1.toArray⟩) (.int .i64 (N 0)) (.int .i64 (N 1)) (.int .i64 (N 2)) (.int .i64 (N 3)) (.int .i64 (N 4)) (.bool true) (.int .i64 qP.1.1) (.slice a7 qP.1.2.length c7))
  unfold yL at HZ HY
  cases hq1:(!qP.2.2 && decide (qP.2.1=[]))
  ·have uH:Hid (qM aG=false):=by show _=_;rw[Sc.out,hq1];rfl
   rw[hq1] at HD1
   go_wp2_with fail
   refine HD1.out.mono ?_
   rintro e w8 ⟨rfl,rfl⟩
   clear HD1 HD2 HY hq1
   go_wp2
   refine bodyPost_ret (aD Tryz.results61 _ _ _ w.heap.size rfl _ HZ.out.xM) rfl ⟨_,by rw[uH.out];rfl,fun e=>(by rw[uH.out] at e;cases e),⟨rfl,rfl⟩,HZ.out.cf.gb (fun _ _ _ e=>e)⟩
  ·rw[hq1] at HD1
   cases hq2:(!qC.2.2 && decide (qC.2.1=[]))
   ·have uH:Hid (qM aG=false):=by show _=_;rw[Sc.out,hq1,hq2];rfl
    rw[hq2] at HD2
    go_wp2_with fail
    refine HD1.out.mono ?_
    rintro e w8 ⟨rfl,rfl⟩
    go_wp2_with fail
    refine HD2.out.mono ?_
    rintro e w8 ⟨rfl,rfl⟩
    clear HD1 HD2 HY hq1 hq2
    go_wp2
    refine bodyPost_ret (aD Tryz.results61 _ _ _ w.heap.size rfl _ HZ.out.xM) rfl ⟨_,by rw[uH.out];rfl,fun e=>(by rw[uH.out] at e;cases e),⟨rfl,rfl⟩,HZ.out.cf.gb (fun _ _ _ e=>e)⟩
   ·have uH:Hid (qM aG=true):=by show _=_;rw[Sc.out,hq1,hq2];rfl
    rw[hq2] at HD2
    go_wp2_with fail
    refine HD1.out.mono ?_
    rintro e w8 ⟨rfl,rfl⟩
    go_wp2_with fail
    refine HD2.out.mono ?_
    rintro e w8 ⟨rfl,rfl⟩
    clear HD1 HD2 HZ hq1 hq2
    go_wp2
    refine bodyPost_ret (aD Tryz.results61 _ _ _ w.heap.size rfl _ HY.out.xM) rfl ⟨_,by rw[uH.out];rfl,fun _=>?_,⟨rfl,rfl⟩,HY.out.cf.gb (fun _ _ _ e=>e)⟩
    exact ⟨_,by rw[qO,JW.out,MP.out,KY.out,KY.out,KY.out,KY.out,KY.out,HRC.out,HP.out,HPF.out],by rw[HP.out];exact YZ.out⟩
end Go.Proofs.YtpibgolaaaemnaaGreatDoor
