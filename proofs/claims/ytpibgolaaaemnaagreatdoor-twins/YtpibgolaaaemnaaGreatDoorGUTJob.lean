/-
  
-/
import Derived.Test.YtpibgolaaaemnaaGreatDoorGUTName
namespace Go.Proofs.YtpibgolaaaemnaaGreatDoor
open Go.RowKit
set_option maxRecDepth 100000
set_option maxHeartbeats 8000000 in
theorem Xl (w0:World) (L:TL) (Mp Mq:DM) (nm C:Nat) (O:Nat→Prop) (kd A B D T:Int) (S:List UInt8) (w:World) (hI:TI w0 L Mp Mq nm C O w) (hA:In64 A) (hB:In64 B) (hD:In64 D) (hT:In64 T) (hS:S.length≤140737488355328) (AU:1≤C) (hC2:C≤100000) (hnm:nm≤4398046511104) :
  Calls Tryz.prog 10 #[.pointer (some ⟨L.pb,0,none⟩),.agg (doC kd A B D T S)] w (NF w0 L Mp Mq nm C O w):=by
 obtain ⟨cs,ls,ms,now,ca,la,ma,cc,lc,mc,rfl,FU,hcl,hll,Ch⟩:=hI
 obtain ⟨W0,hW0⟩:∃ W,W=(w.alloc (.cells (doC kd A B D T S) 51)).alloc (.cells (tF 0 (.slice none 0 0)) 45):=⟨_,rfl⟩
 have G0:w.grownBy W0 none:=by rw[hW0];exact aC (World.grownBy_alloc w _ none) _
 have b1:bI W0 w.heap.size (doC kd A B D T S):=by rw[hW0];exact (bI.new w _ _).alloc _
 have b2:bI W0 (w.heap.size+1) (tF 0 (.slice none 0 0)):=by rw[hW0];exact JE w _ _ _
 have hs0:W0.heap.size=w.heap.size+2:=by rw[hW0,World.size_alloc,World.size_alloc]
 have HB:=hid (And.intro b1 b2)
 have mD:=hid G0
 have HTS:=hid FU
 have rM:=hid (And.intro hcl (And.intro hll (And.intro Ch (And.intro AU (And.intro hC2 hnm)))))
 have CV:=hid (And.intro hA (And.intro hB (And.intro hD (And.intro hT hS))))
 have HW0:=hid hW0
 have Hs0:=hid hs0
 have Hpb:=hid FU.pair.lt
 have Z7:=hid FU
 have ahl:=hid FU.lt
 clear FU hcl hll Ch AU hC2 hnm hA hB hD hT hS G0 b1 b2 hW0 hs0
 go_enter Tryz.func10,Tryz.ntmps10
 go_wp2_with (first|(rw[←HW0.out];fail_if_success done)|(go_at_call 7;refine (vK W0).mono ?_;rintro e W1 ⟨rfl,hW1⟩))
 have G01:W0.grownBy W1 none:=by rw[←hW1];exact World.grownBy_alloc _ _ none
 have bN:bI W1 W0.heap.size ru:=by rw[←hW1];exact bI.new _ _ _
 rw[Hs0.out] at bN
 have HT1:=hid (HTS.out.gb (ae mD.out G01))
 have HB1:=hid (And.intro (HB.out.1.grown G01 (by simp)) (And.intro (HB.out.2.grown G01 (by simp)) bN))
 have nH:=hid (ae mD.out G01)
 have x7:W1.cell? ⟨L.pb,7,none⟩=some (.int .i64 now):=HT1.out.pair.cell 7
 have f7:W1.frozen? ⟨L.pb,7,none⟩=false:=HT1.out.pair.frozen 7
 have y3:W1.cell? ⟨w.heap.size,3,none⟩=some (.int .i64 D):=HB1.out.1.cell 3
 have Ga:Hid (∀ (c:Int) (k:Nat) (W:World),In64 c→1≤k→k≤9223372036854775807→Calls Tryz.prog 4 #[.int .i64 c,.int .i64 (k:Int)] W fun e w'=>e = .returned (.int .i64 (fZ c k:Int))∧W=w'):=fun c k W hc h1 h2=>by
  have:=Ee c k W hc ⟨by omega,by omega⟩
  simpa using this
 clear HB mD HTS G01 bN hW1 HW0
 rw[Hs0.out]
 go_upto_region 2 with fail
 go_cut [] (fun wx=>∃ nw,In64 nw∧TS w0 L Mp Mq cs ls ms nw ca la ma cc lc mc wx∧bI wx w.heap.size (doC kd A B D T S)∧bI wx (w.heap.size+1) (tF 0 (.slice none 0 0))∧bI wx (w.heap.size+2) ru∧Stp w (eU L.lo L.hi L.pb ca la ma) wx (eU L.lo L.hi L.pb ca la ma))
 case first=>
  as_aux_lemma=>
   go_region_with (go_at_call 4;refine (Ga.out D 60 _ CV.out.2.2.1 (by decide) (by decide)).mono ?_;rintro e wz ⟨rfl,rfl⟩)
   all_goals go_wp2
   all_goals go_meet
   all_goals
    have hS:=HT1.out.ZR (IntKind.i64.wrap (IntKind.i64.wrap (now + ↑(fZ D 60))-5)) (by rw[IntKind.wrap_i64];exact ⟨by omega,by omega⟩)
    have hp:=HT1.out.ord
    have hpl:=HT1.out.pair.lt
    have hpw:L.pb≠w.heap.size∧L.pb≠w.heap.size+1∧L.pb≠w.heap.size+2:=by have:=Hpb.out;omega
    have hst:=(Stp.gb (O:=eU L.lo L.hi L.pb ca la ma) nH.out).trans ⟨((CF.refl W1 _).setCell L.pb 7 (.int .i64 (IntKind.i64.wrap (IntKind.i64.wrap (now + ↑(fZ D 60))-5))) (fun _=>.inr (.inl rfl))).drew,fun _ e=>.inl e⟩
    exact ⟨_,by rw[IntKind.wrap_i64];exact ⟨by omega,by omega⟩,hS.gb (dS (World.grownBy.refl _ _)),(HB1.out.1.other _ _ (Ne.symm hpw.1)).drew,(HB1.out.2.1.other _ _ (Ne.symm hpw.2.1)).drew,(HB1.out.2.2.other _ _ (Ne.symm hpw.2.2)).drew,hst⟩
 case rest=>
  rename World=>U
  obtain ⟨nw,hnw,FU,hb1,hb2,hb3,hst⟩:=hcut
  have HT:=hid FU
  have Qc:=hid hnw
  have HB:=hid (And.intro hb1 (And.intro hb2 hb3))
  have zL:=hid hst
  obtain ⟨T1,hT1,adg,_,_⟩:=zJ (fZ A 7) (gL A 7 (by decide))
  obtain ⟨T2,hT2,adi,_,_⟩:=zJ (fZ B 7) (gL B 7 (by decide))
  have x7:U.cell? ⟨L.pb,7,none⟩=some (.int .i64 nw):=FU.pair.cell 7
  have GJ:=World.grownBy_alloc U (.cells (tF nw (.slice none 0 0)) 45) none
  have n1:(U.alloc (.cells (tF nw (.slice none 0 0)) 45)).cell? ⟨w.heap.size+2,fZ A 7,none⟩=some (.string ⟨T1.toArray⟩):=GJ.cell (by rw[hb3.cell];exact hT1) (by simp)
  have n2:(U.alloc (.cells (tF nw (.slice none 0 0)) 45)).cell? ⟨w.heap.size+2,fZ B 7,none⟩=some (.string ⟨T2.toArray⟩):=GJ.cell (by rw[hb3.cell];exact hT2) (by simp)
  have y0:(U.alloc (.cells (tF nw (.slice none 0 0)) 45)).cell? ⟨w.heap.size,0,none⟩=some (.int .i64 kd):=GJ.cell (hb1.cell 0) (by simp)
  have y1:(U.alloc (.cells (tF nw (.slice none 0 0)) 45)).cell? ⟨w.heap.size,1,none⟩=some (.int .i64 A):=GJ.cell (hb1.cell 1) (by simp)
  have y2:(U.alloc (.cells (tF nw (.slice none 0 0)) 45)).cell? ⟨w.heap.size,2,none⟩=some (.int .i64 B):=GJ.cell (hb1.cell 2) (by simp)
  have p1:(fZ A 7:Int)<7:=by have:=gL A 7 (by decide);omega
  have p2:(fZ B 7:Int)<7:=by have:=gL B 7 (by decide);omega
  have HL:=hid (And.intro adg adi)
  obtain ⟨V,hV⟩:∃ V,V=U.alloc (.cells (tF nw (.slice none 0 0)) 45):=⟨_,rfl⟩
  rw[←hV] at n1 n2 y0 y1 y2 GJ
  have bJ:bI V U.heap.size (tF nw (.slice none 0 0)):=by rw[hV];exact bI.new U _ _
  have Mm:=hid bJ
  have xD:=hid GJ
  have HV:=hid hV
  clear FU hnw hb1 hb2 hb3 hst hT1 hT2 adg adi GJ bJ hV HT1 HB1 nH y3 f7
  have HPA:=hid (fun W=>Ga.out A 7 W CV.out.1 (by decide) (by decide))
  have HPB:=hid (fun W=>Ga.out B 7 W CV.out.2.1 (by decide) (by decide))
  go_upto_block 0 with (first|(rw[←HV.out];fail_if_success done)|(go_at_call 4;with_reducible refine Calls.mono (HPA.out _) ?_;clear HPA;rintro e wz ⟨rfl,rfl⟩)|(go_at_call 4;with_reducible refine Calls.mono (HPB.out _) ?_;clear HPB;rintro e wz ⟨rfl,rfl⟩))
  go_cut [] (fun wx=>yh w.heap.size U (eU L.lo L.hi L.pb ca la ma) nw wx)
  case first=>
   have FM:Hid (∀ W,U.grownBy W none→W.cell? ⟨w.heap.size,2,none⟩=some (.int .i64 B)∧W.cell? ⟨w.heap.size,3,none⟩=some (.int .i64 D)∧W.cell? ⟨w.heap.size,4,none⟩=some (.int .i64 T)):=fun W kW=>⟨kW.cell (HB.out.1.cell 2) (by simp),kW.cell (HB.out.1.cell 3) (by simp),kW.cell (HB.out.1.cell 4) (by simp)⟩
   have HOl:=hid HT.out.lt
   have HwU:=hid zL.out.size
   have ahm:Hid (w.heap.size+1<U.heap.size):=HB.out.2.1.lt
   by_cases h1:kd=1
   ·as_aux_lemma=>
     subst h1
     have y3:V.cell? ⟨w.heap.size,3,none⟩=some (.int .i64 D):=(FM.out V xD.out).2.1
     have y4:V.cell? ⟨w.heap.size,4,none⟩=some (.int .i64 T):=(FM.out V xD.out).2.2
     have HP1:=hid (fun W=>Ga.out D 300 W CV.out.2.2.1 (by decide) (by decide))
     have Vf:=hid (fun W=>Ga.out (IntKind.i64.wrap (B.tdiv 8)) 16 W (JG _) (by decide) (by decide))
     go_wp2_with fail
     go_region_held3 (fun w'=>w'.cell? ⟨w.heap.size,2,none⟩=some (.int .i64 B)∧w'.cell? ⟨w.heap.size,3,none⟩=some (.int .i64 D)∧w'.cell? ⟨w.heap.size,4,none⟩=some (.int .i64 T)) (exact FM.out _ (by (repeat first | with_reducible refine dS ?_ | with_reducible refine aK ?_ (Nat.le_refl _) | with_reducible refine aC ?_ _ | with_reducible exact G2.out | with_reducible exact xD.out | with_reducible exact World.grownBy.refl _ _))) (first
      | (go_at_call 4;with_reducible refine Calls.mono (HP1.out _) ?_;rintro e wz ⟨rfl,rfl⟩)
      | (go_at_call 4;with_reducible refine Calls.mono (Vf.out _) ?_;rintro e wz ⟨rfl,rfl⟩)
      | (go_at_call 8;refine (BO T1 T2 T 0 (fZ D 300) 0 (fZ (IntKind.i64.wrap (B.tdiv 8)) 16) _ (by have:=HL.out.1;omega) (by have:=HL.out.2;omega) CV.out.2.2.2.1 ⟨by decide,by decide⟩ ⟨by omega,by have:=gL D 300 (by decide);omega⟩ ⟨by decide,by decide⟩ ⟨by omega,by have:=gL (IntKind.i64.wrap (B.tdiv 8)) 16 (by decide);omega⟩).mono ?_;rintro e w2 ⟨o2,rfl,q2,g2⟩;obtain ⟨a2,c2,hv2⟩:=q2.has.shape;have G2:Hid (U.grownBy w2 none):=ae (by (repeat first | with_reducible refine dS ?_ | with_reducible refine aK ?_ (Nat.le_refl _) | with_reducible refine aC ?_ _ | with_reducible exact G2.out | with_reducible exact xD.out | with_reducible exact World.grownBy.refl _ _)) g2;obtain ⟨l2,hl2⟩:∃ l,(il T1 T2 T 0 (fZ D 300) 0 (fZ (IntKind.i64.wrap (B.tdiv 8)) 16)).length=l:=⟨_,rfl⟩;rw[hl2] at hv2;subst hv2;have Hl2:=hid hl2;have ahn:Hid (l2≤140737488355328):=(by show l2≤_;rw[←hl2];exact Nat.le_trans (El T1 T2 T 0 (fZ D 300) 0 (fZ (IntKind.i64.wrap (B.tdiv 8)) 16) (by have:=HL.out.1;omega) (by have:=HL.out.2;omega)) (by decide));clear hl2;have rR:=hid (Mm.out.grown (ae (by (first | exact World.grownBy.refl _ _ | exact aO (World.grownBy.refl _ _) _)) g2) (by simp));have j8:=rR.out.cell 8;have f8:=rR.out.frozen 8;have tZ:=hid q2;clear q2 g2))
     go_wp2
     go_meet
     exact xy Qc.out G2.out rR.out (KI.made tZ.out (fun b q=>Nat.lt_of_lt_of_le (HOl.out b q) xD.out.size)) (by rw[Hl2.out];exact ahn.out) HwU.out (fun b off e=>by
      have h:V.heap.size≤b:=(tZ.out.place b off l2 c2 (by rw[e])).1
      have:=Mm.out.lt
      omega)
   ·by_cases h5:kd=2∨kd=3∨kd=4
    ·rcases h5 with rfl | rfl | rfl
     ·as_aux_lemma=>
       have anW:True:=trivial
       obtain ⟨ii,hii,hi0,hi1,hi2⟩:=info_parts Tryz.UC
       obtain ⟨q,hq⟩:∃ q,cs.length=q:=⟨_,rfl⟩
       have hlq:ls.length=q:=by have:=rM.out;omega
       have hq1:1≤q:=by have:=rM.out;omega
       have hq2:q≤100000:=by have:=rM.out;omega
       have hpl:=gL A q (by omega)
       obtain ⟨p,hp⟩:∃ p,fZ A q=p:=⟨_,rfl⟩
       rw[hp] at hpl
       have hpc:p<cs.length:=by omega
       have hpn:p<ls.length:=by omega
       have hrow:∀ x∈cs,x.length=17:=fun x hx=>(HT.out.FL x hx).1
       obtain ⟨aho,v,zs,jY,hv0,WU,hki,hzl⟩:=HT.out.FL _ (List.getElem_mem hpc)
       obtain ⟨va,vc,hva⟩:=hki.1.shape
       obtain ⟨vn,Yh⟩:∃ n,zs.length=n:=⟨_,rfl⟩
       rw[Yh] at hva
       subst hva
       obtain ⟨cl,hcl⟩:∃ l,ls[p]=l:=⟨_,rfl⟩
       have adk:cl.length≤20:=by rw[←hcl];exact HT.out.BU _ (List.getElem_mem hpn)
       have UF:=HT.out.came
       have Mo:=HT.out.names
       obtain ⟨J7,hca,hc0⟩:∃ J7,ca=some ⟨J7,0,none⟩∧∀ j u,j<17→(cs[p])[j]?=some u→U.cell? ⟨J7,p*17+j,none⟩=some u:=by
        rcases UF.2 with ⟨hv,hn⟩ | ⟨g,cap,cur,hv,_⟩
        ·omega
        ·injection hv with hv
         subst hv
         refine ⟨g,rfl,fun j u hj hu=>?_⟩
         have h:=UF.cells (g:=g) rfl (p*17+j) _ (by rw[UE cs p j hrow hpc hj];exact hu)
         rw[Addr.add_lit,Nat.zero_add] at h
         exact h
       obtain ⟨lab,hla,hl0⟩:∃ lab,la=some ⟨lab,0,none⟩∧U.cell? ⟨lab,p,none⟩=some (.string ⟨cl.toArray⟩):=by
        have hu:(ls.map fun l=>(Value.string ⟨l.toArray⟩))[p]?=some (.string ⟨cl.toArray⟩):=by rw[List.getElem?_map,List.getElem?_eq_getElem hpn,hcl];rfl
        rcases Mo.2 with ⟨hv,hn⟩ | ⟨g,cap,cur,hv,_⟩
        ·omega
        ·injection hv with hv
         subst hv
         have h:=Mo.cells (g:=g) rfl p _ hu
         rw[Addr.add_lit,Nat.zero_add] at h
         exact ⟨g,rfl,h⟩
       subst hca hla
       have e4:U.cell? ⟨L.pb,4,none⟩=some (.slice (some ⟨J7,0,none⟩) q cc):=by rw[←hq];exact HT.out.pair.cell 4
       have e5:U.cell? ⟨L.pb,5,none⟩=some (.slice (some ⟨lab,0,none⟩) q lc):=by rw[←hlq];exact HT.out.pair.cell 5
       have e7:U.cell? ⟨L.pb,7,none⟩=some (.int .i64 nw):=HT.out.pair.cell 7
       have ec0:U.cell? ⟨J7,p*17,none⟩=some (.slice va vn vc):=hc0 0 _ (by omega) hv0
       have adl:U.cell? ⟨J7,p*17+14,none⟩=some (.int .u64 (jY.toNat:Int)):=hc0 14 _ (by omega) WU
       have el0:=hl0
       have eD:U.cell? ⟨w.heap.size,3,none⟩=some (.int .i64 D):=HB.out.1.cell 3
       have eT:U.cell? ⟨w.heap.size,4,none⟩=some (.int .i64 T):=HB.out.1.cell 4
       have adn:Hid (∀ W,U.grownBy W none→W.cell? ⟨w.heap.size,1,none⟩=some (.int .i64 A)∧W.cell? ⟨L.pb,4,none⟩=some (.slice (some ⟨J7,0,none⟩) q cc)):=fun W kW=>⟨kW.cell (HB.out.1.cell 1) (by simp),kW.cell e4 (by simp)⟩
       have x4:V.cell? ⟨L.pb,4,none⟩=some (.slice (some ⟨J7,0,none⟩) q cc):=xD.out.cell e4 (by simp)
       have HPq:Hid (∀ W,Calls Tryz.prog 4 #[.int .i64 A,.int .i64 (q:Int)] W fun e w'=>e = .returned (.int .i64 (p:Int))∧W=w'):=fun W=>by
        have h:=Ga.out A q W CV.out.1 (by omega) (by omega)
        rw[hp] at h
        exact h
       have hdl:=gL D 10 (by decide)
       obtain ⟨d,hd⟩:∃ d,fZ D 10=d:=⟨_,rfl⟩
       rw[hd] at hdl
       obtain ⟨ov,hov,hoc⟩:=Z6 d hdl
       have HOc:=hid hoc
       have HPd:Hid (∀ W,Calls Tryz.prog 4 #[.int .i64 D,.int .i64 10] W fun e w'=>e = .returned (.int .i64 (d:Int))∧W=w'):=fun W=>by
        have h:=Ga.out D 10 W CV.out.2.2.1 (by decide) (by decide)
        rw[hd] at h
        exact h
       have o1:(V.alloc (.cells yS 3)).cell? ⟨V.heap.size,d,none⟩=some (.int .i64 ov):=by rw[(bI.new V yS 3).cell];exact hoc
       obtain ⟨cnt,hcnt⟩:=JJ (T.tmod 9)
       have Qx:=hid (And.intro hki (And.intro hzl (And.intro adk (And.intro hov (And.intro hcnt Yh)))))
       have hq0:((q:Int)==0)=false:=by simp;omega
       have hp0:(0:Int)≤(p:Int):=by omega
       have hpq:(p:Int)<(q:Int):=by omega
       have hd0:(0:Int)≤(d:Int):=by omega
       have hd1:(d:Int)<10:=by omega
       have yN:=zK T 9 (by decide)
       have ht9:IntKind.i64.wrap (T.tmod 9)=T.tmod 9:=by rw[IntKind.wrap_i64];omega
       have XH:Hid (∀ W,U.grownBy W none→Calls Tryz.prog 24 #[.slice va vn vc,.int .u64 (jY.toNat:Int),.string ⟨cl.toArray⟩,.int .i64 nw,.int .i64 (T.tmod 9),.string ⟨T2.toArray⟩,.int .i64 T,.int .i64 0,.int .i64 ov] W fun e w'=>∃ a2 n2 c2 zs,e = .returned (.tuple #[.slice a2 n2 c2,.bool true])∧dL W.heap.size w' (.slice a2 n2 c2) zs∧zs.length≤2300∧W.grownBy w' none):=fun W kW=>by
        obtain ⟨k1,k2,k3,k4,k5,k6⟩:=Qx.out
        have hi:=CV.out.2.2.2.1
        rw[←k6]
        refine (PR zs (.slice va zs.length vc) jY cl nw (T.tmod 9) cnt T2 T 0 ov W ((by rw[k6];exact k1.1.grown kW)) k2 k3 (by have:=HL.out.2;omega) Qc.out ⟨by have:=zK T 9 (by decide);omega,by have:=zK T 9 (by decide);omega⟩ k5 hi rz k4).mono ?_
        rintro e w' ⟨o,zs2,rfl,m1,m2,m3⟩
        obtain ⟨a2,c2,ho⟩:=m1.has.shape
        rw[ho] at m1 ⊢
        exact ⟨a2,_,c2,zs2,rfl,m1,m2,m3⟩
       clear h1 aho hq hlq hq1 hq2 hpl hp hpc hpn hrow hv0 WU hki hzl Yh hcl adk UF Mo hc0 hl0 hdl hd hov hoc hcnt yN Ga
       go_wp2_with fail
       go_region_held3 (fun w'=>w'.cell? ⟨w.heap.size,1,none⟩=some (.int .i64 A)∧w'.cell? ⟨L.pb,4,none⟩=some (.slice (some ⟨J7,0,none⟩) q cc)) (exact adn.out _ (by (repeat first | with_reducible refine dS ?_ | with_reducible refine aK ?_ (Nat.le_refl _) | with_reducible refine aC ?_ _ | with_reducible exact G2.out | with_reducible exact xD.out | with_reducible exact World.grownBy.refl _ _))) (first|(go_at_call 4;with_reducible refine Calls.mono (HPq.out _) ?_;rintro e wz ⟨rfl,rfl⟩))
       clear adn HPq x4
       go_wp2_with fail
       refine wp_region_held_drew (S:=fun w'=>U.grownBy w' none) (by kernel_rfl) (dS (dS xD.out)) (fun hHeld=>?_)
       refine take_at (i:=0) (t:=86) (.pointer (some ⟨L.pb,0,none⟩)) rfl rfl (by kernel_rfl) (by kernel_rfl) (by kernel_rfl) (fun _ _ _ h=>h) (Or.inl ⟨by rfl,fun w' hSw=>by clear hSw;go_simp⟩) (by assumption) ?_
       simp only[List.setIfInBounds_toArray,List.set_cons_zero,List.set_cons_succ]
       refine take_at (i:=1) (t:=87) (.pointer (some ⟨L.pb,0,none⟩)) rfl rfl (by kernel_rfl) (by kernel_rfl) (by kernel_rfl) (fun _ _ _ h=>h) (Or.inl ⟨by rfl,fun w' hSw=>by clear hSw;go_simp⟩) (by assumption) ?_
       simp only[List.setIfInBounds_toArray,List.set_cons_zero,List.set_cons_succ]
       refine take_at (i:=2) (t:=88) (.pointer (some ⟨L.pb,4,none⟩)) rfl rfl (by kernel_rfl) (by kernel_rfl) (by kernel_rfl) (fun _ _ _ h=>h) (Or.inl ⟨by rfl,fun w' hSw=>by clear hSw;go_simp⟩) (by assumption) ?_
       simp only[List.setIfInBounds_toArray,List.set_cons_zero,List.set_cons_succ]
       refine take_at (i:=3) (t:=89) (.slice (some ⟨J7,0,none⟩) q cc) rfl rfl (by kernel_rfl) (by kernel_rfl) (by kernel_rfl) (fun _ _ _ h=>h) (Or.inl ⟨by rfl,fun w' hSw=>by have c:=hSw.cell e4 (by simp);clear hSw;go_simp⟩) (by assumption) ?_
       simp only[List.setIfInBounds_toArray,List.set_cons_zero,List.set_cons_succ]
       refine take_at (i:=4) (t:=90) (.int .i64 (p:Int)) rfl rfl (by kernel_rfl) (by kernel_rfl) (by kernel_rfl) (fun _ _ _ h=>h) (Or.inl ⟨by rfl,fun w' hSw=>by clear hSw;go_simp⟩) (by assumption) ?_
       simp only[List.setIfInBounds_toArray,List.set_cons_zero,List.set_cons_succ]
       refine take_at (i:=5) (t:=91) (.pointer (some ⟨J7,p*17,none⟩)) rfl rfl (by kernel_rfl) (by kernel_rfl) (by kernel_rfl) (fun _ _ _ h=>h) (Or.inl ⟨by rfl,fun w' hSw=>by clear hSw;go_simp⟩) (by assumption) ?_
       simp only[List.setIfInBounds_toArray,List.set_cons_zero,List.set_cons_succ]
       refine take_at (i:=6) (t:=92) (.pointer (some ⟨J7,p*17,none⟩)) rfl rfl (by kernel_rfl) (by kernel_rfl) (by kernel_rfl) (fun _ _ _ h=>h) (Or.inl ⟨by rfl,fun w' hSw=>by clear hSw;go_simp⟩) (by assumption) ?_
       simp only[List.setIfInBounds_toArray,List.set_cons_zero,List.set_cons_succ]
       refine take_at (i:=7) (t:=93) (.slice va vn vc) rfl rfl (by kernel_rfl) (by kernel_rfl) (by kernel_rfl) (fun _ _ _ h=>h) (Or.inl ⟨by rfl,fun w' hSw=>by have c:=hSw.cell ec0 (by simp);clear hSw;go_simp⟩) (by assumption) ?_
       simp only[List.setIfInBounds_toArray,List.set_cons_zero,List.set_cons_succ]
       refine take_at (i:=8) (t:=94) (.pointer (some ⟨L.pb,0,none⟩)) rfl rfl (by kernel_rfl) (by kernel_rfl) (by kernel_rfl) (fun _ _ _ h=>h) (Or.inl ⟨by rfl,fun w' hSw=>by clear hSw;go_simp⟩) (by assumption) ?_
       simp only[List.setIfInBounds_toArray,List.set_cons_zero,List.set_cons_succ]
       refine take_at (i:=9) (t:=95) (.pointer (some ⟨L.pb,0,none⟩)) rfl rfl (by kernel_rfl) (by kernel_rfl) (by kernel_rfl) (fun _ _ _ h=>h) (Or.inl ⟨by rfl,fun w' hSw=>by clear hSw;go_simp⟩) (by assumption) ?_
       simp only[List.setIfInBounds_toArray,List.set_cons_zero,List.set_cons_succ]
       refine take_at (i:=10) (t:=96) (.pointer (some ⟨L.pb,4,none⟩)) rfl rfl (by kernel_rfl) (by kernel_rfl) (by kernel_rfl) (fun _ _ _ h=>h) (Or.inl ⟨by rfl,fun w' hSw=>by clear hSw;go_simp⟩) (by assumption) ?_
       simp only[List.setIfInBounds_toArray,List.set_cons_zero,List.set_cons_succ]
       refine take_at (i:=11) (t:=97) (.slice (some ⟨J7,0,none⟩) q cc) rfl rfl (by kernel_rfl) (by kernel_rfl) (by kernel_rfl) (fun _ _ _ h=>h) (Or.inl ⟨by rfl,fun w' hSw=>by have c:=hSw.cell e4 (by simp);clear hSw;go_simp⟩) (by assumption) ?_
       simp only[List.setIfInBounds_toArray,List.set_cons_zero,List.set_cons_succ]
       refine take_at (i:=12) (t:=98) (.int .i64 (p:Int)) rfl rfl (by kernel_rfl) (by kernel_rfl) (by kernel_rfl) (fun _ _ _ h=>h) (Or.inl ⟨by rfl,fun w' hSw=>by clear hSw;go_simp⟩) (by assumption) ?_
       simp only[List.setIfInBounds_toArray,List.set_cons_zero,List.set_cons_succ]
       refine take_at (i:=13) (t:=99) (.pointer (some ⟨J7,p*17,none⟩)) rfl rfl (by kernel_rfl) (by kernel_rfl) (by kernel_rfl) (fun _ _ _ h=>h) (Or.inl ⟨by rfl,fun w' hSw=>by clear hSw;go_simp⟩) (by assumption) ?_
       simp only[List.setIfInBounds_toArray,List.set_cons_zero,List.set_cons_succ]
       refine take_at (i:=14) (t:=100) (.pointer (some ⟨J7,p*17+9,none⟩)) rfl rfl (by kernel_rfl) (by kernel_rfl) (by kernel_rfl) (fun _ _ _ h=>h) (Or.inl ⟨by rfl,fun w' hSw=>by clear hSw;go_simp⟩) (by assumption) ?_
       simp only[List.setIfInBounds_toArray,List.set_cons_zero,List.set_cons_succ]
       refine take_at (i:=15) (t:=101) (.pointer (some ⟨J7,p*17+14,none⟩)) rfl rfl (by kernel_rfl) (by kernel_rfl) (by kernel_rfl) (fun _ _ _ h=>h) (Or.inl ⟨by rfl,fun w' hSw=>by clear hSw;go_simp⟩) (by assumption) ?_
       simp only[List.setIfInBounds_toArray,List.set_cons_zero,List.set_cons_succ]
       refine take_at (i:=16) (t:=102) (.int .u64 (jY.toNat:Int)) rfl rfl (by kernel_rfl) (by kernel_rfl) (by kernel_rfl) (fun _ _ _ h=>h) (Or.inl ⟨by rfl,fun w' hSw=>by have c:=hSw.cell adl (by simp);clear hSw;go_simp⟩) (by assumption) ?_
       simp only[List.setIfInBounds_toArray,List.set_cons_zero,List.set_cons_succ]
       refine take_at (i:=17) (t:=103) (.pointer (some ⟨L.pb,0,none⟩)) rfl rfl (by kernel_rfl) (by kernel_rfl) (by kernel_rfl) (fun _ _ _ h=>h) (Or.inl ⟨by rfl,fun w' hSw=>by clear hSw;go_simp⟩) (by assumption) ?_
       simp only[List.setIfInBounds_toArray,List.set_cons_zero,List.set_cons_succ]
       refine take_at (i:=18) (t:=104) (.pointer (some ⟨L.pb,0,none⟩)) rfl rfl (by kernel_rfl) (by kernel_rfl) (by kernel_rfl) (fun _ _ _ h=>h) (Or.inl ⟨by rfl,fun w' hSw=>by clear hSw;go_simp⟩) (by assumption) ?_
       simp only[List.setIfInBounds_toArray,List.set_cons_zero,List.set_cons_succ]
       refine take_at (i:=19) (t:=105) (.pointer (some ⟨L.pb,5,none⟩)) rfl rfl (by kernel_rfl) (by kernel_rfl) (by kernel_rfl) (fun _ _ _ h=>h) (Or.inl ⟨by rfl,fun w' hSw=>by clear hSw;go_simp⟩) (by assumption) ?_
       simp only[List.setIfInBounds_toArray,List.set_cons_zero,List.set_cons_succ]
       refine take_at (i:=20) (t:=106) (.slice (some ⟨lab,0,none⟩) q lc) rfl rfl (by kernel_rfl) (by kernel_rfl) (by kernel_rfl) (fun _ _ _ h=>h) (Or.inl ⟨by rfl,fun w' hSw=>by have c:=hSw.cell e5 (by simp);clear hSw;go_simp⟩) (by assumption) ?_
       simp only[List.setIfInBounds_toArray,List.set_cons_zero,List.set_cons_succ]
       refine take_at (i:=21) (t:=107) (.int .i64 (p:Int)) rfl rfl (by kernel_rfl) (by kernel_rfl) (by kernel_rfl) (fun _ _ _ h=>h) (Or.inl ⟨by rfl,fun w' hSw=>by clear hSw;go_simp⟩) (by assumption) ?_
       simp only[List.setIfInBounds_toArray,List.set_cons_zero,List.set_cons_succ]
       refine take_at (i:=22) (t:=108) (.pointer (some ⟨lab,p,none⟩)) rfl rfl (by kernel_rfl) (by kernel_rfl) (by kernel_rfl) (fun _ _ _ h=>h) (Or.inl ⟨by rfl,fun w' hSw=>by clear hSw;go_simp⟩) (by assumption) ?_
       simp only[List.setIfInBounds_toArray,List.set_cons_zero,List.set_cons_succ]
       refine take_at (i:=23) (t:=109) (.string ⟨cl.toArray⟩) rfl rfl (by kernel_rfl) (by kernel_rfl) (by kernel_rfl) (fun _ _ _ h=>h) (Or.inl ⟨by rfl,fun w' hSw=>by have c:=hSw.cell el0 (by simp);clear hSw;go_simp⟩) (by assumption) ?_
       simp only[List.setIfInBounds_toArray,List.set_cons_zero,List.set_cons_succ]
       refine take_at (i:=24) (t:=110) (.pointer (some ⟨L.pb,0,none⟩)) rfl rfl (by kernel_rfl) (by kernel_rfl) (by kernel_rfl) (fun _ _ _ h=>h) (Or.inl ⟨by rfl,fun w' hSw=>by clear hSw;go_simp⟩) (by assumption) ?_
       simp only[List.setIfInBounds_toArray,List.set_cons_zero,List.set_cons_succ]
       refine take_at (i:=25) (t:=111) (.pointer (some ⟨L.pb,0,none⟩)) rfl rfl (by kernel_rfl) (by kernel_rfl) (by kernel_rfl) (fun _ _ _ h=>h) (Or.inl ⟨by rfl,fun w' hSw=>by clear hSw;go_simp⟩) (by assumption) ?_
       simp only[List.setIfInBounds_toArray,List.set_cons_zero,List.set_cons_succ]
       refine take_at (i:=26) (t:=112) (.pointer (some ⟨L.pb,7,none⟩)) rfl rfl (by kernel_rfl) (by kernel_rfl) (by kernel_rfl) (fun _ _ _ h=>h) (Or.inl ⟨by rfl,fun w' hSw=>by clear hSw;go_simp⟩) (by assumption) ?_
       simp only[List.setIfInBounds_toArray,List.set_cons_zero,List.set_cons_succ]
       refine take_at (i:=27) (t:=113) (.int .i64 nw) rfl rfl (by kernel_rfl) (by kernel_rfl) (by kernel_rfl) (fun _ _ _ h=>h) (Or.inl ⟨by rfl,fun w' hSw=>by have c:=hSw.cell e7 (by simp);clear hSw;go_simp⟩) (by assumption) ?_
       simp only[List.setIfInBounds_toArray,List.set_cons_zero,List.set_cons_succ]
       refine take_at (i:=28) (t:=114) (.pointer (some ⟨w.heap.size,4,none⟩)) rfl rfl (by kernel_rfl) (by kernel_rfl) (by kernel_rfl) (fun _ _ _ h=>h) (Or.inl ⟨by rfl,fun w' hSw=>by clear hSw;go_simp⟩) (by assumption) ?_
       simp only[List.setIfInBounds_toArray,List.set_cons_zero,List.set_cons_succ]
       refine take_at (i:=29) (t:=115) (.int .i64 T) rfl rfl (by kernel_rfl) (by kernel_rfl) (by kernel_rfl) (fun _ _ _ h=>h) (Or.inl ⟨by rfl,fun w' hSw=>by have c:=hSw.cell eT (by simp);clear hSw;go_simp⟩) (by assumption) ?_
       simp only[List.setIfInBounds_toArray,List.set_cons_zero,List.set_cons_succ]
       refine take_at (i:=30) (t:=116) (.int .i64 (T.tmod 9)) rfl rfl (by kernel_rfl) (by kernel_rfl) (by kernel_rfl) (fun _ _ _ h=>h) (Or.inl ⟨by rfl,fun w' hSw=>by clear hSw;go_simp⟩) (by assumption) ?_
       simp only[List.setIfInBounds_toArray,List.set_cons_zero,List.set_cons_succ]
       refine take_at (i:=31) (t:=117) (.string ⟨T2.toArray⟩) rfl rfl (by kernel_rfl) (by kernel_rfl) (by kernel_rfl) (fun _ _ _ h=>h) (Or.inl ⟨by rfl,fun w' hSw=>by clear hSw;go_simp⟩) (by assumption) ?_
       simp only[List.setIfInBounds_toArray,List.set_cons_zero,List.set_cons_succ]
       refine take_at (i:=32) (t:=118) (.pointer (some ⟨w.heap.size,4,none⟩)) rfl rfl (by kernel_rfl) (by kernel_rfl) (by kernel_rfl) (fun _ _ _ h=>h) (Or.inl ⟨by rfl,fun w' hSw=>by clear hSw;go_simp⟩) (by assumption) ?_
       simp only[List.setIfInBounds_toArray,List.set_cons_zero,List.set_cons_succ]
       refine take_at (i:=33) (t:=119) (.int .i64 T) rfl rfl (by kernel_rfl) (by kernel_rfl) (by kernel_rfl) (fun _ _ _ h=>h) (Or.inl ⟨by rfl,fun w' hSw=>by have c:=hSw.cell eT (by simp);clear hSw;go_simp⟩) (by assumption) ?_
       simp only[List.setIfInBounds_toArray,List.set_cons_zero,List.set_cons_succ]
       refine take_at (i:=35) (t:=121) (.pointer (some ⟨w.heap.size,3,none⟩)) rfl rfl (by kernel_rfl) (by kernel_rfl) (by kernel_rfl) (fun _ _ _ h=>h) (Or.inl ⟨by rfl,fun w' hSw=>by clear hSw;go_simp⟩) (by assumption) ?_
       simp only[List.setIfInBounds_toArray,List.set_cons_zero,List.set_cons_succ]
       refine take_at (i:=36) (t:=122) (.int .i64 D) rfl rfl (by kernel_rfl) (by kernel_rfl) (by kernel_rfl) (fun _ _ _ h=>h) (Or.inl ⟨by rfl,fun w' hSw=>by have c:=hSw.cell eD (by simp);clear hSw;go_simp⟩) (by assumption) ?_
       simp only[List.setIfInBounds_toArray,List.set_cons_zero,List.set_cons_succ]
       refine iB (fun X=>U.grownBy X none∧V.grownBy X none) ⟨dS (dS xD.out),dS (dS (World.grownBy.refl _ _))⟩ ?_
       rintro V2 ⟨hu2,hv2⟩
       have Qd:=hid hu2
       have HV2:=hid hv2
       clear hu2 hv2 hHeld e4 e5 e7 ec0 adl el0 eD eT o1
       refine mU (i:=34) (j:=37) rfl rfl (by kernel_rfl) (fun K hK=>?_) (fun K hK=>?_)
       ·as_aux_lemma=>
         rw[if_pos (by rfl)]
         refine vQ 22 10 _ rfl 3 ii _ Tryz.underlying22 hii hi1 hi0 yS.toList rfl rfl (by decide) (by decide) Em ?_
         refine hK.out _ _ (aC Qd.out _) (fun hHeld=>?_)
         clear hK K hHeld
         try simp only[Act.put,List.setIfInBounds_toArray,List.set_cons_zero,List.set_cons_succ]
         refine iB (fun X=>U.grownBy X none∧V.grownBy X none∧X.cell? ⟨V2.heap.size,d,none⟩=some (.int .i64 ov)) ⟨aC Qd.out _,aC HV2.out _,by rw[(bI.new V2 yS 3).cell];exact HOc.out⟩ ?_
         rintro V3 ⟨hu3,hv3,ho3⟩
         have Vj:=hid hu3
         have HV3:=hid hv3
         clear hu3 hv3
         refine ready_one (i:=37) rfl (by kernel_rfl) (fun K hK=>?_)
         go_simp
         refine (HPd.out _).mono ?_
         rintro e wz ⟨rfl,rfl⟩
         go_wp2_with fail
         refine hK.out _ _ Vj.out (fun hHeld=>?_)
         clear hK K hHeld
         try simp only[Act.put,List.setIfInBounds_toArray,List.set_cons_zero,List.set_cons_succ]
         have hHeld:=Vj.out
         refine take_at (i:=38) (t:=124) (.pointer (some ⟨V2.heap.size,d,none⟩)) rfl rfl (by kernel_rfl) (by kernel_rfl) (by kernel_rfl) (fun _ _ _ h=>h) (Or.inl ⟨by rfl,fun w' hSw=>by clear hSw;go_simp⟩) (by assumption) ?_
         simp only[List.setIfInBounds_toArray,List.set_cons_zero,List.set_cons_succ]
         refine ready_one (i:=39) rfl (by kernel_rfl) (fun K hK=>?_)
         go_simp
         refine hK.out _ _ Vj.out (fun hHeld=>?_)
         clear hK K
         try simp only[Act.put,List.setIfInBounds_toArray,List.set_cons_zero,List.set_cons_succ]
         refine ready_one (i:=40) rfl (by kernel_rfl) (fun K hK=>?_)
         go_simp
         refine (XH.out V3 Vj.out).mono ?_
         rintro e w2 ⟨a2,n2,c2,zs2,rfl,q2,hz2,g2⟩
         have G2:Hid (U.grownBy w2 none):=ae Vj.out g2
         have rR:=hid (Mm.out.grown (ae HV3.out g2) (by simp))
         have tZ:=hid (And.intro (dL.base q2 HV3.out.size) hz2)
         have j8:=rR.out.cell 8
         have f8:=rR.out.frozen 8
         clear q2 g2 hz2
         go_wp2_with fail
         refine hK.out _ _ G2.out (fun hHeld=>?_)
         clear hK K
         try simp only[Act.put,List.setIfInBounds_toArray,List.set_cons_zero,List.set_cons_succ]
         refine take_at (i:=41) (t:=85) (.tuple #[.slice a2 n2 c2,.bool true]) rfl rfl (by kernel_rfl) (by kernel_rfl) (by kernel_rfl) (fun _ _ _ h=>h) (Or.inl ⟨by rfl,fun w' hSw=>by clear hSw;go_simp⟩) (by assumption) ?_
         simp only[List.setIfInBounds_toArray,List.set_cons_zero,List.set_cons_succ]
         refine take_at (i:=42) (t:=127) (.slice a2 n2 c2) rfl rfl (by kernel_rfl) (by kernel_rfl) (by kernel_rfl) (fun _ _ _ h=>h) (Or.inl ⟨by rfl,fun w' hSw=>by clear hSw;go_simp⟩) (by assumption) ?_
         simp only[List.setIfInBounds_toArray,List.set_cons_zero,List.set_cons_succ]
         refine take_at (i:=43) (t:=128) (.bool true) rfl rfl (by kernel_rfl) (by kernel_rfl) (by kernel_rfl) (fun _ _ _ h=>h) (Or.inl ⟨by rfl,fun w' hSw=>by clear hSw;go_simp⟩) (by assumption) ?_
         simp only[List.setIfInBounds_toArray,List.set_cons_zero,List.set_cons_succ]
         refine take_at (i:=44) (t:=11) (.slice a2 n2 c2) rfl rfl (by kernel_rfl) (by kernel_rfl) (by kernel_rfl) (fun _ _ _ h=>h) (Or.inl ⟨by rfl,fun w' hSw=>by clear hSw;go_simp⟩) (by assumption) ?_
         simp only[List.setIfInBounds_toArray,List.set_cons_zero,List.set_cons_succ]
         refine take_at (i:=45) (t:=12) (.bool true) rfl rfl (by kernel_rfl) (by kernel_rfl) (by kernel_rfl) (fun _ _ _ h=>h) (Or.inl ⟨by rfl,fun w' hSw=>by clear hSw;go_simp⟩) (by assumption) ?_
         simp only[List.setIfInBounds_toArray,List.set_cons_zero,List.set_cons_succ]
         refine wpAnyH_done (by kernel_rfl) ?_ _
         go_wp2
         go_meet
         exact xy Qc.out G2.out rR.out (KI.made tZ.out.1 (fun b q=>Nat.lt_of_lt_of_le (HOl.out b q) xD.out.size)) (Nat.le_trans tZ.out.2 (by decide)) HwU.out (fun b off e=>by
          have h:V.heap.size≤b:=(dL.place tZ.out.1 b off n2 c2 (by rw[e])).1
          have:=Mm.out.lt
          omega)
       ·as_aux_lemma=>
         go_simp
         refine (HPd.out _).mono ?_
         rintro e wz ⟨rfl,rfl⟩
         go_wp2_with fail
         refine hK.out _ _ Qd.out (fun hHeld=>?_)
         clear hK K hHeld
         try simp only[Act.put,List.setIfInBounds_toArray,List.set_cons_zero,List.set_cons_succ]
         refine ready_one (i:=34) rfl (by kernel_rfl) (fun K hK=>?_)
         rw[if_pos (by rfl)]
         refine vQ 22 10 _ rfl 3 ii _ Tryz.underlying22 hii hi1 hi0 yS.toList rfl rfl (by decide) (by decide) Em ?_
         refine hK.out _ _ (aC Qd.out _) (fun hHeld=>?_)
         clear hK K hHeld
         try simp only[Act.put,List.setIfInBounds_toArray,List.set_cons_zero,List.set_cons_succ]
         refine iB (fun X=>U.grownBy X none∧V.grownBy X none∧X.cell? ⟨V2.heap.size,d,none⟩=some (.int .i64 ov)) ⟨aC Qd.out _,aC HV2.out _,by rw[(bI.new V2 yS 3).cell];exact HOc.out⟩ ?_
         rintro V3 ⟨hu3,hv3,ho3⟩
         have Vj:=hid hu3
         have HV3:=hid hv3
         clear hu3 hv3
         have hHeld:=Vj.out
         refine take_at (i:=38) (t:=124) (.pointer (some ⟨V2.heap.size,d,none⟩)) rfl rfl (by kernel_rfl) (by kernel_rfl) (by kernel_rfl) (fun _ _ _ h=>h) (Or.inl ⟨by rfl,fun w' hSw=>by clear hSw;go_simp⟩) (by assumption) ?_
         simp only[List.setIfInBounds_toArray,List.set_cons_zero,List.set_cons_succ]
         refine ready_one (i:=39) rfl (by kernel_rfl) (fun K hK=>?_)
         go_simp
         refine hK.out _ _ Vj.out (fun hHeld=>?_)
         clear hK K
         try simp only[Act.put,List.setIfInBounds_toArray,List.set_cons_zero,List.set_cons_succ]
         refine ready_one (i:=40) rfl (by kernel_rfl) (fun K hK=>?_)
         go_simp
         refine (XH.out V3 Vj.out).mono ?_
         rintro e w2 ⟨a2,n2,c2,zs2,rfl,q2,hz2,g2⟩
         have G2:Hid (U.grownBy w2 none):=ae Vj.out g2
         have rR:=hid (Mm.out.grown (ae HV3.out g2) (by simp))
         have tZ:=hid (And.intro (dL.base q2 HV3.out.size) hz2)
         have j8:=rR.out.cell 8
         have f8:=rR.out.frozen 8
         clear q2 g2 hz2
         go_wp2_with fail
         refine hK.out _ _ G2.out (fun hHeld=>?_)
         clear hK K
         try simp only[Act.put,List.setIfInBounds_toArray,List.set_cons_zero,List.set_cons_succ]
         refine take_at (i:=41) (t:=85) (.tuple #[.slice a2 n2 c2,.bool true]) rfl rfl (by kernel_rfl) (by kernel_rfl) (by kernel_rfl) (fun _ _ _ h=>h) (Or.inl ⟨by rfl,fun w' hSw=>by clear hSw;go_simp⟩) (by assumption) ?_
         simp only[List.setIfInBounds_toArray,List.set_cons_zero,List.set_cons_succ]
         refine take_at (i:=42) (t:=127) (.slice a2 n2 c2) rfl rfl (by kernel_rfl) (by kernel_rfl) (by kernel_rfl) (fun _ _ _ h=>h) (Or.inl ⟨by rfl,fun w' hSw=>by clear hSw;go_simp⟩) (by assumption) ?_
         simp only[List.setIfInBounds_toArray,List.set_cons_zero,List.set_cons_succ]
         refine take_at (i:=43) (t:=128) (.bool true) rfl rfl (by kernel_rfl) (by kernel_rfl) (by kernel_rfl) (fun _ _ _ h=>h) (Or.inl ⟨by rfl,fun w' hSw=>by clear hSw;go_simp⟩) (by assumption) ?_
         simp only[List.setIfInBounds_toArray,List.set_cons_zero,List.set_cons_succ]
         refine take_at (i:=44) (t:=11) (.slice a2 n2 c2) rfl rfl (by kernel_rfl) (by kernel_rfl) (by kernel_rfl) (fun _ _ _ h=>h) (Or.inl ⟨by rfl,fun w' hSw=>by clear hSw;go_simp⟩) (by assumption) ?_
         simp only[List.setIfInBounds_toArray,List.set_cons_zero,List.set_cons_succ]
         refine take_at (i:=45) (t:=12) (.bool true) rfl rfl (by kernel_rfl) (by kernel_rfl) (by kernel_rfl) (fun _ _ _ h=>h) (Or.inl ⟨by rfl,fun w' hSw=>by clear hSw;go_simp⟩) (by assumption) ?_
         simp only[List.setIfInBounds_toArray,List.set_cons_zero,List.set_cons_succ]
         refine wpAnyH_done (by kernel_rfl) ?_ _
         go_wp2
         go_meet
         exact xy Qc.out G2.out rR.out (KI.made tZ.out.1 (fun b q=>Nat.lt_of_lt_of_le (HOl.out b q) xD.out.size)) (Nat.le_trans tZ.out.2 (by decide)) HwU.out (fun b off e=>by
          have h:V.heap.size≤b:=(dL.place tZ.out.1 b off n2 c2 (by rw[e])).1
          have:=Mm.out.lt
          omega)
     ·have x6:V.cell? ⟨L.pb,6,none⟩=some (.slice ma ms.length mc):=xD.out.cell (HT.out.pair.cell 6) (by simp)
      obtain ⟨q,hq⟩:∃ q,ms.length=q:=⟨_,rfl⟩
      rw[hq] at x6
      by_cases hq0:q=0
      ·subst hq0
       clear h1
       go_wp2
       go_meet
       exact Xh Qc.out xD.out Mm.out
      ·as_aux_lemma=>
        have hpl:=gL A q (by omega)
        obtain ⟨p,hp⟩:∃ p,fZ A q=p:=⟨_,rfl⟩
        rw[hp] at hpl
        have hown:=HT.out.made
        have hpm:p<ms.length:=by rw[hq];exact hpl
        obtain ⟨hki,hkl⟩:=HT.out.uu _ (List.getElem_mem hpm)
        obtain ⟨va,vc,hva⟩:=hki.1.shape
        obtain ⟨mb,rfl,hcell⟩:∃ mb,ma=some ⟨mb,0,none⟩∧U.cell? ⟨mb,p,none⟩=some (ms[p]).1:=by
         have hu:(ms.map fun x=>x.1)[p]?=some (ms[p]).1:=by rw[List.getElem?_map,List.getElem?_eq_getElem hpm];rfl
         rcases hown.2 with ⟨hv,hn⟩ | ⟨g,cap,cur,hv,_⟩
         ·rw[hq] at hn;omega
         ·injection hv with hv
          subst hv
          have h:=hown.cells (g:=g) rfl p _ hu
          rw[Addr.add_lit,Nat.zero_add] at h
          exact ⟨g,rfl,h⟩
        obtain ⟨vn,Yh⟩:∃ n,(ms[p]).2.length=n:=⟨_,rfl⟩
        rw[Yh] at hva
        have adq:=hva
        rw[hva] at hcell hki
        have x7':V.cell? ⟨mb,p,none⟩=some (.slice va vn vc):=xD.out.cell hcell (by simp)
        have ahq:Hid (∀ W,U.grownBy W none→W.cell? ⟨L.pb,6,none⟩=some (.slice (some ⟨mb,0,none⟩) q mc)∧W.cell? ⟨w.heap.size,1,none⟩=some (.int .i64 A)∧W.cell? ⟨mb,p,none⟩=some (.slice va vn vc)):=fun W kW=>⟨by have:=kW.cell (HT.out.pair.cell 6) (by simp);rw[←hq];exact this,kW.cell (HB.out.1.cell 1) (by simp),kW.cell hcell (by simp)⟩
        have HPq:Hid (∀ W,Calls Tryz.prog 4 #[.int .i64 A,.int .i64 (q:Int)] W fun e w'=>e = .returned (.int .i64 (p:Int))∧W=w'):=fun W=>by
         have h:=Ga.out A q W CV.out.1 (by omega) (by have:=rM.out.2.2.1;have:=rM.out.2.2.2.2.2;omega)
         rw[hp] at h
         exact h
        have ahr:Hid (∀ b off,va=some ⟨b,off,none⟩→b<w.heap.size):=fun b off e=>by
         have h:=((Z7.out.uu _ (List.getElem_mem hpm)).1.2 b off vn vc (by rw[adq,e])).1
         exact h
        have Qx:=hid (And.intro hki hkl)
        have hp0:(0:Int)≤(p:Int):=by omega
        have hpq:(p:Int)<(q:Int):=by omega
        have hq1:(0:Int)<(q:Int):=by omega
        have j8:=Mm.out.cell 8
        have f8:=Mm.out.frozen 8
        clear h1 hown hki hkl hva adq hcell hp hq0 hpl
        go_wp2_with fail
        go_region_held3 (fun w'=>w'.cell? ⟨L.pb,6,none⟩=some (.slice (some ⟨mb,0,none⟩) q mc)∧w'.cell? ⟨w.heap.size,1,none⟩=some (.int .i64 A)∧w'.cell? ⟨mb,p,none⟩=some (.slice va vn vc)) (exact ahq.out _ (by (repeat first | with_reducible refine dS ?_ | with_reducible refine aK ?_ (Nat.le_refl _) | with_reducible exact xD.out))) (first|(go_at_call 4;with_reducible refine Calls.mono (HPq.out _) ?_;rintro e wz ⟨rfl,rfl⟩))
        go_wp2
        go_meet
        exact UA (xy Qc.out xD.out Mm.out (Qx.out.1.step (Stp.gb xD.out)) Qx.out.2 HwU.out (fun b off e=>.inl (ahr.out b off e)))
     ·have anY:True:=trivial
      have hb6:=gL B 6 (by decide)
      obtain ⟨b6,Z8⟩:∃ k,fZ B 6=k:=⟨_,rfl⟩
      rw[Z8] at hb6
      obtain ⟨T3,hT3,adr,_,_⟩:=zJ b6 (by omega)
      obtain ⟨ky,Yg⟩:=JJ T
      have Yy:=gL A 4 (by decide)
      obtain ⟨a4,Z9⟩:∃ k,fZ A 4=k:=⟨_,rfl⟩
      rw[Z9] at Yy
      have hd4:=gL D 400 (by decide)
      obtain ⟨d4,aaa⟩:∃ k,fZ D 400=k:=⟨_,rfl⟩
      rw[aaa] at hd4
      obtain ⟨d7,ads⟩:∃ k,fZ (IntKind.i64.wrap (D.tdiv 7)) 64=k:=⟨_,rfl⟩
      have eA:U.cell? ⟨w.heap.size,1,none⟩=some (.int .i64 A):=HB.out.1.cell 1
      have eB:U.cell? ⟨w.heap.size,2,none⟩=some (.int .i64 B):=HB.out.1.cell 2
      have eD:U.cell? ⟨w.heap.size,3,none⟩=some (.int .i64 D):=HB.out.1.cell 3
      have eT:U.cell? ⟨w.heap.size,4,none⟩=some (.int .i64 T):=HB.out.1.cell 4
      have eN:U.cell? ⟨w.heap.size+2,b6,none⟩=some (.string ⟨T3.toArray⟩):=by rw[HB.out.2.2.cell];exact hT3
      have HP1:Hid (∀ W,Calls Tryz.prog 4 #[.int .i64 A,.int .i64 4] W fun e w'=>e = .returned (.int .i64 (a4:Int))∧W=w'):=fun W=>by
       have h:=Ga.out A 4 W CV.out.1 (by decide) (by decide)
       rw[Z9] at h
       exact h
      have Vf:Hid (∀ W,Calls Tryz.prog 4 #[.int .i64 B,.int .i64 6] W fun e w'=>e = .returned (.int .i64 (b6:Int))∧W=w'):=fun W=>by
       have h:=Ga.out B 6 W CV.out.2.1 (by decide) (by decide)
       rw[Z8] at h
       exact h
      have HP3:Hid (∀ W,Calls Tryz.prog 4 #[.int .i64 D,.int .i64 400] W fun e w'=>e = .returned (.int .i64 (d4:Int))∧W=w'):=fun W=>by
       have h:=Ga.out D 400 W CV.out.2.2.1 (by decide) (by decide)
       rw[aaa] at h
       exact h
      have zA:Hid (∀ W,Calls Tryz.prog 4 #[.int .i64 (IntKind.i64.wrap (D.tdiv 7)),.int .i64 64] W fun e w'=>e = .returned (.int .i64 (d7:Int))∧W=w'):=fun W=>by
       have h:=Ga.out (IntKind.i64.wrap (D.tdiv 7)) 64 W (JG _) (by decide) (by decide)
       rw[ads] at h
       exact h
      have hw1:IntKind.i64.wrap (1+(a4:Int))=1+(a4:Int):=by rw[IntKind.wrap_i64];omega
      have hw6:IntKind.i64.wrap 6=6:=by rw[IntKind.wrap_i64];omega
      have an0:(0:Int)≤(b6:Int):=by omega
      have an1:(b6:Int)<7:=by omega
      have HKy:=hid (And.intro Yg (And.intro adr hd4))
      have adt:L.pb≠U.heap.size:=by have:=HT.out.pair.lt;omega
      have HnL:=hid adt
      clear h1 Z8 hb6 hT3 adr Yg Yy Z9 hd4 aaa ads adt Ga
      go_wp2_with fail
      go_cut [] (fun wx=>oV U nw wx)
      case first=>
       refine wp_region_held_drew (S:=fun w'=>U.grownBy w' none) (by kernel_rfl) (dS xD.out) (fun hHeld=>?_)
       refine iB (fun X=>U.grownBy X none∧V.grownBy X none) ⟨dS xD.out,dS (World.grownBy.refl _ _)⟩ ?_
       rintro V2 ⟨hu2,hv2⟩
       have Qd:=hid hu2
       have HB2:=hid (Mm.out.grown hv2 (by simp))
       clear hu2 hv2 hHeld
       have hHeld:=Qd.out
       refine take_at (i:=0) (t:=159) (.pointer (some ⟨w.heap.size,1,none⟩)) rfl rfl (by kernel_rfl) (by kernel_rfl) (by kernel_rfl) (fun _ _ _ h=>h) (Or.inl ⟨by rfl,fun w' hSw=>by clear hSw;go_simp⟩) (by assumption) ?_
       simp only[List.setIfInBounds_toArray,List.set_cons_zero,List.set_cons_succ]
       refine take_at (i:=1) (t:=160) (.int .i64 A) rfl rfl (by kernel_rfl) (by kernel_rfl) (by kernel_rfl) (fun _ _ _ h=>h) (Or.inl ⟨by rfl,fun w' hSw=>by have c:=hSw.cell eA (by simp);clear hSw;go_simp⟩) (by assumption) ?_
       simp only[List.setIfInBounds_toArray,List.set_cons_zero,List.set_cons_succ]
       refine take_at (i:=4) (t:=163) (.slice (some ⟨w.heap.size+2,0,none⟩) 7 7) rfl rfl (by kernel_rfl) (by kernel_rfl) (by kernel_rfl) (fun _ _ _ h=>h) (Or.inl ⟨by rfl,fun w' hSw=>by clear hSw;go_simp⟩) (by assumption) ?_
       simp only[List.setIfInBounds_toArray,List.set_cons_zero,List.set_cons_succ]
       refine take_at (i:=5) (t:=164) (.pointer (some ⟨w.heap.size,2,none⟩)) rfl rfl (by kernel_rfl) (by kernel_rfl) (by kernel_rfl) (fun _ _ _ h=>h) (Or.inl ⟨by rfl,fun w' hSw=>by clear hSw;go_simp⟩) (by assumption) ?_
       simp only[List.setIfInBounds_toArray,List.set_cons_zero,List.set_cons_succ]
       refine take_at (i:=6) (t:=165) (.int .i64 B) rfl rfl (by kernel_rfl) (by kernel_rfl) (by kernel_rfl) (fun _ _ _ h=>h) (Or.inl ⟨by rfl,fun w' hSw=>by have c:=hSw.cell eB (by simp);clear hSw;go_simp⟩) (by assumption) ?_
       simp only[List.setIfInBounds_toArray,List.set_cons_zero,List.set_cons_succ]
       refine take_at (i:=7) (t:=166) (.slice (some ⟨w.heap.size+2,0,none⟩) 7 7) rfl rfl (by kernel_rfl) (by kernel_rfl) (by kernel_rfl) (fun _ _ _ h=>h) (Or.inl ⟨by rfl,fun w' hSw=>by clear hSw;go_simp⟩) (by assumption) ?_
       simp only[List.setIfInBounds_toArray,List.set_cons_zero,List.set_cons_succ]
       refine take_at (i:=8) (t:=167) (.int .i64 7) rfl rfl (by kernel_rfl) (by kernel_rfl) (by kernel_rfl) (fun _ _ _ h=>h) (Or.inl ⟨by rfl,fun w' hSw=>by clear hSw;go_simp⟩) (by assumption) ?_
       simp only[List.setIfInBounds_toArray,List.set_cons_zero,List.set_cons_succ]
       refine take_at (i:=9) (t:=168) (.int .i64 6) rfl rfl (by kernel_rfl) (by kernel_rfl) (by kernel_rfl) (fun _ _ _ h=>h) (Or.inl ⟨by rfl,fun w' hSw=>by clear hSw;go_simp⟩) (by assumption) ?_
       simp only[List.setIfInBounds_toArray,List.set_cons_zero,List.set_cons_succ]
       refine take_at (i:=13) (t:=172) (.pointer (some ⟨w.heap.size,4,none⟩)) rfl rfl (by kernel_rfl) (by kernel_rfl) (by kernel_rfl) (fun _ _ _ h=>h) (Or.inl ⟨by rfl,fun w' hSw=>by clear hSw;go_simp⟩) (by assumption) ?_
       simp only[List.setIfInBounds_toArray,List.set_cons_zero,List.set_cons_succ]
       refine take_at (i:=14) (t:=173) (.int .i64 T) rfl rfl (by kernel_rfl) (by kernel_rfl) (by kernel_rfl) (fun _ _ _ h=>h) (Or.inl ⟨by rfl,fun w' hSw=>by have c:=hSw.cell eT (by simp);clear hSw;go_simp⟩) (by assumption) ?_
       simp only[List.setIfInBounds_toArray,List.set_cons_zero,List.set_cons_succ]
       refine take_at (i:=15) (t:=174) (.int .u64 (IntKind.u64.wrap T)) rfl rfl (by kernel_rfl) (by kernel_rfl) (by kernel_rfl) (fun _ _ _ h=>h) (Or.inl ⟨by rfl,fun w' hSw=>by clear hSw;go_simp⟩) (by assumption) ?_
       simp only[List.setIfInBounds_toArray,List.set_cons_zero,List.set_cons_succ]
       refine take_at (i:=16) (t:=175) (.pointer (some ⟨w.heap.size,3,none⟩)) rfl rfl (by kernel_rfl) (by kernel_rfl) (by kernel_rfl) (fun _ _ _ h=>h) (Or.inl ⟨by rfl,fun w' hSw=>by clear hSw;go_simp⟩) (by assumption) ?_
       simp only[List.setIfInBounds_toArray,List.set_cons_zero,List.set_cons_succ]
       refine take_at (i:=17) (t:=176) (.int .i64 D) rfl rfl (by kernel_rfl) (by kernel_rfl) (by kernel_rfl) (fun _ _ _ h=>h) (Or.inl ⟨by rfl,fun w' hSw=>by have c:=hSw.cell eD (by simp);clear hSw;go_simp⟩) (by assumption) ?_
       simp only[List.setIfInBounds_toArray,List.set_cons_zero,List.set_cons_succ]
       refine take_at (i:=19) (t:=178) (.pointer (some ⟨w.heap.size,3,none⟩)) rfl rfl (by kernel_rfl) (by kernel_rfl) (by kernel_rfl) (fun _ _ _ h=>h) (Or.inl ⟨by rfl,fun w' hSw=>by clear hSw;go_simp⟩) (by assumption) ?_
       simp only[List.setIfInBounds_toArray,List.set_cons_zero,List.set_cons_succ]
       refine take_at (i:=20) (t:=179) (.int .i64 D) rfl rfl (by kernel_rfl) (by kernel_rfl) (by kernel_rfl) (fun _ _ _ h=>h) (Or.inl ⟨by rfl,fun w' hSw=>by have c:=hSw.cell eD (by simp);clear hSw;go_simp⟩) (by assumption) ?_
       simp only[List.setIfInBounds_toArray,List.set_cons_zero,List.set_cons_succ]
       refine take_at (i:=21) (t:=180) (.int .i64 (IntKind.i64.wrap (D.tdiv 7))) rfl rfl (by kernel_rfl) (by kernel_rfl) (by kernel_rfl) (fun _ _ _ h=>h) (Or.inl ⟨by rfl,fun w' hSw=>by clear hSw;go_simp⟩) (by assumption) ?_
       simp only[List.setIfInBounds_toArray,List.set_cons_zero,List.set_cons_succ]
       refine ready_one (i:=2) rfl (by kernel_rfl) (fun K hK=>?_)
       go_simp
       refine (HP1.out _).mono ?_
       rintro e wz ⟨rfl,rfl⟩
       go_wp2_with fail
       refine hK.out _ _ Qd.out (fun hHeld=>?_)
       clear hK K
       try simp only[Act.put,List.setIfInBounds_toArray,List.set_cons_zero,List.set_cons_succ]
       refine take_at (i:=3) (t:=162) (.int .i64 (1+(a4:Int))) rfl rfl (by kernel_rfl) (by kernel_rfl) (by kernel_rfl) (fun _ _ _ h=>h) (Or.inl ⟨by rfl,fun w' hSw=>by clear hSw;go_simp⟩) (by assumption) ?_
       simp only[List.setIfInBounds_toArray,List.set_cons_zero,List.set_cons_succ]
       refine ready_one (i:=10) rfl (by kernel_rfl) (fun K hK=>?_)
       go_simp
       refine (Vf.out _).mono ?_
       rintro e wz ⟨rfl,rfl⟩
       go_wp2_with fail
       refine hK.out _ _ Qd.out (fun hHeld=>?_)
       clear hK K
       try simp only[Act.put,List.setIfInBounds_toArray,List.set_cons_zero,List.set_cons_succ]
       refine take_at (i:=11) (t:=170) (.pointer (some ⟨w.heap.size+2,b6,none⟩)) rfl rfl (by kernel_rfl) (by kernel_rfl) (by kernel_rfl) (fun _ _ _ h=>h) (Or.inl ⟨by rfl,fun w' hSw=>by clear hSw;go_simp⟩) (by assumption) ?_
       simp only[List.setIfInBounds_toArray,List.set_cons_zero,List.set_cons_succ]
       refine take_at (i:=12) (t:=171) (.string ⟨T3.toArray⟩) rfl rfl (by kernel_rfl) (by kernel_rfl) (by kernel_rfl) (fun _ _ _ h=>h) (Or.inl ⟨by rfl,fun w' hSw=>by have c:=hSw.cell eN (by simp);clear hSw;go_simp⟩) (by assumption) ?_
       simp only[List.setIfInBounds_toArray,List.set_cons_zero,List.set_cons_succ]
       refine ready_one (i:=18) rfl (by kernel_rfl) (fun K hK=>?_)
       go_simp
       refine (HP3.out _).mono ?_
       rintro e wz ⟨rfl,rfl⟩
       go_wp2_with fail
       refine hK.out _ _ Qd.out (fun hHeld=>?_)
       clear hK K
       try simp only[Act.put,List.setIfInBounds_toArray,List.set_cons_zero,List.set_cons_succ]
       refine ready_one (i:=22) rfl (by kernel_rfl) (fun K hK=>?_)
       go_simp
       refine (zA.out _).mono ?_
       rintro e wz ⟨rfl,rfl⟩
       go_wp2_with fail
       refine hK.out _ _ Qd.out (fun hHeld=>?_)
       clear hK K
       try simp only[Act.put,List.setIfInBounds_toArray,List.set_cons_zero,List.set_cons_succ]
       refine take_at (i:=23) (t:=182) (.int .i64 (bits .andNot .i64 (d7:Int) 32)) rfl rfl (by kernel_rfl) (by kernel_rfl) (by kernel_rfl) (fun _ _ _ h=>h) (Or.inl ⟨by rfl,fun w' hSw=>by clear hSw;go_simp⟩) (by assumption) ?_
       simp only[List.setIfInBounds_toArray,List.set_cons_zero,List.set_cons_succ]
       refine take_at (i:=24) (t:=183) (.agg #[.int .i64 (1+(a4:Int)),.string ⟨T3.toArray⟩,.int .u64 (IntKind.u64.wrap T),.int .i64 (d4:Int),.int .i64 500,.int .i64 0,.int .i64 (bits .andNot .i64 (d7:Int) 32)]) rfl rfl (by kernel_rfl) (by kernel_rfl) (by kernel_rfl) (fun _ _ _ h=>h) (Or.inl ⟨by rfl,fun w' _=>lK w' 43 _ rfl _ rfl _ (by kernel_rfl)⟩) (by assumption) ?_
       simp only[List.setIfInBounds_toArray,List.set_cons_zero,List.set_cons_succ]
       refine take_at (i:=25) (t:=184) (.pointer (some ⟨U.heap.size,0,none⟩)) rfl rfl (by kernel_rfl) (by kernel_rfl) (by kernel_rfl) (fun _ _ _ h=>h) (Or.inl ⟨by rfl,fun w' hSw=>by clear hSw;go_simp⟩) (by assumption) ?_
       simp only[List.setIfInBounds_toArray,List.set_cons_zero,List.set_cons_succ]
       generalize hCS:(#[.int .i64 (1+(a4:Int)),.string ⟨T3.toArray⟩,.int .u64 (IntKind.u64.wrap T),.int .i64 (d4:Int),.int .i64 500,.int .i64 0,.int .i64 (bits .andNot .i64 (d7:Int) 32)]:Array Value)=CS
       have hsz:CS.size=7:=by rw[←hCS];rfl
       refine ready_one (i:=26) rfl (by kernel_rfl) (fun K hK=>?_)
       rw[if_pos (by rfl)]
       refine wp_store_mid 43 _ _ rfl U.heap.size 0 CS rfl rfl ((JI HB2.out).there 0 _ (by omega)) (by rw[hsz];exact Tryz.UD) (by rw[←hCS];exact Xj _ _ _ _ _) ?_
       refine hK.out _ _ (iK _ (Nat.le_refl _) _ _ _ Qd.out) (fun hHeld=>?_)
       clear hK K
       refine wpAnyH_done (by kernel_rfl) ?_ _
       go_wp2
       go_meet
       rw[←hCS]
       exact Xk HB2.out Qd.out HKy.out.1 ⟨by omega,by have:=HKy.out.2.2;omega⟩ (mJ _ _) (by have:=HKy.out.2.1;omega) Qc.out
      case rest=>
       have J5:=hid hcut
       obtain ⟨a,g1,bA,_⟩:=hcut
       have y3:wc.cell? ⟨w.heap.size,3,none⟩=some (.int .i64 D):=g1.cell (HB.out.1.cell 3) (by simp)
       have x7:wc.cell? ⟨L.pb,7,none⟩=some (.int .i64 nw):=g1.cell (HT.out.pair.cell 7) (by simp)
       have i5:=bA.cell 5
       have i6:=bA.cell 6
       have g5:=bA.frozen 5
       have g6:=bA.frozen 6
       have hnw:w.heap.size≠U.heap.size:=by have:=ahm.out;omega
       have hnl:=HnL.out
       clear g1 bA
       by_cases c9:D.tmod 9=0
       ·have d9:(D.tmod 9==0)=true:=by simpa using c9
        clear c9
        by_cases c11:D.tmod 11=0
        ·have d11:(D.tmod 11==0)=true:=by simpa using c11
         clear c11
         go_wp2
         go_meet
         exact (J5.out.off.exp _).fin
        ·have d11:(D.tmod 11==0)=false:=by simpa using c11
         clear c11
         go_wp2
         go_meet
         exact J5.out.off.fin
       ·have d9:(D.tmod 9==0)=false:=by simpa using c9
        clear c9
        by_cases c11:D.tmod 11=0
        ·have d11:(D.tmod 11==0)=true:=by simpa using c11
         clear c11
         go_wp2
         go_meet
         exact (J5.out.exp _).fin
        ·have d11:(D.tmod 11==0)=false:=by simpa using c11
         clear c11
         go_wp2
         go_meet
         exact J5.out.fin
    ·as_aux_lemma=>
      have k1:(kd==1)=false:=by simpa using h1
      have k2:(kd==2)=false:=by simp;omega
      have k3:(kd==3)=false:=by simp;omega
      have k4:(kd==4)=false:=by simp;omega
      have y5:V.cell? ⟨w.heap.size,5,none⟩=some (.string ⟨S.toArray⟩):=xD.out.cell (HB.out.1.cell 5) (by simp)
      have hS2:S.length≤140737488355328:=CV.out.2.2.2.2
      clear h1 h5
      go_wp2_with (refine yg _ rfl _ 9 25 rfl 5 Tryz.underlying9 Tryz.underlying25 Tryz.underlying5 S rfl hS2 ?_;intro ahc w3 hk3 hg3 hs3;have rU:=hid (ae xD.out hg3);have aab:=hid (Mm.out.grown hg3 (by simp));have j8:=aab.out.cell 8;have f8:=aab.out.frozen 8;have YP:=hid (And.intro hk3 hs3);clear hk3 hs3 hg3)
      go_meet
      refine xy Qc.out rU.out aab.out ⟨YP.out.1,fun b off m c e=>?_⟩ CV.out.2.2.2.2 HwU.out (fun b off e=>?_)
      ·injection e with e1 e2 e3
       injection e1 with e1
       injection e1 with e1
       subst e1
       exact ⟨YP.out.2,fun q=>by have:=HOl.out _ q;have:=Mm.out.lt;omega⟩
      ·injection e with e1
       injection e1 with e1
       have:=Mm.out.lt
       omega
  case rest=>
   as_aux_lemma=>
    obtain ⟨a,va,vn,vc,aG,g1,bJ,hok,hki,hl,hvb⟩:=hcut
    have HVb:=hid hvb
    clear hvb
    obtain ⟨ib,hib,hb0,hb1,hb2⟩:=info_parts Tryz.Qb
    have hT2:=HT.out.gb g1
    have bR:=HB.out.2.1.grown g1 (by simp)
    have HT2:=hid hT2
    have rR:=hid (And.intro bJ bR)
    have Qx:=hid (And.intro hok (And.intro hki hl))
    have nH:=hid g1
    have HUl:=hid Mm.out.lt
    have HrU:Hid (w.heap.size+1<U.heap.size):=HB.out.2.1.lt
    have WO:Hid (∀ b,eU L.lo L.hi L.pb ca la ma b→b<w.heap.size):=ahl.out
    have z0:wc.cell? ⟨U.heap.size,0,none⟩=some (.int .i64 a.kind):=bJ.cell 0
    clear hok hki hl g1 hT2 bR bJ HV xD n1 n2 y0 y1 y2 x7
    go_upto_if 205 with fail
    go_cut [] (fun wx=>UB w0 L Mp Mq cs ls ms nw ca la ma cc lc w U a va vn vc aG wx)
    case first=>
     as_aux_lemma=>
      by_cases hk:a.kind=0
      ·as_aux_lemma=>
        have hkb:(a.kind==0)=true:=by rw[hk];rfl
        have x8:wc.cell? ⟨U.heap.size,8,none⟩=some (.slice va vn vc):=rR.out.1.cell 8
        have x6:wc.cell? ⟨L.pb,6,none⟩=some (.slice ma ms.length mc):=HT2.out.pair.cell 6
        have x6a:=(World.grownBy_alloc wc (.cells #[.slice va vn vc] 25) none).cell x6 (by simp)
        have hown:=HT2.out.made
        have hll:(ms.length+1)*24≤140737488355328:=by have:=rM.out.2.2.1;have:=rM.out.2.2.2.2.2;omega
        have ZK:ms.length+1≤maxLen:=by unfold maxLen;omega
        have hpb:L.pb<wc.heap.size:=HT2.out.pair.lt
        have RR:∀ a6 c6 w6,w6.ownsRow L.hi 25 1 (.slice a6 (ms.length+1) c6) (ms.length+1) (ms.map (fun x=>x.1)++[.slice va vn vc])→CF (wc.alloc (.cells #[.slice va vn vc] 25)) w6 (fun b _=>(Value.slice ma ms.length mc).ownBlock=some b)→((Value.slice a6 (ms.length+1) c6).ownBlock=(Value.slice ma ms.length mc).ownBlock∨(Value.slice a6 (ms.length+1) c6).ownBlock=some (wc.heap.size+1))→
          UB w0 L Mp Mq cs ls ms nw ca la ma cc lc w U a va vn vc aG (w6.setCell ⟨L.pb,6,none⟩ (.slice a6 (ms.length+1) c6)):=by
         intro a6 c6 w6 ho hc hb
         have k:CF wc w6 (fun b _=>jO ma=some b):=(CF.aW (World.grownBy_alloc wc _ none) _).trans hc (fun b _ _ e=>by rw[bV] at e;exact e)
         obtain ⟨hS,hs⟩:=HT2.out.WY (v:=.slice va vn vc) (zs:=aG) k ho (by
          rw[bV,bV] at hb
          rcases hb with hb | hb
          ·exact .inl hb
          ·exact .inr ⟨_,hb,by omega⟩) Qx.out.2.1 Qx.out.2.2
         have hO:∀ b,eU L.lo L.hi L.pb ca la ma b→b<U.heap.size:=HT.out.lt
         have hU2:w.heap.size+1<wc.heap.size:=rR.out.2.lt
         refine ⟨ms++[(.slice va vn vc,aG)],a6,c6,hS,(zL.out.trans (Stp.gb nH.out)).trans hs,fun x hx=>?_,by simp,fun e=>?_,rR.out.1.Uq hs.cf (fun o e=>by have:=hO _ e;omega),rR.out.2.Uq hs.cf (fun o e=>by have:=WO.out _ e;omega),Qx.out.2.1.step hs⟩
         ·rcases List.mem_append.1 hx with q | q
          ·exact .inl q
          ·exact .inr (List.mem_singleton.1 q)
         ·rcases hs.own _ e with q | q
          ·have:=WO.out _ q;omega
          ·omega
        clear hk
        go_wp2_with fail
        go_region_law (first|(refine tC rfl _ _ 36 rfl L.hi 25 ib _ 1 24 Tryz.underlying36 hib hb0 hb1 hb2 rfl (by decide) (.slice ma ms.length mc) ms.length _ ?s1 (hown.alloc _) ⟨wc.heap.size,0,none⟩ 1 1 [.slice va vn vc] ?s2 rfl ?s3 ?s4 (by omega) ZK hll ?s5 ?_;(case s1=>first | rfl | simp[Act.eval,Act.put]);(case s2=>first | rfl | simp[Act.eval,Act.put]);(case s3=>exact jS wc _ _);(case s4=>intro u hu;simp at hu;rcases hu with rfl;rfl);(case s5=>have:=HT2.out.hil;simp;omega);intro a6 c6 w6 hown6 JK hblk6;have UG:CF (wc.alloc (.cells #[.slice va vn vc] 25)) w6 (fun b _=>(Value.slice ma ms.length mc).ownBlock=some b):=⟨JK.os,JK.tape,JK.output,JK.size,JK.block,JK.cells⟩;have Xm:=(HT2.out.pair.alloc (.cells #[.slice va vn vc] 25)).Uq UG (fun o e=>by rw[bV] at e;exact HT2.out.vL.2.2 e);have z6:=Xm.cell 6;have z6f:=Xm.frozen 6;simp only[List.getElem?_toArray,List.getElem?_cons_zero,List.getElem?_cons_succ] at z6;have R6:=hid (RR a6 c6 w6 hown6 UG (by simpa using hblk6.out))))
        all_goals
         go_wp2
         go_meet
         exact R6.out
      ·have hkb:(a.kind==0)=false:=by simpa using hk
       clear hk
       go_wp2
       go_meet
       exact ⟨ms,ma,mc,HT2.out,zL.out.trans (Stp.gb nH.out),fun x hx=>.inl hx,Nat.le_succ _,fun e=>by have:=WO.out _ e;omega,rR.out.1,rR.out.2,Qx.out.2.1⟩
    case rest=>
     as_aux_lemma=>
      obtain ⟨ms',rQ,mc',hS,hs,hms,Ch,hnr,bJ,bR,hki⟩:=hcut
      have HF:=hid (And.intro hS (And.intro hs (And.intro hms (And.intro Ch (And.intro hnr hki)))))
      obtain ⟨CS,hCS⟩:∃ CS,(bF a nw (.slice va vn vc)).toList=CS:=⟨_,rfl⟩
      have HR:Hid (wc.rangeAt U.heap.size 0 CS):=by rw[←hCS];exact bJ.range
      have HSz:Hid ((Tryz.prog.info? 45).map (·.size)=some CS.length):=by rw[←hCS];exact Tryz.JH
      have hlen:CS.toArray.size=9:=by rw[←hCS];rfl
      have HSa:Hid ((Tryz.prog.info? 45).map (·.size)=some CS.toArray.size):=by rw[hlen];exact Tryz.JH
      have aht:Hid (CS.toArray.all (·.oneCell')=true):=all_oneCell_toArray (by rw[←hCS];exact Xi a nw va vn vc)
      have HTh:Hid (wc.there (w.heap.size+1) 0 CS.toArray.size):=(JI bR).there 0 _ (by omega)
      have F8:Hid (CS.toArray=bF a nw (.slice va vn vc)):=by subst hCS;rfl
      clear hS hs hms Ch hnr hki bJ bR hCS hlen z0
      go_wp2_with (first|(refine wpList_load_mid rfl 45 _ rfl U.heap.size 0 rfl CS _ HR.out Tryz.underlying45 rfl HSz.out ?_)|(refine wpList_store_mid rfl 45 _ _ rfl (w.heap.size+1) 0 CS.toArray rfl rfl HTh.out HSa.out aht.out ?_))
      obtain ⟨hS,hs,hms,Ch,hnr,hki⟩:=HF.out
      have hU:=zL.out.size
      have hle:L.hi≤w.heap.size+1:=by have:=Z7.out.hil;omega
      have hk2:CF wc (wc.setCells (w.heap.size+1) 0 CS.toArray.toList) (fun g _=>g=w.heap.size+1):=CF.setCells _ _ 0 wc (CF.refl wc _) (fun _ _ _=>rfl)
      have hld:=run_loadVar_mid (P:=Tryz.prog) (wc.setCells (w.heap.size+1) 0 CS.toArray.toList) (w.heap.size+1) 0 45 CS.toArray.toList _ (World.rangeAt_setCells_same wc (w.heap.size+1) 0 CS.toArray.toList (by rw[Array.length_toList];exact HTh.out)) Tryz.underlying45 rfl (by rw[Array.length_toList];exact HSa.out)
      have hs2:Stp w (eU L.lo L.hi L.pb ca la ma) (wc.setCells (w.heap.size+1) 0 CS.toArray.toList) (eU L.lo L.hi L.pb ca la rQ):=⟨hs.cf.trans hk2 (fun b _ hb e=>by omega),fun b e=>hs.own b e⟩
      have adu:KI (eU L.lo L.hi L.pb ca la rQ) (wc.setCells (w.heap.size+1) 0 CS.toArray.toList) (.slice va vn vc) aG:=⟨hki.1.ZO hk2 (fun b off e ⟨_,q⟩=>by have:=HVb.out b off e;have:=HrU.out;omega),fun b off m c e=>⟨Nat.lt_of_lt_of_le (hki.2 b off m c e).1 hk2.size,(hki.2 b off m c e).2⟩⟩
      have Gb:TI w0 L Mp Mq (nm+1) C (eU L.lo L.hi L.pb ca la rQ) (wc.setCells (w.heap.size+1) 0 CS.toArray.toList):=by
       refine ⟨cs,ls,ms',nw,ca,la,rQ,cc,lc,mc',rfl,TS.re Z7.out hs2 hS hk2 hnr hle (fun x hx=>?_),rM.out.1,rM.out.2.1,by have:=rM.out.2.2.1;omega⟩
       rcases hms x hx with q | q
       ·exact .inl q
       ·subst q;exact .inr ⟨adu,Qx.out.2.2⟩
      have ahu:(loadVar 45 ⟨w.heap.size+1,0,none⟩).run Tryz.prog (wc.setCells (w.heap.size+1) 0 CS.toArray.toList) = .ok (.agg (bF a nw (.slice va vn vc))) (wc.setCells (w.heap.size+1) 0 CS.toArray.toList):=by
       rw[←F8.out]
       exact hld
      clear hld
      have hfin:NF w0 L Mp Mq nm C (eU L.lo L.hi L.pb ca la ma) w (.returned (.tuple #[.agg (bF a nw (.slice va vn vc)),.bool true])) (wc.setCells (w.heap.size+1) 0 CS.toArray.toList):=⟨a,nw,.slice va vn vc,aG,eU L.lo L.hi L.pb ca la rQ,rfl,Qx.out.1,adu,Qx.out.2.2,Gb,hs2⟩
      refine bodyPost_ret (v:=.tuple #[.agg (bF a nw (.slice va vn vc)),.bool true]) ?_ rfl hfin
      exact aD Tryz.results10 _ _ _ (w.heap.size+1) rfl _ ahu
end Go.Proofs.YtpibgolaaaemnaaGreatDoor
