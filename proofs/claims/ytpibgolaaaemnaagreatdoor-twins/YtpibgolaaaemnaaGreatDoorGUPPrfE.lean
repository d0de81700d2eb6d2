/-
  
  
  
  
  
  
  
  
  
-/
import Derived.Test.YtpibgolaaaemnaaGreatDoorGUPPrfA
import Derived.Test.YtpibgolaaaemnaaGreatDoorGUBoxN
namespace Go.Proofs.YtpibgolaaaemnaaGreatDoor
open Go.RowKit
set_option maxRecDepth 100000
def AJ (w:World) (g o:Nat) (x:PF):World:=((w.setCell ⟨g,o,none⟩ (.string ⟨x.af.toArray⟩)).setCell ⟨g,o+1,none⟩ (.int .i64 x.time)).setCell ⟨g,o+2,none⟩ (.int .i64 x.count)
theorem Hy (w:World) (g o:Nat) (x:PF) (y:Nat) (e0:y≠o) (e1:y≠o+1) (e2:y≠o+2):(AJ w g o x).cell? ⟨g,y,none⟩=w.cell? ⟨g,y,none⟩:=by
 rw[AJ,World.cell?_setCell_other _ _ _ _ (fun e=>e2 (by injection e with _ e;exact e.symm)),World.cell?_setCell_other _ _ _ _ (fun e=>e1 (by injection e with _ e;exact e.symm)),World.cell?_setCell_other _ _ _ _ (fun e=>e0 (by injection e with _ e;exact e.symm))]
theorem KD (w:World) (g o i:Nat) (x:PF) (l:List PF) (hL:Live w g (o+i*3+3)) (hl:l.length=i) (h:w.rangeAt g o (bH l)):(AJ w g (o+i*3) x).rangeAt g o (bH (l++[x])):=by
 obtain ⟨d0,q0⟩:=Option.isSome_iff_exists.1 (hL.some (o+i*3) (by omega))
 obtain ⟨d1,q1⟩:=Option.isSome_iff_exists.1 (hL.some (o+i*3+1) (by omega))
 obtain ⟨d2,q2⟩:=Option.isSome_iff_exists.1 (hL.some (o+i*3+2) (by omega))
 intro j u hu
 rw[kE] at hu
 have hpl:=gI l
 rw[hl] at hpl
 by_cases hj:j<i*3
 ·rw[List.getElem?_append_left (by omega)] at hu
  rw[Hy _ _ _ _ _ (by omega) (by omega) (by omega)]
  exact h j u hu
 ·rw[List.getElem?_append_right (by omega),hpl] at hu
  have hj3:j-i*3<3:=by have:=(List.getElem?_eq_some_iff.1 hu).1;simp[bH,PF.aR] at this;omega
  have h0:(AJ w g (o+i*3) x).cell? ⟨g,o+i*3,none⟩=some (.string ⟨x.af.toArray⟩):=by
   rw[AJ,World.cell?_setCell_other _ _ _ _ (fun e=>by injection e with _ e;omega),World.cell?_setCell_other _ _ _ _ (fun e=>by injection e with _ e;omega)]
   exact World.cell?_setCell_same _ _ _ q0
  have h1:(AJ w g (o+i*3) x).cell? ⟨g,o+i*3+1,none⟩=some (.int .i64 x.time):=by
   rw[AJ,World.cell?_setCell_other _ _ _ _ (fun e=>by injection e with _ e;omega)]
   exact World.cell?_setCell_same _ _ _ (by rw[World.cell?_setCell_other _ _ _ _ (fun e=>by injection e with _ e;omega)];exact q1)
  have h2:(AJ w g (o+i*3) x).cell? ⟨g,o+i*3+2,none⟩=some (.int .i64 x.count):=by
   rw[AJ]
   exact World.cell?_setCell_same _ _ _ (by rw[World.cell?_setCell_other _ _ _ _ (fun e=>by injection e with _ e;omega),World.cell?_setCell_other _ _ _ _ (fun e=>by injection e with _ e;omega)];exact q2)
  obtain ⟨k,hk⟩:∃ k,j-i*3=k:=⟨_,rfl⟩
  rw[hk] at hu hj3
  have hji:j=i*3+k:=by omega
  subst hji
  match k,hj3 with
  | 0,_=>simp[bH,PF.aR] at hu;rw[←hu];exact h0
  | 1,_=>simp[bH,PF.aR] at hu;rw[←hu];exact h1
  | 2,_=>simp[bH,PF.aR] at hu;rw[←hu];exact h2
set_option maxHeartbeats 2000000 in
theorem Hz (cb hb dg g o n c:Nat) (now ax:Int) (l:List PF) (w:World) (hf:uE w cb hb dg now ax) (h1:cb≠g) (h2:hb≠g) (h3:0<o) (dC:In64 now) (ht:∀ y∈l,In64 y.time) (hn:Hid (l.length=n)) (Dq:n≤8) (hc:n≤c) (hc8:c≤8) (hl:Live w g (o+24)) (h:w.rangeAt g o (bH l)) :
  Calls Tryz.prog 189 #[.slice (some ⟨g,o,none⟩) n c,Hq cb] w fun e w'=>e = .returned (.slice (some ⟨g,o,none⟩) (kF ax now l).length c)∧w'.rangeAt g o (bH (kF ax now l))∧CF w w' (AA g o):=by
 have HI:=hid (Hr cb hb dg g o n c now ax l w hf dC ht hn Dq hc h)
 have HH:=hid h
 have HF:=hid hf
 have HT:=hid ht
 have VP:=hid dC
 have HL:=hid hl
 clear h hf ht dC hl
 unfold Hq at HI
 unfold Hq
 go_enter Tryz.func189,Tryz.ntmps189
 go_wp2_with fail
 refine HI.out.mono ?_
 clear HI
 rintro e w1 ⟨⟨rfl,hall⟩ | ⟨k,hk,rfl,hk1,hk2⟩,g1⟩
 ·have HA:=hid hall
  have HG:=hid g1
  clear hall g1
  go_wp2
  go_ret
  refine ⟨?_,?_,CF.aW HG.out _⟩
  ·rw[xL HA.out,hn.out];rfl
  ·rw[xL HA.out];exact (CF.aW HG.out (fun _ _=>False)).range HH.out (fun _ _ e=>e)
 ·have hkn:k<n:=by rw[←hn.out];exact hk
  have rT:((k:Int)==-1)=false:=by rw[beq_eq_false_iff_ne];omega
  have HK:=hid (Ht hk hk1 hk2)
  have HG:=hid g1
  clear hk1 hk2 g1
  go_wp2
  go_loopw [5,6,7] (fun ai aj _ wr=>∃ i j:Nat,i<j∧j≤n∧ai = .int .i64 i∧aj = .int .i64 j∧Hid ((kF ax now (l.take j)).length=i∧wr.rangeAt g o (bH (kF ax now (l.take j)))∧wr.rangeAt g (o+j*3) (bH (l.drop j))∧CF w wr (AA g o))) (fun _ aj _ _=>n-(intOf aj).toNat)
  case atStart=>
   refine ⟨k,k+1,by omega,by omega,rfl,by go_num,?_,?_,?_,CF.aW HG.out _⟩
   ·rw[HK.out,List.length_take];omega
   ·rw[HK.out]
    have hr:=(CF.aW HG.out (fun _ _=>False)).range HH.out (fun _ _ e=>e)
    rw[←List.take_append_drop k l,kE] at hr
    exact uP hr
   ·have hr:=(CF.aW HG.out (fun _ _=>False)).range HH.out (fun _ _ e=>e)
    rw[←List.take_append_drop (k+1) l,kE] at hr
    have hr2:=nV hr
    rw[gI,List.length_take,Nat.min_eq_left (by omega)] at hr2
    exact hr2
  case round=>
   obtain ⟨i,j,hij,hjn,rfl,rfl,hI⟩:=hrel
   by_cases hlt:j<n
   ·have hjI:(j:Int)<(n:Int):=by omega
    have hlt':j<l.length:=by rw[hn.out];exact hlt
    obtain ⟨y,hy⟩:∃ y,l[j]=y:=⟨_,rfl⟩
    have hdr:=hI.out.2.2.1
    have hdj:(l.drop j)[0]?=some y:=by rw[List.getElem?_drop,Nat.add_zero,List.getElem?_eq_getElem hlt',hy]
    have hdl:0<(l.drop j).length:=by rw[List.length_drop];omega
    have hd0:(l.drop j)[0]=y:=by rw[List.getElem?_eq_getElem hdl] at hdj;injection hdj
    have y0:wr.cell? ⟨g,o+j*3,none⟩=some (.string ⟨y.af.toArray⟩):=wJ hdr 0 hdl 0 (by omega) _ (by rw[hd0];rfl)
    have y1:wr.cell? ⟨g,o+j*3+1,none⟩=some (.int .i64 y.time):=wJ hdr 0 hdl 1 (by omega) _ (by rw[hd0];rfl)
    have y2:wr.cell? ⟨g,o+j*3+2,none⟩=some (.int .i64 y.count):=wJ hdr 0 hdl 2 (by omega) _ (by rw[hd0];rfl)
    obtain ⟨Wb,hWb⟩:∃ W,W=wr.alloc (.cells #[.string ⟨y.af.toArray⟩,.int .i64 y.time,.int .i64 y.count] 92):=⟨_,rfl⟩
    have hGb:wr.grownBy Wb none:=by rw[hWb];exact World.grownBy_alloc wr _ none
    have hXb:Wb.rangeAt wr.heap.size 0 y.aR:=by rw[hWb];exact aQ wr y.aR.toArray _
    have HD:=hid (DD cb hb dg now ax y Wb ((HF.out.cf hI.out.2.2.2 h1 h2 h3).grown hGb) VP.out (HT.out y (by rw[←hy];exact List.getElem_mem hlt')))
    have HX:Hid (∀ W,Wb.grownBy W none→W.cell? ⟨wr.heap.size,0,none⟩=some (.string ⟨y.af.toArray⟩)∧W.cell? ⟨wr.heap.size,1,none⟩=some (.int .i64 y.time)∧W.cell? ⟨wr.heap.size,2,none⟩=some (.int .i64 y.count)):=
     fun W q=>⟨q.cell (hXb 0 _ rfl) (by simp),q.cell (hXb 1 _ rfl) (by simp),q.cell (hXb 2 _ rfl) (by simp)⟩
    obtain ⟨d,hd⟩:∃ d,mg ax now y=d:=⟨_,rfl⟩
    rw[hd] at HD
    have hkt:=AB (ax:=ax) (now:=now) hlt'
    rw[hy] at hkt
    have hne:(if yF ax now y=true then [y] else [])=(if d=false then [y] else []):=by unfold yF;rw[hd];cases d <;> rfl
    rw[hne] at hkt
    have HKT:=hid hkt
    have HLr:=hid (HL.out.cf hI.out.2.2.2)
    have HGb:=hid hGb
    have HWb:=hid hWb
    have hi8:i<8:=by omega
    have hdrop:l.drop j=y::l.drop (j+1):=by rw[←hy];exact List.drop_eq_getElem_cons hlt'
    have HDR:Hid (∀ W:World,W.rangeAt g (o+j*3) (bH (l.drop j))→W.rangeAt g (o+(j+1)*3) (bH (l.drop (j+1)))):=by
     intro W hW
     rw[hdrop] at hW
     have e:bH (y::l.drop (j+1))=y.aR++bH (l.drop (j+1)):=by simp[bH]
     rw[e] at hW
     have:=nV hW
     rw[show o+(j+1)*3=o+j*3+y.aR.length from by show _=_+3;omega]
     exact this
    clear hy hdr hdj hdl hd0 hGb hXb hWb hd hkt hne hdrop
    cases d with
    | true=>
     go_wp2_with (go_at_call 191;rw[←HWb.out];refine HD.out.mono ?_;rintro e w2 ⟨rfl,g2⟩;have HG2:=hid (ae HGb.out g2);clear g2)
     go_wp2
     go_roundw
     case rel=>
      refine ⟨i,j+1,by omega,by omega,rfl,by go_num,?_⟩
      have hkt:=HKT.out
      rw[if_neg (by decide),List.append_nil] at hkt
      obtain ⟨a1,a2,a3,a4⟩:=hI.out
      have hcf:CF wr w2 (fun _ _=>False):=CF.aW HG2.out _
      rw[hkt]
      exact ⟨a1,hcf.range a2 (fun _ _ e=>e),HDR.out w2 (hcf.range a3 (fun _ _ e=>e)),a4.grown HG2.out⟩
     case measure=>simp[intOf];omega
    | false=>
     go_wp2_with (go_at_call 191;rw[←HWb.out];refine HD.out.mono ?_;rintro e w2 ⟨rfl,g2⟩;obtain ⟨e0,e1,e2⟩:=HX.out w2 g2;have HG2:=hid (ae HGb.out g2);clear g2;have L2:=HLr.out.grown HG2.out;have f0:=L2.frozen (o+i*3);have f1:=L2.frozen (o+i*3+1);have f2:=L2.frozen (o+i*3+2);obtain ⟨d0,q0⟩:=Option.isSome_iff_exists.1 (L2.some (o+i*3) (by omega));obtain ⟨d1,q1⟩:=Option.isSome_iff_exists.1 (L2.some (o+i*3+1) (by omega));obtain ⟨d2,q2⟩:=Option.isSome_iff_exists.1 (L2.some (o+i*3+2) (by omega));have HL2:=hid L2;clear L2)
     go_wp2
     go_roundw
     case rel=>
      refine ⟨i+1,j+1,by omega,by omega,by go_num,by go_num,?_⟩
      have hkt:=HKT.out
      rw[if_pos trivial] at hkt
      obtain ⟨a1,a2,a3,a4⟩:=hI.out
      have hcf:CF wr w2 (fun _ _=>False):=CF.aW HG2.out _
      rw[hkt]
      have r1:=KD w2 g o i y _ (HL2.out.mono (by omega)) a1 (hcf.range a2 (fun _ _ e=>e))
      have r2:(AJ w2 g (o+i*3) y).rangeAt g (o+j*3) (bH (l.drop j)):=by
       intro q u hu
       rw[Hy _ _ _ _ _ (by omega) (by omega) (by omega)]
       exact (hcf.range a3 (fun _ _ e=>e)) q u hu
      have r3:CF w (AJ w2 g (o+i*3) y) (AA g o):=(((a4.grown HG2.out).setCell g (o+i*3) _ (fun _=>⟨rfl,by omega,by omega⟩)).setCell g (o+i*3+1) _ (fun _=>⟨rfl,by omega,by omega⟩)).setCell g (o+i*3+2) _ (fun _=>⟨rfl,by omega,by omega⟩)
      exact ⟨by rw[List.length_append,a1];rfl,r1,HDR.out _ r2,r3⟩
     case measure=>simp[intOf];omega
   ·have afG:j=n:=by omega
    subst afG
    have hcl:∀ ty,(Builtin.clear_ #[307] ty #[.slice (some ⟨g,o+i*3,none⟩) (j-i) (c-i)]).run Tryz.prog wr = .ok (.tuple #[]) (wr.setCells g (o+i*3) (Builtin.zeroCells sO (j-i)).toList):=
     fun ty=>Rv wr g (o+i*3) (j-i) (c-i) ty (by omega) ((HL.out.cf hI.out.2.2.2).mono (by omega))
    have hci:c≠i:=by omega
    have hic:i≠c:=by omega
    have amt:(i:Int)≤(c:Int):=by omega
    go_wp2
    go_ret
    have htk:l.take j=l:=List.take_of_length_le (by rw[hn.out];exact Nat.le_refl _)
    have hz:(Builtin.zeroCells sO (j-i)).toList.length=(j-i)*3:=by simp[Builtin.zeroCells];rfl
    obtain ⟨a1,a2,_,a4⟩:=hI.out
    rw[htk] at a1 a2
    refine ⟨by rw[a1];rfl,?_,CF.setCells g _ _ wr a4 (fun q hq _=>⟨rfl,by omega,by rw[hz] at hq;omega⟩)⟩
    intro q u hu
    have hq:=(List.getElem?_eq_some_iff.1 hu).1
    rw[gI,a1] at hq
    rw[World.cell?_setCells_out g _ _ wr _ (fun _ _=>Or.inl (by show o+q<_;omega))]
    exact a2 q u hu
end Go.Proofs.YtpibgolaaaemnaaGreatDoor
namespace Go.Proofs.YtpibgolaaaemnaaGreatDoor
open Go.RowKit
set_option maxRecDepth 100000
set_option maxHeartbeats 1000000 in
theorem H7 (hb dg g o n:Nat) (now ax:Int) (l:List PF) (w:World) (c3:w.cell? ⟨hb,3,none⟩=some (.pointer (some ⟨dg,0,none⟩))) (c4:w.cell? ⟨hb,4,none⟩=some (.int .i64 now)) (cs:w.cell? ⟨dg,0,none⟩=some (.int .i64 ax)) (h2:hb≠g) (h3:0<o) (dC:In64 now) (ht:∀ y∈l,In64 y.time) (hn:Hid (l.length=n)) (Dq:n≤8) (hl:Live w g (o+25)) (h:w.rangeAt g o (bH l)) (hc:w.cell? ⟨g,o+24,none⟩=some (.int .i64 n)) :
  Calls Tryz.prog 168 #[.pointer (some ⟨g,o,none⟩),KA hb] w fun e w'=>e = .returned (.tuple #[])∧w'.rangeAt g o (bH (kF ax now l))∧w'.cell? ⟨g,o+24,none⟩=some (.int .i64 (kF ax now l).length)∧CF w w' (fun b y=>b=g∧o≤y∧y<o+25):=by
 have hmf:∀ (fn:Fn) (first cap:Array Value) (w:World),(Instr.makeFunc fn first cap).run Tryz.prog w = .ok (.func fn first cap) w:=fun _ _ _ _=>rfl
 obtain ⟨W0,hW0⟩:∃ W,W=w.alloc (.cells #[KA hb] 223):=⟨_,rfl⟩
 have hG0:w.grownBy W0 none:=by rw[hW0];exact World.grownBy_alloc w _ none
 have hb0:W0.cell? ⟨w.heap.size,0,none⟩=some (KA hb):=by rw[hW0];exact aQ w #[KA hb] _ 0 _ rfl
 have hne:w.heap.size≠g:=fun e=>by have:=hl.lt;omega
 have HR:=hid (sM g o n W0 Dq (hG0.cell hc (by simp)))
 have abI:∀ m,uE (W0.drewN m) w.heap.size hb dg now ax:=fun m=>⟨hb0,(aO hG0 m).cell c3 (by simp),(aO hG0 m).cell c4 (by simp),(aO hG0 m).cell cs (by simp)⟩
 have HD:Hid (∀ m,Calls Tryz.prog 189 #[.slice (some ⟨g,o,none⟩) n 8,.func (.func 191) #[] #[.pointer (some ⟨w.heap.size,0,none⟩)]] (W0.drewN m) fun e w'=>e = .returned (.slice (some ⟨g,o,none⟩) (kF ax now l).length 8)∧w'.rangeAt g o (bH (kF ax now l))∧CF w w' (AA g o)):=by
  intro m
  refine (Hz w.heap.size hb dg g o n 8 now ax l (W0.drewN m) (abI m) hne h2 h3 dC ht hn Dq Dq (by omega) ((hl.grown (aO hG0 m)).mono (by omega)) ((CF.aW (aO hG0 m) (fun _ _=>False)).range h (fun _ _ e=>e))).mono ?_
  rintro e w' ⟨e1,e2,e3⟩
  exact ⟨e1,e2,e3.before (aO hG0 m)⟩
 have HL:=hid hl
 have HW0:=hid hW0
 have HKN:=hid (Hw ax now l)
 obtain ⟨K,hK⟩:∃ K,kF ax now l=K:=⟨_,rfl⟩
 rw[hK] at HD HKN
 rw[hK]
 have hk8:K.length≤8:=by have:=HKN.out;have:=hn.out;omega
 have HC:=hid hc
 clear hmf hG0 hb0 abI hW0 hl h hc c3 c4 cs hK dC ht
 have hmf:∀ (fn:Fn) (first cap:Array Value) (w:World),(Instr.makeFunc fn first cap).run Tryz.prog w = .ok (.func fn first cap) w:=fun _ _ _ _=>rfl
 unfold KA at *
 go_enter Tryz.func168,Tryz.ntmps168
 go_wp2_with (first
  | (rw[←HW0.out];fail_if_success done)
  | (go_at_call 190;refine HR.out.mono ?_;clear HR;rintro e w1 ⟨rfl,m,rfl⟩)
  | (go_at_call 189;refine (HD.out _).mono ?_;rintro e w2 ⟨rfl,r2,f2⟩;have HRR:=hid r2;have HFF:=hid f2;have q0:=f2.cell HC.out (fun e=>by have:=e.2.2;omega);have z0:=(HL.out.cf f2).frozen (o+24);clear r2 f2))
 go_wp2
 go_end0
 refine ⟨rfl,?_,World.cell?_setCell_same _ _ _ q0,(HFF.out.mono (fun b y _ e=>⟨e.1,e.2.1,by have:=e.2.2;omega⟩)).setCell g (o+24) _ (fun _=>⟨rfl,by omega,by omega⟩)⟩
 intro j u hu
 have hj:=(List.getElem?_eq_some_iff.1 hu).1
 rw[gI] at hj
 rw[World.cell?_setCell_other _ _ _ _ (fun e=>by injection e with _ e;omega)]
 exact HRR.out j u hu
end Go.Proofs.YtpibgolaaaemnaaGreatDoor
namespace Go.Proofs.YtpibgolaaaemnaaGreatDoor
open Go.RowKit
set_option maxRecDepth 100000
theorem KE (ax now:Int) (l:List PF):kF ax now l=su ax now l:=by
 unfold kF su
 congr 1
 funext y
 unfold yF mg
 by_cases h:ax<fE y.time now
 ·rw[decide_eq_true h,decide_eq_false (by omega)];rfl
 ·rw[decide_eq_false h,decide_eq_true (by omega)];rfl
set_option maxHeartbeats 400000 in
theorem AL (hb dg:Nat) (now ax:Int) (x:PF) (w:World) (c3:w.cell? ⟨hb,3,none⟩=some (.pointer (some ⟨dg,0,none⟩))) (c4:w.cell? ⟨hb,4,none⟩=some (.int .i64 now)) (cs:w.cell? ⟨dg,0,none⟩=some (.int .i64 ax)) (dC:In64 now) (ht:In64 x.time) (lu:ax<fE x.time now) :
  Calls Tryz.prog 135 #[.pointer (some ⟨hb,0,none⟩),.agg x.aR.toArray] w fun e w'=>e = .returned (.int .i64 37)∧w.grownBy w' none:=by
 obtain ⟨W0,hW0⟩:∃ W,W=w.alloc (.cells x.aR.toArray 92):=⟨_,rfl⟩
 have hG0:w.grownBy W0 none:=by rw[hW0];exact World.grownBy_alloc w _ none
 have hX:W0.rangeAt w.heap.size 0 x.aR:=by rw[hW0];exact aQ w x.aR.toArray _
 have x1:W0.cell? ⟨w.heap.size,1,none⟩=some (.int .i64 x.time):=hX 1 _ rfl
 have hI:=tY hb dg now ax x.time W0 (hG0.cell c3 (by simp)) (hG0.cell c4 (by simp)) (hG0.cell cs (by simp)) dC ht
 rw[decide_eq_true lu] at hI
 have HI:=hid hI
 have HG:=hid hG0
 have HW0:=hid hW0
 clear hG0 hX hW0 c3 c4 cs dC ht lu hI
 go_enter Tryz.func135,Tryz.ntmps135
 go_wp2_with (first
  | (rw[←HW0.out];fail_if_success done)
  | (go_at_call 125;refine HI.out.mono ?_;clear HI;rintro e w1 ⟨rfl,m,rfl⟩))
 go_wp2
 go_ret
 exact ⟨rfl,aO HG.out m⟩
set_option maxHeartbeats 1000000 in
theorem zf (hb dg:Nat) (now ax:Int) (l:List PF) (x:PF) (w:World) (c3:w.cell? ⟨hb,3,none⟩=some (.pointer (some ⟨dg,0,none⟩))) (c4:w.cell? ⟨hb,4,none⟩=some (.int .i64 now)) (cs:w.cell? ⟨dg,0,none⟩=some (.int .i64 ax)) (h2:hb≠dg) (dC:In64 now) (hx:In64 x.time) (ht:∀ y∈l,In64 y.time) (Dq:l.length≤8) (hl:Live w dg 188) (h:w.rangeAt dg 163 (bH l)) (hc:w.cell? ⟨dg,187,none⟩=some (.int .i64 l.length)) (hnf:¬ ax<fE x.time now) :
  Calls Tryz.prog 135 #[.pointer (some ⟨hb,0,none⟩),.agg x.aR.toArray] w fun e w'=>e = .returned (.int .i64 (dG ax now l x))∧w'.rangeAt dg 163 (bH (dx ax now l x))∧w'.cell? ⟨dg,187,none⟩=some (.int .i64 (dx ax now l x).length)∧CF w w' (fun b y=>b=dg∧163≤y∧y<188):=by
 obtain ⟨W0,hW0⟩:∃ W,W=w.alloc (.cells x.aR.toArray 92):=⟨_,rfl⟩
 have hG0:w.grownBy W0 none:=by rw[hW0];exact World.grownBy_alloc w _ none
 have hX:W0.rangeAt w.heap.size 0 x.aR:=by rw[hW0];exact aQ w x.aR.toArray _
 have x1:W0.cell? ⟨w.heap.size,1,none⟩=some (.int .i64 x.time):=hX 1 _ rfl
 have hne:w.heap.size≠dg:=fun e=>by have:=hl.lt;omega
 have hI:=tY hb dg now ax x.time W0 (hG0.cell c3 (by simp)) (hG0.cell c4 (by simp)) (hG0.cell cs (by simp)) dC hx
 rw[decide_eq_false hnf] at hI
 have HI:=hid hI
 obtain ⟨K,hK⟩:∃ K,su ax now l=K:=⟨_,rfl⟩
 have hK2:kF ax now l=K:=by rw[KE,hK]
 have HP:Hid (∀ m,Calls Tryz.prog 168 #[.pointer (some ⟨dg,163,none⟩),.func (.func 125) #[.pointer (some ⟨hb,0,none⟩)] #[]] (W0.drewN m) fun e w'=>e = .returned (.tuple #[])∧w'.rangeAt dg 163 (bH K)∧w'.cell? ⟨dg,187,none⟩=some (.int .i64 K.length)∧CF W0 w' (fun b y=>b=dg∧163≤y∧y<188)):=by
  intro m
  have gm:=aO hG0 m
  have:=H7 hb dg dg 163 l.length now ax l (W0.drewN m) (gm.cell c3 (by simp)) (gm.cell c4 (by simp)) (gm.cell cs (by simp)) h2 (by omega) dC ht (hid rfl) Dq (hl.grown gm) ((CF.aW gm (fun _ _=>False)).range h (fun _ _ e=>e)) (gm.cell hc (by simp))
  rw[hK2] at this
  refine this.mono ?_
  rintro e w' ⟨e1,e2,e3,e4⟩
  exact ⟨e1,e2,e3,e4.qm⟩
 have hk8:K.length≤8:=by have:=Hw ax now l;rw[hK2] at this;omega
 have HX:Hid (∀ W,CF W0 W (fun b y=>b=dg∧163≤y∧y<188)→W.cell? ⟨w.heap.size,0,none⟩=some (.string ⟨x.af.toArray⟩)∧W.cell? ⟨w.heap.size,1,none⟩=some (.int .i64 x.time)∧W.cell? ⟨w.heap.size,2,none⟩=some (.int .i64 x.count)):=
  fun W q=>⟨q.cell (hX 0 _ rfl) (fun e=>hne e.1),q.cell (hX 1 _ rfl) (fun e=>hne e.1),q.cell (hX 2 _ rfl) (fun e=>hne e.1)⟩
 have hcode:dG ax now l x=if x∈K then 34 else if 8≤K.length then 60 else 0:=by rw[dG,hK]
 have hnext:dx ax now l x=if dG ax now l x=0 then K++[x] else K:=by rw[dx,hK]
 have c30:=hG0.cell c3 (by simp)
 have MO:=hid c30
 have HG:=hid hG0
 have HW0:=hid hW0
 have HL:=hid (hl.grown hG0)
 have HM:=hid (And.intro hcode hnext)
 have hmf:∀ (fn:Fn) (first cap:Array Value) (w:World),(Instr.makeFunc fn first cap).run Tryz.prog w = .ok (.func fn first cap) w:=fun _ _ _ _=>rfl
 clear hG0 hX hW0 c3 c4 cs dC ht hx hnf hI hK hK2 hl h hc hcode hnext
 go_enter Tryz.func135,Tryz.ntmps135
 go_wp2_with (first
  | (rw[←HW0.out];fail_if_success done)
  | (go_at_call 125;refine HI.out.mono ?_;clear HI;rintro e w1 ⟨rfl,m,rfl⟩)
  | (go_at_call 168;refine (HP.out _).mono ?_;clear HP;rintro e w2 ⟨rfl,r2,k2,f2⟩;obtain ⟨e0,e1,e2⟩:=HX.out w2 f2;have HR2:=hid r2;have ER:=hid k2;have yG:=hid f2;have HH:=hid (Rs dg 163 K x w2 r2 k2 hk8);clear r2 k2 f2))
 by_cases hm:x∈K
 ·have Cx:=HH
  rw[decide_eq_true hm] at Cx
  have VQ:=hid hm
  clear HH hm
  refine Cx.out.mono ?_
  rintro e w3 ⟨rfl,g3⟩
  have rU:=hid g3
  clear g3 Cx
  go_wp2
  go_ret
  have hcode:dG ax now l x=34:=by rw[HM.out.1,if_pos VQ.out]
  have hnext:dx ax now l x=K:=by rw[HM.out.2,hcode,if_neg (by decide)]
  rw[hnext,hcode]
  exact ⟨rfl,(CF.aW rU.out (fun _ _=>False)).range HR2.out (fun _ _ e=>e),rU.out.cell ER.out (by simp),(yG.out.before HG.out).grown rU.out⟩
 ·have Cx:=HH
  rw[decide_eq_false hm] at Cx
  have VQ:=hid hm
  clear HH hm
  refine Cx.out.mono ?_
  rintro e w3 ⟨rfl,g3⟩
  have b0:=g3.cell e0 (by simp)
  have b1:=g3.cell e1 (by simp)
  have b2:=g3.cell e2 (by simp)
  have rU:=hid g3
  clear g3 Cx
  by_cases h8:K.length=8
  ·have k8:=ER.out
   rw[h8] at k8
   have HA:=hid (Oi dg 163 x w3 (rU.out.cell k8 (by simp)))
   have H8:=hid h8
   clear k8 h8
   go_wp2_with (go_at_call 170;refine HA.out.mono ?_;rintro e w4 ⟨rfl,g4⟩;have vS:=hid (ae rU.out g4);clear g4)
   go_wp2
   go_ret
   have hcode:dG ax now l x=60:=by rw[HM.out.1,if_neg VQ.out,if_pos (by have:=H8.out;omega)]
   have hnext:dx ax now l x=K:=by rw[HM.out.2,hcode,if_neg (by decide)]
   rw[hnext,hcode]
   exact ⟨rfl,(CF.aW vS.out (fun _ _=>False)).range HR2.out (fun _ _ e=>e),vS.out.cell ER.out (by simp),(yG.out.before HG.out).grown vS.out⟩
  ·have HA:=hid (VM dg 163 K.length K x w3 ((HL.out.cf yG.out).grown rU.out) ((CF.aW rU.out (fun _ _=>False)).range HR2.out (fun _ _ e=>e)) (rU.out.cell ER.out (by simp)) (hid rfl) (by omega))
   have H8:=hid h8
   clear h8
   go_wp2_with (go_at_call 170;refine HA.out.mono ?_;rintro e w4 ⟨rfl,r4,k4,f4⟩;have HR4:=hid r4;have HK4:=hid k4;have HF4:=hid f4;clear r4 k4 f4)
   go_wp2
   go_ret
   have hcode:dG ax now l x=0:=by rw[HM.out.1,if_neg VQ.out,if_neg (by have:=H8.out;omega)]
   have hnext:dx ax now l x=K++[x]:=by rw[HM.out.2,hcode,if_pos rfl]
   rw[hnext,hcode]
   refine ⟨rfl,HR4.out,?_,((yG.out.before HG.out).grown rU.out).trans HF4.out (fun _ _ _ e=>e)⟩
   rw[List.length_append,List.length_singleton]
   exact HK4.out
end Go.Proofs.YtpibgolaaaemnaaGreatDoor
namespace Go.Proofs.YtpibgolaaaemnaaGreatDoor
open Go.RowKit
set_option maxRecDepth 100000
theorem iU {a b:Bool} (h:a=b):Ending.returned (.bool a) = .returned (.bool b):=by rw[h]
set_option maxHeartbeats 400000 in
theorem AO (b o:Nat) (e:BE) (now:Int) (w:World) (h:w.cell? ⟨b,o+2,none⟩=some (.int .i64 e.bU)) :
  Calls Tryz.prog 122 #[.pointer (some ⟨b,o,none⟩),.int .i64 now] w fun r w'=>r = .returned (.bool (e.gone now))∧w'=w:=by
 unfold BE.gone
 obtain ⟨x,hx⟩:∃ x,e.bU=x:=⟨_,rfl⟩
 rw[hx] at h
 rw[hx]
 clear hx
 by_cases h0:x=0
 ·subst h0
  go_enter Tryz.func122,Tryz.ntmps122
  go_wp2
  go_ret
  exact ⟨iU (by simp),rfl⟩
 ·go_enter Tryz.func122,Tryz.ntmps122
  go_wp2
  go_ret
  exact ⟨iU (by simp[h0]),rfl⟩
set_option maxHeartbeats 400000 in
theorem Oq (b o:Nat) (e:BE) (n:Int) (w:World) (h1:w.cell? ⟨b,o+1,none⟩=some (.int .i64 e.ag)) (h2:w.cell? ⟨b,o+2,none⟩=some (.int .u64 (e.key.toNat:Int))) (h3:w.cell? ⟨b,o+3,none⟩=some (.int .u64 (e.before.toNat:Int))) (hn0:1≤e.ag) (hn1:e.ag≤9223372036854775807) :
  Calls Tryz.prog 132 #[.pointer (some ⟨b,o,none⟩),.int .i64 n] w fun r w'=>r = .returned (.tuple #[.int .u64 (((e.keyOf n).getD 0).toNat:Int),.bool (e.keyOf n).isSome])∧w'=w:=by
 unfold BE.keyOf
 obtain ⟨x,hx⟩:∃ x,e.ag=x:=⟨_,rfl⟩
 rw[hx] at h1 hn0 hn1
 rw[hx]
 clear hx
 by_cases c0:n=x
 ·subst c0
  rw[if_pos rfl]
  go_enter Tryz.func132,Tryz.ntmps132
  go_wp2
  go_ret2
  exact ⟨rfl,rfl⟩
 ·rw[if_neg c0]
  by_cases c1:n=x-1
  ·subst c1
   by_cases c2:1<x
   ·rw[if_pos ⟨rfl,c2⟩]
    have c3:0<x-1:=by omega
    go_enter Tryz.func132,Tryz.ntmps132
    go_wp2
    go_ret2
    exact ⟨rfl,rfl⟩
   ·rw[if_neg (fun q=>c2 q.2)]
    have c3:¬ 0<x-1:=by omega
    go_enter Tryz.func132,Tryz.ntmps132
    go_wp2
    go_ret2
    exact ⟨rfl,rfl⟩
  ·rw[if_neg (fun q=>c1 q.1)]
   go_enter Tryz.func132,Tryz.ntmps132
   go_wp2
   go_ret2
   exact ⟨rfl,rfl⟩
end Go.Proofs.YtpibgolaaaemnaaGreatDoor
namespace Go.Proofs.YtpibgolaaaemnaaGreatDoor
open Go.RowKit
set_option maxRecDepth 100000
theorem VR (n:Int) (k:Nat) (hk:k<63):bits .and .i64 n (2 ^ k)=if aA n (2 ^ k)=true then 2 ^ k else 0:=by
 have hp:(2:Int) ^ k<2 ^ 63:=by
  have h:=Nat.pow_lt_pow_right (a:=2) (by decide) hk
  exact_mod_cast h
 have hp0:(0:Int)<2 ^ k:=by
  have h:=Nat.pow_pos (n:=k) (show 0<2 by decide)
  exact_mod_cast h
 have hv:BitVec.ofInt 64 (2 ^ k)=BitVec.twoPow 64 k:=by
  apply BitVec.eq_of_toNat_eq
  rw[tT,BitVec.toNat_twoPow]
  have:((2:Int) ^ k % 18446744073709551616)=2 ^ k:=Int.emod_eq_of_lt (by omega) (by omega)
  rw[this]
  have h2:((2:Int) ^ k).toNat=2 ^ k:=by
   have:(2:Int) ^ k=((2 ^ k:Nat):Int):=by simp
   rw[this,Int.toNat_natCast]
  rw[h2,Nat.mod_eq_of_lt (Nat.pow_lt_pow_right (by decide) (by omega))]
 rw[EK,hv,BitVec.and_twoPow,iQ n k (by omega)]
 split
 ·rw[←hv,BitVec.toInt_ofInt]
  exact Int.bmod_eq_of_le (by omega) (by omega)
 ·rfl
theorem nE (n f:Int) (k:Nat) (hf:f=2 ^ k) (hk:k<63):(bits .and .i64 n f==f)=aA n f:=by
 subst hf
 have hp0:(0:Int)<2 ^ k:=by
  have h:=Nat.pow_pos (n:=k) (show 0<2 by decide)
  exact_mod_cast h
 rw[VR n k hk]
 cases aA n (2 ^ k) with
 | true=>rw[if_pos rfl];exact beq_self_eq_true _
 | false=>rw[if_neg (by decide)];rw[beq_eq_false_iff_ne];omega
set_option maxHeartbeats 400000 in
theorem wK (b o:Nat) (e:BE) (f:Int) (k:Nat) (w:World) (hf:f=2 ^ k) (hk:k<63) (h:w.cell? ⟨b,o+3,none⟩=some (.int .i64 e.ay)) :
  Calls Tryz.prog 123 #[.pointer (some ⟨b,o,none⟩),.int .i64 f] w fun r w'=>r = .returned (.bool (e.has f))∧w'=w:=by
 have HE:=hid (nE e.ay f k hf hk)
 clear hf hk
 go_enter Tryz.func123,Tryz.ntmps123
 go_wp2
 go_ret
 exact ⟨iU HE.out,rfl⟩
set_option maxHeartbeats 400000 in
theorem ES (start wish one other:Int) (w:World) (h1:In64 start) (h2:In64 one) (h3:In64 other) :
  Calls Tryz.prog 127 #[.int .i64 start,.int .i64 wish,.int .i64 one,.int .i64 other] w fun r w'=>r = .returned (.int .i64 (lesser (asked wish) (lesser (aX start one) (aX start other))))∧w'=w:=by
 have HA:=hid (zy start one w h1.1 h1.2 h2.1 h2.2)
 have HB:=hid (zy start other w h1.1 h1.2 h3.1 h3.2)
 generalize aX start one=a at *
 generalize aX start other=b at *
 by_cases h0:wish=0
 ·subst h0
  clear h1 h2 h3
  go_enter Tryz.func127,Tryz.ntmps127
  go_wp2_with (first
   | (go_at_call 136;refine HA.out.mono ?_;clear HA;rintro e w1 ⟨rfl,rfl⟩)
   | (go_at_call 136;refine HB.out.mono ?_;clear HB;rintro e w1 ⟨rfl,rfl⟩))
  all_goals
   go_ret
   refine ⟨dD ?_,rfl⟩
   unfold lesser asked
   (repeat' split at *) <;> omega
 ·have h0b:(wish==0)=false:=by rw[beq_eq_false_iff_ne];exact h0
  clear h1 h2 h3
  go_enter Tryz.func127,Tryz.ntmps127
  go_wp2_with (first
   | (go_at_call 136;refine HA.out.mono ?_;clear HA;rintro e w1 ⟨rfl,rfl⟩)
   | (go_at_call 136;refine HB.out.mono ?_;clear HB;rintro e w1 ⟨rfl,rfl⟩))
  all_goals
   go_ret
   refine ⟨dD ?_,rfl⟩
   unfold lesser asked
   (repeat' split at *) <;> omega
end Go.Proofs.YtpibgolaaaemnaaGreatDoor
namespace Go.Proofs.YtpibgolaaaemnaaGreatDoor
open Go.RowKit
set_option maxRecDepth 100000
structure dZ (w:World) (b:Nat) (x s:BE):Prop where
 af:w.rangeAt b 0 x.aR
 az:w.rangeAt b 8 s.aR
theorem dZ.c {w:World} {b:Nat} {x s:BE} (h:dZ w b x s) (k:Nat) (v:Value) (hv:x.aR[k]?=some v):w.cell? ⟨b,k,none⟩=some v:=by
 have:=h.af k v hv
 rwa [Nat.zero_add] at this
theorem dZ.s {w:World} {b:Nat} {x s:BE} (h:dZ w b x s) (k:Nat) (v:Value) (hv:s.aR[k]?=some v):w.cell? ⟨b,8+k,none⟩=some v:=h.az k v hv
set_option maxHeartbeats 400000 in
theorem mE (b:Nat) (x s:BE) (f:Int) (k:Nat) (w:World) (hf:f=2 ^ k) (hk:k<63) (h:dZ w b x s) :
  Calls Tryz.prog 126 #[.pointer (some ⟨b,0,none⟩),.int .i64 f] w fun r w'=>r = .returned (.bool (x.has f && s.has f))∧w'=w:=by
 have HA:=hid (wK b 4 x f k w hf hk (h.c 7 _ rfl))
 have HB:=hid (wK b 12 s f k w hf hk (h.s 7 _ rfl))
 clear h hf hk
 cases hx:x.has f with
 | true=>
  rw[hx] at HA
  clear hx
  go_enter Tryz.func126,Tryz.ntmps126
  go_wp2_with (first
   | (go_at_call 123;refine HA.out.mono ?_;clear HA;rintro e w1 ⟨rfl,rfl⟩)
   | (go_at_call 123;refine HB.out.mono ?_;clear HB;rintro e w1 ⟨rfl,rfl⟩))
  go_wp2
  go_ret
  exact ⟨iU (by simp),rfl⟩
 | false=>
  rw[hx] at HA
  clear hx
  go_enter Tryz.func126,Tryz.ntmps126
  go_wp2_with (first
   | (go_at_call 123;refine HA.out.mono ?_;clear HA;rintro e w1 ⟨rfl,rfl⟩)
   | (go_at_call 123;refine HB.out.mono ?_;clear HB;rintro e w1 ⟨rfl,rfl⟩))
  go_wp2
  go_ret
  exact ⟨iU (by simp),rfl⟩
theorem AP (start wish one other:Int) (w:World) (nq:Nat) (h1:In64 start) (h2:In64 one) (h3:In64 other) :
  Calls Tryz.prog 127 #[.int .i64 start,.int .i64 wish,.int .i64 one,.int .i64 other] (w.drewN nq) fun r w'=>r = .returned (.int .i64 (lesser (asked wish) (lesser (aX start one) (aX start other))))∧∃ m,w'=w.drewN m:=
 (ES start wish one other _ h1 h2 h3).mono fun _ _ ⟨h1,h2⟩=>⟨h1,nq,h2⟩
set_option maxHeartbeats 400000 in
theorem H9 (b:Nat) (x s:BE) (start dF:Int) (w:World) (h:dZ w b x s) (h1:In64 start) (h2:In64 x.cO) (h3:In64 s.cO) :
  Calls Tryz.prog 92 #[.pointer (some ⟨b,0,none⟩),.int .i64 start,.int .i64 dF] w fun r w'=>r = .returned (.int .i64 (lesser (asked dF) (lesser (aX start x.cO) (aX start s.cO))))∧∃ m,w'=w.drewN m:=by
 have HA:=hid (fun nq=>AP start dF x.cO s.cO w nq h1 h2 h3)
 have c0:w.cell? ⟨b,4,none⟩=some (.int .i64 x.cO):=h.c 4 _ rfl
 have c1:w.cell? ⟨b,12,none⟩=some (.int .i64 s.cO):=h.s 4 _ rfl
 clear h h1 h2 h3
 generalize lesser (asked dF) (lesser (aX start x.cO) (aX start s.cO))=a at *
 go_enter Tryz.func92,Tryz.ntmps92
 go_wp2_with fail
 go_quiet (first|(go_at_call 127;exact HA.out _))
 go_wp2
 go_ret
 exact ⟨rfl,_,rfl⟩
set_option maxHeartbeats 400000 in
theorem AQ (b:Nat) (x s:BE) (start dF:Int) (w:World) (h:dZ w b x s) (h1:In64 start) (h2:In64 x.aF) (h3:In64 s.aF) :
  Calls Tryz.prog 95 #[.pointer (some ⟨b,0,none⟩),.int .i64 start,.int .i64 dF] w fun r w'=>r = .returned (.int .i64 (lesser (asked dF) (lesser (aX start x.aF) (aX start s.aF))))∧∃ m,w'=w.drewN m:=by
 have HA:=hid (fun nq=>AP start dF x.aF s.aF w nq h1 h2 h3)
 have c0:w.cell? ⟨b,5,none⟩=some (.int .i64 x.aF):=h.c 5 _ rfl
 have c1:w.cell? ⟨b,13,none⟩=some (.int .i64 s.aF):=h.s 5 _ rfl
 clear h h1 h2 h3
 generalize lesser (asked dF) (lesser (aX start x.aF) (aX start s.aF))=a at *
 go_enter Tryz.func95,Tryz.ntmps95
 go_wp2_with fail
 go_quiet (first|(go_at_call 127;exact HA.out _))
 go_wp2
 go_ret
 exact ⟨rfl,_,rfl⟩
end Go.Proofs.YtpibgolaaaemnaaGreatDoor
namespace Go.Proofs.YtpibgolaaaemnaaGreatDoor
open Go.RowKit
set_option maxRecDepth 100000
theorem oI {fn:Func} {a:Tmp} {ty:TypeId} (h:fn.results=#[.cell a ty]) (tmps:Array Value) (P:Program) (w:World) (b:Nat) (hp:tmps.getD a undef = .pointer (some ⟨b,0,none⟩)) (x:Value) (hl:(loadVar ty ⟨b,0,none⟩).run P w = .ok x w) :
  (results fn tmps).run P w = .ok x w:=by
 have hp':tmps[a]?.getD undef = .pointer (some ⟨b,0,none⟩):=by simpa using hp
 simp[results,h,hp',hl,asAddr]
theorem Tryz.VS:(Tryz.prog.info? 213).map (·.size)=some 2:=by kernel_rfl
set_option maxHeartbeats 400000 in
theorem oJ (b o:Nat) (e:BE) (w:World) (h1:w.cell? ⟨b,o+1,none⟩=some (.int .i64 e.ag)) (h2:w.cell? ⟨b,o+2,none⟩=some (.int .u64 (e.key.toNat:Int))) :
  Calls Tryz.prog 93 #[.pointer (some ⟨b,o,none⟩)] w fun r w'=>r = .returned (.agg #[.int .i64 e.ag,.int .u64 (e.key.toNat:Int)])∧w.grownBy w' none:=by
 have G0:=World.grownBy_alloc w (.cells #[.int .i64 0,.int .u64 0] 213) none
 have a1:=G0.cell h1 (by simp)
 have a2:=G0.cell h2 (by simp)
 clear G0
 go_enter Tryz.func93,Tryz.ntmps93
 go_wp2_with fail
 go_region
 all_goals
  go_wp2
  exact bodyPost_ret (oI Tryz.results93 _ _ _ w.heap.size rfl _ ((bI.new w #[.int .i64 e.ag,.int .u64 (e.key.toNat:Int)] 213).drew.load 213 _ Tryz.underlying213 rfl Tryz.VS)) rfl ⟨rfl,dA (World.grownBy_alloc w _ none)⟩
end Go.Proofs.YtpibgolaaaemnaaGreatDoor
namespace Go.Proofs.YtpibgolaaaemnaaGreatDoor
open Go.RowKit
set_option maxRecDepth 100000
def yH (way:Int):Int:=if way=16 then 4 else if way=32 then 16 else if way=64 then 1 else if way=128 then 2 else 0
set_option maxHeartbeats 400000 in
theorem fe (way:Int) (w:World) :
  Calls Tryz.prog 138 #[.int .i64 way] w fun r w'=>r = .returned (.int .i64 (yH way))∧w'=w:=by
 by_cases h1:way=16
 ·subst h1
  go_enter Tryz.func138,Tryz.ntmps138
  go_wp2
  go_ret
  exact ⟨rfl,rfl⟩
 by_cases h2:way=32
 ·subst h2
  go_enter Tryz.func138,Tryz.ntmps138
  go_wp2
  go_ret
  exact ⟨rfl,rfl⟩
 by_cases h3:way=64
 ·subst h3
  go_enter Tryz.func138,Tryz.ntmps138
  go_wp2
  go_ret
  exact ⟨rfl,rfl⟩
 by_cases h4:way=128
 ·subst h4
  go_enter Tryz.func138,Tryz.ntmps138
  go_wp2
  go_ret
  exact ⟨rfl,rfl⟩
 have e:yH way=0:=by unfold yH;rw[if_neg h1,if_neg h2,if_neg h3,if_neg h4]
 rw[e]
 clear e
 go_enter Tryz.func138,Tryz.ntmps138
 go_wp2
 go_ret
 exact ⟨rfl,rfl⟩
end Go.Proofs.YtpibgolaaaemnaaGreatDoor
namespace Go.Proofs.YtpibgolaaaemnaaGreatDoor
open Go.RowKit
set_option maxRecDepth 100000
def iA (n:Int) (x s:BE):Int:=(if (aA n 1 && (x.has 4 && s.has 4))=true then 1 else 0)+(if (aA n 2 && (x.has 8 && s.has 8))=true then 2 else 0)+(if (aA n 4 && (x.has 2 && s.has 2))=true then 4 else 0)
def gD (n:Int) (x s:BE) (k:Nat):Int:=(if (aA n 1 && (x.has 4 && s.has 4))=true then (if 0<k then 1 else 0) else 0)+(if (aA n 2 && (x.has 8 && s.has 8))=true then (if 1<k then 2 else 0) else 0)+(if (aA n 4 && (x.has 2 && s.has 2))=true then (if 2<k then 4 else 0) else 0)
theorem dZ.grown {w w':World} {b:Nat} {x s:BE} (h:dZ w b x s) (k:w.grownBy w' none):dZ w' b x s:=
 ⟨fun i v hv=>k.cell (h.af i v hv) (by simp),fun i v hv=>k.cell (h.az i v hv) (by simp)⟩
theorem VV (n:Int) (x s:BE):((aA n 1 && (x.has 4 && s.has 4))=false→gD n x s 1=gD n x s 0)∧((aA n 1 && (x.has 4 && s.has 4))=true→gD n x s 1=bits .or .i64 (gD n x s 0) 1):=by
 unfold gD
 generalize (aA n 1 && (x.has 4 && s.has 4))=b1
 generalize (aA n 2 && (x.has 8 && s.has 8))=b2
 generalize (aA n 4 && (x.has 2 && s.has 2))=b3
 revert b1 b2 b3
 decide
theorem VW (n:Int) (x s:BE):((aA n 2 && (x.has 8 && s.has 8))=false→gD n x s 2=gD n x s 1)∧((aA n 2 && (x.has 8 && s.has 8))=true→gD n x s 2=bits .or .i64 (gD n x s 1) 2):=by
 unfold gD
 generalize (aA n 1 && (x.has 4 && s.has 4))=b1
 generalize (aA n 2 && (x.has 8 && s.has 8))=b2
 generalize (aA n 4 && (x.has 2 && s.has 2))=b3
 revert b1 b2 b3
 decide
theorem VX (n:Int) (x s:BE):((aA n 4 && (x.has 2 && s.has 2))=false→gD n x s 3=gD n x s 2)∧((aA n 4 && (x.has 2 && s.has 2))=true→gD n x s 3=bits .or .i64 (gD n x s 2) 4):=by
 unfold gD
 generalize (aA n 1 && (x.has 4 && s.has 4))=b1
 generalize (aA n 2 && (x.has 8 && s.has 8))=b2
 generalize (aA n 4 && (x.has 2 && s.has 2))=b3
 revert b1 b2 b3
 decide
theorem VY (n:Int) (x s:BE):gD n x s 3=iA n x s:=rfl
set_option maxHeartbeats 1000000 in
theorem yK (b:Nat) (x s:BE) (n:Int) (w:World) (h:dZ w b x s) :
  Calls Tryz.prog 128 #[.pointer (some ⟨b,0,none⟩),.int .i64 n] w fun r w'=>r = .returned (.int .i64 (iA n x s))∧w.grownBy w' none:=by
 have HP:=hid h
 clear h
 have sz0:∀ w,(Instr.index 287 (.agg #[.int .i64 1,.int .i64 4,.int .i64 2,.int .i64 8,.int .i64 4,.int .i64 2]) (.int .i64 0)).run Tryz.prog w = .ok (.agg #[.int .i64 1,.int .i64 4]) w:=fun _=>by kernel_rfl
 have sz1:∀ w,(Instr.index 287 (.agg #[.int .i64 1,.int .i64 4,.int .i64 2,.int .i64 8,.int .i64 4,.int .i64 2]) (.int .i64 1)).run Tryz.prog w = .ok (.agg #[.int .i64 2,.int .i64 8]) w:=fun _=>by kernel_rfl
 have sz2:∀ w,(Instr.index 287 (.agg #[.int .i64 1,.int .i64 4,.int .i64 2,.int .i64 8,.int .i64 4,.int .i64 2]) (.int .i64 2)).run Tryz.prog w = .ok (.agg #[.int .i64 4,.int .i64 2]) w:=fun _=>by kernel_rfl
 go_enter Tryz.func128,Tryz.ntmps128
 go_wp2_with fail
 go_loopw [4,11] (fun a i wr=>∃ k:Nat,k≤3∧i = .int .i64 k∧a = .int .i64 (gD n x s k)∧Hid (w.grownBy wr none)) (fun _ i _=>3-(intOf i).toNat)
 case atStart=>exact ⟨0,by omega,rfl,by unfold gD;simp,World.grownBy.refl _ _⟩
 case round=>
  obtain ⟨k,hk,rfl,rfl,hG⟩:=hrel
  by_cases h0:k=0
  ·subst h0
   have HB:=hid (fun W (hW:w.grownBy W none)=>mE b x s 4 2 W (by decide) (by decide) (HP.out.grown hW))
   have HV:=hid (VV n x s)
   have hq:=ji n 1 0 (by decide) (by decide)
   generalize aA n 1=b1 at *
   generalize (x.has 4 && s.has 4)=b2 at *
   obtain ⟨a1,h1⟩:∃ a,gD n x s 1=a:=⟨_,rfl⟩
   rw[h1] at HV
   have HE:=hid h1
   clear h1
   generalize gD n x s 0=a0 at *
   cases b1 with
   | false=>
    rw[Bool.not_false] at hq
    have hp:=beq_iff_eq.1 hq
    clear hq
    go_wp2_with fail
    go_roundw
    case rel=>exact ⟨1,by omega,rfl,by rw[HE.out,HV.out.1 rfl],ae hG.out (World.grownBy_alloc _ _ none)⟩
    case measure=>simp[intOf]
   | true=>
    rw[Bool.not_true] at hq
    have hp:=beq_eq_false_iff_ne.1 hq
    clear hq
    cases b2 with
    | false=>
     go_wp2_with (first|(go_at_call 126;refine (HB.out _ (ae hG.out (World.grownBy_alloc _ _ none))).mono ?_;clear HB;rintro e w1 ⟨rfl,rfl⟩))
     go_roundw
     case rel=>exact ⟨1,by omega,rfl,by rw[HE.out,HV.out.1 rfl],ae hG.out (World.grownBy_alloc _ _ none)⟩
     case measure=>simp[intOf]
    | true=>
     go_wp2_with (first|(go_at_call 126;refine (HB.out _ (ae hG.out (World.grownBy_alloc _ _ none))).mono ?_;clear HB;rintro e w1 ⟨rfl,rfl⟩))
     go_roundw
     case rel=>exact ⟨1,by omega,rfl,by rw[HE.out,HV.out.2 rfl],ae hG.out (World.grownBy_alloc _ _ none)⟩
     case measure=>simp[intOf]
  by_cases h1:k=1
  ·subst h1
   have HB:=hid (fun W (hW:w.grownBy W none)=>mE b x s 8 3 W (by decide) (by decide) (HP.out.grown hW))
   have HV:=hid (VW n x s)
   have hq:=ji n 2 1 (by decide) (by decide)
   generalize aA n 2=b1 at *
   generalize (x.has 8 && s.has 8)=b2 at *
   obtain ⟨a1,h1⟩:∃ a,gD n x s 2=a:=⟨_,rfl⟩
   rw[h1] at HV
   have HE:=hid h1
   clear h1
   generalize gD n x s 1=a0 at *
   cases b1 with
   | false=>
    rw[Bool.not_false] at hq
    have hp:=beq_iff_eq.1 hq
    clear hq
    go_wp2_with fail
    go_roundw
    case rel=>exact ⟨2,by omega,rfl,by rw[HE.out,HV.out.1 rfl],ae hG.out (World.grownBy_alloc _ _ none)⟩
    case measure=>simp[intOf]
   | true=>
    rw[Bool.not_true] at hq
    have hp:=beq_eq_false_iff_ne.1 hq
    clear hq
    cases b2 with
    | false=>
     go_wp2_with (first|(go_at_call 126;refine (HB.out _ (ae hG.out (World.grownBy_alloc _ _ none))).mono ?_;clear HB;rintro e w1 ⟨rfl,rfl⟩))
     go_roundw
     case rel=>exact ⟨2,by omega,rfl,by rw[HE.out,HV.out.1 rfl],ae hG.out (World.grownBy_alloc _ _ none)⟩
     case measure=>simp[intOf]
    | true=>
     go_wp2_with (first|(go_at_call 126;refine (HB.out _ (ae hG.out (World.grownBy_alloc _ _ none))).mono ?_;clear HB;rintro e w1 ⟨rfl,rfl⟩))
     go_roundw
     case rel=>exact ⟨2,by omega,rfl,by rw[HE.out,HV.out.2 rfl],ae hG.out (World.grownBy_alloc _ _ none)⟩
     case measure=>simp[intOf]
  by_cases h2:k=2
  ·subst h2
   have HB:=hid (fun W (hW:w.grownBy W none)=>mE b x s 2 1 W (by decide) (by decide) (HP.out.grown hW))
   have HV:=hid (VX n x s)
   have hq:=ji n 4 2 (by decide) (by decide)
   generalize aA n 4=b1 at *
   generalize (x.has 2 && s.has 2)=b2 at *
   obtain ⟨a1,h1⟩:∃ a,gD n x s 3=a:=⟨_,rfl⟩
   rw[h1] at HV
   have HE:=hid h1
   clear h1
   generalize gD n x s 2=a0 at *
   cases b1 with
   | false=>
    rw[Bool.not_false] at hq
    have hp:=beq_iff_eq.1 hq
    clear hq
    go_wp2_with fail
    go_roundw
    case rel=>exact ⟨3,by omega,rfl,by rw[HE.out,HV.out.1 rfl],ae hG.out (World.grownBy_alloc _ _ none)⟩
    case measure=>simp[intOf]
   | true=>
    rw[Bool.not_true] at hq
    have hp:=beq_eq_false_iff_ne.1 hq
    clear hq
    cases b2 with
    | false=>
     go_wp2_with (first|(go_at_call 126;refine (HB.out _ (ae hG.out (World.grownBy_alloc _ _ none))).mono ?_;clear HB;rintro e w1 ⟨rfl,rfl⟩))
     go_roundw
     case rel=>exact ⟨3,by omega,rfl,by rw[HE.out,HV.out.1 rfl],ae hG.out (World.grownBy_alloc _ _ none)⟩
     case measure=>simp[intOf]
    | true=>
     go_wp2_with (first|(go_at_call 126;refine (HB.out _ (ae hG.out (World.grownBy_alloc _ _ none))).mono ?_;clear HB;rintro e w1 ⟨rfl,rfl⟩))
     go_roundw
     case rel=>exact ⟨3,by omega,rfl,by rw[HE.out,HV.out.2 rfl],ae hG.out (World.grownBy_alloc _ _ none)⟩
     case measure=>simp[intOf]
  have h3:k=3:=by omega
  subst h3
  have HV:=hid (VY n x s)
  go_wp2_with fail
  go_ret
  exact ⟨by rw[HV.out];rfl,hG.out⟩
end Go.Proofs.YtpibgolaaaemnaaGreatDoor
