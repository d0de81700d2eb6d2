/-
  
-/
import Derived.Test.YtpibgolaaaemnaaGreatDoorGUPWriteF
import Derived.Test.YtpibgolaaaemnaaGreatDoorGUPBookG
namespace Go.Proofs.YtpibgolaaaemnaaGreatDoor
open Go.RowKit
set_option maxRecDepth 100000
set_option maxHeartbeats 400000 in
theorem VJ (g o n cap b:Nat) (ao:Option Addr) (w:World) (hn:n<24) (hc:w.cell? ⟨g,o,none⟩=some (.slice ao n cap)) :
  Calls Tryz.prog 129 #[.pointer (some ⟨g,o,none⟩),.slice (some ⟨b,0,none⟩) 3 3] w fun e w'=>e = .returned (.bool false)∧w'=w:=by
 have hnI:(n:Int)<24:=by omega
 go_enter Tryz.func129,Tryz.ntmps129
 go_wp2
 go_ret
 exact ⟨rfl,rfl⟩
set_option maxHeartbeats 1000000 in
theorem Ro (g o b:Nat) (q:Pl) (ds:List UInt8) (n:Nat) (w:World) (hn:Hid (ds.length=n)) (EP:24≤n) (hnc:n≤q.cap) (hcm:q.cap≤9223372036854775807) (hc:w.cell? ⟨g,o,none⟩=some (.slice (some ⟨q.g,q.off,none⟩) n q.cap)) (hLg:Live w g (o+1)) (hLb:Live w b 3) (hr:w.rangeAt q.g q.off (ds.map U8)) (hgb:g≠b) (hqg:q.g≠g) (hqb:q.g≠b) :
  Calls Tryz.prog 129 #[.pointer (some ⟨g,o,none⟩),.slice (some ⟨b,0,none⟩) 3 3] w fun e w'=>e = .returned (.bool true)∧(∃ off,w'.cell? ⟨g,o,none⟩=some (.slice (some ⟨q.g,off,none⟩) (n-24) (q.cap-24))∧(q.cap-24≠0→off=q.off+24)∧off≤q.off+24)∧(∀ j,j<3→w'.cell? ⟨b,j,none⟩=some (.int .u64 ((dU ds j).toNat:Int)))∧CF w w' (fun x y=>x=g∧y=o∨x=b):=by
 have hnI:¬ (n:Int)<24:=by omega
 obtain ⟨qg,Rp⟩:∃ x,q.g=x:=⟨_,rfl⟩
 obtain ⟨qo,VK⟩:∃ x,q.off=x:=⟨_,rfl⟩
 obtain ⟨qc,VL⟩:∃ x,q.cap=x:=⟨_,rfl⟩
 rw[Rp,VK,VL] at hc
 rw[Rp,VK] at hr
 rw[Rp] at hqg hqb
 rw[VL] at hnc hcm
 rw[Rp,VK,VL]
 clear Rp VK VL
 have HR:=hid hr
 have HC:=hid hc
 have HLG:=hid hLg
 have HLB:=hid hLb
 clear hr hLg hLb
 go_enter Tryz.func129,Tryz.ntmps129
 go_wp2
 clear hc
 go_loopw [17] (fun i wr=>∃ k:Nat,k≤3∧i = .int .i64 k∧Hid ((∃ off,wr.cell? ⟨g,o,none⟩=some (.slice (some ⟨qg,off,none⟩) (n-8*k) (qc-8*k))∧(qc-8*k≠0→off=qo+8*k)∧off≤qo+8*k)∧(∀ j,j<k→wr.cell? ⟨b,j,none⟩=some (.int .u64 ((dU ds j).toNat:Int)))∧CF w wr (fun x y=>x=g∧y=o∨x=b))) (fun i _=>3-(intOf i).toNat)
 case atStart=>exact ⟨0,Nat.zero_le _,rfl,⟨qo,HC.out,fun _=>rfl,Nat.le_refl _⟩,fun j hj=>by omega,CF.refl _ _⟩
 case round=>
  obtain ⟨k,hk,rfl,hI⟩:=hrel
  by_cases hlt:k<3
  ·obtain ⟨o1,ho1⟩:∃ x,qo+8*k=x:=⟨_,rfl⟩
   obtain ⟨n1,hn1⟩:∃ x,n-8*k=x:=⟨_,rfl⟩
   obtain ⟨c1,hc1⟩:∃ x,qc-8*k=x:=⟨_,rfl⟩
   obtain ⟨off,hcl,hoff,_⟩:=hI.out.1
   rw[hoff (by omega),ho1,hn1,hc1] at hcl
   clear hoff
   have hb1:8≤n1:=by omega
   have hb2:n1≤c1:=by omega
   have hb3:c1≤9223372036854775807:=by omega
   have rT:(k:Int)<3:=by omega
   have hat:At wr (some ⟨qg,o1,none⟩) ((ds.drop (8*k)).take 8):=by
    apply At.rZ
    intro j u hu
    have hj:j<8:=by have:=(List.getElem?_eq_some_iff.1 hu).1;simp at this;omega
    refine hI.out.2.2.cell ?_ (fun e=>?_)
    ·rw[←ho1,Nat.add_assoc]
     refine HR.out (8*k+j) u ?_
     rw[←hu,List.map_take,List.getElem?_take_of_lt hj,List.map_drop,List.getElem?_drop]
    ·rcases e with ⟨e,_⟩ | e
     ·exact hqg e
     ·exact hqb e
   have HJ:=hid (Kc 0 ((ds.drop (8*k)).take 8) 8 (some ⟨qg,o1,none⟩) c1 wr (by rw[List.length_take,List.length_drop,hn.out];omega) (by omega) hat)
   have hLG:=HLG.out.cf hI.out.2.2
   have hLB:=HLB.out.cf hI.out.2.2
   obtain ⟨ub,hub⟩:=Option.isSome_iff_exists.1 (hLB.some k hlt)
   have hfb:=hLB.frozen k
   have hfg:=hLG.frozen o
   have hbg:b≠g:=fun e=>hgb e.symm
   have Cv:=hid ho1
   have HN1:=hid hn1
   have wI:=hid hc1
   clear ho1 hn1 hc1 hat hLG hLB
   go_wp2_with (go_at_call 152;refine HJ.out.mono ?_;rintro e w2 ⟨rfl,rfl⟩)
   go_roundw
   case rel=>
    refine ⟨k+1,by omega,by go_num,⟨if c1=8 then o1 else o1+8,?_,?_,?_⟩,?_,?_⟩
    ·have e1:n-8*(k+1)=n1-8:=by have:=HN1.out;omega
     have e2:qc-8*(k+1)=c1-8:=by have:=wI.out;omega
     rw[e1,e2]
     have e3:(if c1=8 then some (Addr.mk qg o1 none) else some (Addr.mk qg (o1+8) none))=some (Addr.mk qg (if c1=8 then o1 else o1+8) none):=by split <;> rfl
     rw[e3]
     exact World.cell?_setCell_same _ _ _ (by rw[World.cell?_setCell_other _ _ _ _ (fun e'=>hbg (by injection e'))];exact hcl)
    ·have h1:=wI.out
     have h2:=Cv.out
     intro h3
     rw[if_neg (by omega)]
     omega
    ·have h2:=Cv.out
     split <;> omega
    ·intro j hj
     by_cases hjk:j=k
     ·subst hjk
      rw[World.cell?_setCell_other _ _ _ _ (fun e'=>hgb (by injection e'))]
      exact World.cell?_setCell_same _ _ _ hub
     ·have h9:=hI.out.2.1 j (by omega)
      rw[World.cell?_setCell_other _ _ _ _ (fun e'=>hgb (by injection e')),World.cell?_setCell_other _ _ _ _ (fun e'=>hjk (by injection e' with _ e';exact e'.symm))]
      exact h9
    ·exact (hI.out.2.2.setCell b k _ (fun _=>.inr rfl)).setCell g o _ (fun _=>.inl ⟨rfl,rfl⟩)
   case measure=>simp[intOf];omega
  ·have hks:k=3:=by omega
   subst hks
   go_wp2
   go_ret
   exact ⟨rfl,hI.out⟩
end Go.Proofs.YtpibgolaaaemnaaGreatDoor
