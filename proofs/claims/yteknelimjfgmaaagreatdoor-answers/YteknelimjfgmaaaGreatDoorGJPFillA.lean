import Derived.Test.YteknelimjfgmaaaGreatDoorGJPWriteF
import Derived.Test.YteknelimjfgmaaaGreatDoorGJPBookG
namespace Go.Proofs.YteknelimjfgmaaaGreatDoor
set_option maxHeartbeats 1000000
open Proofs.Tryz Go.RowKit
set_option maxRecDepth 100000
theorem XV (g o n cap b:Nat) (ao:Option Addr) (w:World) (hn:n<24) (hc:w.cell? ⟨g,o,none⟩=some (.slice ao n cap)) :
  Calls prog 216 #[.pointer (some ⟨g,o,none⟩),.slice (some ⟨b,0,none⟩) 3 3] w fun e w'=>e = .returned (.bool false)/\w'=w:=by
 have hnI:(n:Int)<24:=by omega
 go_enter func216,ntmps216
 exact aaG
theorem Ud (g o b:Nat) (q:Pl) (ds:List UInt8) (n:Nat) (w:World) (hn:Hid (ds.length=n)) (Er:24<=n) (hnc:n<=q.cap) (hcm:q.cap<=9223372036854775807) (hc:w.cell? ⟨g,o,none⟩=some (.slice (some ⟨q.g,q.off,none⟩) n q.cap)) (hLg:Live w g (o+1)) (hLb:Live w b 3) (hr:w.rangeAt q.g q.off (ds.map U8)) (hgb:g≠b) (hqg:q.g≠g) (hqb:q.g≠b) :
  Calls prog 216 #[.pointer (some ⟨g,o,none⟩),.slice (some ⟨b,0,none⟩) 3 3] w fun e w'=>e = .returned (.bool true)/\(∃ off,w'.cell? ⟨g,o,none⟩=some (.slice (some ⟨q.g,off,none⟩) (n-24) (q.cap-24))/\(q.cap-24≠0->off=q.off+24)/\off<=q.off+24)/\(∀ j,j<3->w'.cell? ⟨b,j,none⟩=some (.int .u64 ((eO ds j).toNat:Int)))/\CF w w' (fun x y=>x=g/\y=o\/x=b):=by
 have hnI:¬ (n:Int)<24:=by omega
 obtain ⟨qg,Ue⟩:=aq q.g
 obtain ⟨qo,XX⟩:=aq q.off
 obtain ⟨qc,XY⟩:=aq q.cap
 rw[Ue,XX,XY] at hc
 rw[Ue,XX] at hr
 rw[Ue] at hqg hqb
 rw[XY] at hnc hcm
 rw[Ue,XX,XY]
 clear Ue XX XY
 have HR:=hid hr
 have HC:=hid hc
 have HLG:=hid hLg
 have HLB:=hid hLb
 clear hr hLg hLb
 go_enter func216,ntmps216
 go_wp2
 clear hc
 go_loopw [17] (fun i wr=>∃ k:Nat,k<=3/\i = .int .i64 k/\Hid ((∃ off,wr.cell? ⟨g,o,none⟩=some (.slice (some ⟨qg,off,none⟩) (n-8*k) (qc-8*k))/\(qc-8*k≠0->off=qo+8*k)/\off<=qo+8*k)/\(∀ j,j<k->wr.cell? ⟨b,j,none⟩=some (.int .u64 ((eO ds j).toNat:Int)))/\CF w wr (fun x y=>x=g/\y=o\/x=b))) (fun i _=>3-(intOf i).toNat)
 case atStart=>exact ⟨0,cE _,rfl,⟨qo,HC.o,fun _=>rfl,bd _⟩,fun j hj=>by omega,CF.refl _ _⟩
 case round=>
  obtain ⟨k,hk,rfl,hI⟩:=hrel;by_cases hlt:k<3
  ·obtain ⟨o1,ho1⟩:=aq (qo+8*k);obtain ⟨n1,hn1⟩:=aq (n-8*k);obtain ⟨c1,hc1⟩:=aq (qc-8*k);obtain ⟨off,hcl,hoff,_⟩:=hI.o.1;rw[hoff afp,ho1,hn1,hc1] at hcl;clear hoff;have hb1:8<=n1:=(by omega);have hb2:n1<=c1:=(by omega);have hb3:c1<=9223372036854775807:=(by omega);have rF:(k:Int)<3:=(by omega);have hat:At wr (some ⟨qg,o1,none⟩) ((ds.drop (8*k)).take 8):=by
    apply At.xS;intro j u hu;have hj:j<8:=(by have:=(cq.1 hu).1;simp at this;omega);refine hI.o.2.2.cell ?_ (fun e=>?_)
    ·rw[<-ho1,fN];refine HR.o (8*k+j) u ?_;rw[<-hu,List.map_take,List.getElem?_take_of_lt hj,List.map_drop,List.getElem?_drop]
    ·rcases e with ⟨e,_⟩ | e
     ·exact hqg e
     ·exact hqb e
   have HJ:=hid (Ma 0 ((ds.drop (8*k)).take 8) 8 (some ⟨qg,o1,none⟩) c1 wr (by rw[cG,cy,hn.o];omega) afp hat);have hLG:=HLG.o.cf hI.o.2.2;have Sg:=HLB.o.cf hI.o.2.2;obtain ⟨ub,hub⟩:=bw.1 (Sg.some k hlt);have Qt:=Sg.frozen k;have hfg:=hLG.frozen o;have hbg:b≠g:=fun e=>hgb e.symm;have yJ:=hid ho1;have LK:=hid hn1;have qN:=hid hc1;clear ho1 hn1 hc1 hat hLG Sg;go_wp2_with (go_at_call 127;refine HJ.o.mono ?_;rintro e w2 ⟨rfl,rfl⟩)
   go_roundw
   case rel=>
    refine ⟨k+1,by omega,by go_num,⟨if c1=8 then o1 else o1+8,?_,?_,?_⟩,?_,?_⟩
    ·have e1:n-8*(k+1)=n1-8:=(by have:=LK.o;omega);have e2:qc-8*(k+1)=c1-8:=(by have:=qN.o;omega);rw[e1,e2];have e3:(if c1=8 then some (Addr.mk qg o1 none) else some (Addr.mk qg (o1+8) none))=some (Addr.mk qg (if c1=8 then o1 else o1+8) none):=(by split <;> rfl);rw[e3];exact World.cell?_setCell_same _ _ _ (by rw[World.cell?_setCell_other _ _ _ _ (fun e'=>hbg (by injection e'))];exact hcl)
    ·have h1:=qN.o;have h2:=yJ.o;intro h3;rw[if_neg afp];omega
    ·have h2:=yJ.o;split <;> omega
    ·intro j hj;by_cases hjk:j=k
     ·subst hjk;rw[World.cell?_setCell_other _ _ _ _ (fun e'=>hgb (by injection e'))];exact World.cell?_setCell_same _ _ _ hub
     ·have h9:=hI.o.2.1 j afp;rw[World.cell?_setCell_other _ _ _ _ (fun e'=>hgb (by injection e')),World.cell?_setCell_other _ _ _ _ (fun e'=>hjk (by injection e' with _ e';exact e'.symm))];exact h9
    ·exact (hI.o.2.2.setCell b k _ (fun _=>.inr rfl)).setCell g o _ (fun _=>.inl ⟨rfl,rfl⟩)
   case measure=>simp[intOf];omega
  ·have hks:k=3:=(by omega);subst hks;go_wp2;go_ret;exact ⟨rfl,hI.o⟩
end Go.Proofs.YteknelimjfgmaaaGreatDoor
