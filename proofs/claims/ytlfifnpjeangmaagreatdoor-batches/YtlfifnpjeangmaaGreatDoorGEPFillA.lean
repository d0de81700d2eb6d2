import Derived.Test.YtlfifnpjeangmaaGreatDoorGEPWriteF
import Derived.Test.YtlfifnpjeangmaaGreatDoorGEPBookG
namespace Go.Proofs.YtlfifnpjeangmaaGreatDoor
set_option maxHeartbeats 1000000
open Proofs.Tryz Go.RowKit
set_option maxRecDepth 100000
theorem abQ(g o n cap b:Nat)(c)(w)(hn:n<24)(d:w.cell? (g,o)=some (.slice c n cap)):
  Calls prog 214 #[(g,o),.slice (some (b,0)) 3 3] w λe w'=>e=.returned (.bool false)/\w'=w:=by
 have a:(n:Int)<24:=agE
 go_enter func214,ntmps214
 exact aaE
theorem XO(g o b:Nat)(q:Pl)(ds)(n)(w)(hn:Hid (ds.length=n))(JF:24<=n)(F:n<=q.cap)(P:q.cap<=9223372036854775807)(J:w.cell? (g,o)=some (.slice (some (q.g,q.off)) n q.cap))(t:Live w g (o+1))(p:Live w b 3)(E:w.rangeAt q.g q.off (ds.map U8))(Q:g≠b)(N:q.g≠g)(D:q.g≠b):
  Calls prog 214 #[(g,o),.slice (some (b,0)) 3 3] w λe w'=>e=.returned (.bool true)/\(∃off,w'.cell? (g,o)=some (.slice (some ⟨q.g,off,none⟩) (n-24) (q.cap-24))/\(q.cap-24≠0->off=q.off+24)/\off<=q.off+24)/\(∀j,j<3->w'.cell? ⟨b,j,none⟩=some (υ ((eB ds j).toNat:Int)))/\CF w w' (λx y=>x=g/\y=o\/x=b):=by
 have X:¬ (n:Int)<24:=agE
 obtain⟨G,s⟩:=aq q.g
 obtain⟨B,c⟩:=aq q.off
 obtain⟨S,d⟩:=aq q.cap
 rw[s,c,d]at J
 rw[s,c]at E
 rw[s]at N D
 rw[d]at F P
 rw[s,c,d]
 clear s c d
 have HR:=hid E
 have Y:=hid J
 have H:=hid t
 have L:=hid p
 clear E t p
 go_enter func214,ntmps214
 go_wp2
 clear J
 go_loopw [17] (λi wr=>∃k:Nat,k<=3/\i = ι k/\Hid ((∃off,wr.cell? ⟨g,o,none⟩=some (.slice (some ⟨G,off,none⟩) (n-8*k) (S-8*k))/\(S-8*k≠0->off=B+8*k)/\off<=B+8*k)/\(∀j,j<k->wr.cell? ⟨b,j,none⟩=some (υ ((eB ds j).toNat:Int)))/\CF w wr (λx y=>x=g/\y=o\/x=b))) (λi _=>3-(intOf i).toNat)
 case atStart=>exact⟨0,cS _,rfl,⟨B,Y.o,λ_=>rfl,cy _⟩,λj C=>by omega,CF.refl _ _⟩
 case round=>
  obtain⟨k,hk,rfl,m⟩:=hrel;by_cases O:k<3
  ·obtain⟨A,a⟩:=aq (B+8*k);obtain⟨U,h⟩:=aq (n-8*k);obtain⟨z,l⟩:=aq (S-8*k);obtain⟨off,R,f,_⟩:=m.o.1;rw[f agE,a,h,l]at R;clear f;have ab:8<=U:=agE;have aa:U<=z:=agE;have W:z<=9223372036854775807:=agE;have mU:(k:Int)<3:=agE;have r:At wr (some ⟨G,A,none⟩) ((ds.drop (8*k)).take 8):=by
    apply At.yR;intro j u hu;have C:j<8:=agM;refine m.o.2.2.cell ?_ (λe=>?_)
    ·rw[<-a,gi];refine HR.o (8*k+j) u ?_;rw[<-hu,List.map_take,List.getElem?_take_of_lt C,List.map_drop,List.getElem?_drop]
    omega
   have Z:=hid (Pd 0 ((ds.drop (8*k)).take 8) 8 (some ⟨G,A,none⟩) z wr agR agE r);have v:=H.o.cf m.o.2.2;have K:=L.o.cf m.o.2.2;obtain⟨ub,M⟩:=cA.1 (K.some k O);have Ud:=K.frozen k;have V:=v.frozen o;have ad:b≠g:=λe=>Q e.symm;have ym:=hid a;have Jw:=hid h;have sO:=hid l;clear a h l r v K;go_wp2_with (go_at_call 125;refine Z.o.mono ?_;rintro e w2 ⟨rfl,rfl⟩)
   go_roundw
   case rel=>
    refine⟨k+1,by omega,by go_num,⟨if z=8 then A else A+8,?_,?_,?_⟩,?_,?_⟩
    ·grind [RowKit.Hid.o,World.cell?_setCell_other,World.cell?_setCell_same]
    ·grind [RowKit.Hid.o]
    ·have h2:=ym.o;split<;>omega
    ·intro j C;by_cases T:j=k
     ·subst T;rw[World.cell?_setCell_other _ _ _ _ agM];exact World.cell?_setCell_same _ _ _ M
     ·have h9:=m.o.2.1 j agE;rw[World.cell?_setCell_other _ _ _ _ agM,World.cell?_setCell_other _ _ _ _ agM];exact h9
    grind [CF.setCell,RowKit.Hid.o]
   case measure=>simp[intOf];omega
  ·have I:k=3:=agE;subst I;go_wp2;go_ret;exact⟨rfl,m.o⟩
end Go.Proofs.YtlfifnpjeangmaaGreatDoor
