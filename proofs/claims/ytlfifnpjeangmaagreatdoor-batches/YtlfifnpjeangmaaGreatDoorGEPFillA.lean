import Derived.Test.YtlfifnpjeangmaaGreatDoorGEPWriteF
import Derived.Test.YtlfifnpjeangmaaGreatDoorGEPBookG
namespace Go.Proofs.YtlfifnpjeangmaaGreatDoor
set_option maxHeartbeats 1000000
open Proofs.Tryz Go.RowKit
set_option maxRecDepth 100000
theorem T7(g o n a b)(d)(w)(i:n<24)(h:w.c g o=some (.slice d n a)):Calls prog 214 #[π g o,ς b 0 3 3] w λe f=>e=.returned (.bool false)/\f=w:=by
 have e:(n:Int)<24:=G
 go_in
 exact lO
theorem Yd(g o b)(q:Pl)(l)(n)(w)(hn:Hid (l.length=n))(JJ:24<=n)(K:n<=q.cap)(C:q.cap<=9223372036854775807)(m:w.cell? (F g o)=some (ς q.g q.off n q.cap))(k:b' w g (o+1))(i:b' w b 3)(p:w.rangeAt q.g q.off (l.map U8))(D:g≠b)(M:q.g≠g)(L:q.g≠b):Calls prog 214 #[π g o,ς b 0 3 3] w λe d=>e=.returned (.bool true)/\(∃a,d.cell? (F g o)=some (ς q.g a (n-24) (q.cap-24))/\(q.cap-24≠0->a=q.off+24)/\a<=q.off+24)/\(∀j,j<3->d.cell? (F b j)=some (H ((eF l j).toNat:Int)))/\CF w d (λx y=>x=g/\y=o\/x=b):=by
 have af:¬ (n:Int)<24:=G
 obtain⟨R,h⟩:=N q.g
 obtain⟨v,d⟩:=N q.off
 obtain⟨Q,f⟩:=N q.cap
 rw[h,d,f]at m
 rw[h,d]at p
 rw[h]at M L
 rw[f]at K C
 rw[h,d,f]
 clear h d f
 have V:=I p
 have T:=I m
 have B:=I k
 have A:=I i
 clear p k i
 go_in
 go_wp2
 clear m
 go_loopw [17] (λi wr=>∃k:Nat,k<=3/\i = Y k/\Hid ((∃a,wr.cell? (F g o)=some (ς R a (n-8*k) (Q-8*k))/\(Q-8*k≠0->a=v+8*k)/\a<=v+8*k)/\(∀j,j<k->wr.cell? (F b j)=some (H ((eF l j).toNat:Int)))/\CF w wr (λx y=>x=g/\y=o\/x=b))) (λi _=>3-(intOf i).toNat)
 case atStart=>exact⟨0,cS _,rfl,⟨v,T,λ_=>rfl,cy _⟩,λj y=>by omega,CF.refl _ _⟩
 case round=>
  obtain⟨k,hk,rfl,m⟩:=hrel;by_cases J:k<3
  .obtain⟨t,d⟩:=N (v+8*k);obtain⟨S,i⟩:=N (n-8*k);obtain⟨r,h⟩:=N (Q-8*k);obtain⟨a,x,f,_⟩:=m.1;rw[f G,d,i,h]at x;clear f;have W:8<=S:=G;have X:S<=r:=G;have ab:r<=9223372036854775807:=G;have mW:(k:Int)<3:=G;have p:At wr (some ⟨R,t,none⟩) ((l.drop (8*k)).take 8):=by
    apply At.vB;intro j u f;have y:j<8:=fA;refine m.2.2.cell ?_ (λe=>?_)
    .rw[<-d,gi];refine V (8*k+j) u ?_;rw[<-f,List.map_take,List.getElem?_take_of_lt y,List.map_drop,List.getElem?_drop]
    omega
   have U:=I (Pp 0 ((l.drop (8*k)).take 8) 8 (some ⟨R,t,none⟩) r wr kA G p);have f:=B.cf m.2.2;have u:=A.cf m.2.2;obtain⟨ub,P⟩:=cA.1 (u.some k J);have Uo:=u.frozen k;have ae:=f.frozen o;have ad:b≠g:=λe=>D e.symm;have yw:=I d;have JC:=I i;have sQ:=I h;clear d i h p f u;go_wp2_with (go_at_call 125;refine U.mono ?_;rintro e w2 ⟨rfl,rfl⟩)
   go_roundw
   case rel=>
    refine⟨k+1,by omega,by go_num,⟨if r=8 then t else t+8,?_,?_,?_⟩,?_,?_⟩
    .grind [Hid.o,iA,World.cell?_setCell_same]
    .grind [Hid.o]
    .have f:=yw.o;split<;>omega
    .intro j y;by_cases f:j=k
     .subst f;rw[iA _ _ _ _ fA];exact World.cell?_setCell_same _ _ _ P
     .have u:=m.2.1 j G;rw[iA _ _ _ _ fA,iA _ _ _ _ fA];exact u
    grind [CF.setCell,Hid.o]
   case measure=>simp[intOf];omega
  .have f:k=3:=G;subst f;go_wp2;go_ret;exact⟨rfl,m⟩
