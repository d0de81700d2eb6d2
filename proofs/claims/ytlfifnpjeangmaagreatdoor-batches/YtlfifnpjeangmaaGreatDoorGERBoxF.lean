import Derived.Test.YtlfifnpjeangmaaGreatDoorGERBoxA
import Derived.Test.YtlfifnpjeangmaaGreatDoorGEBoxA
import Derived.Test.YtlfifnpjeangmaaGreatDoorGEBlk
namespace Go.Proofs.YtlfifnpjeangmaaGreatDoor
set_option maxHeartbeats 4000000
open Proofs.Tryz Go.RowKit
set_option maxRecDepth 100000
theorem ahB{p:Prop}(h:p:=by show w.heap.size≠w.heap.size+1;omega):p:=h
variable {zs:List UInt8}{w:World}
abbrev vC:Array Value:=#[.int .u8 0,.slice none 0 0]
theorem wQ{g:Nat}{x y:Value}(h:dB w g #[x,y]):(loadVar 117 ⟨g,0,none⟩).run prog w=.ok (.agg #[x,y]) w:=
 h.load 117 _ underlying117 rfl agP
theorem Bf(n)(a)(cap)(w)(h:n<2):
  Calls prog 49 #[.slice a n cap] w λe w'=>e=.returned (.tuple #[.agg vC,.slice none 0 0,.bool false])/\w.grownBy w' none:=by
 have b:(n:Int)<2:=agE
 go_enter func49,ntmps49
 go_wp2
 (try simp only[Exit.inBlock,Exit.then])
 refine bodyPost_ret (oV rfl _ _ _ w.heap.size rfl (.agg vC) (wQ ?_)) rfl ?_
 ·exact(dB.new w _ _).alloc _
 ·exact⟨rfl,aM (cx w _ none) _⟩
theorem TC(zs):2<=(Box.lead zs).2/\(Box.lead zs).2<=4/\(Box.lead zs).1<=65535:=by
 have a:=(zs.getD 1 0).toNat_lt;have c:=(zs.getD 2 0).toNat_lt;have b:=(zs.getD 3 0).toNat_lt;grind [Box.lead]
theorem getD_at{j:Nat}(h:j<zs.length):zs.getD j 0=zs[j]:=by grind
theorem Dp{b off:Nat}(h:At w (some ⟨b,off,none⟩) zs)(j)(a:j<zs.length):w.cell? (b,off+j)=some (.int .u8 ((zs.getD j 0).toNat:Int)):=by
 grind [At.cells]
theorem zf{g:Nat}{a b:Value}(h:dB w g #[a,b])(x y):dB ((w.setCell (g,0) x).setCell (g,1) y) g #[x,y]:=by
 simpa using(h.set 0 x).set 1 y
theorem TD{P:Program}(t e)(i)(ht:P.underlying t=some (.slice e))(hi:P.info? e=some i)(hs:i.size=1)(p)(n cap)(g:Hid (zs.length=n))(f:n<=cap)(l h:Nat)(x y)(a:x=(l:Int))(hy:y=(h:Int))(c:l<=h)(d:h<=n):∃q,(∀w,(Instr.sliceAt t (.slice (some p) n cap) (some (ι x)) (some (ι y)) none).run P w=.ok (.slice (some q) (h-l) (cap-l)) w)/\∀w,At w (some p) zs->At w (some q) ((zs.drop l).take (h-l)):=by
 subst a hy;obtain⟨q,b⟩:∃q,sl (some p) cap l=some q:=by
  unfold sl;split
  ·exact⟨_,rfl⟩
  ·exact⟨_,rfl⟩
 refine⟨q,λw=>?_,(by grind [RowKit.Hid.o,At.sub])⟩;rw[<-b];exact abB
abbrev TF(w:World):World:=(w.alloc (.cells vC 117)).alloc (.cells vC 117)
theorem aft{p:Prop}(h:p:=by
 go_wp2
 go_meet
 case rel=>exact⟨rfl,rfl,0,rfl⟩):p:=h
theorem Dq(zs)(n)(b off:Nat)(cap)(w)(hn:Hid (zs.length=n))(h2:2<=n)(hl:n<=140737488355328)(y:n<=cap)(au:cap<=9223372036854775807)(hc:At w (some ⟨b,off,none⟩) zs):
  Calls prog 49 #[.slice (some (b,off)) n cap] w λe w'=>
   (∀tag i r,Box.cut zs=some (tag,i,r)->∃B c1 a2 c2,e=.returned (.tuple #[.agg #[.int .u8 tag.toNat,.slice B i.length c1],.slice a2 r.length c2,.bool true])/\(∀z,At z (some ⟨b,off,none⟩) zs->At z B i)/\i.length<=c1/\c1<=cap/\(∀z,At z (some ⟨b,off,none⟩) zs->At z a2 r)/\r.length<=c2/\c2<=cap/\i.length<=65535/\B.isSome=true)/\
   (Box.cut zs=none->∃(x:UInt8) (a:Option Addr) (i:List UInt8) (c:Nat),e=.returned (.tuple #[.agg #[.int .u8 x.toNat,.slice a i.length c],.slice none 0 0,.bool false])/\(∀z,At z (some ⟨b,off,none⟩) zs->At z a i)/\i.length<=c/\c<=cap/\i.length<=65535/\(a=none->c=0))/\w.grownBy w' none:=by
 obtain⟨S,W,G⟩:=TC zs
 have HL:Hid (Box.lead zs=if (zs.getD 1 0).toNat=129/\2<n then((zs.getD 2 0).toNat,3)
  else if (zs.getD 1 0).toNat=130/\3<n then((zs.getD 2 0).toNat*256+(zs.getD 3 0).toNat,4) else((zs.getD 1 0).toNat,2)):=by
  show _=_
  rw[Box.lead,hn.o]
 have A:Hid (Box.cut zs=Box.again zs):=(Box.Ho zs).symm
 unfold Box.again at A
 rw[hn.o]at A
 obtain⟨k,d,HK⟩:∃k d,Hid (Box.lead zs=(k,d)):=⟨_,_,rfl⟩
 rw[HK.o]at A HL S W G
 simp only at A S W G
 have ar:¬ (n:Int)<2:=agE
 have aq:(1:Int)<(n:Int):=agE
 have aw:(0:Int)<(n:Int):=agE
 have G0:w.grownBy (TF w) none:=aM (cx w _ none) _
 have L:=hc.below G0
 have F:=Dp L 0 ahf
 have al:=Dp L 1 ahf
 have J:2<n->(TF w).cell? (b,off+2)=some (.int .u8 ((zs.getD 2 0).toNat:Int)):=(by grind [Dp,RowKit.Hid.o])
 have R:3<n->(TF w).cell? (b,off+3)=some (.int .u8 ((zs.getD 3 0).toNat:Int)):=(by grind [Dp,RowKit.Hid.o])
 rw[ft]at F
 have t1:=(zs.getD 1 0).toNat_lt
 have t2:=(zs.getD 2 0).toNat_lt
 have t3:=(zs.getD 3 0).toNat_lt
 generalize ah:(zs.getD 1 0).toNat=q at *
 generalize af:(zs.getD 2 0).toNat=z2 at *
 generalize ag:(zs.getD 3 0).toNat=z3 at *
 clear ah af ag
 have V:=hc
 clear hc L
 go_enter func49,ntmps49
 go_upto_region 6 with fail
 go_cut [23] (λc wx=>c=.bool (decide (q=129/\2<n))/\wx=TF w)
 case first=>
  by_cases Q:q=129
  ·have hb:((q:Int)==129)=true:=aht;by_cases H:2<n
   ·have Y:(2:Int)<(n:Int):=agE;have M:decide (q=129/\2<n)=true:=dk ⟨Q,H⟩;clear Q;go_wp2;go_meet;grind
   ·have Y:¬ (2:Int)<(n:Int):=agE;have M:decide (q=129/\2<n)=false:=cX (λh=>H h.2);clear Q;go_wp2;go_meet;grind
  ·have hb:((q:Int)==129)=false:=ahd;have M:decide (q=129/\2<n)=false:=cX (λh=>Q h.1);clear Q;go_wp2;go_meet;grind
 case rest=>
  obtain⟨rfl,rfl⟩:=hcut;go_upto_if 23 with fail
  go_cut [6,7] (λs6 s7 wx=>s6 = ι k/\s7 = ι d/\∃m,wx=(TF w).drewN m)
  case first=>
   by_cases C:q=129/\2<n
   ·have M:=dk C;have l:=HL.o;rw[if_pos C]at l;obtain⟨rfl,rfl⟩:=Prod.mk.inj l;have ak:=J C.2;have H:(2:Int)<(n:Int):=agE;rw[M];clear l C;exact aft
   ·have M:=cX C;have l:=HL.o;rw[if_neg C]at l;rw[M];by_cases T:q=130
    ·have hb:((q:Int)==130)=true:=aht;by_cases VY:3<n
     ·rw[if_pos ⟨T,VY⟩]at l;obtain⟨rfl,rfl⟩:=Prod.mk.inj l;have ak:=J agE;have av:=R VY;have ae:(3:Int)<(n:Int):=agE;have Y:(2:Int)<(n:Int):=agE;clear l C T;go_wp2_with fail;go_quiet (fail)
      go_wp2;go_meet;grind
     ·rw[if_neg (λh=>VY h.2)]at l;obtain⟨rfl,rfl⟩:=Prod.mk.inj l;have ae:¬ (3:Int)<(n:Int):=agE;clear l C T;exact aft
    ·have hb:((q:Int)==130)=false:=ahd;rw[if_neg (λh=>T h.1)]at l;obtain⟨rfl,rfl⟩:=Prod.mk.inj l;clear l C T;exact aft
  case rest=>
   obtain⟨rfl,rfl,m,rfl⟩:=hcut;clear HL al J R t1 t2 t3;by_cases U:d+k<=n
   ·have an:¬ (n:Int)<(d:Int)+(k:Int):=agE;obtain⟨i0,hi,_,I,_⟩:=info_parts Tryz.info5;obtain⟨B,e1,Z⟩:=TD 37 5 i0 underlying37 hi I ⟨b,off,none⟩ n cap hn y d (d+k) (d:Int) ((d:Int)+(k:Int)) rfl agE agE U;obtain⟨a2,e2,ni⟩:=yT 37 5 i0 underlying37 hi I (some ⟨b,off,none⟩) n cap hn y (d+k) ((d:Int)+(k:Int)) agE U;obtain⟨a3,e3,mK⟩:=kY 37 5 i0 underlying37 hi I (some ⟨b,off,none⟩) n cap hn y (d+k) ((d:Int)+(k:Int)) agE U;rw[show d+k-d=k from by omega]at e1 Z;obtain⟨tag,HT⟩:∃t,Hid (zs.getD 0 0=t):=⟨_,rfl⟩
    rw[HT.o]at A F;obtain⟨ins,HI⟩:∃t,Hid ((zs.drop d).take k=t):=⟨_,rfl⟩
    obtain⟨all,HW⟩:∃t,Hid (zs.take (d+k)=t):=⟨_,rfl⟩
    have f:Hid (ins.length=k):=agR;have ai:Hid (all.length=d+k):=agR;rw[HI.o]at Z A;rw[HW.o]at ni A;have aj:Hid ((Box.box tag ins).length<=140737488355328):=(by show _<=_;rw[Box.kZ,f.o];split<;>(try split)<;>omega);have ab:((TF w).drewN m).cell? (b,off)=some (.int .u8 tag.toNat):=F;go_wp2_with fail;have K:=zf ((dB.new (w.alloc (.cells vC 117)) vC 117).drewN m) (.int .u8 tag.toNat) (.slice (some B) k (cap-d));rw[cF]at K;have O:=((((dB.new w vC 117).alloc (.cells vC 117)).drewN m).other ⟨w.heap.size+1,0,none⟩ (.int .u8 tag.toNat) ahB).other ⟨w.heap.size+1,1,none⟩ (.slice (some B) k (cap-d)) ahB;have G1:=az (j:=1) (u:=.slice (some B) k (cap-d)) (az (g:=w.heap.size+1) (j:=0) (u:=.int .u8 tag.toNat) (aR G0 m) agE) (show w.heap.size<=w.heap.size+1 by omega);refine(tK tag ins k (some B) (cap-d) _ f agE (hid (λh=>by cases h)) (Z _ (V.below G1))).mono ?_;rintro e w1 ⟨o,rfl,s,E⟩;obtain⟨a4,c4,rfl,_,_,_,F5⟩:=iY s;have ad:=K.grown E agI;have N:=O.grown E agI;have G2:=aa G1 E;have P:=ni _ (V.below G2);have Lh:=Ah (Box.box tag ins) all _ _ a4 a2 c4 cap w1 (hid rfl) ai aj.o F5 P;clear s E K O G1 F ab;go_wp2_with fail;refine Lh.mono ?_;rintro e w2 ⟨rfl,D⟩;have X:=ad.grown D agI;have p:=N.grown D agI;have G3:=aa G2 D;clear Lh D ad N G2 P;have p0:=X.cell 0;have p1:=X.cell 1;have r0:=p.cell 0;have r1:=p.cell 1;have r2:=p.frozen 0;have r3:=p.frozen 1;simp only[cH,cG,cI]at p0 p1 r0 r1;by_cases hq:Box.box tag ins=all
    ·have v:(Box.box tag ins==all)=true:=(by rw[db];exact hq);rw[v];have HY:Hid (Box.cut zs=some (tag,ins,zs.drop (d+k))):=(by show _=_;rw[A.o,if_pos ⟨h2,U,hq⟩]);clear hq v;go_wp2_with fail;go_region;go_wp2;(try simp only[Exit.inBlock,Exit.then]);refine bodyPost_ret (oV rfl _ _ _ w.heap.size rfl _ (wQ (zf p _ _).drew)) rfl ?_;refine⟨λao i r h=>?_,(λh=>by rw[HY.o]at h;simp at h),(by grind [az,bg])⟩;rw[HY.o]at h;simp only[fp,Prod.mk.injEq]at h;obtain⟨rfl,rfl,rfl⟩:=h;refine⟨some B,cap-d,a3,cap-(d+k),?_,Z,by rw[f.o];omega,by omega,mK,by grind [RowKit.Hid.o],by omega,by rw[f.o];exact G,rfl⟩;rw[f.o,dr,hn.o];rfl
    ·have v:(Box.box tag ins==all)=false:=agM;rw[v];have HY:Hid (Box.cut zs=none):=(by show _=_;rw[A.o,if_neg (λh=>hq h.2.2)]);clear hq v;go_wp2;(try simp only[Exit.inBlock,Exit.then]);refine bodyPost_ret (oV rfl _ _ _ w.heap.size rfl _ (wQ (zf p _ _))) rfl ?_;exact⟨λtag i r h=>by rw[HY.o]at h;simp at h,λ_=>⟨tag,some B,ins,cap-d,by rw[f.o];rfl,Z,by rw[f.o];omega,by omega,by rw[f.o];exact G,λh=>by cases h⟩,(by grind [az])⟩
   ·have an:(n:Int)<(d:Int)+(k:Int):=agE;have HN:Hid (Box.cut zs=none):=(by show _=_;rw[A.o,if_neg (λh=>U h.2.1)]);go_wp2;(try simp only[Exit.inBlock,Exit.then]);refine bodyPost_ret (oV rfl _ _ _ w.heap.size rfl (.agg vC) (wQ ?_)) rfl ?_
    ·grind [dB.drewN,dB.alloc,dB.new,zf]
    ·exact⟨λtag i r h=>by rw[HN.o]at h;simp at h,λ_=>⟨0,none,[],0,rfl,λz _=>At.nil z none,cy _,cS _,cS _,λ_=>rfl⟩,(by grind [aR,az])⟩
theorem TG(zs)(n)(b off:Nat)(cap)(w)(hn:Hid (zs.length=n))(p:2<=n)(o:n<=140737488355328)(d:n<=cap)(h:cap<=9223372036854775807)(q:At w (some ⟨b,off,none⟩) zs):
  Calls prog 49 #[.slice (some (b,off)) n cap] w λe w'=>
   (∀tag i r,Box.cut zs=some (tag,i,r)->∃l g m j,e=.returned (.tuple #[.agg #[.int .u8 tag.toNat,.slice l i.length g],.slice m r.length j,.bool true])/\(∀f,At f (some ⟨b,off,none⟩) zs->At f l i)/\i.length<=g/\g<=cap/\(∀f,At f (some ⟨b,off,none⟩) zs->At f m r)/\r.length<=j/\j<=cap)/\
   (Box.cut zs=none->∃(x:Int) (a:Option Addr) (k c:Nat),e=.returned (.tuple #[.agg #[.int .u8 x,.slice a k c],.slice none 0 0,.bool false]))/\w.grownBy w' none:=by
 refine(Dq zs n b off cap w hn p o d h q).mono ?_
 grind
end Go.Proofs.YtlfifnpjeangmaaGreatDoor
