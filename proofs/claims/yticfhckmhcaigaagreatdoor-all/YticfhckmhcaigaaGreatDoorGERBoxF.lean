import Derived.Test.YticfhckmhcaigaaGreatDoorGERBoxA
import Derived.Test.YticfhckmhcaigaaGreatDoorGEBoxA
import Derived.Test.YticfhckmhcaigaaGreatDoorGEBlk
namespace Go.Proofs.YticfhckmhcaigaaGreatDoor
set_option maxHeartbeats 4000000
open Proofs.Tryz Go.RowKit
set_option maxRecDepth 100000
theorem vu{p:Prop}(h:p:=by show w.1.size≠w.1.size+1;omega):p:=h
variable {zs:E}{w:World}
abbrev vY:Array Value:=#[.int .u8 0,σ]
theorem xW{g:Nat}{x y:Value}(h:dm w g #[x,y]):(loadVar 117 ⟨g,0,none⟩).run prog w=.ok (.agg #[x,y]) w:=
 h.load 117 _ underlying117 rfl f'
theorem wK(n)(b)(a)(w)(h:n<2):Calls prog 49 #[.slice b n a] w λe d=>e=.returned (.tuple #[.agg vY,σ,.bool false])/\w.grownBy d none:=by
 have d:(n:Int)<2:=G
 go_in
 go_wp2
 (try simp only[Exit.inBlock,Exit.then])
 refine bodyPost_ret (pW rfl _ _ _ w.1.size rfl (.agg vY) (xW ?_)) rfl ?_
 .exact(dm.new w _ _).alloc _
 .exact⟨rfl,aM (cy w _ none) _⟩
theorem V3(zs):2<=(Box.lead zs).2/\(Box.lead zs).2<=4/\(Box.lead zs).1<=65535:=by
 have a:=(zs.getD 1 0).toNat_lt;have b:=(zs.getD 2 0).toNat_lt;have d:=(zs.getD 3 0).toNat_lt;grind [Box.lead]
theorem getD_at{j:Nat}(h:j<zs.length):zs.getD j 0=zs[j]:=by grind
theorem EJ{b a:Nat}(h:At w (some ⟨b,a,none⟩) zs)(j)(d:j<zs.length):w.cell? (F b (a+j))=some (.int .u8 ((zs.getD j 0).toNat:Int)):=by
 grind [At.cells]
theorem Ae{g:Nat}{a b:Value}(h:dm w g #[a,b])(x y):dm ((w.setCell (F g 0) x).setCell (F g 1) y) g #[x,y]:=by
 simpa using(h.set 0 x).set 1 y
theorem V4{P:Program}(t e)(i)(ht:P.underlying t=some (.slice e))(hi:P.info? e=some i)(hs:i.size=1)(p)(n cap)(k:Hid (zs.length=n))(f:n<=cap)(l h:Nat)(x y)(b:x=(l:Int))(d:y=(h:Int))(j:l<=h)(g:h<=n):∃q,(∀w,(Instr.sliceAt t (.slice (some p) n cap) (some (Y x)) (some (Y y)) none).run P w=.ok (.slice (some q) (h-l) (cap-l)) w)/\∀w,At w (some p) zs->At w (some q) ((zs.drop l).take (h-l)):=by
 subst b d;obtain⟨q,a⟩:∃q,sl (some p) cap l=some q:=by
  unfold sl;split
  .exact⟨_,rfl⟩
  .exact⟨_,rfl⟩
 refine⟨q,λw=>?_,(by grind [Hid.o,At.sub])⟩;rw[<-a];exact LO
abbrev V7(w:World):World:=(w.alloc (.cells vY 117)).alloc (.cells vY 117)
theorem AN{p:Prop}(h:p:=by
 go_wp2
 go_meet
 case rel=>exact⟨rfl,rfl,0,rfl⟩):p:=h
theorem EK(zs)(n)(b l)(d)(w)(hn:Hid (zs.length=n))(h2:2<=n)(hl:n<=140737488355328)(y:n<=d)(ai:d<=9223372036854775807)(m:At w (some ⟨b,l,none⟩) zs):Calls prog 49 #[ς b l n d] w λe k=>
   (∀f i r,Box.cut zs=some (f,i,r)->∃C a a2 h,e=.returned (.tuple #[.agg #[.int .u8 (f.toNat:Int),.slice C i.length a],.slice a2 r.length h,.bool true])/\(∀D,At D (some ⟨b,l,none⟩) zs->At D C i)/\i.length<=a/\a<=d/\(∀D,At D (some ⟨b,l,none⟩) zs->At D a2 r)/\r.length<=h/\h<=d/\i.length<=65535/\C.isSome=true)/\
   (Box.cut zs=none->∃(x:UInt8) (a:Option Addr) (i:E) (c:Nat),e=.returned (.tuple #[.agg #[.int .u8 (x.toNat:Int),.slice a i.length c],σ,.bool false])/\(∀D,At D (some ⟨b,l,none⟩) zs->At D a i)/\i.length<=c/\c<=d/\i.length<=65535/\(a=none->c=0))/\w.grownBy k none:=by
 obtain⟨U,V,J⟩:=V3 zs
 have HL:Hid (Box.lead zs=if (zs.getD 1 0).toNat=129/\2<n then((zs.getD 2 0).toNat,3)
  else if (zs.getD 1 0).toNat=130/\3<n then((zs.getD 2 0).toNat*256+(zs.getD 3 0).toNat,4) else((zs.getD 1 0).toNat,2)):=by
  show _=_
  rw[Box.lead,hn]
 have B:Hid (Box.cut zs=Box.again zs):=(Box.Jz zs).symm
 unfold Box.again at B
 rw[hn]at B
 obtain⟨k,a,HK⟩:∃k a,Hid (Box.lead zs=(k,a)):=⟨_,_,rfl⟩
 rw[HK]at B HL U V J
 simp only at B U V J
 have ah:¬ (n:Int)<2:=G
 have ak:(1:Int)<(n:Int):=G
 have aj:(0:Int)<(n:Int):=G
 have G0:w.grownBy (V7 w) none:=aM (cy w _ none) _
 have h:=m.below G0
 have K:=EJ h 0 qE
 have af:=EJ h 1 qE
 have M:2<n->(V7 w).cell? (F b (l+2))=some (.int .u8 ((zs.getD 2 0).toNat:Int)):=(by grind [EJ,Hid.o])
 have X:3<n->(V7 w).cell? (F b (l+3))=some (.int .u8 ((zs.getD 3 0).toNat:Int)):=(by grind [EJ,Hid.o])
 rw[fN]at K
 have t1:=(zs.getD 1 0).toNat_lt
 have t2:=(zs.getD 2 0).toNat_lt
 have t3:=(zs.getD 3 0).toNat_lt
 generalize p:(zs.getD 1 0).toNat=A at *
 generalize q:(zs.getD 2 0).toNat=z2 at *
 generalize t:(zs.getD 3 0).toNat=z3 at *
 clear p q t
 have ab:=m
 clear m h
 go_in
 go_upto_region 6 with fail
 go_cut [23] (λc p=>c=.bool (decide (A=129/\2<n))/\p=V7 w)
 case first=>
  by_cases m:A=129
  .have Q:((A:Int)==129)=true:=oU;by_cases t:2<n
   .have x:(2:Int)<(n:Int):=G;have v:decide (A=129/\2<n)=true:=ee ⟨m,t⟩;clear m;go_wp2;go_meet;grind
   .have x:¬ (2:Int)<(n:Int):=G;have v:decide (A=129/\2<n)=false:=cY (λh=>t h.2);clear m;go_wp2;go_meet;grind
  .have Q:((A:Int)==129)=false:=mC;have v:decide (A=129/\2<n)=false:=cY (λh=>m h.1);clear m;go_wp2;go_meet;grind
 case rest=>
  obtain⟨rfl,rfl⟩:=hcut;go_upto_if 23 with fail
  go_cut [6,7] (λq L p=>q = Y k/\L = Y a/\∃m,p=(V7 w).drewN m)
  case first=>
   by_cases q:A=129/\2<n
   .have v:=ee q;have p:=HL.o;rw[dQ q]at p;obtain⟨rfl,rfl⟩:=Prod.mk.inj p;have R:=M q.2;have t:(2:Int)<(n:Int):=G;rw[v];clear p q;exact AN
   .have v:=cY q;have p:=HL.o;rw[b' q]at p;rw[v];by_cases t:A=130
    .have Q:((A:Int)==130)=true:=oU;by_cases L:3<n
     .rw[dQ ⟨t,L⟩]at p;obtain⟨rfl,rfl⟩:=Prod.mk.inj p;have R:=M G;have S:=X L;have P:(3:Int)<(n:Int):=G;have x:(2:Int)<(n:Int):=G;clear p q t;go_wp2_with fail;go_quiet (fail)
      go_wp2;go_meet;grind
     .rw[b' (λh=>L h.2)]at p;obtain⟨rfl,rfl⟩:=Prod.mk.inj p;have P:¬ (3:Int)<(n:Int):=G;clear p q t;exact AN
    .have Q:((A:Int)==130)=false:=mC;rw[b' (λh=>t h.1)]at p;obtain⟨rfl,rfl⟩:=Prod.mk.inj p;clear p q t;exact AN
  case rest=>
   obtain⟨rfl,rfl,m,rfl⟩:=hcut;clear HL af M X t1 t2 t3;by_cases hk:a+k<=n
   .have ag:¬ (n:Int)<(a:Int)+(k:Int):=G;obtain⟨i0,hi,_,P,_⟩:=info_parts Tryz.info5;obtain⟨C,e1,je⟩:=V4 37 5 i0 underlying37 hi P ⟨b,l,none⟩ n d hn y a (a+k) (a:Int) ((a:Int)+(k:Int)) rfl G G hk;obtain⟨a2,e2,mH⟩:=zZ 37 5 i0 underlying37 hi P (some ⟨b,l,none⟩) n d hn y (a+k) ((a:Int)+(k:Int)) G hk;obtain⟨a3,e3,kS⟩:=lH 37 5 i0 underlying37 hi P (some ⟨b,l,none⟩) n d hn y (a+k) ((a:Int)+(k:Int)) G hk;rw[show a+k-a=k from by omega]at e1 je;obtain⟨f,HT⟩:∃t,Hid (zs.getD 0 0=t):=⟨_,rfl⟩
    rw[HT]at B K;obtain⟨p,HI⟩:∃t,Hid ((zs.drop a).take k=t):=⟨_,rfl⟩
    obtain⟨all,HW⟩:∃t,Hid (zs.take (a+k)=t):=⟨_,rfl⟩
    have q:Hid (p.length=k):=kO;have ae:Hid (all.length=a+k):=kO;rw[HI]at je B;rw[HW]at mH B;have ad:Hid ((Box.box f p).length<=140737488355328):=(by show _<=_;rw[Box.lJ,q];split<;>(try split)<;>omega);have W:((V7 w).drewN m).c b l=some (.int .u8 (f.toNat:Int)):=K;go_wp2_with fail;have L:=Ae ((dm.new (w.alloc (.cells vY 117)) vY 117).drewN m) (.int .u8 (f.toNat:Int)) (.slice (some C) k (d-a));rw[cG]at L;have S:=((((dm.new w vY 117).alloc (.cells vY 117)).drewN m).other ⟨w.1.size+1,0,none⟩ (.int .u8 (f.toNat:Int)) vu).other ⟨w.1.size+1,1,none⟩ (.slice (some C) k (d-a)) vu;have G1:=aB (j:=1) (u:=.slice (some C) k (d-a)) (aB (g:=w.1.size+1) (j:=0) (u:=.int .u8 (f.toNat:Int)) (aN G0 m) G) (show w.1.size<=w.1.size+1 by omega);refine(uG f p k (some C) (d-a) _ q G (I (λh=>by cases h)) (je _ (ab.below G1))).mono ?_;rintro e w1 ⟨o,rfl,v,x⟩;obtain⟨a4,c4,rfl,_,_,_,Bz⟩:=ig v;have R:=L.grown x Z;have T:=S.grown x Z;have G2:=aa G1 x;have Q:=mH _ (ab.below G2);have NT:=xS (Box.box f p) all _ _ a4 a2 c4 d w1 (I rfl) ae ad Bz Q;clear v x L S G1 K W;go_wp2_with fail;refine NT.mono ?_;rintro e w2 ⟨rfl,x⟩;have L:=R.grown x Z;have v:=T.grown x Z;have G3:=aa G2 x;clear NT x R T G2 Q;have T:=L.cell 0;have W:=L.cell 1;have r0:=v.cell 0;have r1:=v.cell 1;have r2:=v.frozen 0;have r3:=v.frozen 1;simp only[cI,cH,cL]at T W r0 r1;by_cases Q:Box.box f p=all
    .have x:(Box.box f p==all)=true:=(by rw[db];exact Q);rw[x];have R:Hid (Box.cut zs=some (f,p,zs.drop (a+k))):=(by show _=_;rw[B,dQ ⟨h2,hk,Q⟩]);clear Q x;go_wp2_with fail;go_region;go_wp2;(try simp only[Exit.inBlock,Exit.then]);refine bodyPost_ret (pW rfl _ _ _ w.1.size rfl _ (xW (Ae v _ _).drew)) rfl ?_;refine⟨λS i r h=>?_,(λh=>by rw[R]at h;simp at h),(by grind [aB,bg])⟩;rw[R]at h;simp only[ey,Prod.mk.injEq]at h;obtain⟨rfl,rfl,rfl⟩:=h;refine⟨some C,d-a,a3,d-(a+k),?_,je,by rw[q];omega,by omega,kS,by grind [Hid.o],by omega,by rw[q.o];exact J,rfl⟩;rw[q,ef,hn];rfl
    .have x:(Box.box f p==all)=false:=dT;rw[x];have R:Hid (Box.cut zs=none):=(by show _=_;rw[B,b' (λh=>Q h.2.2)]);clear Q x;go_wp2;(try simp only[Exit.inBlock,Exit.then]);refine bodyPost_ret (pW rfl _ _ _ w.1.size rfl _ (xW (Ae v _ _))) rfl ?_;exact⟨λf i r h=>by rw[R]at h;simp at h,λ_=>⟨f,some C,p,d-a,by rw[q.o];rfl,je,by rw[q];omega,by omega,by rw[q.o];exact J,λh=>by cases h⟩,(by grind [aB])⟩
   .have ag:(n:Int)<(a:Int)+(k:Int):=G;have e:Hid (Box.cut zs=none):=(by show _=_;rw[B,b' (λh=>hk h.2.1)]);go_wp2;(try simp only[Exit.inBlock,Exit.then]);refine bodyPost_ret (pW rfl _ _ _ w.1.size rfl (.agg vY) (xW ?_)) rfl ?_
    .grind [dm.drewN,dm.alloc,dm.new,Ae]
    .exact⟨λf i r h=>by rw[e]at h;simp at h,λ_=>⟨0,none,[],0,rfl,λD _=>At.nil D none,cA _,cS _,cS _,λ_=>rfl⟩,(by grind [aN,aB])⟩
theorem JF(zs)(n)(b f)(d)(w)(u:Hid (zs.length=n))(p:2<=n)(t:n<=140737488355328)(g:n<=d)(l:d<=9223372036854775807)(q:At w (some ⟨b,f,none⟩) zs):Calls prog 49 #[ς b f n d] w λe v=>
   (∀a i r,Box.cut zs=some (a,i,r)->∃m j o k,e=.returned (.tuple #[.agg #[.int .u8 (a.toNat:Int),.slice m i.length j],.slice o r.length k,.bool true])/\(∀h,At h (some ⟨b,f,none⟩) zs->At h m i)/\i.length<=j/\j<=d/\(∀h,At h (some ⟨b,f,none⟩) zs->At h o r)/\r.length<=k/\k<=d)/\
   (Box.cut zs=none->∃(x:Int) (a:Option Addr) (k c:Nat),e=.returned (.tuple #[.agg #[.int .u8 x,.slice a k c],σ,.bool false]))/\w.grownBy v none:=by
 refine(EK zs n b f d w u p t g l q).mono ?_
 grind
