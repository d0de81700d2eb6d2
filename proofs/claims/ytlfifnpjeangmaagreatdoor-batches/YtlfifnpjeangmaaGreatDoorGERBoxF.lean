import Derived.Test.YtlfifnpjeangmaaGreatDoorGERBoxA
import Derived.Test.YtlfifnpjeangmaaGreatDoorGEBoxA
import Derived.Test.YtlfifnpjeangmaaGreatDoorGEBlk
namespace Go.Proofs.YtlfifnpjeangmaaGreatDoor
set_option maxHeartbeats 4000000
open Proofs.Tryz Go.RowKit
set_option maxRecDepth 100000
theorem vl{p:Prop}(h:p:=by show w.1.size≠w.1.size+1;omega):p:=h
variable {w:World}
abbrev vG:Array Value:=#[.int .u8 0,σ]
theorem wT{g:Nat}{x y:Value}(h:dz w g #[x,y]):(loadVar 117 ⟨g,0,none⟩).run prog w=.ok (.agg #[x,y]) w:=
 h.load 117 _ underlying117 rfl gJ
theorem Bj(n)(b)(a)(w)(h:n<2):Calls prog 49 #[.slice b n a] w λe d=>e=.returned (.tuple #[.agg vG,σ,.bool false])/\w.grownBy d none:=by
 have d:(n:Int)<2:=G
 go_in
 go_wp2
 (try simp only[Exit.inBlock,Exit.then])
 refine bodyPost_ret (oZ rfl _ _ _ w.1.size rfl (.agg vG) (wT ?_)) rfl ?_
 .exact(dz.new w _ _).alloc _
 .exact⟨rfl,aM (cx w _ none) _⟩
theorem TQ(a):2<=(Box.lead a).2/\(Box.lead a).2<=4/\(Box.lead a).1<=65535:=by
 have b:=(a.getD 1 0).toNat_lt;have d:=(a.getD 2 0).toNat_lt;have e:=(a.getD 3 0).toNat_lt;grind [Box.lead]
theorem Dr{b a:Nat}{d:E}(h:At w (some ⟨b,a,none⟩) d)(j)(e:j<d.length):w.cell? (F b (a+j))=some (.int .u8 ((d.getD j 0).toNat:Int)):=by
 grind [At.cells]
theorem zh{g:Nat}{a b:Value}(h:dz w g #[a,b])(x y):dz ((w.setCell (F g 0) x).setCell (F g 1) y) g #[x,y]:=by
 simpa using(h.set 0 x).set 1 y
theorem TR{P:Program}(t e)(i)(ht:P.underlying t=some (.slice e))(hi:P.info? e=some i)(hs:i.size=1)(p)(n cap){a:E}(m:Hid (a.length=n))(g:n<=cap)(l h:Nat)(x y)(d:x=(l:Int))(f:y=(h:Int))(k:l<=h)(j:h<=n):∃q,(∀w,(Instr.sliceAt t (.slice (some p) n cap) (some (Y x)) (some (Y y)) none).run P w=.ok (.slice (some q) (h-l) (cap-l)) w)/\∀w,At w (some p) a->At w (some q) ((a.drop l).take (h-l)):=by
 subst d f;obtain⟨q,b⟩:∃q,sl (some p) cap l=some q:=by
  unfold sl;split
  .exact⟨_,rfl⟩
  .exact⟨_,rfl⟩
 refine⟨q,λw=>?_,(by grind [Hid.o,At.sub])⟩;rw[<-b];exact Kd
abbrev TS(w:World):World:=(w.alloc (.cells vG 117)).alloc (.cells vG 117)
theorem z'{p:Prop}(h:p:=by
 go_wp2
 go_meet
 case rel=>exact⟨rfl,rfl,0,rfl⟩):p:=h
theorem Dt(l)(n)(b p)(d)(w)(hn:Hid (l.length=n))(h2:2<=n)(hl:n<=140737488355328)(y:n<=d)(aj:d<=9223372036854775807)(m:At w (some ⟨b,p,none⟩) l):Calls prog 49 #[ς b p n d] w λe k=>
   (∀f i r,Box.cut l=some (f,i,r)->∃D a a2 h,e=.returned (.tuple #[.agg #[.int .u8 (f.toNat:Int),.slice D i.length a],.slice a2 r.length h,.bool true])/\(∀J,At J (some ⟨b,p,none⟩) l->At J D i)/\i.length<=a/\a<=d/\(∀J,At J (some ⟨b,p,none⟩) l->At J a2 r)/\r.length<=h/\h<=d/\i.length<=65535/\D.isSome=true)/\
   (Box.cut l=none->∃(x:UInt8) (a:Option Addr) (i:E) (c:Nat),e=.returned (.tuple #[.agg #[.int .u8 (x.toNat:Int),.slice a i.length c],σ,.bool false])/\(∀J,At J (some ⟨b,p,none⟩) l->At J a i)/\i.length<=c/\c<=d/\i.length<=65535/\(a=none->c=0))/\w.grownBy k none:=by
 obtain⟨V,W,K⟩:=TQ l
 have HL:Hid (Box.lead l=if (l.getD 1 0).toNat=129/\2<n then((l.getD 2 0).toNat,3)
  else if (l.getD 1 0).toNat=130/\3<n then((l.getD 2 0).toNat*256+(l.getD 3 0).toNat,4) else((l.getD 1 0).toNat,2)):=by
  show _=_
  rw[Box.lead,hn]
 have C:Hid (Box.cut l=Box.again l):=(Box.Ht l).symm
 unfold Box.again at C
 rw[hn]at C
 obtain⟨k,a,HK⟩:∃k a,Hid (Box.lead l=(k,a)):=⟨_,_,rfl⟩
 rw[HK]at C HL V W K
 simp only at C V W K
 have ai:¬ (n:Int)<2:=G
 have al:(1:Int)<(n:Int):=G
 have ak:(0:Int)<(n:Int):=G
 have G0:w.grownBy (TS w) none:=aM (cx w _ none) _
 have h:=m.below G0
 have L:=Dr h 0 ri
 have ag:=Dr h 1 ri
 have P:2<n->(TS w).cell? (F b (p+2))=some (.int .u8 ((l.getD 2 0).toNat:Int)):=(by grind [Dr,Hid.o])
 have ab:3<n->(TS w).cell? (F b (p+3))=some (.int .u8 ((l.getD 3 0).toNat:Int)):=(by grind [Dr,Hid.o])
 rw[ft]at L
 have t1:=(l.getD 1 0).toNat_lt
 have t2:=(l.getD 2 0).toNat_lt
 have t3:=(l.getD 3 0).toNat_lt
 generalize q:(l.getD 1 0).toNat=B at *
 generalize t:(l.getD 2 0).toNat=z2 at *
 generalize v:(l.getD 3 0).toNat=z3 at *
 clear q t v
 have ad:=m
 clear m h
 go_in
 go_upto_region 6 with fail
 go_cut [23] (λc q=>c=.bool (decide (B=129/\2<n))/\q=TS w)
 case first=>
  by_cases m:B=129
  .have R:((B:Int)==129)=true:=pS;by_cases v:2<n
   .have A:(2:Int)<(n:Int):=G;have x:decide (B=129/\2<n)=true:=dk ⟨m,v⟩;clear m;go_wp2;go_meet;grind
   .have A:¬ (2:Int)<(n:Int):=G;have x:decide (B=129/\2<n)=false:=cX (λh=>v h.2);clear m;go_wp2;go_meet;grind
  .have R:((B:Int)==129)=false:=mN;have x:decide (B=129/\2<n)=false:=cX (λh=>m h.1);clear m;go_wp2;go_meet;grind
 case rest=>
  obtain⟨rfl,rfl⟩:=hcut;go_upto_if 23 with fail
  go_cut [6,7] (λt M q=>t = Y k/\M = Y a/\∃m,q=(TS w).drewN m)
  case first=>
   by_cases t:B=129/\2<n
   .have x:=dk t;have q:=HL.o;rw[dT t]at q;obtain⟨rfl,rfl⟩:=Prod.mk.inj q;have S:=P t.2;have v:(2:Int)<(n:Int):=G;rw[x];clear q t;exact z'
   .have x:=cX t;have q:=HL.o;rw[cZ t]at q;rw[x];by_cases v:B=130
    .have R:((B:Int)==130)=true:=pS;by_cases M:3<n
     .rw[dT ⟨v,M⟩]at q;obtain⟨rfl,rfl⟩:=Prod.mk.inj q;have S:=P G;have T:=ab M;have Q:(3:Int)<(n:Int):=G;have A:(2:Int)<(n:Int):=G;clear q t v;go_wp2_with fail;go_quiet (fail)
      go_wp2;go_meet;grind
     .rw[cZ (λh=>M h.2)]at q;obtain⟨rfl,rfl⟩:=Prod.mk.inj q;have Q:¬ (3:Int)<(n:Int):=G;clear q t v;exact z'
    .have R:((B:Int)==130)=false:=mN;rw[cZ (λh=>v h.1)]at q;obtain⟨rfl,rfl⟩:=Prod.mk.inj q;clear q t v;exact z'
  case rest=>
   obtain⟨rfl,rfl,m,rfl⟩:=hcut;clear HL ag P ab t1 t2 t3;by_cases hk:a+k<=n
   .have ah:¬ (n:Int)<(a:Int)+(k:Int):=G;obtain⟨i0,hi,_,Q,_⟩:=info_parts Tryz.info5;obtain⟨D,e1,jm⟩:=TR 37 5 i0 underlying37 hi Q ⟨b,p,none⟩ n d hn y a (a+k) (a:Int) ((a:Int)+(k:Int)) rfl G G hk;obtain⟨a2,e2,nk⟩:=yV 37 5 i0 underlying37 hi Q (some ⟨b,p,none⟩) n d hn y (a+k) ((a:Int)+(k:Int)) G hk;obtain⟨a3,e3,mM⟩:=kZ 37 5 i0 underlying37 hi Q (some ⟨b,p,none⟩) n d hn y (a+k) ((a:Int)+(k:Int)) G hk;rw[show a+k-a=k from by omega]at e1 jm;obtain⟨f,HT⟩:∃t,Hid (l.getD 0 0=t):=⟨_,rfl⟩
    rw[HT]at C L;obtain⟨q,HI⟩:∃t,Hid ((l.drop a).take k=t):=⟨_,rfl⟩
    obtain⟨all,HW⟩:∃t,Hid (l.take (a+k)=t):=⟨_,rfl⟩
    have v:Hid (q.length=k):=kA;have af:Hid (all.length=a+k):=kA;rw[HI]at jm C;rw[HW]at nk C;have ae:Hid ((Box.box f q).length<=140737488355328):=(by show _<=_;rw[Box.lg,v];split<;>(try split)<;>omega);have X:((TS w).drewN m).c b p=some (.int .u8 (f.toNat:Int)):=L;go_wp2_with fail;have M:=zh ((dz.new (w.alloc (.cells vG 117)) vG 117).drewN m) (.int .u8 (f.toNat:Int)) (.slice (some D) k (d-a));rw[cF]at M;have T:=((((dz.new w vG 117).alloc (.cells vG 117)).drewN m).other ⟨w.1.size+1,0,none⟩ (.int .u8 (f.toNat:Int)) vl).other ⟨w.1.size+1,1,none⟩ (.slice (some D) k (d-a)) vl;have G1:=az (j:=1) (u:=.slice (some D) k (d-a)) (az (g:=w.1.size+1) (j:=0) (u:=.int .u8 (f.toNat:Int)) (aR G0 m) G) (show w.1.size<=w.1.size+1 by omega);refine(tN f q k (some D) (d-a) _ v G (I (λh=>by cases h)) (jm _ (ad.below G1))).mono ?_;rintro e w1 ⟨o,rfl,x,A⟩;obtain⟨a4,c4,rfl,_,_,_,F7⟩:=iZ x;have S:=M.grown A Z;have U:=T.grown A Z;have G2:=aa G1 A;have R:=nk _ (ad.below G2);have Ls:=Al (Box.box f q) all _ _ a4 a2 c4 d w1 (I rfl) af ae F7 R;clear x A M T G1 L X;go_wp2_with fail;refine Ls.mono ?_;rintro e w2 ⟨rfl,A⟩;have M:=S.grown A Z;have x:=U.grown A Z;have G3:=aa G2 A;clear Ls A S U G2 R;have U:=M.cell 0;have X:=M.cell 1;have r0:=x.cell 0;have r1:=x.cell 1;have r2:=x.frozen 0;have r3:=x.frozen 1;simp only[cH,cG,cI]at U X r0 r1;by_cases R:Box.box f q=all
    .have A:(Box.box f q==all)=true:=(by rw[db];exact R);rw[A];have S:Hid (Box.cut l=some (f,q,l.drop (a+k))):=(by show _=_;rw[C,dT ⟨h2,hk,R⟩]);clear R A;go_wp2_with fail;go_region;go_wp2;(try simp only[Exit.inBlock,Exit.then]);refine bodyPost_ret (oZ rfl _ _ _ w.1.size rfl _ (wT (zh x _ _).drew)) rfl ?_;refine⟨λT i r h=>?_,(λh=>by rw[S]at h;simp at h),(by grind [az,bg])⟩;rw[S]at h;simp only[fp,Prod.mk.injEq]at h;obtain⟨rfl,rfl,rfl⟩:=h;refine⟨some D,d-a,a3,d-(a+k),?_,jm,by rw[v];omega,by omega,mM,by grind [Hid.o],by omega,by rw[v.o];exact K,rfl⟩;rw[v,dr,hn];rfl
    .have A:(Box.box f q==all)=false:=fA;rw[A];have S:Hid (Box.cut l=none):=(by show _=_;rw[C,cZ (λh=>R h.2.2)]);clear R A;go_wp2;(try simp only[Exit.inBlock,Exit.then]);refine bodyPost_ret (oZ rfl _ _ _ w.1.size rfl _ (wT (zh x _ _))) rfl ?_;exact⟨λf i r h=>by rw[S]at h;simp at h,λ_=>⟨f,some D,q,d-a,by rw[v.o];rfl,jm,by rw[v];omega,by omega,by rw[v.o];exact K,λh=>by cases h⟩,(by grind [az])⟩
   .have ah:(n:Int)<(a:Int)+(k:Int):=G;have e:Hid (Box.cut l=none):=(by show _=_;rw[C,cZ (λh=>hk h.2.1)]);go_wp2;(try simp only[Exit.inBlock,Exit.then]);refine bodyPost_ret (oZ rfl _ _ _ w.1.size rfl (.agg vG) (wT ?_)) rfl ?_
    .grind [dz.drewN,dz.alloc,dz.new,zh]
    .exact⟨λf i r h=>by rw[e]at h;simp at h,λ_=>⟨0,none,[],0,rfl,λJ _=>At.nil J none,cy _,cS _,cS _,λ_=>rfl⟩,(by grind [aR,az])⟩
theorem TT(g)(n)(b f)(d)(w)(v:Hid (g.length=n))(q:2<=n)(u:n<=140737488355328)(h:n<=d)(m:d<=9223372036854775807)(t:At w (some ⟨b,f,none⟩) g):Calls prog 49 #[ς b f n d] w λe y=>
   (∀a i r,Box.cut g=some (a,i,r)->∃o k p l,e=.returned (.tuple #[.agg #[.int .u8 (a.toNat:Int),.slice o i.length k],.slice p r.length l,.bool true])/\(∀j,At j (some ⟨b,f,none⟩) g->At j o i)/\i.length<=k/\k<=d/\(∀j,At j (some ⟨b,f,none⟩) g->At j p r)/\r.length<=l/\l<=d)/\
   (Box.cut g=none->∃(x:Int) (a:Option Addr) (k c:Nat),e=.returned (.tuple #[.agg #[.int .u8 x,.slice a k c],σ,.bool false]))/\w.grownBy y none:=by
 refine(Dt g n b f d w v q u h m t).mono ?_
 grind
