import Derived.Test.YtlfifnpjeangmaaGreatDoorGEPFillA
namespace Go.Proofs.YtlfifnpjeangmaaGreatDoor
set_option maxHeartbeats 1000000
open Proofs.Tryz Go.RowKit
set_option maxRecDepth 100000
theorem n'{p:Prop}(h:p:=by grind [aS]):p:=h
theorem rN{p:Prop}(h:p:=by rw[hy];rfl):p:=h
theorem nL(a b):bZ (a++b)=bZ a++bZ b:=by simp[bZ]
theorem Md(l):∀(k j)(a:k<l.length),j<3->(bZ l)[k*3+j]?=(l[k]).bE[j]?:=by
 induction l with
 |nil=>intro k j a;simp at a
 |cons x l d=>
  intro k j a b;have e:bZ (x::l)=x.bE++bZ l:=by simp[bZ]
  rw[e];cases k with
  |zero=>rw[gf,cN,cW (by show j<3;exact b)];rfl
  |succ k=>
   grind [PF.bE]
theorem zH{w:World}{g o:Nat}{l:List PF}(h:w.rangeAt g o (bZ l))(k)(b:k<l.length)(j)(a:j<3)(v)(d:(l[k]).bE[j]?=some v):w.cell? (F g (o+k*3+j))=some v:=by
 have:=h (k*3+j) v (by grind [Md]);grind
theorem vU(g o n:Nat)(w)(b:n<=8)(h:w.c g (o+24)=some (Y (n:Int))):Calls prog 256 #[π g o] w λe a=>e=.returned (ς g o n 8)/\∃m,a=w.drewN m:=by
 have a:(n:Int)<=8:=G
 go_in
 go_wp2
 go_quiet (fail)
 exact sL
theorem OR(x y:PF)(w):(binOp .eql 131 (.agg x.bE.toArray) (.agg y.bE.toArray)).run prog w=.ok (.bool (decide (x=y))) w:=by
 have i:prog.stoodInHeld 131=false:=gJ;have d:=underlying131;have h:prog.underlying 131=some (.struct (prog.fieldsOf 131)):=by rw[Program.fieldsOf,d]
 rw[run_eql_struct,run_equalIn_struct w 9999 _ _ _ h i,Program.fieldsOf,d];have f:∀(a b)(w),(Op.equalIn 9999 9 (.string a) (.string b)).run prog w=.ok (a.toList==b.toList) w:=λa b w=>run_equalIn_string w 9998 9 a b underlying9;have e:∀(a b)(w),(Op.equalIn 9999 2 (Y a) (Y b)).run prog w=.ok (a==b) w:=λa b w=>run_equalIn_int w 9998 2 .i64 .i64 a b underlying2;obtain⟨j,l,k⟩:=x;obtain⟨m,o,n⟩:=y;simp[Op.eqFields,go_sem,PF.bE,f,e];by_cases a:j=m<;>by_cases b:l=o<;>by_cases g:k=n<;>simp[a,b,g]
theorem Yf(x y:PF)(d)(a b)(w):(eqGuard d 131 a b (.agg x.bE.toArray) (.agg y.bE.toArray)).run prog w=.ok () w:=
 run_eqGuard_agg w d _ a b _ _ gJ
theorem Qc(g o n c)(l)(x)(w)(hn:Hid (l.length=n))(K:n<=8)(L:n<=c)(h:w.rangeAt g o (bZ l)):Calls prog 261 #[ς g o n c,.agg x.bE.toArray] w λe a=>∃i,e=.returned (Y i)/\((decide (0<=i))=decide (x∈l))/\-1<=i/\i<=8/\w.grownBy a none:=by
 have D:=I h
 clear h
 have v:=I (λ(y:PF) (r:BinOp) (a b:Operand) (w:World)=>Yf x y r a b w)
 have u:=I (λ(y:PF) (w:World)=>OR x y w)
 obtain⟨h,d⟩:=aw (w.alloc (.cells x.bE.toArray 131))
 have t:Hid (w.grownBy h none):=by show _;rw[d];exact cx w _ none
 have B:Hid (h.rangeAt w.1.size 0 x.bE):=by show _;rw[d];exact aS w x.bE.toArray _
 have A:=I d
 clear d
 go_in
 go_wp2
 rw[<-A]
 go_loopw [5,8] (λ_ i wr=>∃k q:Nat,k<=n/\i = Y k/\wr=h.drewN q/\Hid (∀j(p:j<l.length),j<k->x≠l[j])) (λ_ i _=>n-(intOf i).toNat)
 case atStart=>exact⟨0,0,cS _,rfl,rfl,λj _ p=>by omega⟩
 case round=>
  obtain⟨k,q,M,rfl,rfl,C⟩:=hrel;by_cases hlt:k<n
  .have P:(k:Int)<(n:Int):=G;have f:k<l.length:=mT;obtain⟨y,hy⟩:=N (l[k]);have i:=D.o;have V:∀m,(h.drewN m).c g (o+k*3)=some (.string ⟨y.ay.toArray⟩):=λm=>t.cell (zH i k f 0 G _ rN) Z;have W:∀m,(h.drewN m).c g (o+k*3+1)=some (Y y.time):=λm=>t.cell (zH i k f 1 G _ rN) Z;have X:∀m,(h.drewN m).c g (o+k*3+2)=some (Y y.count):=λm=>t.cell (zH i k f 2 G _ rN) Z;have S:∀m,(h.drewN m).c w.1.size 0=some (.string ⟨x.ay.toArray⟩):=λm=>B 0 _ rfl;have T:∀m,(h.drewN m).c w.1.size 1=some (Y x.time):=λm=>B 1 _ rfl;have U:∀m,(h.drewN m).c w.1.size 2=some (Y x.count):=λm=>B 2 _ rfl;obtain⟨d,m⟩:=N (decide (x=y));have Q:∀w,(binOp .eql 131 (.agg #[.string ⟨x.ay.toArray⟩,Y x.time,Y x.count]) (.agg #[.string ⟨y.ay.toArray⟩,Y y.time,Y y.count])).run prog w=.ok (.bool d) w:=λw=>by rw[<-m];exact u y w
   have R:∀(r)(a b)(w),(eqGuard r 131 a b (.agg #[.string ⟨x.ay.toArray⟩,Y x.time,Y x.count]) (.agg #[.string ⟨y.ay.toArray⟩,Y y.time,Y y.count])).run prog w=.ok () w:=λr a b w=>v y r a b w;have r:=I hy;have b:=I m;clear hy m i;cases d with
   |true=>
    go_wp2_with fail;go_quiet (fail)
    go_wp2;go_ret;refine⟨k,rfl,?_,by omega,by omega,aR (aR t.o _) _⟩;have a:=of_decide_eq_true b.o;have J:x∈l:=(by rw[a,<-r];exact eg f);rw[dk J,dk G]
   |false=>
    go_wp2_with fail;go_quiet (fail)
    go_wp2;go_roundw
    case rel=>
     refine⟨k+1,_,by omega,by go_num,rfl,λj p a=>?_⟩;by_cases e:j=k
     .subst e;rw[r];exact of_decide_eq_false b.o
     .exact C j p G
    case measure=>simp[intOf];omega
  .have a:k=n:=G;subst a;go_wp2;go_ret;refine⟨-1,rfl,?_,by omega,by omega,aR t.o _⟩;have:x∉l:=λe=>by
    obtain⟨j,p,e⟩:=List.getElem_of_mem e;exact C j p (by rw[<-hn];exact p) e.symm
   rw[cX this];rfl
theorem Gp(g o n c)(l)(x)(w)(r:Hid (l.length=n))(m:n<=8)(q:n<=c)(h:w.rangeAt g o (bZ l)):Calls prog 258 #[ς g o n c,.agg x.bE.toArray] w λe a=>e=.returned (.bool (decide (x∈l)))/\w.grownBy a none:=by
 obtain⟨b,d⟩:=aw (w.alloc (.cells x.bE.toArray 131))
 have a:w.grownBy b none:=mL
 have f:b.rangeAt w.1.size 0 x.bE:=n'
 have y:b.c w.1.size 0=some (.string ⟨x.ay.toArray⟩):=f 0 _ rfl
 have A:b.c w.1.size 1=some (Y x.time):=f 1 _ rfl
 have B:b.c w.1.size 2=some (Y x.count):=f 2 _ rfl
 have k:=I (Qc g o n c l x b r m q ((CF.bF a (λ_ _=>False)).range h (λ_ _ e=>e)))
 have p:=I a
 have j:=I d
 clear a f d h
 go_in
 go_wp2_with (first|(rw[<-j];fail_if_success done)|fail)
 refine k.mono ?_
 rintro e v ⟨i,rfl,h,t,u,f⟩
 have d:=I h
 have a:=I (aa p f)
 clear h f k
 go_wp2
 go_ret
 exact⟨by rw[<-d];rfl,a⟩
theorem Yg(g o)(l)(x)(w)(h:w.rangeAt g o (bZ l))(t:w.c g (o+24)=some (Y l.length))(D:l.length<=8):Calls prog 243 #[π g o,.agg x.bE.toArray] w λe b=>e=.returned (.bool (decide (x∈l)))/\w.grownBy b none:=by
 obtain⟨a,f⟩:=aw (w.alloc (.cells x.bE.toArray 131))
 have d:w.grownBy a none:=mL
 have i:a.rangeAt w.1.size 0 x.bE:=n'
 have A:a.c w.1.size 0=some (.string ⟨x.ay.toArray⟩):=i 0 _ rfl
 have B:a.c w.1.size 1=some (Y x.time):=i 1 _ rfl
 have C:a.c w.1.size 2=some (Y x.count):=i 2 _ rfl
 obtain⟨n,p⟩:=N l.length
 have v:Hid (∀m,Calls prog 256 #[π g o] (a.drewN m) λe b=>e=.returned (ς g o n 8)/\∃j,b=a.drewN j):=by
  intro m;refine(vU g o n (a.drewN m) G ((aR d m).cell (by rw[<-p];exact t) Z)).mono ?_;grind [World.drewN_drewN]
 have u:Hid (∀m,Calls prog 258 #[ς g o n 8,.agg x.bE.toArray] (a.drewN m) λe b=>e=.returned (.bool (decide (x∈l)))/\a.grownBy b none):=by
  intro m;refine(Gp g o n 8 l x (a.drewN m) p G G ((CF.bF (aR d m) (λ_ _=>False)).range h (λ_ _ e=>e))).mono ?_;rintro e b ⟨q,r⟩;exact⟨q,aa (aR (cC _ _) m) r⟩
 have y:Hid (∀W,a.grownBy W none->W.c w.1.size 0=some (.string ⟨x.ay.toArray⟩)/\W.c w.1.size 1=some (Y x.time)/\W.c w.1.size 2=some (Y x.count)):=
  λW k=>⟨k.cell A Z,k.cell B Z,k.cell C Z⟩
 have k:=I d
 have j:=I f
 clear d i f h t p
 go_in
 go_wp2_with fail
 rw[<-j]
 go_region_held3 (λb=>b.c w.1.size 0=some (.string ⟨x.ay.toArray⟩)/\b.c w.1.size 1=some (Y x.time)/\b.c w.1.size 2=some (Y x.count)) (go_keep) (first|(go_at_call 256;refine(v _).mono ?_;rintro e b ⟨rfl,m,rfl⟩)|(go_at_call 258;refine(u _).mono ?_;rintro e h ⟨rfl,f⟩;obtain⟨i,q,r⟩:=y h f;have d:=I (aa k f);clear f))
 all_goals
  go_wp2
  go_ret
  exact⟨rfl,d⟩
theorem tp{p:Prop}(h:p:=by rw[hW0];exact cx w _ none):p:=h
theorem xl{p:Prop}(h:p:=by injection e with _ e;exact e.symm):p:=h
theorem Uq(g o)(x:PF)(w)(d:w.c g (o+24)=some (Y 8)):Calls prog 244 #[π g o,.agg x.bE.toArray] w λe a=>e=.returned (.bool false)/\w.grownBy a none:=by
 have a:=cx w (.cells x.bE.toArray 131) none
 have e:=a.cell d Z
 have b:=I a
 clear a
 go_in
 go_wp2
 go_ret
 exact⟨rfl,b⟩
theorem Hh{p:Prop}(h:p:=by
 exact World.cell?_setCell_same _ _ _ (by rw[iA _ _ _ _ (λe=>by injection e with _ e;omega)];exact q1)):p:=h
theorem T6(g o n:Nat)(l)(x)(w)(i:b' w g (o+25))(h:w.rangeAt g o (bZ l))(j:w.cell? (F g (o+24))=some (Y n))(D:Hid (l.length=n))(H9:n<8):Calls prog 244 #[π g o,.agg x.bE.toArray] w λe a=>e=.returned (.bool true)/\a.rangeAt g o (bZ (l++[x]))/\a.cell? (F g (o+24))=some (Y ((n:Int)+1))/\CF w a (λb y=>b=g/\o<=y/\y<o+25):=by
 obtain⟨k,hW0⟩:=aw (w.alloc (.cells x.bE.toArray 131))
 have a:w.grownBy k none:=tp
 have f:k.rangeAt w.1.size 0 x.bE:=by rw[hW0];exact aS w x.bE.toArray _
 have x0:k.cell? (F w.1.size 0)=some (.string ⟨x.ay.toArray⟩):=f 0 _ rfl
 have x1:k.cell? (F w.1.size 1)=some (Y x.time):=f 1 _ rfl
 have x2:k.cell? (F w.1.size 2)=some (Y x.count):=f 2 _ rfl
 have P:=a.cell j Z
 have m:w.1.size≠g:=λe=>by have:=i.lt;omega
 have d:=i.grown a
 have f0:=d.frozen (o+n*3)
 have f1:=d.frozen (o+n*3+1)
 have f2:=d.frozen (o+n*3+2)
 have f3:=d.frozen (o+24)
 obtain⟨d0,q0⟩:=cA.1 (d.some (o+n*3) G)
 obtain⟨d1,q1⟩:=cA.1 (d.some (o+n*3+1) G)
 obtain⟨d2,q2⟩:=cA.1 (d.some (o+n*3+2) G)
 have U:(n:Int)<8:=G
 have M:((n:Int)==8)=false:=mN
 have B:=I a
 have A:=I hW0
 have J:=I h
 have K:=I i
 clear a f hW0 h j d i
 go_in
 go_wp2_with (first|(rw[<-A];fail_if_success done)|fail)
 have V:o+n*3≠o+24:=G
 have W:o+n*3+1≠o+24:=G
 have X:o+n*3+2≠o+24:=G
 obtain⟨d,a⟩:=aw (((k.setCell (F g (o+n*3)) (.string ⟨x.ay.toArray⟩)).setCell (F g (o+n*3+1)) (Y x.time)).setCell (F g (o+n*3+2)) (Y x.count))
 have r:∀y,d.cell? (F w.1.size y)=k.cell? (F w.1.size y):=λy=>by
  rw[a,World.cell?_setCell_far _ _ _ _ (λe=>m e.symm),World.cell?_setCell_far _ _ _ _ (λe=>m e.symm),World.cell?_setCell_far _ _ _ _ (λe=>m e.symm)]
 have f:∀y,y≠o+n*3->y≠o+n*3+1->y≠o+n*3+2->d.cell? (F g y)=k.cell? (F g y):=λy h i j=>by
  rw[a,iA _ _ _ _ (λe=>j xl),iA _ _ _ _ (λe=>i xl),iA _ _ _ _ (λe=>h xl)]
 have L:Hid (d.cell? (F g (o+24))=some (Y n)/\d.cell? (F w.1.size 0)=some (.string ⟨x.ay.toArray⟩)/\d.cell? (F w.1.size 1)=some (Y x.time)/\d.cell? (F w.1.size 2)=some (Y x.count)):=
  ⟨by rw[f _ V.symm W.symm X.symm];exact P,by rw[r];exact x0,by rw[r];exact x1,by rw[r];exact x2⟩
 have h:Hid (CF w d (λb y=>b=g/\o<=y/\y<o+25)):=by
  show CF _ _ _;rw[a];exact(((CF.bF B _).setCell g (o+n*3) _ (λ_=>⟨rfl,by omega,by omega⟩)).setCell g (o+n*3+1) _ (λ_=>⟨rfl,by omega,by omega⟩)).setCell g (o+n*3+2) _ (λ_=>⟨rfl,by omega,by omega⟩)
 have v:Hid (d.rangeAt g o (bZ (l++[x]))):=by
  show World.rangeAt _ _ _ _;intro j u b;rw[nL]at b;have q:=iX l;rw[D]at q;by_cases C:j<n*3
  .rw[cW G]at b;rw[f _ G G G];exact B.cell (J j u b) Z
  .rw[cY G,q]at b;have p:j-n*3<3:=(by have:=(cM.1 b).1;simp[bZ,PF.bE]at this;omega);have Q:d.cell? (F g (o+n*3))=some (.string ⟨x.ay.toArray⟩):=by
    rw[a,iA _ _ _ _ (λe=>by injection e with _ e;omega),iA _ _ _ _ (λe=>by injection e with _ e;omega)];exact World.cell?_setCell_same _ _ _ q0
   have R:d.cell? (F g (o+n*3+1))=some (Y x.time):=by
    rw[a,iA _ _ _ _ (λe=>by injection e with _ e;omega)];exact Hh
   have S:d.cell? (F g (o+n*3+2))=some (Y x.count):=by
    rw[a];exact World.cell?_setCell_same _ _ _ (by rw[iA _ _ _ _ (λe=>by injection e with _ e;omega),iA _ _ _ _ (λe=>by injection e with _ e;omega)];exact q2)
   obtain⟨i,T⟩:=N (j-n*3);rw[T]at b p;have y:j=n*3+i:=G;subst y;match i,p with
   |0,_=>simp[bZ,PF.bE]at b;rw[<-b];exact Q
   |1,_=>simp[bZ,PF.bE]at b;rw[<-b];exact R
   |2,_=>simp[bZ,PF.bE]at b;rw[<-b];exact S
 have t:Hid (d.frozen? (F g (o+24))=false):=(K.cf h).frozen _
 have i:=I a
 clear r f a
 have a:d.drew.cell? (F g (o+24))=some (Y n):=L.1
 have f:d.drew.frozen? (F g (o+24))=false:=t.o
 go_region
 all_goals
  rw[<-i]
  go_wp2
  go_ret
  refine⟨rfl,?_,World.cell?_setCell_same _ _ _ a,h.drew.setCell g (o+24) _ (λ_=>⟨rfl,by omega,by omega⟩)⟩
  intro j u b
  have C:=(cM.1 b).1
  rw[iX,cD,D,eC]at C
  show(d.setCell (F g (o+24)) (Y ((n:Int)+1))).cell? (F g (o+j))=some u
  rw[iA _ _ _ _ (λe=>by injection e with _ e;omega)]
  exact v j u b
theorem Me(a b):dU a b=dU b a:=by
 grind [dU]
theorem T4(a b)(w:World)(nq)(f:b9 a)(g:b9 b):Calls prog 236 #[Y a,Y b] (w.drewN nq) λe d=>e=.returned (Y (dU a b))/\∃m,d=w.drewN m:=
 (Ut a b _ f.1 f.2 g.1 g.2).mono fA
theorem MH(a b)(w:World)(nq)(f:b9 a)(g:b9 b):Calls prog 221 #[Y a,Y b] (w.drewN nq) λe d=>e=.returned (Y (aW a b))/\∃m,d=w.drewN m:=
 (Cr a b _ f.1 f.2 g.1 g.2).mono fA
theorem wY(d g)(b h t)(w)(l:w.c d 3=some (π g 0))(n:w.c d 4=some (Y b))(o:w.c g 0=some (Y h))(i:b9 b)(j:b9 t):Calls prog 210 #[π d 0,Y t] w λe f=>e=.returned (.bool (decide (h<dU t b)))/\∃m,f=w.drewN m:=by
 have k:Hid (∀nq,Calls prog 236 #[Y b,Y t] (w.drewN nq) λe f=>e=.returned (Y (dU t b))/\∃m,f=w.drewN m):=λnq=>by rw[Me];exact T4 b t w nq i j
 clear i j
 generalize dU t b=a at *
 go_in
 go_wp2_with fail
 go_quiet (first|(go_at_call 236;exact k _))
 exact sL
theorem Bp(h g)(b d t)(w)(l:w.c h 3=some (π g 0))(n:w.c h 4=some (Y b))(o:w.c g 0=some (Y d))(j:b9 b)(f:b9 d):Calls prog 184 #[π h 0,Y t] w λe i=>e=.returned (.bool (decide (aW b d<t)))/\∃m,i=w.drewN m:=by
 have k:Hid (∀nq,Calls prog 221 #[Y b,Y d] (w.drewN nq) λe i=>e=.returned (Y (aW b d))/\∃m,i=w.drewN m):=λnq=>MH b d w nq j f
 clear j f
 generalize aW b d=a at *
 go_in
 go_wp2_with fail
 go_quiet (first|(go_at_call 221;exact k _))
 exact sL
def Qd(hb:Nat):Value:=.func (.func 210) #[π hb 0] #[]
def Mf(cb:Nat):Value:=.func (.func 257) #[] #[π cb 0]
structure xP(w:World)(cb hb g:Nat)(now aA:Int):Prop where
 box:w.cell? (F cb 0)=some (Qd hb)
 bP:w.cell? (F hb 3)=some (π g 0)
 now:w.cell? (F hb 4)=some (Y now)
 aA:w.cell? (F g 0)=some (Y aA)
theorem xP.grown{w f:World}{d e g:Nat}{a b:Int}(h:xP w d e g a b)(k:w.grownBy f none):xP f d e g a b:=
 ⟨k.cell h.box Z,k.cell h.bP Z,k.cell h.now Z,k.cell h.aA Z⟩
def qi(aA now:Int)(y:PF):Bool:=decide (aA<dU y.time now)
theorem Iw(n p g)(a k)(y)(w)(h:xP w n p g a k)(m:b9 a)(q:b9 y.time):Calls prog 257 #[.agg y.bE.toArray,π n 0] w λe b=>e=.returned (.bool (qi k a y))/\w.grownBy b none:=by
 obtain⟨i,f⟩:=aw (w.alloc (.cells y.bE.toArray 131))
 have b:w.grownBy i none:=mL
 have o:i.rangeAt w.1.size 0 y.bE:=n'
 have u:i.c w.1.size 1=some (Y y.time):=o 1 _ rfl
 have d:=h.grown b
 have l:=d.box
 unfold Qd at l
 have t:=I (wY p g a k y.time i d.bP d.now d.aA m q)
 have r:=I b
 have j:=I f
 clear b o f h d m q
 go_in
 go_wp2_with (first|(rw[<-j];fail_if_success done)|fail)
 refine t.mono ?_
 rintro e d ⟨rfl,m,rfl⟩
 have b:=I (aR r m)
 go_wp2
 go_ret
 exact⟨rfl,b⟩
theorem Mg(u x v g o n c)(a m)(l)(w)(d:xP w u x v a m)(b:b9 a)(f:∀y∈l,b9 y.time)(hn:Hid (l.length=n))(L:n<=8)(P:n<=c)(h:w.rangeAt g o (bZ l)):Calls prog 260 #[ς g o n c,Mf u] w λe i=>(e=.returned (Y (-1))/\(∀j(p:j<l.length),qi m a l[j]=false)\/∃k,∃J:k<l.length,e=.returned (Y (k:Int))/\qi m a l[k]=true/\∀j(p:j<l.length),j<k->qi m a l[j]=false)/\w.grownBy i none:=by
 have B:=I h
 have A:=I d
 have M:=I f
 have t:=I b
 clear h d f b
 unfold Mf
 go_in
 go_wp2
 go_loopw [5,8] (λ_ i wr=>∃k:Nat,k<=n/\i = Y k/\Hid (w.grownBy wr none)/\Hid (∀j(p:j<l.length),j<k->qi m a l[j]=false)) (λ_ i _=>n-(intOf i).toNat)
 case atStart=>exact⟨0,cS _,rfl,cC _ _,λj _ p=>by omega⟩
 case round=>
  obtain⟨k,J,rfl,h,D⟩:=hrel;by_cases hlt:k<n
  .have Q:(k:Int)<(n:Int):=G;have b:k<l.length:=mT;obtain⟨y,hy⟩:=N (l[k]);have f:=B.o;have R:wr.c g (o+k*3)=some (.string ⟨y.ay.toArray⟩):=h.cell (zH f k b 0 G _ rN) Z;have S:=h.cell (zH f k b 1 G _ rN) Z;have T:=h.cell (zH f k b 2 G _ rN) Z;have q:=I (Iw u x v a m y wr (A.grown h) t kA);obtain⟨d,i⟩:=N (qi m a y);rw[i]at q;have C:=I hy;have r:=I i;clear hy i f;cases d with
   |true=>
    go_wp2_with (go_at_call 257;refine q.mono ?_;rintro e K ⟨rfl,i⟩;have f:=I (aa h i);clear i)
    go_wp2;go_ret;exact⟨.inr ⟨k,b,rfl,by rw[C];exact r,D⟩,f⟩
   |false=>
    go_wp2_with (go_at_call 257;refine q.mono ?_;rintro e K ⟨rfl,i⟩;have f:=I (aa h i);clear i)
    go_wp2;go_roundw
    case rel=>
     refine⟨k+1,by omega,by go_num,f.o,λj p i=>?_⟩;grind [Hid.o]
    case measure=>simp[intOf];omega
  .have i:k=n:=G;subst i;go_wp2;go_ret;exact⟨.inl ⟨rfl,kA⟩,h⟩
variable {aA now:Int}{l:List PF}
def yx:Array Value:=#[ε,Y 0,Y 0]
theorem Qe(m):∀v∈(Builtin.zeroCells yx m).toList,v.oneCell'=true:=by
 intro v a;simp[Builtin.zeroCells]at a;obtain⟨i,_,e⟩:=a;have b:i % 3<3:=Nat.mod_lt _ G;have d:yx.size=3:=rfl;rw[d]at e;rw[<-e];generalize i % 3=j at *;match j,b with
 |0,_=>rfl
 |1,_=>rfl
 |2,_=>rfl
theorem Yj(w)(g o m c)(b)(e:0<m)(d:b' w g (o+m*3)):
  (Builtin.clear_ #[397] b #[ς g o m c]).run Tryz.prog w=.ok (.tuple #[]) (w.setCells g o (Builtin.zeroCells yx m).toList):=by
 have f:(Builtin.zeroCells yx m).toList.length=m*3:=by simp[Builtin.zeroCells];rfl
 have a:=run_storeCells_cells (P:=Tryz.prog) g o (Builtin.zeroCells yx m).toList 0 w (by grind [b'.some]) (by grind [b'.frozen]) (Qe m)
 simp only[ft]at a
 obtain⟨k,rfl⟩:∃k,m=k+1:=⟨m-1,by omega⟩
 simp[Builtin.clear_,run_underlying Tryz.underlying397,Value.cells]
 show((Sem.run Tryz.prog (storeCells ⟨g,o,none⟩ (Builtin.zeroCells yx (k+1)).toList) w).andThen _)=_
 rw[a]
 rfl
def D8(g o:Nat)(b y:Nat):Prop:=b=g/\o<=y/\y<o+24
theorem xP.cf{w i:World}{a b d g o:Nat}(h:xP w a b d now aA)(k:CF w i (D8 g o))(j:a≠g)(f:b≠g)(l:0<o):xP i a b d now aA:=
 ⟨k.cell h.box (λe=>j e.1),k.cell h.bP (λe=>f e.1),k.cell h.now (λe=>f e.1),k.cell h.aA (λe=>by have:=e.2.1;omega)⟩
def Bq(aA now:Int)(y:PF):Bool:=!qi aA now y
def nM(aA now:Int)(l:List PF):List PF:=l.filter (Bq aA now)
theorem D9{k:Nat}(h:k<l.length):nM aA now (l.take (k+1))=nM aA now (l.take k)++(if Bq aA now l[k]=true then [l[k]] else []):=by
 unfold nM;rw[dy h,List.filter_append];cases a:Bq aA now l[k]<;>simp[a]
theorem Av(h:∀j(a:j<l.length),qi aA now l[j]=false):nM aA now l=l:=by
 unfold nM;apply List.filter_eq_self.2;intro x b;obtain⟨j,a,rfl⟩:=List.getElem_of_mem b;simp[Bq,h j a]
theorem Mh{k:Nat}(d:k<l.length)(a:qi aA now l[k]=true)(h:∀j(b:j<l.length),j<k->qi aA now l[j]=false):nM aA now (l.take (k+1))=l.take k:=by
 rw[D9 d,Av (l:=l.take k) (λj b=>?_)]
 .simp[Bq,a]
 grind
theorem Mi(aA now)(l):(nM aA now l).length<=l.length:=List.length_filter_le _ _
set_option maxHeartbeats 2000000
def Ea(w:World)(g o:Nat)(x:PF):World:=((w.setCell (F g o) (.string ⟨x.ay.toArray⟩)).setCell (F g (o+1)) (Y x.time)).setCell (F g (o+2)) (Y x.count)
theorem Mj(w)(g o)(x)(y)(a:y≠o)(b:y≠o+1)(d:y≠o+2):(Ea w g o x).cell? (F g y)=w.cell? (F g y):=by
 rw[Ea,iA _ _ _ _ fA,iA _ _ _ _ fA,iA _ _ _ _ fA]
theorem FA{p:Prop}(h:p:=by
 exact World.cell?_setCell_same _ _ _ (by rw[iA _ _ _ _ fA,iA _ _ _ _ fA];exact q2)):p:=h
theorem zd{p:Prop}(h:p:=by
 grind [World.cell?_setCell_same,iA]):p:=h
theorem vp{p:Prop}(h:p:=by
 grind [World.cell?_setCell_same]):p:=h
theorem Qf(w)(g o i)(x)(l)(e:b' w g (o+i*3+3))(q:l.length=i)(h:w.rangeAt g o (bZ l)):(Ea w g (o+i*3) x).rangeAt g o (bZ (l++[x])):=by
 obtain⟨r,B⟩:=cA.1 (e.some (o+i*3) G);obtain⟨t,C⟩:=cA.1 (e.some (o+i*3+1) G);obtain⟨v,q2⟩:=cA.1 (e.some (o+i*3+2) G);intro j u a;rw[nL]at a;have d:=iX l;rw[q]at d;by_cases A:j<i*3
 .rw[cW G]at a;rw[Mj _ _ _ _ _ G G G];exact h j u a
 .rw[cY G,d]at a;have b:j-i*3<3:=by grind [PF.bE,bZ]
  have y:(Ea w g (o+i*3) x).cell? (F g (o+i*3))=some (.string ⟨x.ay.toArray⟩):=by
   rw[Ea,iA _ _ _ _ fA,iA _ _ _ _ fA];exact vp
  have m:(Ea w g (o+i*3) x).cell? (F g (o+i*3+1))=some (Y x.time):=by
   rw[Ea,iA _ _ _ _ fA];exact zd
  have n:(Ea w g (o+i*3) x).cell? (F g (o+i*3+2))=some (Y x.count):=by
   rw[Ea];exact FA
  obtain⟨k,p⟩:=N (j-i*3);rw[p]at a b;have f:j=i*3+k:=G;subst f;match k,b with
  |0,_=>grind [PF.bE,bZ]
  |1,_=>simp[bZ,PF.bE]at a;rw[<-a];exact m
  |2,_=>simp[bZ,PF.bE]at a;rw[<-a];exact n
theorem Mk(T hb dg g o n c)(now aA)(l)(w)(d:xP w T hb dg now aA)(h1:T≠g)(h2:hb≠g)(h3:0<o)(b:b9 now)(f:∀y∈l,b9 y.time)(hn:Hid (l.length=n))(H9:n<=8)(hc:n<=c)(ad:c<=8)(i:b' w g (o+24))(h:w.rangeAt g o (bZ l)):Calls Tryz.prog 255 #[ς g o n c,Mf T] w λe a=>e=.returned (ς g o (nM aA now l).length c)/\a.rangeAt g o (bZ (nM aA now l))/\CF w a (D8 g o):=by
 have a:=I (Mg T hb dg g o n c now aA l w d b f hn H9 hc h)
 have HH:=I h
 have HF:=I d
 have HT:=I f
 have ab:=I b
 have HL:=I i
 clear h d f b i
 unfold Mf at a
 unfold Mf
 go_enter Tryz.func255,Tryz.ntmps255
 go_wp2_with fail
 refine a.mono ?_
 clear a
 rintro e w1 ⟨⟨rfl,a⟩|⟨k,hk,rfl,U,V⟩,g1⟩
 .have b:=I a;have J:=I g1;clear a g1;go_wp2;go_ret;refine⟨?_,?_,CF.bF J _⟩
  .rw[Av b.o,hn];rfl
  .rw[Av b.o];exact(CF.bF J (λ_ _=>False)).range HH (λ_ _ e=>e)
 .have ah:k<n:=by rw[<-hn];exact hk
  have mW:((k:Int)==-1)=false:=mN;have HK:=I (Mh hk U V);have J:=I g1;clear U V g1;go_wp2;go_loopw [5,6,7] (λb a _ wr=>∃i j:Nat,i<j/\j<=n/\b = Y i/\a = Y j/\Hid ((nM aA now (l.take j)).length=i/\wr.rangeAt g o (bZ (nM aA now (l.take j)))/\wr.rangeAt g (o+j*3) (bZ (l.drop j))/\CF w wr (D8 g o))) (λ_ a _ _=>n-(intOf a).toNat)
  case atStart=>
   refine⟨k,k+1,by omega,by omega,rfl,by go_num,?_,?_,?_,CF.bF J.o _⟩
   .rw[HK,ep];omega
   .rw[HK];have a:=(CF.bF J (λ_ _=>False)).range HH (λ_ _ e=>e);rw[<-eN k l,nL]at a;exact xZ a
   .have a:=(CF.bF J (λ_ _=>False)).range HH (λ_ _ e=>e);rw[<-eN (k+1) l,nL]at a;have b:=rY a;rw[iX,ep,gh G]at b;exact b
  case round=>
   obtain⟨i,j,af,ag,rfl,rfl,C⟩:=hrel;by_cases hlt:j<n
   .have LF:(j:Int)<(n:Int):=G;have b:j<l.length:=mT;obtain⟨y,X⟩:=N (l[j]);have v:=C.2.2.1;have D:(l.drop j)[0]?=some y:=(by rw[List.getElem?_drop,ft,cL b,X]);have m:0<(l.drop j).length:=(by rw[dr];omega);have t:(l.drop j)[0]=y:=(by rw[cL m]at D;injection D);have y0:wr.c g (o+j*3)=some (.string ⟨y.ay.toArray⟩):=zH v 0 m 0 G _ (by rw[t];rfl);have y1:wr.c g (o+j*3+1)=some (Y y.time):=zH v 0 m 1 G _ (by rw[t];rfl);have y2:wr.c g (o+j*3+2)=some (Y y.count):=zH v 0 m 2 G _ (by rw[t];rfl);obtain⟨Wb,p⟩:=aw (wr.alloc (.cells #[.string ⟨y.ay.toArray⟩,Y y.time,Y y.count] 131));have B:wr.grownBy Wb none:=(by rw[p];exact cx wr _ none);have r:Wb.rangeAt wr.1.size 0 y.bE:=(by rw[p];exact aS wr y.bE.toArray _);have HD:=I (Iw T hb dg now aA y Wb ((HF.cf C.2.2.2 h1 h2 h3).grown B) ab (HT y (by rw[<-X];exact eg b)))
    have HX:Hid (∀W,Wb.grownBy W none->W.c wr.1.size 0=some (.string ⟨y.ay.toArray⟩)/\W.c wr.1.size 1=some (Y y.time)/\W.c wr.1.size 2=some (Y y.count)):=
     λW q=>⟨q.cell (r 0 _ rfl) Z,q.cell (r 1 _ rfl) Z,q.cell (r 2 _ rfl) Z⟩
    obtain⟨d,x⟩:=N (qi aA now y);rw[x]at HD;have a:=D9 (aA:=aA) (now:=now) b;rw[X]at a;have h:(if Bq aA now y=true then [y] else [])=(if d=false then [y] else []):=(by unfold Bq;rw[x];cases d<;>rfl);rw[h]at a;have Q:=I a;have Ml:=I (HL.cf C.2.2.2);have P:=I B;have R:=I p;have ae:i<8:=G;have f:l.drop j=y::l.drop (j+1):=(by rw[<-X];exact List.drop_eq_getElem_cons b);have M:Hid (∀W:World,W.rangeAt g (o+j*3) (bZ (l.drop j))->W.rangeAt g (o+(j+1)*3) (bZ (l.drop (j+1)))):=by
     intro W u;rw[f]at u;have e:bZ (y::l.drop (j+1))=y.bE++bZ (l.drop (j+1)):=(by simp[bZ]);rw[e]at u;have:=rY u;rw[show o+(j+1)*3=o+j*3+y.bE.length from by show _=_+3;omega];exact this
    clear X v D m t B r p x a h f;cases d with
    |true=>
     go_wp2_with (go_at_call 257;rw[<-R];refine HD.mono ?_;rintro e A ⟨rfl,L⟩;have f:=I (aa P L);clear L)
     go_wp2;go_roundw
     case rel=>
      refine⟨i,j+1,by omega,by omega,rfl,by go_num,?_⟩;have a:=Q.o;rw[cZ O,fS]at a;obtain⟨x,K,a3,S⟩:=C.o;have h:CF wr A (λ_ _=>False):=CF.bF f _;rw[a];exact⟨x,h.range K (λ_ _ e=>e),M A (h.range a3 (λ_ _ e=>e)),S.grown f⟩
     case measure=>simp[intOf];omega
    |false=>
     go_wp2_with (go_at_call 257;rw[<-R];refine HD.mono ?_;rintro e A ⟨rfl,L⟩;obtain⟨e0,e1,e2⟩:=HX A L;have f:=I (aa P L);clear L;have u:=Ml.grown f.o;have f0:=u.frozen (o+i*3);have f1:=u.frozen (o+i*3+1);have f2:=u.frozen (o+i*3+2);obtain⟨d0,q0⟩:=cA.1 (u.some (o+i*3) G);obtain⟨d1,q1⟩:=cA.1 (u.some (o+i*3+1) G);obtain⟨d2,q2⟩:=cA.1 (u.some (o+i*3+2) G);have W:=I u;clear u)
     go_wp2;go_roundw
     case rel=>
      refine⟨i+1,j+1,by omega,by omega,by go_num,by go_num,?_⟩;have a:=Q.o;rw[dT trivial]at a;obtain⟨x,K,a3,S⟩:=C.o;have h:CF wr A (λ_ _=>False):=CF.bF f _;rw[a];have r1:=Qf A g o i y _ (W.mono G) x (h.range K (λ_ _ e=>e));have r2:(Ea A g (o+i*3) y).rangeAt g (o+j*3) (bZ (l.drop j)):=by
       intro q u L;rw[Mj _ _ _ _ _ G G G];exact(h.range a3 (λ_ _ e=>e)) q u L
      have r3:CF w (Ea A g (o+i*3) y) (D8 g o):=(((S.grown f).setCell g (o+i*3) _ (λ_=>⟨rfl,by omega,by omega⟩)).setCell g (o+i*3+1) _ (λ_=>⟨rfl,by omega,by omega⟩)).setCell g (o+i*3+2) _ (λ_=>⟨rfl,by omega,by omega⟩);exact⟨by rw[cD,x];rfl,r1,M _ r2,r3⟩
     case measure=>simp[intOf];omega
   .have h:j=n:=G;subst h
    have m:=
     λa=>Yj wr g (o+i*3) (j-i) (c-i) a G ((HL.cf C.2.2.2).mono G)
    have f:c≠i:=G;have p:i≠c:=G;have d:(i:Int)<=(c:Int):=G;go_wp2;go_ret;have b:=cU (by rw[hn];exact cy _);have r:(Builtin.zeroCells yx (j-i)).toList.length=(j-i)*3:=(by simp[Builtin.zeroCells];rfl);obtain⟨x,K,_,S⟩:=C.o;rw[b]at x K;refine⟨by rw[x];rfl,?_,CF.setCells g _ _ wr S (λq a _=>⟨rfl,by omega,by rw[r]at a;omega⟩)⟩;intro q u L;have a:=(cM.1 L).1;rw[iX,x]at a;rw[World.cell?_setCells_out g _ _ wr _ (λ_ _=>Or.inl (by show o+q<_;omega))];exact K q u L
theorem Mm(k x g o n)(a i)(l:List PF)(w)(Q:w.c k 3=some (π x 0))(R:w.c k 4=some (Y a))(S:w.c x 0=some (Y i))(X:k≠g)(h3:0<o)(T:b9 a)(U:∀y∈l,b9 y.time)(hn:Hid (l.length=n))(B:n<=8)(A:b' w g (o+25))(h:w.rangeAt g o (bZ l))(J:w.c g (o+24)=some (Y n)):Calls prog 242 #[π g o,Qd k] w λe p=>e=.returned (.tuple #[])/\p.rangeAt g o (bZ (nM i a l))/\p.c g (o+24)=some (Y (nM i a l).length)/\CF w p (λb y=>b=g/\o<=y/\y<o+25):=by
 have v:∀(t)(first f)(w),(Instr.makeFunc t first f).run prog w=.ok (.func t first f) w:=λ_ _ _ _=>rfl
 obtain⟨q,j⟩:=aw (w.alloc (.cells #[Qd k] 281))
 have d:w.grownBy q none:=mL
 have u:q.cell? (F w.1.size 0)=some (Qd k):=by rw[j];exact aS w #[Qd k] _ 0 _ rfl
 have L:w.1.size≠g:=λe=>by have:=A.lt;omega
 have P:=I (vU g o n q B (d.cell J Z))
 have r:∀m,xP (q.drewN m) w.1.size k x a i:=λm=>⟨u,(aR d m).cell Q Z,(aR d m).cell R Z,(aR d m).cell S Z⟩
 have M:Hid (∀m,Calls prog 255 #[ς g o n 8,.func (.func 257) #[] #[π w.1.size 0]] (q.drewN m) λe p=>e=.returned (ς g o (nM i a l).length 8)/\p.rangeAt g o (bZ (nM i a l))/\CF w p (D8 g o)):=by
  intro m;refine(Mk w.1.size k x g o n 8 a i l (q.drewN m) (r m) L X h3 T U hn B B G ((A.grown (aR d m)).mono G) ((CF.bF (aR d m) (λ_ _=>False)).range h (λ_ _ e=>e))).mono ?_;rintro e p ⟨C,D,K⟩;exact⟨C,D,K.before (aR d m)⟩
 have W:=I A
 have C:=I j
 have p:=I (Mi i a l)
 obtain⟨K,D⟩:=N (nM i a l)
 rw[D]at M p
 rw[D]
 have ab:K.length<=8:=kA
 have V:=I J
 clear v d u r j A h J Q R S D T U
 have v:∀(t)(first f)(w),(Instr.makeFunc t first f).run prog w=.ok (.func t first f) w:=λ_ _ _ _=>rfl
 unfold Qd at *
 go_in
 go_wp2_with (first
  |(rw[<-C];fail_if_success done)
  |(go_at_call 256;refine P.mono ?_;clear P;rintro e t ⟨rfl,m,rfl⟩)
  |(go_at_call 255;refine(M _).mono ?_;rintro e u ⟨rfl,j,d⟩;have h:=I j;have f:=I d;have r:=d.cell V (λe=>by have:=e.2.2;omega);have A:=(W.cf d).frozen (o+24);clear j d))
 go_wp2
 go_end0
 refine⟨rfl,?_,World.cell?_setCell_same _ _ _ r,(f.mono (λb y _ e=>⟨e.1,e.2.1,by have:=e.2.2;omega⟩)).setCell g (o+24) _ G⟩
 intro j u b
 have d:=(cM.1 b).1
 rw[iX]at d
 rw[iA _ _ _ _ fA]
 exact h j u b
theorem Qg(b a)(l):nM b a l=iQ b a l:=by
 unfold nM iQ;congr 1;funext y;unfold Bq qi;grind
theorem Eb(g j)(b i)(x:PF)(w)(m:w.c g 3=some (π j 0))(n:w.c g 4=some (Y b))(o:w.c j 0=some (Y i))(p:b9 b)(r:b9 x.time)(t:i<dU x.time b):Calls prog 220 #[π g 0,.agg x.bE.toArray] w λe a=>e=.returned (Y 37)/\w.grownBy a none:=by
 obtain⟨f,d⟩:=aw (w.alloc (.cells x.bE.toArray 131))
 have a:w.grownBy f none:=mL
 have q:f.rangeAt w.1.size 0 x.bE:=n'
 have v:f.c w.1.size 1=some (Y x.time):=q 1 _ rfl
 have k:=wY g j b i x.time f (a.cell m Z) (a.cell n Z) (a.cell o Z) p r
 rw[dk t]at k
 have l:=I k
 have u:=I a
 have h:=I d
 clear a q d m n o p r t k
 go_in
 go_wp2_with (first
  |(rw[<-h];fail_if_success done)
  |(go_at_call 210;refine l.mono ?_;clear l;rintro e a ⟨rfl,m,rfl⟩))
 go_wp2
 go_ret
 exact⟨rfl,aR u m⟩
theorem BU(n f)(d g)(l)(x)(w)(v:w.c n 3=some (π f 0))(D:w.c n 4=some (Y d))(J:w.c f 0=some (Y g))(h2:n≠f)(L:b9 d)(V:b9 x.time)(U:∀y∈l,b9 y.time)(X:l.length<=8)(C:b' w f 188)(h:w.rangeAt f 163 (bZ l))(T:w.c f 187=some (Y l.length))(u:¬ g<dU x.time d):Calls prog 220 #[π n 0,.agg x.bE.toArray] w λe a=>e=.returned (Y (bL g d l x))/\a.rangeAt f 163 (bZ (bJ g d l x))/\a.c f 187=some (Y (bJ g d l x).length)/\CF w a (λb y=>b=f/\163<=y/\y<188):=by
 obtain⟨j,r⟩:=aw (w.alloc (.cells x.bE.toArray 131))
 have i:w.grownBy j none:=mL
 have B:j.rangeAt w.1.size 0 x.bE:=n'
 have x1:j.c w.1.size 1=some (Y x.time):=B 1 _ rfl
 have t:w.1.size≠f:=λe=>by have:=C.lt;omega
 have M:=wY n f d g x.time j (i.cell v Z) (i.cell D Z) (i.cell J Z) L V
 rw[cX u]at M
 have R:=I M
 obtain⟨K,A⟩:=N (iQ g d l)
 have p:nM g d l=K:=by rw[Qg,A]
 have S:Hid (∀m,Calls prog 242 #[π f 163,.func (.func 210) #[π n 0] #[]] (j.drewN m) λe a=>e=.returned (.tuple #[])/\a.rangeAt f 163 (bZ K)/\a.cell? (F f 187)=some (Y K.length)/\CF j a (λb y=>b=f/\163<=y/\y<188)):=by
  intro m;have a:=aR i m;have:=Mm n f f 163 l.length d g l (j.drewN m) (a.cell v Z) (a.cell D Z) (a.cell J Z) h2 G L U (I rfl) X (C.grown a) ((CF.bF a (λ_ _=>False)).range h (λ_ _ e=>e)) (a.cell T Z);rw[p]at this;refine this.mono ?_;grind [CF.jN]
 have P:K.length<=8:=by grind [Mi]
 have HX:Hid (∀W,CF j W (λb y=>b=f/\163<=y/\y<188)->W.c w.1.size 0=some (.string ⟨x.ay.toArray⟩)/\W.c w.1.size 1=some (Y x.time)/\W.c w.1.size 2=some (Y x.count)):=
  λW q=>⟨q.cell (B 0 _ rfl) (λe=>t e.1),(by grind [CF.cell]),q.cell (B 2 _ rfl) (λe=>t e.1)⟩
 have a:bL g d l x=if x∈K then 34 else if 8<=K.length then 60 else 0:=by rw[bL,A]
 have b:bJ g d l x=if bL g d l x=0 then K++[x] else K:=by rw[bJ,A]
 have Sg:=i.cell v Z
 have yj:=I Sg
 have Q:=I i
 have y:=I r
 have W:=I (C.grown i)
 have o:=I (dN a b)
 have ab:∀(q)(first k)(w),(Instr.makeFunc q first k).run prog w=.ok (.func q first k) w:=λ_ _ _ _=>rfl
 clear i B r v D J L U V u M A p C h T a b
 go_in
 go_wp2_with (first
  |(rw[<-y];fail_if_success done)
  |(go_at_call 210;refine R.mono ?_;clear R;rintro e D ⟨rfl,m,rfl⟩)
  |(go_at_call 242;refine(S _).mono ?_;clear S;rintro e u ⟨rfl,p,i,h⟩;obtain⟨A,B,C⟩:=HX u h;have k:=I p;have r:=I i;have v:=I h;have q:=I (Yg f 163 K x u p i P);clear p i h))
 by_cases p:x∈K
 .have m:=q;rw[dk p]at m;have u:=I p;clear q p;refine m.mono ?_;rintro e w3 ⟨rfl,i⟩;have h:=I i;clear i m;go_wp2;go_ret;have a:bL g d l x=34:=by rw[o.1,dT u.o]
  have b:bJ g d l x=K:=by rw[o.2,a,cZ O]
  rw[b,a];exact⟨rfl,(CF.bF h (λ_ _=>False)).range k (λ_ _ e=>e),h.cell r Z,(v.before Q).grown h⟩
 .have m:=q;rw[cX p]at m;have u:=I p;clear q p;refine m.mono ?_;rintro e w3 ⟨rfl,i⟩;have D:=i.cell A Z;have J:=i.cell B Z;have L:=i.cell C Z;have h:=I i;clear i m;by_cases i:K.length=8
  .have m:=r.o;rw[i]at m;have q:=I (Uq f 163 x w3 (h.cell m Z));have p:=I i;clear m i;go_wp2_with (go_at_call 244;refine q.mono ?_;rintro e C ⟨rfl,A⟩;have m:=I (aa h A);clear A)
   go_wp2;go_ret;have a:bL g d l x=60:=(by rw[o.1,cZ u.o,dT (by have:=p.o;omega)]);have b:bJ g d l x=K:=(by rw[o.2,a,cZ O]);rw[b,a];exact⟨rfl,(CF.bF m (λ_ _=>False)).range k (λ_ _ e=>e),m.cell r Z,(v.before Q).grown m⟩
  .have q:=I (T6 f 163 K.length K x w3 ((W.cf v).grown h) ((CF.bF h (λ_ _=>False)).range k (λ_ _ e=>e)) (h.cell r Z) (I rfl) G);have p:=I i;clear i;go_wp2_with (go_at_call 244;refine q.mono ?_;rintro e C ⟨rfl,v,r,m⟩;have k:=I v;have B:=I r;have A:=I m;clear v r m)
   go_wp2;go_ret;have a:bL g d l x=0:=(by rw[o.1,cZ u.o,cZ (by have:=p.o;omega)]);have b:bJ g d l x=K++[x]:=(by rw[o.2,a,dT rfl]);rw[b,a];refine⟨rfl,k,?_,(by grind [Hid.o,CF.grown,CF.before,CF.trans])⟩;grind [Hid.o]
theorem fP{a b:Bool}(h:a=b):Ending.returned (.bool a)=.returned (.bool b):=by rw[h]
theorem Ec(b o)(e:BE)(a)(w)(h:w.c b (o+2)=some (Y e.bB)):Calls prog 207 #[π b o,Y a] w λr d=>r=.returned (.bool (e.gone a))/\d=w:=by
 unfold BE.gone
 obtain⟨x,d⟩:=N e.bB
 rw[d]at h
 rw[d]
 clear d
 by_cases d:x=0
 .subst d;go_in;go_wp2;go_ret;exact⟨fP Z,rfl⟩
 .go_in;go_wp2;go_ret;exact⟨fP (by simp[d]),rfl⟩
theorem vr{p:Prop}(h:p:=by
 go_in
 go_wp2
 go_ret2
 exact⟨rfl,rfl⟩):p:=h
theorem Uu(b o)(e:BE)(n)(w)(j:w.c b (o+1)=some (Y e.aH))(k:w.c b (o+2)=some (H (e.key.toNat:Int)))(l:w.c b (o+3)=some (H (e.before.toNat:Int)))(a:1<=e.aH)(d:e.aH<=9223372036854775807):Calls prog 217 #[π b o,Y n] w λr f=>r=.returned (.tuple #[H (((e.keyOf n).getD 0).toNat:Int),.bool (e.keyOf n).isSome])/\f=w:=by
 unfold BE.keyOf
 obtain⟨x,f⟩:=N e.aH
 rw[f]at j a d
 rw[f]
 clear f
 by_cases f:n=x
 .subst f;rw[dT rfl];exact vr
 .rw[cZ f];by_cases g:n=x-1
  .subst g;by_cases h:1<x
   .rw[dT ⟨rfl,h⟩];have i:0<x-1:=G;exact vr
   .rw[cZ (λq=>h q.2)];have i:¬ 0<x-1:=G;exact vr
  .rw[cZ (λq=>g q.1)];exact vr
theorem SD(n)(k)(e:k<63):bits .and .i64 n (2 ^ k)=if aI n (2 ^ k)=true then 2 ^ k else 0:=by
 have g:(2:Int) ^ k<2 ^ 63:=by
  have h:=Nat.pow_lt_pow_right (a:=2) O e;exact_mod_cast h
 have f:(0:Int)<2 ^ k:=by
  have h:=Nat.pow_pos (n:=k) (show 0<2 by decide);exact_mod_cast h
 have b:BitVec.ofInt 64 (2 ^ k)=BitVec.twoPow 64 k:=by
  apply BitVec.eq_of_toNat_eq;rw[wX,BitVec.toNat_twoPow];have:((2:Int) ^ k % 18446744073709551616)=2 ^ k:=Int.emod_eq_of_lt G G;rw[this];have d:((2:Int) ^ k).toNat=2 ^ k:=by
   have:(2:Int) ^ k=((2 ^ k:Nat):Int):=by simp
   rw[this,Int.toNat_natCast]
  rw[d,ez (Nat.pow_lt_pow_right O G)]
 rw[JE,b,BitVec.and_twoPow,kV n k G];split
 .rw[<-b,BitVec.toInt_ofInt];exact Int.bmod_eq_of_le G G
 .rfl
theorem rF(n f)(k)(a:f=2 ^ k)(d:k<63):(bits .and .i64 n f==f)=aI n f:=by
 subst a;have b:(0:Int)<2 ^ k:=by
  have h:=Nat.pow_pos (n:=k) (show 0<2 by decide);exact_mod_cast h
 grind [SD]
theorem zI(b o)(e:BE)(f)(k)(w)(a:f=2 ^ k)(d:k<63)(h:w.c b (o+3)=some (Y e.ae)):Calls prog 208 #[π b o,Y f] w λr g=>r=.returned (.bool (e.has f))/\g=w:=by
 have g:=I (rF e.ae f k a d)
 clear a d
 go_in
 go_wp2
 go_ret
 exact⟨fP g,rfl⟩
theorem Kf{p:Prop}(h:p:=by
 clear h1 h2 h3
 go_in
 go_wp2_with (first
  |(go_at_call 221;refine HA.mono ?_;clear HA;rintro e w1 ⟨rfl,rfl⟩)
  |(go_at_call 221;refine HB.mono ?_;clear HB;rintro e w1 ⟨rfl,rfl⟩))
 all_goals
  go_ret
  refine⟨bD ?_,rfl⟩
  unfold gS j9
  (repeat' split at *)<;>omega):p:=h
theorem JK(d g h f)(w)(h1:b9 d)(h2:b9 h)(h3:b9 f):Calls prog 212 #[Y d,Y g,Y h,Y f] w λr i=>r=.returned (Y (gS (j9 g) (gS (aW d h) (aW d f))))/\i=w:=by
 have HA:=I (Cr d h w h1.1 h1.2 h2.1 h2.2)
 have HB:=I (Cr d f w h1.1 h1.2 h3.1 h3.2)
 generalize aW d h=a at *
 generalize aW d f=b at *
 by_cases i:g=0
 .subst i;exact Kf
 .have j:(g==0)=false:=fA;exact Kf
structure fo(w:World)(b:Nat)(x s:BE):Prop where
 ay:w.rangeAt b 0 x.bE
 aV:w.rangeAt b 8 s.bE
theorem fo.c{w:World}{b:Nat}{x s:BE}(h:fo w b x s)(k)(v)(a:x.bE[k]?=some v):w.cell? (F b k)=some v:=by
 have:=h.ay k v a;rwa [cN]at this
theorem fo.s{w:World}{b:Nat}{x s:BE}(h:fo w b x s)(k)(v)(a:s.bE[k]?=some v):w.cell? (F b (8+k))=some v:=h.aV k v a
theorem Kx{p:Prop}(h:p:=by
 rw[hx]at HA
 clear hx
 go_in
 go_wp2_with (first
  |(go_at_call 208;refine HA.mono ?_;clear HA;rintro e w1 ⟨rfl,rfl⟩)
  |(go_at_call 208;refine HB.mono ?_;clear HB;rintro e w1 ⟨rfl,rfl⟩))
 go_wp2
 go_ret
 exact⟨fP Z,rfl⟩):p:=h
theorem qJ(b)(x s)(f)(k)(w)(a:f=2 ^ k)(d:k<63)(h:fo w b x s):Calls prog 211 #[π b 0,Y f] w λr g=>r=.returned (.bool (x.has f&&s.has f))/\g=w:=by
 have HA:=I (zI b 4 x f k w a d (h.c 7 _ rfl))
 have HB:=I (zI b 12 s f k w a d (h.s 7 _ rfl))
 clear h a d
 cases hx:x.has f with
 |true=>
  exact Kx
 |false=>
  exact Kx
theorem Ed(a d e b)(w:World)(nq)(f:b9 a)(g:b9 e)(h:b9 b):Calls prog 212 #[Y a,Y d,Y e,Y b] (w.drewN nq) λr i=>r=.returned (Y (gS (j9 d) (gS (aW a e) (aW a b))))/\∃m,i=w.drewN m:=
 (JK a d e b _ f g h).mono fA
theorem Mq(b)(x s)(d e)(w)(h:fo w b x s)(f:b9 d)(g:b9 x.bI)(i:b9 s.bI):Calls prog 176 #[π b 0,Y d,Y e] w λr j=>r=.returned (Y (gS (j9 e) (gS (aW d x.bI) (aW d s.bI))))/\∃m,j=w.drewN m:=by
 have j:=I (λnq=>Ed d e x.bI s.bI w nq f g i)
 have k:=h.c 4 _ rfl
 have l:w.c b 12=some (Y s.bI):=h.s 4 _ rfl
 clear h f g i
 generalize gS (j9 e) (gS (aW d x.bI) (aW d s.bI))=a at *
 go_in
 go_wp2_with fail
 go_quiet (first|(go_at_call 212;exact j _))
 exact sL
theorem Ee(b)(x s)(d e)(w)(h:fo w b x s)(f:b9 d)(g:b9 x.aC)(i:b9 s.aC):Calls prog 179 #[π b 0,Y d,Y e] w λr j=>r=.returned (Y (gS (j9 e) (gS (aW d x.aC) (aW d s.aC))))/\∃m,j=w.drewN m:=by
 have j:=I (λnq=>Ed d e x.aC s.aC w nq f g i)
 have k:=h.c 5 _ rfl
 have l:w.c b 13=some (Y s.aC):=h.s 5 _ rfl
 clear h f g i
 generalize gS (j9 e) (gS (aW d x.aC) (aW d s.aC))=a at *
 go_in
 go_wp2_with fail
 go_quiet (first|(go_at_call 212;exact j _))
 exact sL
theorem sU{e:Func}{a:Tmp}{f:TypeId}(h:e.results=#[.cell a f])(d)(P)(w)(b)(hp:d.getD a undef = π b 0)(x)(hl:(loadVar f ⟨b,0,none⟩).run P w=.ok x w):
  (results e d).run P w=.ok x w:=by
 have hp':d[a]?.getD undef = π b 0:=rj
 exact rm
theorem Tryz.acb:(prog.info? 335).map (·.size)=some 2:=by kernel_rfl
theorem sV(b o)(e:BE)(w)(d:w.c b (o+1)=some (Y e.aH))(f:w.c b (o+2)=some (H (e.key.toNat:Int))):Calls prog 177 #[π b o] w λr a=>r=.returned (.agg #[Y e.aH,H (e.key.toNat:Int)])/\w.grownBy a none:=by
 have a:=cx w (.cells #[Y 0,H 0] 335) none
 have g:=a.cell d Z
 have h:=a.cell f Z
 clear a
 go_in
 go_wp2_with fail
 go_region
 all_goals
  go_wp2
  exact bodyPost_ret (sU results177 _ _ _ w.1.size rfl _ ((dz.new w #[Y e.aH,H (e.key.toNat:Int)] 335).drew.load 335 _ underlying335 rfl Tryz.acb)) rfl ⟨rfl,bg (cx w _ none)⟩
def Br(way:Int):Int:=if way=16 then 4 else if way=32 then 16 else if way=64 then 1 else if way=128 then 2 else 0
theorem gy(a)(w):Calls prog 223 #[Y a] w λr b=>r=.returned (Y (Br a))/\b=w:=by
 by_cases b:a=16
 .subst b;go_in;exact lO
 by_cases d:a=32
 .subst d;go_in;exact lO
 by_cases f:a=64
 .subst f;go_in;exact lO
 by_cases g:a=128
 .subst g;go_in;exact lO
 have e:Br a=0:=by unfold Br;rw[cZ b,cZ d,cZ f,cZ g]
 rw[e];clear e;go_in;exact lO
def jH(n:Int)(x s:BE):Int:=(if (aI n 1&&(x.has 4&&s.has 4))=true then 1 else 0)+(if (aI n 2&&(x.has 8&&s.has 8))=true then 2 else 0)+(if (aI n 4&&(x.has 2&&s.has 2))=true then 4 else 0)
def iN(n:Int)(x s:BE)(k:Nat):Int:=(if (aI n 1&&(x.has 4&&s.has 4))=true then(if 0<k then 1 else 0) else 0)+(if (aI n 2&&(x.has 8&&s.has 8))=true then(if 1<k then 2 else 0) else 0)+(if (aI n 4&&(x.has 2&&s.has 2))=true then(if 2<k then 4 else 0) else 0)
theorem fo.grown{w d:World}{b:Nat}{x s:BE}(h:fo w b x s)(k:w.grownBy d none):fo d b x s:=
 ⟨λi v a=>k.cell (h.ay i v a) Z,λi v a=>k.cell (h.aV i v a) Z⟩
theorem AT{p:Prop}(h:p:=by
 unfold iN
 generalize (aI n 1&&(x.has 4&&s.has 4))=b1
 generalize (aI n 2&&(x.has 8&&s.has 8))=b2
 generalize (aI n 4&&(x.has 2&&s.has 2))=b3
 revert b1 b2 b3
 decide):p:=h
theorem St(n)(x s):((aI n 1&&(x.has 4&&s.has 4))=false->iN n x s 1=iN n x s 0)/\((aI n 1&&(x.has 4&&s.has 4))=true->iN n x s 1=bits .or .i64 (iN n x s 0) 1):=by
 exact AT
theorem Ss(n)(x s):((aI n 2&&(x.has 8&&s.has 8))=false->iN n x s 2=iN n x s 1)/\((aI n 2&&(x.has 8&&s.has 8))=true->iN n x s 2=bits .or .i64 (iN n x s 1) 2):=by
 exact AT
theorem Sp(n)(x s):((aI n 4&&(x.has 2&&s.has 2))=false->iN n x s 3=iN n x s 2)/\((aI n 4&&(x.has 2&&s.has 2))=true->iN n x s 3=bits .or .i64 (iN n x s 2) 4):=by
 exact AT
theorem So(n)(x s):iN n x s 3=jH n x s:=rfl
theorem tR{p:Prop}(h:p:=by
 go_wp2_with (first|(go_at_call 211;refine(HB _ (aa hG (cx _ _ none))).mono ?_;clear HB;rintro e w1 ⟨rfl,rfl⟩))
 go_roundw
 case rel=>grind [Hid.o,cx,aa]
 case measure=>simp[intOf]):p:=h
theorem As{p:Prop}(h:p:=by
 go_roundw
 case rel=>grind [aa,Hid.o,cx]
 case measure=>simp[intOf]):p:=h
theorem Bv(b)(x s)(n)(w)(h:fo w b x s):Calls prog 213 #[π b 0,Y n] w λr a=>r=.returned (Y (jH n x s))/\w.grownBy a none:=by
 have j:=I h
 clear h
 have q:∀w,(Instr.index 384 (.agg #[Y 1,Y 4,Y 2,Y 8,Y 4,Y 2]) (Y 0)).run prog w=.ok (.agg #[Y 1,Y 4]) w:=λ_=>by kernel_rfl
 have r:∀w,(Instr.index 384 (.agg #[Y 1,Y 4,Y 2,Y 8,Y 4,Y 2]) (Y 1)).run prog w=.ok (.agg #[Y 2,Y 8]) w:=λ_=>by kernel_rfl
 have t:∀w,(Instr.index 384 (.agg #[Y 1,Y 4,Y 2,Y 8,Y 4,Y 2]) (Y 2)).run prog w=.ok (.agg #[Y 4,Y 2]) w:=λ_=>by kernel_rfl
 go_in
 go_wp2_with fail
 go_loopw [4,11] (λa i wr=>∃k:Nat,k<=3/\i = Y k/\a = Y (iN n x s k)/\Hid (w.grownBy wr none)) (λ_ i _=>3-(intOf i).toNat)
 case atStart=>exact⟨0,by omega,rfl,by unfold iN;simp,cC _ _⟩
 case round=>
  obtain⟨k,u,rfl,rfl,hG⟩:=hrel;by_cases m:k=0
  .subst m;have HB:=I (λW (g:w.grownBy W none)=>qJ b x s 4 2 W O O (j.grown g));have f:=I (St n x s);have a:=kH n 1 0 O O;generalize aI n 1=b1 at *;generalize (x.has 4&&s.has 4)=b2 at *;obtain⟨l,d⟩:=N (iN n x s 1);rw[d]at f;have i:=I d;clear d;generalize iN n x s 0=a0 at *;cases b1 with
   |false=>
    rw[eM]at a;have h:=db.1 a;clear a;go_wp2_with fail;exact As
   |true=>
    rw[eV]at a;have h:=cJ.1 a;clear a;cases b2 with
    |false=>
     go_wp2_with (first|(go_at_call 211;refine(HB _ (aa hG (cx _ _ none))).mono ?_;clear HB;rintro e w1 ⟨rfl,rfl⟩))
     exact As
    |true=>
     exact tR
  by_cases d:k=1
  .subst d;have HB:=I (λW (g:w.grownBy W none)=>qJ b x s 8 3 W O O (j.grown g));have f:=I (Ss n x s);have a:=kH n 2 1 O O;generalize aI n 2=b1 at *;generalize (x.has 8&&s.has 8)=b2 at *;obtain⟨l,d⟩:=N (iN n x s 2);rw[d]at f;have i:=I d;clear d;generalize iN n x s 1=a0 at *;cases b1 with
   |false=>
    rw[eM]at a;have h:=db.1 a;clear a;go_wp2_with fail;exact As
   |true=>
    rw[eV]at a;have h:=cJ.1 a;clear a;cases b2 with
    |false=>
     exact tR
    |true=>
     exact tR
  by_cases p:k=2
  .subst p;have HB:=I (λW (g:w.grownBy W none)=>qJ b x s 2 1 W O O (j.grown g));have f:=I (Sp n x s);have a:=kH n 4 2 O O;generalize aI n 4=b1 at *;generalize (x.has 2&&s.has 2)=b2 at *;obtain⟨l,d⟩:=N (iN n x s 3);rw[d]at f;have i:=I d;clear d;generalize iN n x s 2=a0 at *;cases b1 with
   |false=>
    rw[eM]at a;have h:=db.1 a;clear a;go_wp2_with fail;go_roundw
    case rel=>grind [Hid.o,cx,aa]
    case measure=>simp[intOf]
   |true=>
    rw[eV]at a;have h:=cJ.1 a;clear a;cases b2 with
    |false=>
     exact tR
    |true=>
     exact tR
  have d:k=3:=G;subst d;have f:=I (So n x s);go_wp2_with fail;go_ret;exact⟨by rw[f];rfl,hG⟩
theorem mr(a b)(w)(j:b9 a)(m:b9 b):Calls prog 103 #[Y a,Y b] w λe d=>e=.returned (Y (aW a b))/\d=w:=by
 obtain⟨k,l⟩:=j
 obtain⟨n,p⟩:=m
 by_cases d:a+b < -9223372036854775808
 .have g:a<0:=G;have h:¬ 0<a:=G;have q:b<0:=G;have hw:wrap64 (a+b)=a+b+18446744073709551616:=n8;have i:0<=a+b+18446744073709551616:=G;have HR:Hid (aW a b=-9223372036854775808):=by show _=_;unfold aW mG;rw[dT d]
  clear d;go_in;go_wp2;exact lP
 .by_cases e:9223372036854775807<a+b
  .have g:0<a:=G;have q:0<b:=G;have hw:wrap64 (a+b)=a+b-18446744073709551616:=n8;have i:a+b-18446744073709551616<0:=G;have HR:Hid (aW a b=9223372036854775807):=(by show _=_;unfold aW mG;rw[cZ d,dT e]);clear d e;go_in;go_wp2;exact lP
  .obtain⟨f,hw⟩:=Ir (a:=a) (b:=b) G G;have HR:=I f;clear f d e;by_cases g:0<a
   .have h:¬ a<0:=G;by_cases f:0<b
    .have i:¬ a+b<0:=G;go_in;go_wp2;exact lP
    .go_in;go_wp2;exact lP
   .by_cases h:a<0
    .by_cases f:b<0
     .have i:¬ 0<=a+b:=G;go_in;go_wp2;exact lP
     .go_in;go_wp2;exact lP
    .go_in;go_wp2;exact lP
theorem Rf(a b):aW a (-b)=gq a b:=by
 unfold aW gq;rw[show a + -b=a-b from by omega]
theorem A7(a b)(w)(f:b9 a)(g:b9 b):Calls prog 147 #[Y a,Y b] w λe j=>e=.returned (Y (gq a b))/\j=w:=by
 by_cases h:b=-9223372036854775808
 .subst h;obtain⟨i,k⟩:=f;clear g;by_cases l:0<=a
  .have HR:Hid (gq a (-9223372036854775808)=9223372036854775807):=(by show _=_;unfold gq mG;rw[cZ G,dT G]);go_in;go_wp2;exact lP
  .obtain⟨d,hw⟩:=Iu (a:=a) (b:=-9223372036854775808) G G;have HR:=I d;clear d;go_in;go_wp2;go_ret;exact⟨bD (by rw[HR];omega),rfl⟩
 .have d:b9 (-b):=by unfold b9 at *;omega
  have hw:wrap64 (-b)=-b:=by unfold b9 at g;unfold wrap64;omega
  have i:=I (mr a (-b) w f d);rw[Rf]at i;clear f g d;go_in;go_wp2_with (go_at_call 103;refine i.mono ?_;rintro e j ⟨rfl,rfl⟩)
  go_ret;exact⟨rfl,rfl⟩
theorem yI(a b)(w)(f:b9 a)(g:b9 b):Calls prog 143 #[Y a,Y b] w λe d=>e=.returned (Y (dU a b))/\d=w:=by
 by_cases h:a<b
 .have HR:Hid (dU a b=gq b a):=by show _=_;unfold dU;rw[dT h]
  have i:¬ b<=a:=G;go_in;go_wp2_with (go_at_call 147;refine(A7 b a _ g f).mono ?_;rintro e d ⟨rfl,rfl⟩)
  exact lP
 .have HR:Hid (dU a b=gq a b):=by show _=_;unfold dU;rw[cZ h]
  have i:b<=a:=G;go_in;go_wp2_with (go_at_call 147;refine(A7 a b _ f g).mono ?_;rintro e d ⟨rfl,rfl⟩)
  exact lP
theorem kC(a b)(w):Calls prog 104 #[Y a,Y b] w λe d=>e=.returned (Y (gS a b))/\d=w:=by
 by_cases h:a<b
 .have HR:Hid (gS a b=a):=by show _=_;unfold gS;rw[dT h]
  go_in;go_wp2;exact lP
 .have HR:Hid (gS a b=b):=by show _=_;unfold gS;rw[cZ h]
  go_in;go_wp2;exact lP
theorem uR(a)(w):Calls prog 105 #[Y a] w λe b=>e=.returned (Y (j9 a))/\b=w:=by
 by_cases h:a=0
 .subst h;go_in;exact lO
 .have HR:Hid (j9 a=a):=by show _=_;unfold j9;rw[cZ h]
  go_in;go_wp2;exact lP
theorem eT(n f)(k)(w)(a:f=2 ^ k)(d:k<63):Calls prog 102 #[Y n,Y f] w λe b=>e=.returned (.bool (aI n f))/\b=w:=by
 have b:=I (kH n f k a d)
 clear a
 go_in
 go_wp2
 go_ret
 exact⟨fP (by rw[bne,b,Bool.not_not]),rfl⟩
set_option maxHeartbeats 8000000
theorem tv{p:Prop}(h:p:=by cases b4<;>cases b5<;>cases b6<;>cases b7<;>rfl):p:=h
variable {p:Prop}
def yy(o:Int)(b3 b4 b5 b6 b7 f0 f1 f2 f4:Bool):Bool:=
 if o<0\/255<o\/b3=true then false
 else if 1<((if b4=true then 1 else 0)+(if b5=true then 1 else 0)+(if b6=true then 1 else 0)+(if b7=true then 1 else 0):Int)\/b5=true/\o≠32 then false
 else if b4=true/\f2=false\/b6=true/\f0=false\/b7=true/\f1=false then false
 else !b5||f4
theorem P3(o f):ku o f=yy o (aI o 8) (aI o 16) (aI o 32) (aI o 64) (aI o 128) (aI f 1) (aI f 2) (aI f 4) (aI f 16):=rfl
def jV(b4 b5 b6 b7:Bool)(k:Nat):Int:=(if b4=true then(if 0<k then 1 else 0) else 0)+(if b5=true then(if 1<k then 1 else 0) else 0)+(if b6=true then(if 2<k then 1 else 0) else 0)+(if b7=true then(if 3<k then 1 else 0) else 0)
theorem xB(a b d e)(k):wrap64 (jV a b d e k+1)=jV a b d e k+1:=by
 have h:0<=jV a b d e k/\jV a b d e k<=4:=by
  unfold jV;constructor<;>(repeat' split)<;>omega
 unfold wrap64;omega
theorem VI(a b):(a=true/\b=false)\/a=false\/(a=true/\b=true):=by cases a<;>cases b<;>decide
theorem yv(h:p:=by
  go_wp2_with (go_at_call 102;(first|(with_reducible refine Calls.mono (WJ.o _) ?_)|(with_reducible refine Calls.mono (ZV.o _) ?_)|(with_reducible refine Calls.mono (C64.o _) ?_)|(with_reducible refine Calls.mono (Oe.o _) ?_)|(with_reducible refine Calls.mono (F1.o _) ?_)|(with_reducible refine Calls.mono (F2.o _) ?_)|(with_reducible refine Calls.mono (F4.o _) ?_)|(with_reducible refine Calls.mono (F16.o _) ?_));rintro e w' ⟨rfl,rfl⟩)
  go_ret
  exact⟨fP HS.o.symm,rfl⟩):p:=h
theorem Rt(h:p:=by first
  |(have HS:Hid (R=true):=(by show _=_;rw[<-HR];simp);clear HR;exact yv)
  |(have HS:Hid (R=false):=(by show _=_;rw[<-HR];simp);clear HR;exact yv)):p:=h
theorem vx(h:p:=by
  go_wp2_with (go_at_call 102;(first|(with_reducible refine Calls.mono (WJ.o _) ?_)|(with_reducible refine Calls.mono (ZV.o _) ?_)|(with_reducible refine Calls.mono (C64.o _) ?_)|(with_reducible refine Calls.mono (Oe.o _) ?_)|(with_reducible refine Calls.mono (F1.o _) ?_)|(with_reducible refine Calls.mono (F2.o _) ?_)|(with_reducible refine Calls.mono (F4.o _) ?_)|(with_reducible refine Calls.mono (F16.o _) ?_));rintro e w' ⟨rfl,rfl⟩)
  go_round
  case rel=>first|exact⟨1,by decide,rfl,by rw[HN];first|(simp;done)|(simp;exact hw)⟩|exact⟨2,by decide,rfl,by rw[HN];first|(simp;done)|(simp;exact hw)⟩|exact⟨3,by decide,rfl,by rw[HN];first|(simp;done)|(simp;exact hw)⟩|exact⟨4,by decide,rfl,by rw[HN];first|(simp;done)|(simp;exact hw)⟩
  case measure=>decide):p:=h
theorem vm{p:Prop}(h:p:=by
 go_ret
 exact⟨fP HS.o.symm,rfl⟩):p:=h
theorem KA(o f)(w):Calls prog 110 #[Y o,Y f] w λe w'=>e=.returned (.bool (ku o f))/\w'=w:=by
 rw[P3]
 have d:=I (λW=>eT o 8 3 W O O)
 have WJ:=I (λW=>eT o 16 4 W O O)
 have ZV:=I (λW=>eT o 32 5 W O O)
 have C64:=I (λW=>eT o 64 6 W O O)
 have Oe:=I (λW=>eT o 128 7 W O O)
 have F1:=I (λW=>eT f 1 0 W O O)
 have F2:=I (λW=>eT f 2 1 W O O)
 have F4:=I (λW=>eT f 4 2 W O O)
 have F16:=I (λW=>eT f 16 4 W O O)
 obtain⟨t,a⟩:=N (aI o 8)
 obtain⟨b4,b⟩:=N (aI o 16)
 obtain⟨b5,j⟩:=N (aI o 32)
 obtain⟨b6,k⟩:=N (aI o 64)
 obtain⟨b7,l⟩:=N (aI o 128)
 obtain⟨g,n⟩:=N (aI f 1)
 obtain⟨h,p⟩:=N (aI f 2)
 obtain⟨i,q⟩:=N (aI f 4)
 obtain⟨u,r⟩:=N (aI f 16)
 rw[a,b,j,k,l,n,p,q,r]
 rw[a]at d
 rw[b]at WJ
 rw[j]at ZV
 rw[k]at C64
 rw[l]at Oe
 rw[n]at F1
 rw[p]at F2
 rw[q]at F4
 rw[r]at F16
 obtain⟨R,m⟩:=N (yy o t b4 b5 b6 b7 g h i u)
 have HR:=I m
 rw[m]
 unfold yy at HR
 clear a b j k l n p q r m
 by_cases p:o<0
 .have HS:Hid (R=false):=by show _=_;rw[<-HR,dT (.inl p)]
  clear HR;go_in;go_wp2;exact vm
 by_cases l:255<o
 .have HS:Hid (R=false):=by show _=_;rw[<-HR,dT (.inr (.inl l))]
  clear HR;go_in;go_wp2;exact vm
 cases t with
 |true=>
  have HS:Hid (R=false):=by show _=_;rw[<-HR,dT (.inr (.inr rfl))]
  clear HR;go_in;go_wp2_with (go_at_call 102;refine(d _).mono ?_;rintro e w' ⟨rfl,rfl⟩)
  exact vm
 |false=>
  rw[cZ j']at HR;go_in;go_wp2_with (go_at_call 102;refine(d _).mono ?_;clear d;rintro e w' ⟨rfl,rfl⟩)
  go_loop [5,6] (λn b=>∃k:Nat,k<=4/\b = Y (16*2 ^ k)/\n = Y (jV b4 b5 b6 b7 k)) (λ_ b=>256-(intOf b).toNat)
  case atStart=>exact⟨0,by decide,rfl,by cases b4<;>cases b5<;>cases b6<;>cases b7<;>rfl⟩
  case round=>
   obtain⟨k,j,rfl,rfl⟩:=hrel;have m:k=0\/k=1\/k=2\/k=3\/k=4:=G;rcases m with rfl|rfl|rfl|rfl|rfl
   .have b:jV b4 b5 b6 b7 1=jV b4 b5 b6 b7 0+(if b4=true then 1 else 0):=tv;have hw:=xB b4 b5 b6 b7 0;have HN:=I b;obtain⟨x,a⟩:=N (jV b4 b5 b6 b7 0);rw[a]at HN hw⊢;clear b a HR;cases b4<;>exact vx
   .have b:jV b4 b5 b6 b7 2=jV b4 b5 b6 b7 1+(if b5=true then 1 else 0):=tv;have hw:=xB b4 b5 b6 b7 1;have HN:=I b;obtain⟨x,a⟩:=N (jV b4 b5 b6 b7 1);rw[a]at HN hw⊢;clear b a HR;cases b5<;>exact vx
   .have b:jV b4 b5 b6 b7 3=jV b4 b5 b6 b7 2+(if b6=true then 1 else 0):=tv;have hw:=xB b4 b5 b6 b7 2;have HN:=I b;obtain⟨x,a⟩:=N (jV b4 b5 b6 b7 2);rw[a]at HN hw⊢;clear b a HR;cases b6<;>exact vx
   .have b:jV b4 b5 b6 b7 4=jV b4 b5 b6 b7 3+(if b7=true then 1 else 0):=tv;have hw:=xB b4 b5 b6 b7 3;have HN:=I b;obtain⟨x,a⟩:=N (jV b4 b5 b6 b7 3);rw[a]at HN hw⊢;clear b a HR;cases b7<;>exact vx
   .have b:jV b4 b5 b6 b7 4=(if b4=true then 1 else 0)+(if b5=true then 1 else 0)+(if b6=true then 1 else 0)+(if b7=true then 1 else 0):=tv;rw[<-b]at HR;obtain⟨x,a⟩:=N (jV b4 b5 b6 b7 4);rw[a]at HR⊢;clear b a j;by_cases j:1<x
    .have HS:Hid (R=false):=(by show _=_;rw[<-HR,dT (.inl j)]);clear HR;go_wp2;exact vm
    .cases b5 with
     |false=>
      rw[cZ (by simp[j])]at HR;rcases VI b4 i with⟨rfl,rfl⟩|rfl|⟨rfl,rfl⟩
      .exact Rt
      all_goals
       rcases VI b6 g with⟨rfl,rfl⟩|rfl|⟨rfl,rfl⟩
       .exact Rt
       all_goals
        rcases VI b7 h with⟨rfl,rfl⟩|rfl|⟨rfl,rfl⟩<;>exact Rt
     |true=>
      by_cases a:o=32
      .have b:(o != 32)=false:=fA;rw[cZ (by simp[j,a])]at HR;clear a;rcases VI b4 i with⟨rfl,rfl⟩|rfl|⟨rfl,rfl⟩
       .exact Rt
       all_goals
        rcases VI b6 g with⟨rfl,rfl⟩|rfl|⟨rfl,rfl⟩
        .exact Rt
        all_goals
         rcases VI b7 h with⟨rfl,rfl⟩|rfl|⟨rfl,rfl⟩
         .exact Rt
         all_goals cases u<;>exact Rt
      .have b:(o != 32)=true:=(by rw[fj];exact a);have HS:Hid (R=false):=(by show _=_;rw[<-HR,dT (.inr ⟨rfl,a⟩)]);clear HR a;exact yv
