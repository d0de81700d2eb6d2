import Derived.Test.YticfhckmhcaigaaGreatDoorGEPFillA
namespace Go.Proofs.YticfhckmhcaigaaGreatDoor
set_option maxHeartbeats 1000000
open Proofs.Tryz Go.RowKit
set_option maxRecDepth 100000
theorem oX{p:Prop}(h:p:=by grind [aS]):p:=h
theorem sg{p:Prop}(h:p:=by rw[hy];rfl):p:=h
theorem nX(a b):cB (a++b)=cB a++cB b:=by simp[cB]
theorem Oq(l):∀(k j)(a:k<l.length),j<3->(cB l)[k*3+j]?=(l[k]).bF[j]?:=by
 induction l with
 |nil=>intro k j a;simp at a
 |cons x l d=>
  intro k j a b;have e:cB (x::l)=x.bF++cB l:=by simp[cB]
  rw[e];cases k with
  |zero=>rw[gj,cR,cX (by show j<3;exact b)];rfl
  |succ k=>
   grind [PF.bF]
theorem AA{w:World}{g o:Nat}{l:List PF}(h:w.rangeAt g o (cB l))(k)(b:k<l.length)(j)(a:j<3)(v)(d:(l[k]).bF[j]?=some v):w.cell? (F g (o+k*3+j))=some v:=by
 have:=h (k*3+j) v (by grind [Oq]);grind
theorem xm(g o n:Nat)(w)(b:n<=8)(h:w.c g (o+24)=some (Y (n:Int))):Calls prog 256 #[N g o] w λe a=>e=.returned (ς g o n 8)/\∃m,a=w.drewN m:=by
 have a:(n:Int)<=8:=G
 go_in
 go_wp2
 go_quiet (fail)
 exact te
theorem SR(x y:PF)(w):(binOp .eql 131 (.agg x.bF.toArray) (.agg y.bF.toArray)).run prog w=.ok (.bool (decide (x=y))) w:=by
 have i:prog.stoodInHeld 131=false:=f';have d:=underlying131;have h:prog.underlying 131=some (.struct (prog.fieldsOf 131)):=by rw[Program.fieldsOf,d]
 rw[run_eql_struct,run_equalIn_struct w 9999 _ _ _ h i,Program.fieldsOf,d];have f:∀(a b)(w),(Op.equalIn 9999 9 (.string a) (.string b)).run prog w=.ok (a.toList==b.toList) w:=λa b w=>run_equalIn_string w 9998 9 a b underlying9;have e:∀(a b)(w),(Op.equalIn 9999 2 (Y a) (Y b)).run prog w=.ok (a==b) w:=λa b w=>run_equalIn_int w 9998 2 .i64 .i64 a b underlying2;obtain⟨j,l,k⟩:=x;obtain⟨m,o,n⟩:=y;simp[Op.eqFields,go_sem,PF.bF,f,e];by_cases a:j=m<;>by_cases b:l=o<;>by_cases g:k=n<;>simp[a,b,g]
theorem aaz(x y:PF)(d)(a b)(w):(eqGuard d 131 a b (.agg x.bF.toArray) (.agg y.bF.toArray)).run prog w=.ok () w:=
 run_eqGuard_agg w d _ a b _ _ f'
theorem SA(g o n c)(l)(x)(w)(hn:Hid (l.length=n))(K:n<=8)(L:n<=c)(h:w.rangeAt g o (cB l)):Calls prog 261 #[ς g o n c,.agg x.bF.toArray] w λe a=>∃i,e=.returned (Y i)/\((decide (0<=i))=decide (x∈l))/\-1<=i/\i<=8/\w.grownBy a none:=by
 have D:=I h
 clear h
 have v:=I (λ(y:PF) (r:BinOp) (a b:Operand) (w:World)=>aaz x y r a b w)
 have u:=I (λ(y:PF) (w:World)=>SR x y w)
 obtain⟨h,d⟩:=aw (w.alloc (.cells x.bF.toArray 131))
 have t:Hid (w.grownBy h none):=by show _;rw[d];exact cy w _ none
 have B:Hid (h.rangeAt w.1.size 0 x.bF):=by show _;rw[d];exact aS w x.bF.toArray _
 have A:=I d
 clear d
 go_in
 go_wp2
 rw[<-A]
 go_loopw [5,8] (λ_ i wr=>∃k q:Nat,k<=n/\i = Y k/\wr=h.drewN q/\Hid (∀j(p:j<l.length),j<k->x≠l[j])) (λ_ i _=>n-(intOf i).toNat)
 case atStart=>exact⟨0,0,cS _,rfl,rfl,λj _ p=>by omega⟩
 case round=>
  obtain⟨k,q,M,rfl,rfl,C⟩:=hrel;by_cases hlt:k<n
  .have P:(k:Int)<(n:Int):=G;have f:k<l.length:=nB;obtain⟨y,hy⟩:=aq (l[k]);have i:=D.o;have V:∀m,(h.drewN m).c g (o+k*3)=some (.string ⟨y.az.toArray⟩):=λm=>t.cell (AA i k f 0 G _ sg) Z;have W:∀m,(h.drewN m).c g (o+k*3+1)=some (Y y.time):=λm=>t.cell (AA i k f 1 G _ sg) Z;have X:∀m,(h.drewN m).c g (o+k*3+2)=some (Y y.count):=λm=>t.cell (AA i k f 2 G _ sg) Z;have S:∀m,(h.drewN m).c w.1.size 0=some (.string ⟨x.az.toArray⟩):=λm=>B 0 _ rfl;have T:∀m,(h.drewN m).c w.1.size 1=some (Y x.time):=λm=>B 1 _ rfl;have U:∀m,(h.drewN m).c w.1.size 2=some (Y x.count):=λm=>B 2 _ rfl;obtain⟨d,m⟩:=aq (decide (x=y));have Q:∀w,(binOp .eql 131 (.agg #[.string ⟨x.az.toArray⟩,Y x.time,Y x.count]) (.agg #[.string ⟨y.az.toArray⟩,Y y.time,Y y.count])).run prog w=.ok (.bool d) w:=λw=>by rw[<-m];exact u y w
   have R:∀(r)(a b)(w),(eqGuard r 131 a b (.agg #[.string ⟨x.az.toArray⟩,Y x.time,Y x.count]) (.agg #[.string ⟨y.az.toArray⟩,Y y.time,Y y.count])).run prog w=.ok () w:=λr a b w=>v y r a b w;have r:=I hy;have b:=I m;clear hy m i;cases d with
   |true=>
    go_wp2_with fail;go_quiet (fail)
    go_wp2;go_ret;refine⟨k,rfl,?_,by omega,by omega,aN (aN t.o _) _⟩;have a:=of_decide_eq_true b.o;have J:x∈l:=(by rw[a,<-r];exact eh f);rw[ee J,ee G]
   |false=>
    go_wp2_with fail;go_quiet (fail)
    go_wp2;go_roundw
    case rel=>
     refine⟨k+1,_,by omega,by go_num,rfl,λj p a=>?_⟩;by_cases e:j=k
     .subst e;rw[r];exact of_decide_eq_false b.o
     .exact C j p G
    case measure=>simp[intOf];omega
  .have a:k=n:=G;subst a;go_wp2;go_ret;refine⟨-1,rfl,?_,by omega,by omega,aN t.o _⟩;have:x∉l:=λe=>by
    obtain⟨j,p,e⟩:=List.getElem_of_mem e;exact C j p (by rw[<-hn];exact p) e.symm
   rw[cY this];rfl
theorem I5(g o n c)(l)(x)(w)(r:Hid (l.length=n))(p:n<=8)(q:n<=c)(h:w.rangeAt g o (cB l)):Calls prog 258 #[ς g o n c,.agg x.bF.toArray] w λe a=>e=.returned (.bool (decide (x∈l)))/\w.grownBy a none:=by
 obtain⟨b,d⟩:=aw (w.alloc (.cells x.bF.toArray 131))
 have a:w.grownBy b none:=mN
 have f:b.rangeAt w.1.size 0 x.bF:=oX
 have y:b.c w.1.size 0=some (.string ⟨x.az.toArray⟩):=f 0 _ rfl
 have A:b.c w.1.size 1=some (Y x.time):=f 1 _ rfl
 have B:b.c w.1.size 2=some (Y x.count):=f 2 _ rfl
 have k:=I (SA g o n c l x b r p q ((CF.bD a (λ_ _=>False)).range h (λ_ _ e=>e)))
 have m:=I a
 have j:=I d
 clear a f d h
 go_in
 go_wp2_with (first|(rw[<-j];fail_if_success done)|fail)
 refine k.mono ?_
 rintro e v ⟨i,rfl,h,t,u,f⟩
 have d:=I h
 have a:=I (aa m f)
 clear h f k
 go_wp2
 go_ret
 exact⟨by rw[<-d];rfl,a⟩
theorem aaA(g o)(l)(x)(w)(h:w.rangeAt g o (cB l))(t:w.c g (o+24)=some (Y l.length))(D:l.length<=8):Calls prog 243 #[N g o,.agg x.bF.toArray] w λe b=>e=.returned (.bool (decide (x∈l)))/\w.grownBy b none:=by
 obtain⟨a,f⟩:=aw (w.alloc (.cells x.bF.toArray 131))
 have d:w.grownBy a none:=mN
 have i:a.rangeAt w.1.size 0 x.bF:=oX
 have A:a.c w.1.size 0=some (.string ⟨x.az.toArray⟩):=i 0 _ rfl
 have B:a.c w.1.size 1=some (Y x.time):=i 1 _ rfl
 have C:a.c w.1.size 2=some (Y x.count):=i 2 _ rfl
 obtain⟨n,p⟩:=aq l.length
 have v:Hid (∀m,Calls prog 256 #[N g o] (a.drewN m) λe b=>e=.returned (ς g o n 8)/\∃j,b=a.drewN j):=by
  intro m;refine(xm g o n (a.drewN m) G ((aN d m).cell (by rw[<-p];exact t) Z)).mono ?_;grind [World.drewN_drewN]
 have u:Hid (∀m,Calls prog 258 #[ς g o n 8,.agg x.bF.toArray] (a.drewN m) λe b=>e=.returned (.bool (decide (x∈l)))/\a.grownBy b none):=by
  intro m;refine(I5 g o n 8 l x (a.drewN m) p G G ((CF.bD (aN d m) (λ_ _=>False)).range h (λ_ _ e=>e))).mono ?_;rintro e b ⟨q,r⟩;exact⟨q,aa (aN (cC _ _) m) r⟩
 have y:Hid (∀W,a.grownBy W none->W.c w.1.size 0=some (.string ⟨x.az.toArray⟩)/\W.c w.1.size 1=some (Y x.time)/\W.c w.1.size 2=some (Y x.count)):=
  λW k=>⟨k.cell A Z,k.cell B Z,k.cell C Z⟩
 have k:=I d
 have j:=I f
 clear d i f h t p
 go_in
 go_wp2_with fail
 rw[<-j]
 go_region_held3 (λb=>b.c w.1.size 0=some (.string ⟨x.az.toArray⟩)/\b.c w.1.size 1=some (Y x.time)/\b.c w.1.size 2=some (Y x.count)) (go_keep) (first|(go_at_call 256;refine(v _).mono ?_;rintro e b ⟨rfl,m,rfl⟩)|(go_at_call 258;refine(u _).mono ?_;rintro e h ⟨rfl,f⟩;obtain⟨i,q,r⟩:=y h f;have d:=I (aa k f);clear f))
 all_goals
  go_wp2
  go_ret
  exact⟨rfl,d⟩
theorem tB{p:Prop}(h:p:=by rw[hW0];exact cy w _ none):p:=h
theorem zj{p:Prop}(h:p:=by injection e with _ e;exact e.symm):p:=h
theorem WM(g o)(x:PF)(w)(d:w.c g (o+24)=some (Y 8)):Calls prog 244 #[N g o,.agg x.bF.toArray] w λe a=>e=.returned (.bool false)/\w.grownBy a none:=by
 have a:=cy w (.cells x.bF.toArray 131) none
 have e:=a.cell d Z
 have b:=I a
 clear a
 go_in
 go_wp2
 go_ret
 exact⟨rfl,b⟩
theorem Ix{p:Prop}(h:p:=by
 exact World.cell?_setCell_same _ _ _ (by rw[j9 _ _ _ _ (λe=>by injection e with _ e;omega)];exact q1)):p:=h
theorem Zs(g o n:Nat)(l)(x)(w)(i:b9 w g (o+25))(h:w.rangeAt g o (cB l))(j:w.cell? (F g (o+24))=some (Y n))(C:Hid (l.length=n))(JG:n<8):Calls prog 244 #[N g o,.agg x.bF.toArray] w λe a=>e=.returned (.bool true)/\a.rangeAt g o (cB (l++[x]))/\a.cell? (F g (o+24))=some (Y ((n:Int)+1))/\CF w a (λb y=>b=g/\o<=y/\y<o+25):=by
 obtain⟨k,hW0⟩:=aw (w.alloc (.cells x.bF.toArray 131))
 have a:w.grownBy k none:=tB
 have f:k.rangeAt w.1.size 0 x.bF:=by rw[hW0];exact aS w x.bF.toArray _
 have x0:k.cell? (F w.1.size 0)=some (.string ⟨x.az.toArray⟩):=f 0 _ rfl
 have x1:k.cell? (F w.1.size 1)=some (Y x.time):=f 1 _ rfl
 have x2:k.cell? (F w.1.size 2)=some (Y x.count):=f 2 _ rfl
 have P:=a.cell j Z
 have m:w.1.size≠g:=λe=>by have:=i.lt;omega
 have d:=i.grown a
 have f0:=d.frozen (o+n*3)
 have f1:=d.frozen (o+n*3+1)
 have f2:=d.frozen (o+n*3+2)
 have f3:=d.frozen (o+24)
 obtain⟨d0,q0⟩:=cD.1 (d.some (o+n*3) G)
 obtain⟨d1,q1⟩:=cD.1 (d.some (o+n*3+1) G)
 obtain⟨d2,q2⟩:=cD.1 (d.some (o+n*3+2) G)
 have U:(n:Int)<8:=G
 have M:((n:Int)==8)=false:=mC
 have A:=I a
 have v:=I hW0
 have D:=I h
 have J:=I i
 clear a f hW0 h j d i
 go_in
 go_wp2_with (first|(rw[<-v];fail_if_success done)|fail)
 have V:o+n*3≠o+24:=G
 have W:o+n*3+1≠o+24:=G
 have X:o+n*3+2≠o+24:=G
 obtain⟨d,a⟩:=aw (((k.setCell (F g (o+n*3)) (.string ⟨x.az.toArray⟩)).setCell (F g (o+n*3+1)) (Y x.time)).setCell (F g (o+n*3+2)) (Y x.count))
 have r:∀y,d.cell? (F w.1.size y)=k.cell? (F w.1.size y):=λy=>by
  rw[a,World.cell?_setCell_far _ _ _ _ (λe=>m e.symm),World.cell?_setCell_far _ _ _ _ (λe=>m e.symm),World.cell?_setCell_far _ _ _ _ (λe=>m e.symm)]
 have f:∀y,y≠o+n*3->y≠o+n*3+1->y≠o+n*3+2->d.cell? (F g y)=k.cell? (F g y):=λy h i j=>by
  rw[a,j9 _ _ _ _ (λe=>j zj),j9 _ _ _ _ (λe=>i zj),j9 _ _ _ _ (λe=>h zj)]
 have K:Hid (d.cell? (F g (o+24))=some (Y n)/\d.cell? (F w.1.size 0)=some (.string ⟨x.az.toArray⟩)/\d.cell? (F w.1.size 1)=some (Y x.time)/\d.cell? (F w.1.size 2)=some (Y x.count)):=
  ⟨by rw[f _ V.symm W.symm X.symm];exact P,by rw[r];exact x0,by rw[r];exact x1,by rw[r];exact x2⟩
 have h:Hid (CF w d (λb y=>b=g/\o<=y/\y<o+25)):=by
  show CF _ _ _;rw[a];exact(((CF.bD A _).setCell g (o+n*3) _ (λ_=>⟨rfl,by omega,by omega⟩)).setCell g (o+n*3+1) _ (λ_=>⟨rfl,by omega,by omega⟩)).setCell g (o+n*3+2) _ (λ_=>⟨rfl,by omega,by omega⟩)
 have t:Hid (d.rangeAt g o (cB (l++[x]))):=by
  show World.rangeAt _ _ _ _;intro j u b;rw[nX]at b;have q:=ji l;rw[C]at q;by_cases B:j<n*3
  .rw[cX G]at b;rw[f _ G G G];exact A.cell (D j u b) Z
  .rw[dr G,q]at b;have p:j-n*3<3:=(by have:=(cM.1 b).1;simp[cB,PF.bF]at this;omega);have Q:d.cell? (F g (o+n*3))=some (.string ⟨x.az.toArray⟩):=by
    rw[a,j9 _ _ _ _ (λe=>by injection e with _ e;omega),j9 _ _ _ _ (λe=>by injection e with _ e;omega)];exact World.cell?_setCell_same _ _ _ q0
   have R:d.cell? (F g (o+n*3+1))=some (Y x.time):=by
    rw[a,j9 _ _ _ _ (λe=>by injection e with _ e;omega)];exact Ix
   have S:d.cell? (F g (o+n*3+2))=some (Y x.count):=by
    rw[a];exact World.cell?_setCell_same _ _ _ (by rw[j9 _ _ _ _ (λe=>by injection e with _ e;omega),j9 _ _ _ _ (λe=>by injection e with _ e;omega)];exact q2)
   obtain⟨i,T⟩:=aq (j-n*3);rw[T]at b p;have y:j=n*3+i:=G;subst y;match i,p with
   |0,_=>simp[cB,PF.bF]at b;rw[<-b];exact Q
   |1,_=>simp[cB,PF.bF]at b;rw[<-b];exact R
   |2,_=>simp[cB,PF.bF]at b;rw[<-b];exact S
 have L:Hid (d.frozen? (F g (o+24))=false):=(J.cf h).frozen _
 have i:=I a
 clear r f a
 have a:d.drew.cell? (F g (o+24))=some (Y n):=K.1
 have f:d.drew.frozen? (F g (o+24))=false:=L.o
 go_region
 all_goals
  rw[<-i]
  go_wp2
  go_ret
  refine⟨rfl,?_,World.cell?_setCell_same _ _ _ a,h.drew.setCell g (o+24) _ (λ_=>⟨rfl,by omega,by omega⟩)⟩
  intro j u b
  have B:=(cM.1 b).1
  rw[ji,cF,C,eL]at B
  show(d.setCell (F g (o+24)) (Y ((n:Int)+1))).cell? (F g (o+j))=some u
  rw[j9 _ _ _ _ (λe=>by injection e with _ e;omega)]
  exact t j u b
theorem Ot(a b):dW a b=dW b a:=by
 grind [dW]
theorem Y2(a b)(w:World)(nq)(f:bT a)(g:bT b):Calls prog 236 #[Y a,Y b] (w.drewN nq) λe d=>e=.returned (Y (dW a b))/\∃m,d=w.drewN m:=
 (WO a b _ f.1 f.2 g.1 g.2).mono dT
theorem PJ(a b)(w:World)(nq)(f:bT a)(g:bT b):Calls prog 221 #[Y a,Y b] (w.drewN nq) λe d=>e=.returned (Y (aW a b))/\∃m,d=w.drewN m:=
 (D9 a b _ f.1 f.2 g.1 g.2).mono dT
theorem yg(d g)(b h t)(w)(l:w.c d 3=some (N g 0))(n:w.c d 4=some (Y b))(o:w.c g 0=some (Y h))(i:bT b)(j:bT t):Calls prog 210 #[N d 0,Y t] w λe f=>e=.returned (.bool (decide (h<dW t b)))/\∃m,f=w.drewN m:=by
 have k:Hid (∀nq,Calls prog 236 #[Y b,Y t] (w.drewN nq) λe f=>e=.returned (Y (dW t b))/\∃m,f=w.drewN m):=λnq=>by rw[Ot];exact Y2 b t w nq i j
 clear i j
 generalize dW t b=a at *
 go_in
 go_wp2_with fail
 go_quiet (first|(go_at_call 236;exact k _))
 exact te
theorem CJ(h g)(b d t)(w)(l:w.c h 3=some (N g 0))(n:w.c h 4=some (Y b))(o:w.c g 0=some (Y d))(j:bT b)(f:bT d):Calls prog 184 #[N h 0,Y t] w λe i=>e=.returned (.bool (decide (aW b d<t)))/\∃m,i=w.drewN m:=by
 have k:Hid (∀nq,Calls prog 221 #[Y b,Y d] (w.drewN nq) λe i=>e=.returned (Y (aW b d))/\∃m,i=w.drewN m):=λnq=>PJ b d w nq j f
 clear j f
 generalize aW b d=a at *
 go_in
 go_wp2_with fail
 go_quiet (first|(go_at_call 221;exact k _))
 exact te
def SB(hb:Nat):Value:=.func (.func 210) #[N hb 0] #[]
def Ou(cb:Nat):Value:=.func (.func 257) #[] #[N cb 0]
structure yZ(w:World)(cb hb g:Nat)(now ax:Int):Prop where
 box:w.cell? (F cb 0)=some (SB hb)
 bU:w.cell? (F hb 3)=some (N g 0)
 now:w.cell? (F hb 4)=some (Y now)
 ax:w.cell? (F g 0)=some (Y ax)
theorem yZ.grown{w f:World}{d e g:Nat}{a b:Int}(h:yZ w d e g a b)(k:w.grownBy f none):yZ f d e g a b:=
 ⟨k.cell h.box Z,k.cell h.bU Z,k.cell h.now Z,k.cell h.ax Z⟩
def qM(ax now:Int)(y:PF):Bool:=decide (ax<dW y.time now)
theorem J5(n p g)(a k)(y)(w)(h:yZ w n p g a k)(m:bT a)(q:bT y.time):Calls prog 257 #[.agg y.bF.toArray,N n 0] w λe b=>e=.returned (.bool (qM k a y))/\w.grownBy b none:=by
 obtain⟨i,f⟩:=aw (w.alloc (.cells y.bF.toArray 131))
 have b:w.grownBy i none:=mN
 have o:i.rangeAt w.1.size 0 y.bF:=oX
 have u:i.c w.1.size 1=some (Y y.time):=o 1 _ rfl
 have d:=h.grown b
 have l:=d.box
 unfold SB at l
 have t:=I (yg p g a k y.time i d.bU d.now d.ax m q)
 have r:=I b
 have j:=I f
 clear b o f h d m q
 go_in
 go_wp2_with (first|(rw[<-j];fail_if_success done)|fail)
 refine t.mono ?_
 rintro e d ⟨rfl,m,rfl⟩
 have b:=I (aN r m)
 go_wp2
 go_ret
 exact⟨rfl,b⟩
theorem Ov(u x v g o n c)(a m)(l)(w)(d:yZ w u x v a m)(b:bT a)(f:∀y∈l,bT y.time)(hn:Hid (l.length=n))(M:n<=8)(P:n<=c)(h:w.rangeAt g o (cB l)):Calls prog 260 #[ς g o n c,Ou u] w λe i=>(e=.returned (Y (-1))/\(∀j(p:j<l.length),qM m a l[j]=false)\/∃k,∃J:k<l.length,e=.returned (Y (k:Int))/\qM m a l[k]=true/\∀j(p:j<l.length),j<k->qM m a l[j]=false)/\w.grownBy i none:=by
 have B:=I h
 have A:=I d
 have L:=I f
 have t:=I b
 clear h d f b
 unfold Ou
 go_in
 go_wp2
 go_loopw [5,8] (λ_ i wr=>∃k:Nat,k<=n/\i = Y k/\Hid (w.grownBy wr none)/\Hid (∀j(p:j<l.length),j<k->qM m a l[j]=false)) (λ_ i _=>n-(intOf i).toNat)
 case atStart=>exact⟨0,cS _,rfl,cC _ _,λj _ p=>by omega⟩
 case round=>
  obtain⟨k,J,rfl,h,D⟩:=hrel;by_cases hlt:k<n
  .have Q:(k:Int)<(n:Int):=G;have b:k<l.length:=nB;obtain⟨y,hy⟩:=aq (l[k]);have f:=B.o;have R:wr.c g (o+k*3)=some (.string ⟨y.az.toArray⟩):=h.cell (AA f k b 0 G _ sg) Z;have S:=h.cell (AA f k b 1 G _ sg) Z;have T:=h.cell (AA f k b 2 G _ sg) Z;have q:=I (J5 u x v a m y wr (A.grown h) t kO);obtain⟨d,i⟩:=aq (qM m a y);rw[i]at q;have C:=I hy;have r:=I i;clear hy i f;cases d with
   |true=>
    go_wp2_with (go_at_call 257;refine q.mono ?_;rintro e K ⟨rfl,i⟩;have f:=I (aa h i);clear i)
    go_wp2;go_ret;exact⟨.inr ⟨k,b,rfl,by rw[C];exact r,D⟩,f⟩
   |false=>
    go_wp2_with (go_at_call 257;refine q.mono ?_;rintro e K ⟨rfl,i⟩;have f:=I (aa h i);clear i)
    go_wp2;go_roundw
    case rel=>
     refine⟨k+1,by omega,by go_num,f.o,λj p i=>?_⟩;grind [Hid.o]
    case measure=>simp[intOf];omega
  .have i:k=n:=G;subst i;go_wp2;go_ret;exact⟨.inl ⟨rfl,kO⟩,h⟩
variable {ax now:Int}{l:List PF}
def zC:Array Value:=#[ε,Y 0,Y 0]
theorem SC(m):∀v∈(Builtin.zeroCells zC m).toList,v.oneCell'=true:=by
 intro v a;simp[Builtin.zeroCells]at a;obtain⟨i,_,e⟩:=a;have b:i % 3<3:=Nat.mod_lt _ G;have d:zC.size=3:=rfl;rw[d]at e;rw[<-e];generalize i % 3=j at *;match j,b with
 |0,_=>rfl
 |1,_=>rfl
 |2,_=>rfl
theorem aaD(w)(g o m c)(b)(e:0<m)(d:b9 w g (o+m*3)):
  (Builtin.clear_ #[397] b #[ς g o m c]).run Tryz.prog w=.ok (.tuple #[]) (w.setCells g o (Builtin.zeroCells zC m).toList):=by
 have f:(Builtin.zeroCells zC m).toList.length=m*3:=by simp[Builtin.zeroCells];rfl
 have a:=run_storeCells_cells (P:=Tryz.prog) g o (Builtin.zeroCells zC m).toList 0 w (by grind [b9.some]) (by grind [b9.frozen]) (SC m)
 simp only[fN]at a
 obtain⟨k,rfl⟩:∃k,m=k+1:=⟨m-1,by omega⟩
 simp[Builtin.clear_,run_underlying Tryz.underlying397,Value.cells]
 show((Sem.run Tryz.prog (storeCells ⟨g,o,none⟩ (Builtin.zeroCells zC (k+1)).toList) w).andThen _)=_
 rw[a]
 rfl
def Fy(g o:Nat)(b y:Nat):Prop:=b=g/\o<=y/\y<o+24
theorem yZ.cf{w i:World}{a b d g o:Nat}(h:yZ w a b d now ax)(k:CF w i (Fy g o))(j:a≠g)(f:b≠g)(l:0<o):yZ i a b d now ax:=
 ⟨k.cell h.box (λe=>j e.1),k.cell h.bU (λe=>f e.1),k.cell h.now (λe=>f e.1),k.cell h.ax (λe=>by have:=e.2.1;omega)⟩
def CQ(ax now:Int)(y:PF):Bool:=!qM ax now y
def nY(ax now:Int)(l:List PF):List PF:=l.filter (CQ ax now)
theorem Fz{k:Nat}(h:k<l.length):nY ax now (l.take (k+1))=nY ax now (l.take k)++(if CQ ax now l[k]=true then [l[k]] else []):=by
 unfold nY;rw[dy h,List.filter_append];cases a:CQ ax now l[k]<;>simp[a]
theorem BL(h:∀j(a:j<l.length),qM ax now l[j]=false):nY ax now l=l:=by
 unfold nY;apply List.filter_eq_self.2;intro x b;obtain⟨j,a,rfl⟩:=List.getElem_of_mem b;simp[CQ,h j a]
theorem Ow{k:Nat}(d:k<l.length)(a:qM ax now l[k]=true)(h:∀j(b:j<l.length),j<k->qM ax now l[j]=false):nY ax now (l.take (k+1))=l.take k:=by
 rw[Fz d,BL (l:=l.take k) (λj b=>?_)]
 .simp[CQ,a]
 grind
theorem Ox(ax now)(l):(nY ax now l).length<=l.length:=List.length_filter_le _ _
set_option maxHeartbeats 2000000
def FB(w:World)(g o:Nat)(x:PF):World:=((w.setCell (F g o) (.string ⟨x.az.toArray⟩)).setCell (F g (o+1)) (Y x.time)).setCell (F g (o+2)) (Y x.count)
theorem Oy(w)(g o)(x)(y)(a:y≠o)(b:y≠o+1)(d:y≠o+2):(FB w g o x).cell? (F g y)=w.cell? (F g y):=by
 rw[FB,j9 _ _ _ _ dT,j9 _ _ _ _ dT,j9 _ _ _ _ dT]
theorem Jx{p:Prop}(h:p:=by
 exact World.cell?_setCell_same _ _ _ (by rw[j9 _ _ _ _ dT,j9 _ _ _ _ dT];exact q2)):p:=h
theorem Bk{p:Prop}(h:p:=by
 grind [World.cell?_setCell_same,j9]):p:=h
theorem we{p:Prop}(h:p:=by
 grind [World.cell?_setCell_same]):p:=h
theorem SE(w)(g o i)(x)(l)(e:b9 w g (o+i*3+3))(q:l.length=i)(h:w.rangeAt g o (cB l)):(FB w g (o+i*3) x).rangeAt g o (cB (l++[x])):=by
 obtain⟨r,B⟩:=cD.1 (e.some (o+i*3) G);obtain⟨t,C⟩:=cD.1 (e.some (o+i*3+1) G);obtain⟨v,q2⟩:=cD.1 (e.some (o+i*3+2) G);intro j u a;rw[nX]at a;have d:=ji l;rw[q]at d;by_cases A:j<i*3
 .rw[cX G]at a;rw[Oy _ _ _ _ _ G G G];exact h j u a
 .rw[dr G,d]at a;have b:j-i*3<3:=by grind [PF.bF,cB]
  have y:(FB w g (o+i*3) x).cell? (F g (o+i*3))=some (.string ⟨x.az.toArray⟩):=by
   rw[FB,j9 _ _ _ _ dT,j9 _ _ _ _ dT];exact we
  have m:(FB w g (o+i*3) x).cell? (F g (o+i*3+1))=some (Y x.time):=by
   rw[FB,j9 _ _ _ _ dT];exact Bk
  have n:(FB w g (o+i*3) x).cell? (F g (o+i*3+2))=some (Y x.count):=by
   rw[FB];exact Jx
  obtain⟨k,p⟩:=aq (j-i*3);rw[p]at a b;have f:j=i*3+k:=G;subst f;match k,b with
  |0,_=>grind [PF.bF,cB]
  |1,_=>simp[cB,PF.bF]at a;rw[<-a];exact m
  |2,_=>simp[cB,PF.bF]at a;rw[<-a];exact n
theorem Oz(T hb dg g o n c)(now ax)(l)(w)(d:yZ w T hb dg now ax)(h1:T≠g)(h2:hb≠g)(h3:0<o)(b:bT now)(f:∀y∈l,bT y.time)(hn:Hid (l.length=n))(JG:n<=8)(hc:n<=c)(ad:c<=8)(i:b9 w g (o+24))(h:w.rangeAt g o (cB l)):Calls Tryz.prog 255 #[ς g o n c,Ou T] w λe a=>e=.returned (ς g o (nY ax now l).length c)/\a.rangeAt g o (cB (nY ax now l))/\CF w a (Fy g o):=by
 have a:=I (Ov T hb dg g o n c now ax l w d b f hn JG hc h)
 have HH:=I h
 have HF:=I d
 have HT:=I f
 have ab:=I b
 have HL:=I i
 clear h d f b i
 unfold Ou at a
 unfold Ou
 go_enter Tryz.func255,Tryz.ntmps255
 go_wp2_with fail
 refine a.mono ?_
 clear a
 rintro e w1 ⟨⟨rfl,a⟩|⟨k,hk,rfl,U,V⟩,g1⟩
 .have b:=I a;have J:=I g1;clear a g1;go_wp2;go_ret;refine⟨?_,?_,CF.bD J _⟩
  .rw[BL b.o,hn];rfl
  .rw[BL b.o];exact(CF.bD J (λ_ _=>False)).range HH (λ_ _ e=>e)
 .have ah:k<n:=by rw[<-hn];exact hk
  have nG:((k:Int)==-1)=false:=mC;have HK:=I (Ow hk U V);have J:=I g1;clear U V g1;go_wp2;go_loopw [5,6,7] (λb a _ wr=>∃i j:Nat,i<j/\j<=n/\b = Y i/\a = Y j/\Hid ((nY ax now (l.take j)).length=i/\wr.rangeAt g o (cB (nY ax now (l.take j)))/\wr.rangeAt g (o+j*3) (cB (l.drop j))/\CF w wr (Fy g o))) (λ_ a _ _=>n-(intOf a).toNat)
  case atStart=>
   refine⟨k,k+1,by omega,by omega,rfl,by go_num,?_,?_,?_,CF.bD J.o _⟩
   .rw[HK,ew];omega
   .rw[HK];have a:=(CF.bD J (λ_ _=>False)).range HH (λ_ _ e=>e);rw[<-eK k l,nX]at a;exact zm a
   .have a:=(CF.bD J (λ_ _=>False)).range HH (λ_ _ e=>e);rw[<-eK (k+1) l,nX]at a;have b:=tC a;rw[ji,ew,gn G]at b;exact b
  case round=>
   obtain⟨i,j,af,ag,rfl,rfl,C⟩:=hrel;by_cases hlt:j<n
   .have N7:(j:Int)<(n:Int):=G;have b:j<l.length:=nB;obtain⟨y,X⟩:=aq (l[j]);have v:=C.2.2.1;have D:(l.drop j)[0]?=some y:=(by rw[List.getElem?_drop,fN,cN b,X]);have m:0<(l.drop j).length:=(by rw[ef];omega);have t:(l.drop j)[0]=y:=(by rw[cN m]at D;injection D);have y0:wr.c g (o+j*3)=some (.string ⟨y.az.toArray⟩):=AA v 0 m 0 G _ (by rw[t];rfl);have y1:wr.c g (o+j*3+1)=some (Y y.time):=AA v 0 m 1 G _ (by rw[t];rfl);have y2:wr.c g (o+j*3+2)=some (Y y.count):=AA v 0 m 2 G _ (by rw[t];rfl);obtain⟨Wb,p⟩:=aw (wr.alloc (.cells #[.string ⟨y.az.toArray⟩,Y y.time,Y y.count] 131));have B:wr.grownBy Wb none:=(by rw[p];exact cy wr _ none);have r:Wb.rangeAt wr.1.size 0 y.bF:=(by rw[p];exact aS wr y.bF.toArray _);have HD:=I (J5 T hb dg now ax y Wb ((HF.cf C.2.2.2 h1 h2 h3).grown B) ab (HT y (by rw[<-X];exact eh b)))
    have HX:Hid (∀W,Wb.grownBy W none->W.c wr.1.size 0=some (.string ⟨y.az.toArray⟩)/\W.c wr.1.size 1=some (Y y.time)/\W.c wr.1.size 2=some (Y y.count)):=
     λW q=>⟨q.cell (r 0 _ rfl) Z,q.cell (r 1 _ rfl) Z,q.cell (r 2 _ rfl) Z⟩
    obtain⟨d,x⟩:=aq (qM ax now y);rw[x]at HD;have a:=Fz (ax:=ax) (now:=now) b;rw[X]at a;have h:(if CQ ax now y=true then [y] else [])=(if d=false then [y] else []):=(by unfold CQ;rw[x];cases d<;>rfl);rw[h]at a;have Q:=I a;have OA:=I (HL.cf C.2.2.2);have P:=I B;have R:=I p;have ae:i<8:=G;have f:l.drop j=y::l.drop (j+1):=(by rw[<-X];exact List.drop_eq_getElem_cons b);have M:Hid (∀W:World,W.rangeAt g (o+j*3) (cB (l.drop j))->W.rangeAt g (o+(j+1)*3) (cB (l.drop (j+1)))):=by
     intro W u;rw[f]at u;have e:cB (y::l.drop (j+1))=y.bF++cB (l.drop (j+1)):=(by simp[cB]);rw[e]at u;have:=tC u;rw[show o+(j+1)*3=o+j*3+y.bF.length from by show _=_+3;omega];exact this
    clear X v D m t B r p x a h f;cases d with
    |true=>
     go_wp2_with (go_at_call 257;rw[<-R];refine HD.mono ?_;rintro e A ⟨rfl,L⟩;have f:=I (aa P L);clear L)
     go_wp2;go_roundw
     case rel=>
      refine⟨i,j+1,by omega,by omega,rfl,by go_num,?_⟩;have a:=Q.o;rw[b' H,gf]at a;obtain⟨x,K,a3,S⟩:=C.o;have h:CF wr A (λ_ _=>False):=CF.bD f _;rw[a];exact⟨x,h.range K (λ_ _ e=>e),M A (h.range a3 (λ_ _ e=>e)),S.grown f⟩
     case measure=>simp[intOf];omega
    |false=>
     go_wp2_with (go_at_call 257;rw[<-R];refine HD.mono ?_;rintro e A ⟨rfl,L⟩;obtain⟨e0,e1,e2⟩:=HX A L;have f:=I (aa P L);clear L;have u:=OA.grown f.o;have f0:=u.frozen (o+i*3);have f1:=u.frozen (o+i*3+1);have f2:=u.frozen (o+i*3+2);obtain⟨d0,q0⟩:=cD.1 (u.some (o+i*3) G);obtain⟨d1,q1⟩:=cD.1 (u.some (o+i*3+1) G);obtain⟨d2,q2⟩:=cD.1 (u.some (o+i*3+2) G);have W:=I u;clear u)
     go_wp2;go_roundw
     case rel=>
      refine⟨i+1,j+1,by omega,by omega,by go_num,by go_num,?_⟩;have a:=Q.o;rw[dQ trivial]at a;obtain⟨x,K,a3,S⟩:=C.o;have h:CF wr A (λ_ _=>False):=CF.bD f _;rw[a];have r1:=SE A g o i y _ (W.mono G) x (h.range K (λ_ _ e=>e));have r2:(FB A g (o+i*3) y).rangeAt g (o+j*3) (cB (l.drop j)):=by
       intro q u L;rw[Oy _ _ _ _ _ G G G];exact(h.range a3 (λ_ _ e=>e)) q u L
      have r3:CF w (FB A g (o+i*3) y) (Fy g o):=(((S.grown f).setCell g (o+i*3) _ (λ_=>⟨rfl,by omega,by omega⟩)).setCell g (o+i*3+1) _ (λ_=>⟨rfl,by omega,by omega⟩)).setCell g (o+i*3+2) _ (λ_=>⟨rfl,by omega,by omega⟩);exact⟨by rw[cF,x];rfl,r1,M _ r2,r3⟩
     case measure=>simp[intOf];omega
   .have h:j=n:=G;subst h
    have m:=
     λa=>aaD wr g (o+i*3) (j-i) (c-i) a G ((HL.cf C.2.2.2).mono G)
    have f:c≠i:=G;have p:i≠c:=G;have d:(i:Int)<=(c:Int):=G;go_wp2;go_ret;have b:=cW (by rw[hn];exact cA _);have r:(Builtin.zeroCells zC (j-i)).toList.length=(j-i)*3:=(by simp[Builtin.zeroCells];rfl);obtain⟨x,K,_,S⟩:=C.o;rw[b]at x K;refine⟨by rw[x];rfl,?_,CF.setCells g _ _ wr S (λq a _=>⟨rfl,by omega,by rw[r]at a;omega⟩)⟩;intro q u L;have a:=(cM.1 L).1;rw[ji,x]at a;rw[World.cell?_setCells_out g _ _ wr _ (λ_ _=>Or.inl (by show o+q<_;omega))];exact K q u L
theorem OB(k x g o n)(a i)(l:List PF)(w)(Q:w.c k 3=some (N x 0))(R:w.c k 4=some (Y a))(T:w.c x 0=some (Y i))(X:k≠g)(h3:0<o)(S:bT a)(U:∀y∈l,bT y.time)(hn:Hid (l.length=n))(C:n<=8)(A:b9 w g (o+25))(h:w.rangeAt g o (cB l))(J:w.c g (o+24)=some (Y n)):Calls prog 242 #[N g o,SB k] w λe p=>e=.returned (.tuple #[])/\p.rangeAt g o (cB (nY i a l))/\p.c g (o+24)=some (Y (nY i a l).length)/\CF w p (λb y=>b=g/\o<=y/\y<o+25):=by
 have v:∀(t)(first f)(w),(Instr.makeFunc t first f).run prog w=.ok (.func t first f) w:=λ_ _ _ _=>rfl
 obtain⟨q,j⟩:=aw (w.alloc (.cells #[SB k] 281))
 have d:w.grownBy q none:=mN
 have u:q.cell? (F w.1.size 0)=some (SB k):=by rw[j];exact aS w #[SB k] _ 0 _ rfl
 have L:w.1.size≠g:=λe=>by have:=A.lt;omega
 have P:=I (xm g o n q C (d.cell J Z))
 have r:∀m,yZ (q.drewN m) w.1.size k x a i:=λm=>⟨u,(aN d m).cell Q Z,(aN d m).cell R Z,(aN d m).cell T Z⟩
 have M:Hid (∀m,Calls prog 255 #[ς g o n 8,.func (.func 257) #[] #[N w.1.size 0]] (q.drewN m) λe p=>e=.returned (ς g o (nY i a l).length 8)/\p.rangeAt g o (cB (nY i a l))/\CF w p (Fy g o)):=by
  intro m;refine(Oz w.1.size k x g o n 8 a i l (q.drewN m) (r m) L X h3 S U hn C C G ((A.grown (aN d m)).mono G) ((CF.bD (aN d m) (λ_ _=>False)).range h (λ_ _ e=>e))).mono ?_;rintro e p ⟨B,D,K⟩;exact⟨B,D,K.before (aN d m)⟩
 have W:=I A
 have B:=I j
 have p:=I (Ox i a l)
 obtain⟨K,D⟩:=aq (nY i a l)
 rw[D]at M p
 rw[D]
 have ab:K.length<=8:=kO
 have V:=I J
 clear v d u r j A h J Q R T D S U
 have v:∀(t)(first f)(w),(Instr.makeFunc t first f).run prog w=.ok (.func t first f) w:=λ_ _ _ _=>rfl
 unfold SB at *
 go_in
 go_wp2_with (first
  |(rw[<-B];fail_if_success done)
  |(go_at_call 256;refine P.mono ?_;clear P;rintro e t ⟨rfl,m,rfl⟩)
  |(go_at_call 255;refine(M _).mono ?_;rintro e u ⟨rfl,j,d⟩;have h:=I j;have f:=I d;have r:=d.cell V (λe=>by have:=e.2.2;omega);have A:=(W.cf d).frozen (o+24);clear j d))
 go_wp2
 go_end0
 refine⟨rfl,?_,World.cell?_setCell_same _ _ _ r,(f.mono (λb y _ e=>⟨e.1,e.2.1,by have:=e.2.2;omega⟩)).setCell g (o+24) _ G⟩
 intro j u b
 have d:=(cM.1 b).1
 rw[ji]at d
 rw[j9 _ _ _ _ dT]
 exact h j u b
theorem SF(b a)(l):nY b a l=iX b a l:=by
 unfold nY iX;congr 1;funext y;unfold CQ qM;grind
theorem FD(g j)(b i)(x:PF)(w)(m:w.c g 3=some (N j 0))(n:w.c g 4=some (Y b))(p:w.c j 0=some (Y i))(o:bT b)(r:bT x.time)(t:i<dW x.time b):Calls prog 220 #[N g 0,.agg x.bF.toArray] w λe a=>e=.returned (Y 37)/\w.grownBy a none:=by
 obtain⟨f,d⟩:=aw (w.alloc (.cells x.bF.toArray 131))
 have a:w.grownBy f none:=mN
 have q:f.rangeAt w.1.size 0 x.bF:=oX
 have v:f.c w.1.size 1=some (Y x.time):=q 1 _ rfl
 have k:=yg g j b i x.time f (a.cell m Z) (a.cell n Z) (a.cell p Z) o r
 rw[ee t]at k
 have l:=I k
 have u:=I a
 have h:=I d
 clear a q d m n p o r t k
 go_in
 go_wp2_with (first
  |(rw[<-h];fail_if_success done)
  |(go_at_call 210;refine l.mono ?_;clear l;rintro e a ⟨rfl,m,rfl⟩))
 go_wp2
 go_ret
 exact⟨rfl,aN u m⟩
theorem Dy(n f)(d g)(l)(x)(w)(v:w.c n 3=some (N f 0))(D:w.c n 4=some (Y d))(L:w.c f 0=some (Y g))(h2:n≠f)(J:bT d)(V:bT x.time)(U:∀y∈l,bT y.time)(JG:l.length<=8)(C:b9 w f 188)(h:w.rangeAt f 163 (cB l))(T:w.c f 187=some (Y l.length))(u:¬ g<dW x.time d):Calls prog 220 #[N n 0,.agg x.bF.toArray] w λe a=>e=.returned (Y (bM g d l x))/\a.rangeAt f 163 (cB (bK g d l x))/\a.c f 187=some (Y (bK g d l x).length)/\CF w a (λb y=>b=f/\163<=y/\y<188):=by
 obtain⟨j,r⟩:=aw (w.alloc (.cells x.bF.toArray 131))
 have i:w.grownBy j none:=mN
 have B:j.rangeAt w.1.size 0 x.bF:=oX
 have x1:j.c w.1.size 1=some (Y x.time):=B 1 _ rfl
 have t:w.1.size≠f:=λe=>by have:=C.lt;omega
 have M:=yg n f d g x.time j (i.cell v Z) (i.cell D Z) (i.cell L Z) J V
 rw[cY u]at M
 have R:=I M
 obtain⟨K,A⟩:=aq (iX g d l)
 have p:nY g d l=K:=by rw[SF,A]
 have S:Hid (∀m,Calls prog 242 #[N f 163,.func (.func 210) #[N n 0] #[]] (j.drewN m) λe a=>e=.returned (.tuple #[])/\a.rangeAt f 163 (cB K)/\a.cell? (F f 187)=some (Y K.length)/\CF j a (λb y=>b=f/\163<=y/\y<188)):=by
  intro m;have a:=aN i m;have:=OB n f f 163 l.length d g l (j.drewN m) (a.cell v Z) (a.cell D Z) (a.cell L Z) h2 G J U (I rfl) JG (C.grown a) ((CF.bD a (λ_ _=>False)).range h (λ_ _ e=>e)) (a.cell T Z);rw[p]at this;refine this.mono ?_;grind [CF.iE]
 have P:K.length<=8:=by grind [Ox]
 have X:Hid (∀W,CF j W (λb y=>b=f/\163<=y/\y<188)->W.c w.1.size 0=some (.string ⟨x.az.toArray⟩)/\W.c w.1.size 1=some (Y x.time)/\W.c w.1.size 2=some (Y x.count)):=
  λW q=>⟨q.cell (B 0 _ rfl) (λe=>t e.1),(by grind [CF.cell]),q.cell (B 2 _ rfl) (λe=>t e.1)⟩
 have a:bM g d l x=if x∈K then 34 else if 8<=K.length then 60 else 0:=by rw[bM,A]
 have b:bK g d l x=if bM g d l x=0 then K++[x] else K:=by rw[bK,A]
 have SG:=i.cell v Z
 have vZ:=I SG
 have Q:=I i
 have y:=I r
 have W:=I (C.grown i)
 have o:=I (cZ a b)
 have ab:∀(q)(first k)(w),(Instr.makeFunc q first k).run prog w=.ok (.func q first k) w:=λ_ _ _ _=>rfl
 clear i B r v D L J U V u M A p C h T a b
 go_in
 go_wp2_with (first
  |(rw[<-y];fail_if_success done)
  |(go_at_call 210;refine R.mono ?_;clear R;rintro e D ⟨rfl,m,rfl⟩)
  |(go_at_call 242;refine(S _).mono ?_;clear S;rintro e u ⟨rfl,p,i,h⟩;obtain⟨A,B,C⟩:=X u h;have k:=I p;have r:=I i;have v:=I h;have q:=I (aaA f 163 K x u p i P);clear p i h))
 by_cases p:x∈K
 .have m:=q;rw[ee p]at m;have u:=I p;clear q p;refine m.mono ?_;rintro e w3 ⟨rfl,i⟩;have h:=I i;clear i m;go_wp2;go_ret;have a:bM g d l x=34:=by rw[o.1,dQ u.o]
  have b:bK g d l x=K:=by rw[o.2,a,b' H]
  rw[b,a];exact⟨rfl,(CF.bD h (λ_ _=>False)).range k (λ_ _ e=>e),h.cell r Z,(v.before Q).grown h⟩
 .have m:=q;rw[cY p]at m;have u:=I p;clear q p;refine m.mono ?_;rintro e w3 ⟨rfl,i⟩;have D:=i.cell A Z;have J:=i.cell B Z;have L:=i.cell C Z;have h:=I i;clear i m;by_cases i:K.length=8
  .have m:=r.o;rw[i]at m;have q:=I (WM f 163 x w3 (h.cell m Z));have p:=I i;clear m i;go_wp2_with (go_at_call 244;refine q.mono ?_;rintro e C ⟨rfl,A⟩;have m:=I (aa h A);clear A)
   go_wp2;go_ret;have a:bM g d l x=60:=(by rw[o.1,b' u.o,dQ (by have:=p.o;omega)]);have b:bK g d l x=K:=(by rw[o.2,a,b' H]);rw[b,a];exact⟨rfl,(CF.bD m (λ_ _=>False)).range k (λ_ _ e=>e),m.cell r Z,(v.before Q).grown m⟩
  .have q:=I (Zs f 163 K.length K x w3 ((W.cf v).grown h) ((CF.bD h (λ_ _=>False)).range k (λ_ _ e=>e)) (h.cell r Z) (I rfl) G);have p:=I i;clear i;go_wp2_with (go_at_call 244;refine q.mono ?_;rintro e C ⟨rfl,v,r,m⟩;have k:=I v;have B:=I r;have A:=I m;clear v r m)
   go_wp2;go_ret;have a:bM g d l x=0:=(by rw[o.1,b' u.o,b' (by have:=p.o;omega)]);have b:bK g d l x=K++[x]:=(by rw[o.2,a,dQ rfl]);rw[b,a];refine⟨rfl,k,?_,(by grind [Hid.o,CF.grown,CF.before,CF.trans])⟩;grind [Hid.o]
theorem fU{a b:Bool}(h:a=b):Ending.returned (.bool a)=.returned (.bool b):=by rw[h]
theorem FE(b o)(e:BE)(a)(w)(h:w.c b (o+2)=some (Y e.bB)):Calls prog 207 #[N b o,Y a] w λr d=>r=.returned (.bool (e.gone a))/\d=w:=by
 unfold BE.gone
 obtain⟨x,d⟩:=aq e.bB
 rw[d]at h
 rw[d]
 clear d
 by_cases d:x=0
 .subst d;go_in;go_wp2;go_ret;exact⟨fU Z,rfl⟩
 .go_in;go_wp2;go_ret;exact⟨fU (by simp[d]),rfl⟩
theorem WQ(b o)(e:BE)(n)(w)(j:w.c b (o+1)=some (Y e.aH))(k:w.c b (o+2)=some (O (e.key.toNat:Int)))(l:w.c b (o+3)=some (O (e.before.toNat:Int)))(a:1<=e.aH)(d:e.aH<=9223372036854775807):Calls prog 217 #[N b o,Y n] w λr f=>r=.returned (.tuple #[O (((e.keyOf n).getD 0).toNat:Int),.bool (e.keyOf n).isSome])/\f=w:=by
 unfold BE.keyOf
 obtain⟨x,f⟩:=aq e.aH
 rw[f]at j a d
 rw[f]
 clear f
 by_cases f:n=x
 .subst f;rw[dQ rfl];go_in;go_wp2;exact lP
 .rw[b' f];by_cases g:n=x-1
  .subst g;by_cases h:1<x
   .rw[dQ ⟨rfl,h⟩];have i:0<x-1:=G;go_in;go_wp2;exact lP
   .rw[b' (λq=>h q.2)];have i:¬ 0<x-1:=G;go_in;go_wp2;exact lP
  .rw[b' (λq=>g q.1)];go_in;go_wp2;exact lP
theorem Y1(n)(k)(e:k<63):bits .and .i64 n (2 ^ k)=if aJ n (2 ^ k)=true then 2 ^ k else 0:=by
 have g:(2:Int) ^ k<2 ^ 63:=by
  have h:=Nat.pow_lt_pow_right (a:=2) H e;exact_mod_cast h
 have f:(0:Int)<2 ^ k:=by
  have h:=Nat.pow_pos (n:=k) (show 0<2 by decide);exact_mod_cast h
 have b:BitVec.ofInt 64 (2 ^ k)=BitVec.twoPow 64 k:=by
  apply BitVec.eq_of_toNat_eq;rw[xZ,BitVec.toNat_twoPow];have:((2:Int) ^ k % 18446744073709551616)=2 ^ k:=Int.emod_eq_of_lt G G;rw[this];have d:((2:Int) ^ k).toNat=2 ^ k:=by
   have:(2:Int) ^ k=((2 ^ k:Nat):Int):=by simp
   rw[this,Int.toNat_natCast]
  rw[d,eI (Nat.pow_lt_pow_right H G)]
 rw[LF,b,BitVec.and_twoPow,lu n k G];split
 .rw[<-b,BitVec.toInt_ofInt];exact Int.bmod_eq_of_le G G
 .rfl
theorem sI(n f)(k)(a:f=2 ^ k)(d:k<63):(bits .and .i64 n f==f)=aJ n f:=by
 subst a;have b:(0:Int)<2 ^ k:=by
  have h:=Nat.pow_pos (n:=k) (show 0<2 by decide);exact_mod_cast h
 grind [Y1]
theorem AB(b o)(e:BE)(f)(k)(w)(a:f=2 ^ k)(d:k<63)(h:w.c b (o+3)=some (Y e.ae)):Calls prog 208 #[N b o,Y f] w λr g=>r=.returned (.bool (e.has f))/\g=w:=by
 have g:=I (sI e.ae f k a d)
 clear a d
 go_in
 go_wp2
 go_ret
 exact⟨fU g,rfl⟩
theorem KB{p:Prop}(h:p:=by
 clear h1 h2 h3
 go_in
 go_wp2_with (first
  |(go_at_call 221;refine HA.mono ?_;clear HA;rintro e w1 ⟨rfl,rfl⟩)
  |(go_at_call 221;refine HB.mono ?_;clear HB;rintro e w1 ⟨rfl,rfl⟩))
 all_goals
  go_ret
  refine⟨bE ?_,rfl⟩
  unfold gU kB
  (repeat' split at *)<;>omega):p:=h
theorem LQ(d g h f)(w)(h1:bT d)(h2:bT h)(h3:bT f):Calls prog 212 #[Y d,Y g,Y h,Y f] w λr i=>r=.returned (Y (gU (kB g) (gU (aW d h) (aW d f))))/\i=w:=by
 have HA:=I (D9 d h w h1.1 h1.2 h2.1 h2.2)
 have HB:=I (D9 d f w h1.1 h1.2 h3.1 h3.2)
 generalize aW d h=a at *
 generalize aW d f=b at *
 by_cases i:g=0
 .subst i;exact KB
 .have j:(g==0)=false:=dT;exact KB
structure fu(w:World)(b:Nat)(x s:BE):Prop where
 az:w.rangeAt b 0 x.bF
 aV:w.rangeAt b 8 s.bF
theorem fu.c{w:World}{b:Nat}{x s:BE}(h:fu w b x s)(k)(v)(a:x.bF[k]?=some v):w.cell? (F b k)=some v:=by
 have:=h.az k v a;rwa [cR]at this
theorem fu.s{w:World}{b:Nat}{x s:BE}(h:fu w b x s)(k)(v)(a:s.bF[k]?=some v):w.cell? (F b (8+k))=some v:=h.aV k v a
theorem LN{p:Prop}(h:p:=by
 rw[hx]at HA
 clear hx
 go_in
 go_wp2_with (first
  |(go_at_call 208;refine HA.mono ?_;clear HA;rintro e w1 ⟨rfl,rfl⟩)
  |(go_at_call 208;refine HB.mono ?_;clear HB;rintro e w1 ⟨rfl,rfl⟩))
 go_wp2
 go_ret
 exact⟨fU Z,rfl⟩):p:=h
theorem rC(b)(x s)(f)(k)(w)(a:f=2 ^ k)(d:k<63)(h:fu w b x s):Calls prog 211 #[N b 0,Y f] w λr g=>r=.returned (.bool (x.has f&&s.has f))/\g=w:=by
 have HA:=I (AB b 4 x f k w a d (h.c 7 _ rfl))
 have HB:=I (AB b 12 s f k w a d (h.s 7 _ rfl))
 clear h a d
 cases hx:x.has f with
 |true=>
  exact LN
 |false=>
  exact LN
theorem FH(a d e b)(w:World)(nq)(f:bT a)(g:bT e)(h:bT b):Calls prog 212 #[Y a,Y d,Y e,Y b] (w.drewN nq) λr i=>r=.returned (Y (gU (kB d) (gU (aW a e) (aW a b))))/\∃m,i=w.drewN m:=
 (LQ a d e b _ f g h).mono dT
theorem OC(b)(x s)(d e)(w)(h:fu w b x s)(f:bT d)(g:bT x.bH)(i:bT s.bH):Calls prog 176 #[N b 0,Y d,Y e] w λr j=>r=.returned (Y (gU (kB e) (gU (aW d x.bH) (aW d s.bH))))/\∃m,j=w.drewN m:=by
 have j:=I (λnq=>FH d e x.bH s.bH w nq f g i)
 have k:=h.c 4 _ rfl
 have l:w.c b 12=some (Y s.bH):=h.s 4 _ rfl
 clear h f g i
 generalize gU (kB e) (gU (aW d x.bH) (aW d s.bH))=a at *
 go_in
 go_wp2_with fail
 go_quiet (first|(go_at_call 212;exact j _))
 exact te
theorem FI(b)(x s)(d e)(w)(h:fu w b x s)(f:bT d)(g:bT x.aD)(i:bT s.aD):Calls prog 179 #[N b 0,Y d,Y e] w λr j=>r=.returned (Y (gU (kB e) (gU (aW d x.aD) (aW d s.aD))))/\∃m,j=w.drewN m:=by
 have j:=I (λnq=>FH d e x.aD s.aD w nq f g i)
 have k:=h.c 5 _ rfl
 have l:w.c b 13=some (Y s.aD):=h.s 5 _ rfl
 clear h f g i
 generalize gU (kB e) (gU (aW d x.aD) (aW d s.aD))=a at *
 go_in
 go_wp2_with fail
 go_quiet (first|(go_at_call 212;exact j _))
 exact te
theorem uk{e:Func}{a:Tmp}{f:TypeId}(h:e.results=#[.cell a f])(d)(P)(w)(b)(hp:d.getD a undef = N b 0)(x)(hl:(loadVar f ⟨b,0,none⟩).run P w=.ok x w):
  (results e d).run P w=.ok x w:=by
 have hp':d[a]?.getD undef = N b 0:=rI
 exact rL
theorem Tryz.aeG:(prog.info? 335).map (·.size)=some 2:=by kernel_rfl
theorem um(b o)(e:BE)(w)(d:w.c b (o+1)=some (Y e.aH))(f:w.c b (o+2)=some (O (e.key.toNat:Int))):Calls prog 177 #[N b o] w λr a=>r=.returned (.agg #[Y e.aH,O (e.key.toNat:Int)])/\w.grownBy a none:=by
 have a:=cy w (.cells #[Y 0,O 0] 335) none
 have g:=a.cell d Z
 have h:=a.cell f Z
 clear a
 go_in
 go_wp2_with fail
 go_region
 all_goals
  go_wp2
  exact bodyPost_ret (uk results177 _ _ _ w.1.size rfl _ ((dm.new w #[Y e.aH,O (e.key.toNat:Int)] 335).drew.load 335 _ underlying335 rfl Tryz.aeG)) rfl ⟨rfl,bg (cy w _ none)⟩
def CU(way:Int):Int:=if way=16 then 4 else if way=32 then 16 else if way=64 then 1 else if way=128 then 2 else 0
theorem gH(a)(w):Calls prog 223 #[Y a] w λr b=>r=.returned (Y (CU a))/\b=w:=by
 by_cases b:a=16
 .subst b;go_in;exact lR
 by_cases d:a=32
 .subst d;go_in;exact lR
 by_cases f:a=64
 .subst f;go_in;exact lR
 by_cases g:a=128
 .subst g;go_in;exact lR
 have e:CU a=0:=by unfold CU;rw[b' b,b' d,b' f,b' g]
 rw[e];clear e;go_in;exact lR
def jP(n:Int)(x s:BE):Int:=(if (aJ n 1&&(x.has 4&&s.has 4))=true then 1 else 0)+(if (aJ n 2&&(x.has 8&&s.has 8))=true then 2 else 0)+(if (aJ n 4&&(x.has 2&&s.has 2))=true then 4 else 0)
def iU(n:Int)(x s:BE)(k:Nat):Int:=(if (aJ n 1&&(x.has 4&&s.has 4))=true then(if 0<k then 1 else 0) else 0)+(if (aJ n 2&&(x.has 8&&s.has 8))=true then(if 1<k then 2 else 0) else 0)+(if (aJ n 4&&(x.has 2&&s.has 2))=true then(if 2<k then 4 else 0) else 0)
theorem fu.grown{w d:World}{b:Nat}{x s:BE}(h:fu w b x s)(k:w.grownBy d none):fu d b x s:=
 ⟨λi v a=>k.cell (h.az i v a) Z,λi v a=>k.cell (h.aV i v a) Z⟩
theorem B0{p:Prop}(h:p:=by
 unfold iU
 generalize (aJ n 1&&(x.has 4&&s.has 4))=b1
 generalize (aJ n 2&&(x.has 8&&s.has 8))=b2
 generalize (aJ n 4&&(x.has 2&&s.has 2))=b3
 revert b1 b2 b3
 decide):p:=h
theorem YV(n)(x s):((aJ n 1&&(x.has 4&&s.has 4))=false->iU n x s 1=iU n x s 0)/\((aJ n 1&&(x.has 4&&s.has 4))=true->iU n x s 1=bits .or .i64 (iU n x s 0) 1):=by
 exact B0
theorem YU(n)(x s):((aJ n 2&&(x.has 8&&s.has 8))=false->iU n x s 2=iU n x s 1)/\((aJ n 2&&(x.has 8&&s.has 8))=true->iU n x s 2=bits .or .i64 (iU n x s 1) 2):=by
 exact B0
theorem Ys(n)(x s):((aJ n 4&&(x.has 2&&s.has 2))=false->iU n x s 3=iU n x s 2)/\((aJ n 4&&(x.has 2&&s.has 2))=true->iU n x s 3=bits .or .i64 (iU n x s 2) 4):=by
 exact B0
theorem X'(n)(x s):iU n x s 3=jP n x s:=rfl
theorem vd{p:Prop}(h:p:=by
 go_wp2_with (first|(go_at_call 211;refine(HB _ (aa hG (cy _ _ none))).mono ?_;clear HB;rintro e w1 ⟨rfl,rfl⟩))
 go_roundw
 case rel=>grind [Hid.o,cy,aa]
 case measure=>simp[intOf]):p:=h
theorem BA{p:Prop}(h:p:=by
 go_roundw
 case rel=>grind [aa,Hid.o,cy]
 case measure=>simp[intOf]):p:=h
theorem CY(b)(x s)(n)(w)(h:fu w b x s):Calls prog 213 #[N b 0,Y n] w λr a=>r=.returned (Y (jP n x s))/\w.grownBy a none:=by
 have j:=I h
 clear h
 have q:∀w,(Instr.index 384 (.agg #[Y 1,Y 4,Y 2,Y 8,Y 4,Y 2]) (Y 0)).run prog w=.ok (.agg #[Y 1,Y 4]) w:=λ_=>by kernel_rfl
 have r:∀w,(Instr.index 384 (.agg #[Y 1,Y 4,Y 2,Y 8,Y 4,Y 2]) (Y 1)).run prog w=.ok (.agg #[Y 2,Y 8]) w:=λ_=>by kernel_rfl
 have t:∀w,(Instr.index 384 (.agg #[Y 1,Y 4,Y 2,Y 8,Y 4,Y 2]) (Y 2)).run prog w=.ok (.agg #[Y 4,Y 2]) w:=λ_=>by kernel_rfl
 go_in
 go_wp2_with fail
 go_loopw [4,11] (λa i wr=>∃k:Nat,k<=3/\i = Y k/\a = Y (iU n x s k)/\Hid (w.grownBy wr none)) (λ_ i _=>3-(intOf i).toNat)
 case atStart=>exact⟨0,by omega,rfl,by unfold iU;simp,cC _ _⟩
 case round=>
  obtain⟨k,u,rfl,rfl,hG⟩:=hrel;by_cases m:k=0
  .subst m;have HB:=I (λW (g:w.grownBy W none)=>rC b x s 4 2 W H H (j.grown g));have f:=I (YV n x s);have a:=kT n 1 0 H H;generalize aJ n 1=b1 at *;generalize (x.has 4&&s.has 4)=b2 at *;obtain⟨l,d⟩:=aq (iU n x s 1);rw[d]at f;have i:=I d;clear d;generalize iU n x s 0=a0 at *;cases b1 with
   |false=>
    rw[eV]at a;have h:=db.1 a;clear a;go_wp2_with fail;exact BA
   |true=>
    rw[fk]at a;have h:=cJ.1 a;clear a;cases b2 with
    |false=>
     go_wp2_with (first|(go_at_call 211;refine(HB _ (aa hG (cy _ _ none))).mono ?_;clear HB;rintro e w1 ⟨rfl,rfl⟩))
     exact BA
    |true=>
     exact vd
  by_cases d:k=1
  .subst d;have HB:=I (λW (g:w.grownBy W none)=>rC b x s 8 3 W H H (j.grown g));have f:=I (YU n x s);have a:=kT n 2 1 H H;generalize aJ n 2=b1 at *;generalize (x.has 8&&s.has 8)=b2 at *;obtain⟨l,d⟩:=aq (iU n x s 2);rw[d]at f;have i:=I d;clear d;generalize iU n x s 1=a0 at *;cases b1 with
   |false=>
    rw[eV]at a;have h:=db.1 a;clear a;go_wp2_with fail;exact BA
   |true=>
    rw[fk]at a;have h:=cJ.1 a;clear a;cases b2 with
    |false=>
     exact vd
    |true=>
     exact vd
  by_cases p:k=2
  .subst p;have HB:=I (λW (g:w.grownBy W none)=>rC b x s 2 1 W H H (j.grown g));have f:=I (Ys n x s);have a:=kT n 4 2 H H;generalize aJ n 4=b1 at *;generalize (x.has 2&&s.has 2)=b2 at *;obtain⟨l,d⟩:=aq (iU n x s 3);rw[d]at f;have i:=I d;clear d;generalize iU n x s 2=a0 at *;cases b1 with
   |false=>
    rw[eV]at a;have h:=db.1 a;clear a;go_wp2_with fail;go_roundw
    case rel=>grind [Hid.o,cy,aa]
    case measure=>simp[intOf]
   |true=>
    rw[fk]at a;have h:=cJ.1 a;clear a;cases b2 with
    |false=>
     exact vd
    |true=>
     exact vd
  have d:k=3:=G;subst d;have f:=I (X' n x s);go_wp2_with fail;go_ret;exact⟨by rw[f];rfl,hG⟩
theorem mR(a b)(w)(j:bT a)(m:bT b):Calls prog 103 #[Y a,Y b] w λe d=>e=.returned (Y (aW a b))/\d=w:=by
 obtain⟨k,l⟩:=j
 obtain⟨n,p⟩:=m
 by_cases d:a+b < -9223372036854775808
 .have g:a<0:=G;have h:¬ 0<a:=G;have q:b<0:=G;have hw:wrap64 (a+b)=a+b+18446744073709551616:=oR;have i:0<=a+b+18446744073709551616:=G;have HR:Hid (aW a b=-9223372036854775808):=by show _=_;unfold aW m9;rw[dQ d]
  clear d;go_in;go_wp2;exact l8
 .by_cases e:9223372036854775807<a+b
  .have g:0<a:=G;have q:0<b:=G;have hw:wrap64 (a+b)=a+b-18446744073709551616:=oR;have i:a+b-18446744073709551616<0:=G;have HR:Hid (aW a b=9223372036854775807):=(by show _=_;unfold aW m9;rw[b' d,dQ e]);clear d e;go_in;go_wp2;exact l8
  .obtain⟨f,hw⟩:=J3 (a:=a) (b:=b) G G;have HR:=I f;clear f d e;by_cases g:0<a
   .have h:¬ a<0:=G;by_cases f:0<b
    .have i:¬ a+b<0:=G;go_in;go_wp2;exact l8
    .go_in;go_wp2;exact l8
   .by_cases h:a<0
    .by_cases f:b<0
     .have i:¬ 0<=a+b:=G;go_in;go_wp2;exact l8
     .go_in;go_wp2;exact l8
    .go_in;go_wp2;exact l8
theorem Uh(a b):aW a (-b)=gD a b:=by
 unfold aW gD;rw[show a + -b=a-b from by omega]
theorem Ch(a b)(w)(f:bT a)(g:bT b):Calls prog 147 #[Y a,Y b] w λe j=>e=.returned (Y (gD a b))/\j=w:=by
 by_cases h:b=-9223372036854775808
 .subst h;obtain⟨i,k⟩:=f;clear g;by_cases l:0<=a
  .have HR:Hid (gD a (-9223372036854775808)=9223372036854775807):=(by show _=_;unfold gD m9;rw[b' G,dQ G]);go_in;go_wp2;exact l8
  .obtain⟨d,hw⟩:=J4 (a:=a) (b:=-9223372036854775808) G G;have HR:=I d;clear d;go_in;go_wp2;go_ret;exact⟨bE (by rw[HR];omega),rfl⟩
 .have d:bT (-b):=by unfold bT at *;omega
  have hw:wrap64 (-b)=-b:=by unfold bT at g;unfold wrap64;omega
  have i:=I (mR a (-b) w f d);rw[Uh]at i;clear f g d;go_in;go_wp2_with (go_at_call 103;refine i.mono ?_;rintro e j ⟨rfl,rfl⟩)
  go_ret;exact⟨rfl,rfl⟩
theorem zN(a b)(w)(f:bT a)(g:bT b):Calls prog 143 #[Y a,Y b] w λe d=>e=.returned (Y (dW a b))/\d=w:=by
 by_cases h:a<b
 .have HR:Hid (dW a b=gD b a):=by show _=_;unfold dW;rw[dQ h]
  have i:¬ b<=a:=G;go_in;go_wp2_with (go_at_call 147;refine(Ch b a _ g f).mono ?_;rintro e d ⟨rfl,rfl⟩)
  exact l8
 .have HR:Hid (dW a b=gD a b):=by show _=_;unfold dW;rw[b' h]
  have i:b<=a:=G;go_in;go_wp2_with (go_at_call 147;refine(Ch a b _ f g).mono ?_;rintro e d ⟨rfl,rfl⟩)
  exact l8
theorem kN(a b)(w):Calls prog 104 #[Y a,Y b] w λe d=>e=.returned (Y (gU a b))/\d=w:=by
 by_cases h:a<b
 .have HR:Hid (gU a b=a):=by show _=_;unfold gU;rw[dQ h]
  go_in;go_wp2;exact l8
 .have HR:Hid (gU a b=b):=by show _=_;unfold gU;rw[b' h]
  go_in;go_wp2;exact l8
theorem vQ(a)(w):Calls prog 105 #[Y a] w λe b=>e=.returned (Y (kB a))/\b=w:=by
 by_cases h:a=0
 .subst h;go_in;exact lR
 .have HR:Hid (kB a=a):=by show _=_;unfold kB;rw[b' h]
  go_in;go_wp2;exact l8
theorem eZ(n f)(k)(w)(a:f=2 ^ k)(d:k<63):Calls prog 102 #[Y n,Y f] w λe b=>e=.returned (.bool (aJ n f))/\b=w:=by
 have b:=I (kT n f k a d)
 clear a
 go_in
 go_wp2
 go_ret
 exact⟨fU (by rw[bne,b,Bool.not_not]),rfl⟩
set_option maxHeartbeats 8000000
theorem tI{p:Prop}(h:p:=by cases b4<;>cases b5<;>cases b6<;>cases b7<;>rfl):p:=h
variable {p:Prop}
def zr(o:Int)(b3 b4 b5 b6 b7 f0 f1 f2 f4:Bool):Bool:=
 if o<0\/255<o\/b3=true then false
 else if 1<((if b4=true then 1 else 0)+(if b5=true then 1 else 0)+(if b6=true then 1 else 0)+(if b7=true then 1 else 0):Int)\/b5=true/\o≠32 then false
 else if b4=true/\f2=false\/b6=true/\f0=false\/b7=true/\f1=false then false
 else !b5||f4
theorem T3(o f):kL o f=zr o (aJ o 8) (aJ o 16) (aJ o 32) (aJ o 64) (aJ o 128) (aJ f 1) (aJ f 2) (aJ f 4) (aJ f 16):=rfl
def kF(b4 b5 b6 b7:Bool)(k:Nat):Int:=(if b4=true then(if 0<k then 1 else 0) else 0)+(if b5=true then(if 1<k then 1 else 0) else 0)+(if b6=true then(if 2<k then 1 else 0) else 0)+(if b7=true then(if 3<k then 1 else 0) else 0)
theorem yF(a b d e)(k):wrap64 (kF a b d e k+1)=kF a b d e k+1:=by
 have h:0<=kF a b d e k/\kF a b d e k<=4:=by
  unfold kF;constructor<;>(repeat' split)<;>omega
 unfold wrap64;omega
theorem Yg(a b):(a=true/\b=false)\/a=false\/(a=true/\b=true):=by cases a<;>cases b<;>decide
theorem zp(h:p:=by
  go_wp2_with (go_at_call 102;(first|(with_reducible refine Calls.mono (Y5.o _) ?_)|(with_reducible refine Calls.mono (C32.o _) ?_)|(with_reducible refine Calls.mono (C64.o _) ?_)|(with_reducible refine Calls.mono (Qt.o _) ?_)|(with_reducible refine Calls.mono (F1.o _) ?_)|(with_reducible refine Calls.mono (F2.o _) ?_)|(with_reducible refine Calls.mono (F4.o _) ?_)|(with_reducible refine Calls.mono (F16.o _) ?_));rintro e w' ⟨rfl,rfl⟩)
  go_ret
  exact⟨fU HS.o.symm,rfl⟩):p:=h
theorem Uv(h:p:=by first
  |(have HS:Hid (R=true):=(by show _=_;rw[<-HR];simp);clear HR;exact zp)
  |(have HS:Hid (R=false):=(by show _=_;rw[<-HR];simp);clear HR;exact zp)):p:=h
theorem wA(h:p:=by
  go_wp2_with (go_at_call 102;(first|(with_reducible refine Calls.mono (Y5.o _) ?_)|(with_reducible refine Calls.mono (C32.o _) ?_)|(with_reducible refine Calls.mono (C64.o _) ?_)|(with_reducible refine Calls.mono (Qt.o _) ?_)|(with_reducible refine Calls.mono (F1.o _) ?_)|(with_reducible refine Calls.mono (F2.o _) ?_)|(with_reducible refine Calls.mono (F4.o _) ?_)|(with_reducible refine Calls.mono (F16.o _) ?_));rintro e w' ⟨rfl,rfl⟩)
  go_round
  case rel=>first|exact⟨1,by decide,rfl,by rw[HN];first|(simp;done)|(simp;exact hw)⟩|exact⟨2,by decide,rfl,by rw[HN];first|(simp;done)|(simp;exact hw)⟩|exact⟨3,by decide,rfl,by rw[HN];first|(simp;done)|(simp;exact hw)⟩|exact⟨4,by decide,rfl,by rw[HN];first|(simp;done)|(simp;exact hw)⟩
  case measure=>decide):p:=h
theorem wj{p:Prop}(h:p:=by
 go_ret
 exact⟨fU HS.o.symm,rfl⟩):p:=h
theorem MU(o f)(w):Calls prog 110 #[Y o,Y f] w λe w'=>e=.returned (.bool (kL o f))/\w'=w:=by
 rw[T3]
 have d:=I (λW=>eZ o 8 3 W H H)
 have Y5:=I (λW=>eZ o 16 4 W H H)
 have C32:=I (λW=>eZ o 32 5 W H H)
 have C64:=I (λW=>eZ o 64 6 W H H)
 have Qt:=I (λW=>eZ o 128 7 W H H)
 have F1:=I (λW=>eZ f 1 0 W H H)
 have F2:=I (λW=>eZ f 2 1 W H H)
 have F4:=I (λW=>eZ f 4 2 W H H)
 have F16:=I (λW=>eZ f 16 4 W H H)
 obtain⟨t,a⟩:=aq (aJ o 8)
 obtain⟨b4,b⟩:=aq (aJ o 16)
 obtain⟨b5,j⟩:=aq (aJ o 32)
 obtain⟨b6,k⟩:=aq (aJ o 64)
 obtain⟨b7,l⟩:=aq (aJ o 128)
 obtain⟨g,n⟩:=aq (aJ f 1)
 obtain⟨h,p⟩:=aq (aJ f 2)
 obtain⟨i,q⟩:=aq (aJ f 4)
 obtain⟨u,r⟩:=aq (aJ f 16)
 rw[a,b,j,k,l,n,p,q,r]
 rw[a]at d
 rw[b]at Y5
 rw[j]at C32
 rw[k]at C64
 rw[l]at Qt
 rw[n]at F1
 rw[p]at F2
 rw[q]at F4
 rw[r]at F16
 obtain⟨R,m⟩:=aq (zr o t b4 b5 b6 b7 g h i u)
 have HR:=I m
 rw[m]
 unfold zr at HR
 clear a b j k l n p q r m
 by_cases p:o<0
 .have HS:Hid (R=false):=by show _=_;rw[<-HR,dQ (.inl p)]
  clear HR;go_in;go_wp2;exact wj
 by_cases l:255<o
 .have HS:Hid (R=false):=by show _=_;rw[<-HR,dQ (.inr (.inl l))]
  clear HR;go_in;go_wp2;exact wj
 cases t with
 |true=>
  have HS:Hid (R=false):=by show _=_;rw[<-HR,dQ (.inr (.inr rfl))]
  clear HR;go_in;go_wp2_with (go_at_call 102;refine(d _).mono ?_;rintro e w' ⟨rfl,rfl⟩)
  exact wj
 |false=>
  rw[b' iS]at HR;go_in;go_wp2_with (go_at_call 102;refine(d _).mono ?_;clear d;rintro e w' ⟨rfl,rfl⟩)
  go_loop [5,6] (λn b=>∃k:Nat,k<=4/\b = Y (16*2 ^ k)/\n = Y (kF b4 b5 b6 b7 k)) (λ_ b=>256-(intOf b).toNat)
  case atStart=>exact⟨0,by decide,rfl,by cases b4<;>cases b5<;>cases b6<;>cases b7<;>rfl⟩
  case round=>
   obtain⟨k,j,rfl,rfl⟩:=hrel;have m:k=0\/k=1\/k=2\/k=3\/k=4:=G;rcases m with rfl|rfl|rfl|rfl|rfl
   .have b:kF b4 b5 b6 b7 1=kF b4 b5 b6 b7 0+(if b4=true then 1 else 0):=tI;have hw:=yF b4 b5 b6 b7 0;have HN:=I b;obtain⟨x,a⟩:=aq (kF b4 b5 b6 b7 0);rw[a]at HN hw⊢;clear b a HR;cases b4<;>exact wA
   .have b:kF b4 b5 b6 b7 2=kF b4 b5 b6 b7 1+(if b5=true then 1 else 0):=tI;have hw:=yF b4 b5 b6 b7 1;have HN:=I b;obtain⟨x,a⟩:=aq (kF b4 b5 b6 b7 1);rw[a]at HN hw⊢;clear b a HR;cases b5<;>exact wA
   .have b:kF b4 b5 b6 b7 3=kF b4 b5 b6 b7 2+(if b6=true then 1 else 0):=tI;have hw:=yF b4 b5 b6 b7 2;have HN:=I b;obtain⟨x,a⟩:=aq (kF b4 b5 b6 b7 2);rw[a]at HN hw⊢;clear b a HR;cases b6<;>exact wA
   .have b:kF b4 b5 b6 b7 4=kF b4 b5 b6 b7 3+(if b7=true then 1 else 0):=tI;have hw:=yF b4 b5 b6 b7 3;have HN:=I b;obtain⟨x,a⟩:=aq (kF b4 b5 b6 b7 3);rw[a]at HN hw⊢;clear b a HR;cases b7<;>exact wA
   .have b:kF b4 b5 b6 b7 4=(if b4=true then 1 else 0)+(if b5=true then 1 else 0)+(if b6=true then 1 else 0)+(if b7=true then 1 else 0):=tI;rw[<-b]at HR;obtain⟨x,a⟩:=aq (kF b4 b5 b6 b7 4);rw[a]at HR⊢;clear b a j;by_cases j:1<x
    .have HS:Hid (R=false):=(by show _=_;rw[<-HR,dQ (.inl j)]);clear HR;go_wp2;exact wj
    .cases b5 with
     |false=>
      rw[b' (by simp[j])]at HR;rcases Yg b4 i with⟨rfl,rfl⟩|rfl|⟨rfl,rfl⟩
      .exact Uv
      all_goals
       rcases Yg b6 g with⟨rfl,rfl⟩|rfl|⟨rfl,rfl⟩
       .exact Uv
       all_goals
        rcases Yg b7 h with⟨rfl,rfl⟩|rfl|⟨rfl,rfl⟩<;>exact Uv
     |true=>
      by_cases a:o=32
      .have b:(o != 32)=false:=dT;rw[b' (by simp[j,a])]at HR;clear a;rcases Yg b4 i with⟨rfl,rfl⟩|rfl|⟨rfl,rfl⟩
       .exact Uv
       all_goals
        rcases Yg b6 g with⟨rfl,rfl⟩|rfl|⟨rfl,rfl⟩
        .exact Uv
        all_goals
         rcases Yg b7 h with⟨rfl,rfl⟩|rfl|⟨rfl,rfl⟩
         .exact Uv
         all_goals cases u<;>exact Uv
      .have b:(o != 32)=true:=(by rw[fs];exact a);have HS:Hid (R=false):=(by show _=_;rw[<-HR,dQ (.inr ⟨rfl,a⟩)]);clear HR a;exact zp
