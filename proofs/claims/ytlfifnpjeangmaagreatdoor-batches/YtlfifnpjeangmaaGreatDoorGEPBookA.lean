import Derived.Test.YtlfifnpjeangmaaGreatDoorGEBoxM
import Derived.Test.YtlfifnpjeangmaaGreatDoorGEShelf
import Derived.Test.YtlfifnpjeangmaaGreatDoorGEIns
import Derived.BigQuiet
import Derived.Test.YtlfifnpjeangmaaGreatDoorGEBlk
namespace Go.Proofs.YtlfifnpjeangmaaGreatDoor
set_option maxHeartbeats 400000
open Proofs.Tryz Go.RowKit
set_option maxRecDepth 100000
variable {es:List BE}{g:Nat}{w:World}{p:Prop}
def BE.bE(e:BE):List Value:=[.string ⟨e.name.toArray⟩,Y e.aH,H (e.key.toNat:Int),H (e.before.toNat:Int),Y e.bI,Y e.aC,Y e.bB,Y e.ae]
def dP(l:List BE):List Value:=(l.map BE.bE).flatten
theorem eG(l):(dP l).length=l.length*8:=by
 induction l with
 |nil=>rfl
 |cons x l a=>simp only[dP,eE,eI,cD,de]at *;rw[a];show 8+_=_;omega
theorem jQ(a b):dP (a++b)=dP a++dP b:=by simp[dP]
theorem vQ(l):∀(k j)(a:k<l.length),j<8->(dP l)[k*8+j]?=(l[k]).bE[j]?:=by
 induction l with
 |nil=>intro k j a;simp at a
 |cons x l d=>
  intro k j a b;have e:dP (x::l)=x.bE++dP l:=by simp[dP]
  rw[e];cases k with
  |zero=>rw[gf,cN,cW (by show j<8;exact b)];rfl
  |succ k=>
   rw[cY (by show 8<=(k+1)*8+j;omega),show(k+1)*8+j-x.bE.length=k*8+j from by show(k+1)*8+j-8=k*8+j;omega];grind
structure bU(w:World)(g o:Nat)(es:List BE):Prop where
 live:b' w g (o+161)
 room:w.rangeAt g o (dP es)
 count:w.cell? (F g (o+160))=some (Y es.length)
 len:es.length<=20
theorem bU.cf{a:World}{ex:Nat->Nat->Prop}{o:Nat}(h:bU w g o es)(k:CF w a ex)(b:∀j,o<=j->j<o+161->¬ ex g j):bU a g o es:=
 ⟨h.live.cf k,(by grind [CF.range,bU.room,bU.len,eG]),(by grind [CF.cell,bU.count]),h.len⟩
theorem bU.grown{a:World}{o:Nat}(h:bU w g o es)(k:w.grownBy a none):bU a g o es:=h.cf (CF.bF k (λ_ _=>False)) (λ_ _ _ e=>e)
theorem bU.drewN{o:Nat}(h:bU w g o es)(n):bU (w.drewN n) g o es:=h.grown (aR (cC w none) n)
theorem bU.entry{o:Nat}(h:bU w g o es)(k)(d:k<es.length):w.rangeAt g (o+k*8) es[k].bE:=by
 intro j u a;have b:j<8:=(cM.1 a).1;have:=h.room (k*8+j) u (by rw[vQ es k j d b];exact a);grind
theorem XY:∀a b,(Lib.compareBytes a b<0)↔Op.bytesLess a b=true:=by
 intro a;induction a with
 |nil=>intro b;cases b<;>simp[Lib.compareBytes,Op.bytesLess]
 |cons x a d=>
  intro b;cases b with
  |nil=>simp[Lib.compareBytes,Op.bytesLess]
  |cons y b=>
   simp only[Lib.compareBytes,Op.bytesLess,Bool.or_eq_true,Bool.and_eq_true,decide_eq_true_eq,db];grind
theorem Hs(h:p:=by
 intro a
 induction a with
 |nil=>intro b;cases b<;>simp[Lib.compareBytes]
 |cons x a ih=>
  intro b
  cases b with
  |nil=>simp[Lib.compareBytes]
  |cons y b=>
   simp only[Lib.compareBytes]
   grind):p:=h
theorem XZ:∀a b,(Lib.compareBytes a b=0)↔a=b:=by
 exact Hs
theorem Uf:∀a b,-1<=Lib.compareBytes a b/\Lib.compareBytes a b<=1:=by
 exact Hs
theorem X3(l):∀(es)(k),k<=es.length->(∀j(a:j<es.length),j<k->Op.bytesLess es[j].name l=true)->(∀h:k<es.length,Op.bytesLess es[k].name l=false)->BE.ins es l=k:=by
 intro es;induction es with
 |nil=>intro k a _ _;simp at a;subst a;rfl
 |cons x es e=>
  intro k a d f;cases k with
  |zero=>
   grind [BE.ins]
  |succ k=>
   have b:=d 0 Z G;simp only[List.getElem_cons_zero]at b;rw[BE.ins,dT b,e k (by simpa using a) fA fA]
theorem X4(m:es.Pairwise (λx y=>Op.bytesLess x.name y.name=true))(l):BE.pq es l=if h:BE.ins es l<es.length then(if es[BE.ins es l].name=l then some (BE.ins es l) else none) else none:=by
 have k:=PI es l;have f:=Ie l es;cases h:BE.pq es l with
 |none=>
  grind [Sq]
 |some i=>
  obtain⟨e,d⟩:=Cm h;have b:BE.ins es l=i:=by
   refine X3 l es i G (λj g a=>?_) (λn=>?_)
   .have:=List.pairwise_iff_getElem.1 m j i g e a;grind
   .rw[d];exact Ic l
  rw[dif_pos (by rw[b];exact e),dT (by simp only[b];exact d),b]
theorem sL(h:p:=by
 go_wp2
 go_ret
 exact⟨rfl,_,rfl⟩):p:=h
theorem vR(g o)(es)(w)(h:bU w g o es):Calls prog 148 #[π g o] w λe a=>e=.returned (ς g o es.length 20)/\∃q,a=w.drewN q:=by
 have d:=h.count
 have e:=h.len
 clear h
 generalize es.length=n at *
 have b:(n:Int)<=20:=G
 have a:(0:Int)<=(n:Int):=G
 go_in
 go_wp2_with fail
 go_quiet (fail)
 exact sL
theorem Tryz.iT:(prog.info? 126).map (·.size)=some 8:=by kernel_rfl
theorem Sy(x:BE)(l)(S)(w)(o:Hid (S=⟨l.toArray⟩)):Calls prog 200 #[.agg x.bE.toArray,.string S] w λe h=>e=.returned (Y (Lib.compareBytes x.name l))/\w.grownBy h none:=by
 obtain⟨a,j,d,b,n,i,m,k⟩:=x
 have f:(⟨a.toArray⟩:ByteArray).data.toList=a:=Z
 have g:S.data.toList=l:=by rw[o]
 have C:=λw=>Tryz.strings_Compare (⟨a.toArray⟩:ByteArray) S w
 rw[f,g]at C
 have G:=cx w (.cells (BE.bE ⟨a,j,d,b,n,i,m,k⟩).toArray 126) none
 simp only[BE.bE]at G⊢
 clear f g
 go_in
 go_wp2_with (go_at_call 201;refine(C _).mono ?_;rintro e h ⟨rfl,rfl⟩)
 go_ret
 exact⟨rfl,G⟩
set_option maxHeartbeats 2000000
theorem LK(g o)(d)(l)(n)(S)(w)(h:bU w g o d)(M:Hid (d.length=n))(a:d.Pairwise (λx y=>Op.bytesLess x.name y.name=true))(X:Hid (S=⟨l.toArray⟩)):Calls prog 199 #[ς g o n 20,.string S,.func (.func 200) #[] #[]] w λe b=>e=.returned (.tuple #[Y (BE.ins d l),.bool (BE.pq d l).isSome])/\w.grownBy b none:=by
 have r:=h.len
 rw[M]at r
 have A:=I a
 clear a
 go_in
 go_wp2
 go_loopw [9,10,11] (λa b _ wr=>∃i j:Nat,i<=j/\j<=n/\a = Y i/\b = Y j/\Hid (∀k(p:k<d.length),k<i->Op.bytesLess d[k].name l=true)/\Hid (∀k(p:k<d.length),j<=k->Op.bytesLess d[k].name l=false)/\w.grownBy wr none) (λa b _ _=>(intOf b-intOf a).toNat)
 case atStart=>exact⟨0,n,cS _,cy _,rfl,rfl,I (λk _ p=>by omega),(by grind [I,Hid.o]),cC _ _⟩
 case round=>
  obtain⟨i,j,ad,L,rfl,rfl,P,HB,f⟩:=hrel;have t:=h.grown f;by_cases af:i<j
  .have D:(i:Int)<(j:Int):=G;have hm:(i+j) / 2<n:=G;have J:(i+j) / 2<d.length:=(by rw[M];exact hm);have y:i<=(i+j) / 2:=G;have ag:(i+j) / 2<j:=G;have a:=I (t.entry _ J);obtain⟨x,q⟩:∃x,Hid (x=d[(i+j) / 2]):=⟨_,I rfl⟩
   rw[<-q]at a;have W:((i:Int)+(j:Int))<=40:=G;have Q:=I (XY x.name l);have u:=I (Uf x.name l);clear t;go_wp2_with (refine wpList_load_mid rfl 126 _ rfl g (o+(i+j) / 2*8) rfl x.bE _ a underlying126 rfl Tryz.iT ?_)
   refine(Sy x l S _ X).mono ?_;rintro e w1 ⟨rfl,m⟩;have v:=aa f m;clear a f m;obtain⟨c,R⟩:∃c,Hid (c=Lib.compareBytes x.name l):=⟨_,I rfl⟩
   rw[<-R]at Q u⊢;have U:=u.1;have V:=u.2;by_cases T:c<0
   .have K:=I (Q.1 T);go_wp2;go_roundw
    case rel=>
     refine⟨(i+j) / 2+1,j,by omega,L,by go_num,rfl,I (λk p B=>?_),HB,v⟩;rcases Nat.lt_or_ge k ((i+j) / 2)with b|b
     .exact zl (List.pairwise_iff_getElem.1 A k _ p J b) (by rw[<-q];exact K)
     grind [Hid.o]
    case measure=>simp[intOf];omega
   .have K:Hid (Op.bytesLess x.name l=false):=by
     grind [Hid.o]
    go_wp2;go_roundw
    case rel=>
     refine⟨i,(i+j) / 2,y,by omega,rfl,by go_num,P,I (λk p B=>?_),v⟩;rcases Nat.lt_or_ge ((i+j) / 2) k with b|b
     .cases B:Op.bytesLess d[k].name l with
      |false=>rfl
      |true=>
       have C:=zl (List.pairwise_iff_getElem.1 A _ k J p b) B;grind [Hid.o]
     grind [Hid.o]
    case measure=>simp[intOf];omega
  .have C:i=j:=G;subst C;have Q:Hid (BE.ins d l=i):=by
    grind [X3,Hid.o]
   have p:=I (X4 A l);clear P HB;have D:¬ (i:Int)<(i:Int):=G;by_cases K:i<n
   .have J:i<d.length:=(by rw[M];exact K);have B:(i:Int)<(n:Int):=G;have ab:(0:Int)<=(i:Int):=G;have a:=I (t.entry _ J);obtain⟨x,q⟩:∃x,Hid (x=d[i]):=⟨_,I rfl⟩
    rw[<-q]at a;have y:Hid ((BE.pq d l).isSome=(Lib.compareBytes x.name l==0)):=by
     grind [XZ,Hid.o]
    clear t p q;obtain⟨k,T,u,b,W,R,V,U⟩:=x;have k0:wr.c g (o+i*8)=some (.string ⟨k.toArray⟩):=a 0 _ rfl;have k1:wr.c g (o+i*8+1)=some (Y T):=a 1 _ rfl;have k2:wr.c g (o+i*8+2)=some (H (u.toNat:Int)):=a 2 _ rfl;have k3:wr.c g (o+i*8+3)=some (H (b.toNat:Int)):=a 3 _ rfl;have k4:wr.c g (o+i*8+4)=some (Y W):=a 4 _ rfl;have k5:wr.c g (o+i*8+5)=some (Y R):=a 5 _ rfl;have k6:wr.c g (o+i*8+6)=some (Y V):=a 6 _ rfl;have k7:wr.c g (o+i*8+7)=some (Y U):=a 7 _ rfl;go_wp2_with fail;refine(Sy ⟨k,T,u,b,W,R,V,U⟩ l S _ X).mono ?_;rintro e w1 ⟨rfl,m⟩;clear k0 k1 k2 k3 k4 k5 k6 k7;have v:=aa f m;clear a f m;go_wp2;go_ret2;exact⟨by rw[Q,y];rfl,v⟩
   .have B:¬ (i:Int)<(n:Int):=G;have y:Hid ((BE.pq d l).isSome=false):=by
     grind [Hid.o]
    clear t p;go_wp2;go_ret2;exact⟨by rw[Q,y];rfl,f⟩
theorem tX(g o)(a)(l)(S)(w)(h:bU w g o a)(b:a.Pairwise (λx y=>Op.bytesLess x.name y.name=true))(k:Hid (S=⟨l.toArray⟩)):Calls prog 160 #[π g o,.string S] w λe f=>e=.returned (.tuple #[Y (BE.ins a l),.bool (BE.pq a l).isSome])/\w.grownBy f none:=by
 have j:=I b
 clear b
 go_in
 go_wp2_with fail
 refine(vR g o a w h).mono ?_
 rintro e f ⟨rfl,q,rfl⟩
 have d:=h.drewN q
 have i:=aR (cC w none) q
 go_wp2_with fail
 refine(LK g o a l a.length S _ d (I rfl) j k).mono ?_
 rintro e m ⟨rfl,b⟩
 have G:=aa i b
 clear b d
 go_wp2
 go_ret2
 exact⟨rfl,G⟩
abbrev vS(bI aC bB ae:Int):Array Value:=#[Y bI,Y aC,Y bB,Y ae]
theorem zD(a:mE)(w):Calls prog 136 #[.agg a.cells] w λe b=>e=.returned (.agg (vS a.bI a.aC a.bB a.ae))/\w.grownBy b none:=by
 obtain⟨h,i,g,f,b,e,d⟩:=a;simp only[mE.cells];go_in;go_wp2;exact bodyPost_ret (v:=.agg #[Y f,Y b,Y e,Y d]) (by simp[results,results136,go_sem]) rfl ⟨rfl,aM (cx w _ none) _⟩
theorem Ge(h:p:=by
 have HF:Hid (mE.qm ⟨ak,an,key,bI,aC,bB,ae⟩=false):=kA
 clear hb
 go_in
 go_wp2
 go_ret
 exact⟨by rw[HF];rfl,cx w _ none⟩):p:=h
theorem Ik(a:mE)(w)(b:-9223372036854775808<=a.ae)(d:a.ae<=9223372036854775807):Calls prog 162 #[.agg (vS a.bI a.aC a.bB a.ae)] w λe f=>e=.returned (.bool a.qm)/\w.grownBy f none:=by
 obtain⟨ak,an,key,bI,aC,bB,ae⟩:=a;have e:Hid (mE.qm ⟨ak,an,key,bI,aC,bB,ae⟩=decide (0<=bI/\0<=aC/\0<=ae/\ae<64)):=rfl;have hb:=X5 ae b d;simp only at b d⊢;by_cases h:0<=bI
 .by_cases i:0<=aC
  .have HF:Hid (mE.qm ⟨ak,an,key,bI,aC,bB,ae⟩=decide (0<=ae/\ae<64)):=fA;clear e;have HB:=I hb;cases g:(bits .andNot .i64 ae 63==0)
   all_goals
    have f:=I (HB.o.symm.trans g)
    clear hb HB
    go_in
    go_wp2
    go_ret
    exact⟨by rw[HF,f];rfl,cx w _ none⟩
  .exact Ge
 .exact Ge
theorem JF{a:Nat}{d e f h i k l m:Value}(n:w.c g a=some d)(o:w.c g (a+1)=some e)(p:w.c g (a+2)=some f)(q:w.c g (a+3)=some h)(r:w.c g (a+4)=some i)(t:w.c g (a+5)=some k)(v:w.c g (a+6)=some l)(x:w.c g (a+7)=some m):
  w.rangeAt g a [d,e,f,h,i,k,l,m]:=by
 intro j u b
 match j,b with
 |0,b=>injection b with b;subst b;exact n
 |1,b=>injection b with b;subst b;exact o
 |2,b=>injection b with b;subst b;exact p
 |3,b=>injection b with b;subst b;exact q
 |4,b=>injection b with b;subst b;exact r
 |5,b=>injection b with b;subst b;exact t
 |6,b=>injection b with b;subst b;exact v
 |7,b=>injection b with b;subst b;exact x
 |j+8,b=>simp at b
theorem dw{a:Addr}{u:Value}(v)(h:w.cell? a=some u):(w.setCell a v).cell? a=some v:=World.cell?_setCell_same _ _ _ h
theorem ax{i j:Nat}{u:Value}(v)(h:w.c g j=some u)(a:i≠j):(w.setCell (F g i) v).cell? (F g j)=some u:=by
 grind [iA]
def KT(g o:Nat)(b j:Nat):Prop:=b=g/\o<=j/\j<o+161
theorem bU.LQ{w':World}{o:Nat}{a:List BE}(h:bU w g o a)(i)(r:i<a.length)(y)(f:CF w w' (λb j=>b=g/\o+i*8<=j/\j<o+i*8+8))(p:w'.rangeAt g (o+i*8) y.bE):bU w' g o (a.set i y)/\CF w w' (KT g o):=by
 have n:=h.len;refine⟨⟨h.live.cf f,?_,?_,by rw[eL];exact n⟩,f.mono (λb j _ e=>⟨e.1,by omega,by omega⟩)⟩
 .intro j u l;have m:j<(a.set i y).length*8:=by have:=(cM.1 l).1;rwa [eG]at this
  rw[eL]at m;have k:j / 8<a.length:=G;have b:=vQ (a.set i y) (j / 8) (j % 8) (by rw[eL];exact k) G;rw[show j / 8*8+j % 8=j from by omega,l]at b;by_cases e:j / 8=i
  .have d:(a.set i y)[j / 8]'fA=y:=by
    subst e;simp
   rw[d]at b;have:=p (j % 8) u b.symm;grind
  .have d:(a.set i y)[j / 8]'fA=a[j / 8]:=by
    rw[List.getElem_set_ne (λq=>e q.symm)]
   rw[d,<-vQ a (j / 8) (j % 8) k G,show j / 8*8+j % 8=j from by omega]at b;exact f.cell (h.room j u b.symm) (λq=>by omega)
 grind [bU.count,CF.cell]
theorem sF{a:List BE}(d:a.Pairwise (λx y=>Op.bytesLess x.name y.name=true))(l)(h:(BE.pq a l).isSome=true):∃b:BE.ins a l<a.length,BE.pq a l=some (BE.ins a l)/\a[BE.ins a l].name=l:=by
 grind [X4]
theorem Uh(g o)(b)(l)(S)(d)(w)(h:bU w g o b)(a:b.Pairwise (λx y=>Op.bytesLess x.name y.name=true))(X:Hid (S=⟨l.toArray⟩))(f:∀e∈b,1<=e.aH/\e.aH<=4611686018427387904):Calls prog 134 #[π g o,.string S,H (d.toNat:Int)] w λe w'=>
   ((BE.pq b l).isSome=false->e=.returned (Y 6)/\w.grownBy w' none)/\(∀i(C:i<b.length),BE.pq b l=some i->e=.returned (Y 0)/\bU w' g o (b.set i (b[i].jo d))/\CF w w' (KT g o)):=by
 have K:=I a
 have M:=I f
 clear a f
 go_in
 go_wp2_with fail
 refine(tX g o b l S w h K X).mono ?_
 rintro e f ⟨rfl,n⟩
 have r:=h.grown n
 cases m:(BE.pq b l).isSome
 .have D:=I m;go_wp2;go_ret;exact⟨λ_=>⟨rfl,n⟩,fA⟩
 .obtain⟨C,L,hn⟩:=sF K l m;have P:=I L;have D:=I m;obtain⟨i,J⟩:∃i,Hid (i=BE.ins b l):=⟨_,I rfl⟩
  have p:i<b.length:=by rw[J];exact C
  have A:Hid (BE.pq b l=some i):=kA;have a:=r.entry i p;have t:=M _ (eg p);have Ui:=r.len;obtain⟨x,B⟩:∃x,Hid (x=b[i]):=⟨_,I rfl⟩
  rw[<-B]at a t;obtain⟨u,v,y,k,W,T,V,U⟩:=x;obtain⟨n1,n2⟩:=t;simp only at n1 n2;have k0:f.c g (o+i*8)=some (.string ⟨u.toArray⟩):=a 0 _ rfl;have k1:f.c g (o+i*8+1)=some (Y v):=a 1 _ rfl;have k2:f.c g (o+i*8+2)=some (H (y.toNat:Int)):=a 2 _ rfl;have k3:f.c g (o+i*8+3)=some (H (k.toNat:Int)):=a 3 _ rfl;have k4:f.c g (o+i*8+4)=some (Y W):=a 4 _ rfl;have k5:f.c g (o+i*8+5)=some (Y T):=a 5 _ rfl;have k6:f.c g (o+i*8+6)=some (Y V):=a 6 _ rfl;have k7:f.c g (o+i*8+7)=some (Y U):=a 7 _ rfl;have q:=λj=>r.live.frozen j;have OL:(i:Int)<20:=G;have ab:(0:Int)<=(i:Int):=G;have R:Hid (bU (((f.setCell (F g (o+i*8+1)) (Y (v+1))).setCell (F g (o+i*8+3)) (H (y.toNat:Int))).setCell (F g (o+i*8+2)) (H (d.toNat:Int))) g o (b.set i (b[i].jo d))/\CF w (((f.setCell (F g (o+i*8+1)) (Y (v+1))).setCell (F g (o+i*8+3)) (H (y.toNat:Int))).setCell (F g (o+i*8+2)) (H (d.toNat:Int))) (KT g o)):=by
   have hr:=a
   have Q:=r.LQ (w':=((f.setCell (F g (o+i*8+1)) (Y (v+1))).setCell (F g (o+i*8+3)) (H (y.toNat:Int))).setCell (F g (o+i*8+2)) (H (d.toNat:Int))) i p (b[i].jo d)
    (by grind [CF.refl,CF.setCell])
    (by
     rw[<-B];refine JF ?_ ?_ ?_ ?_ ?_ ?_ ?_ ?_
     .exact ax _ (ax _ (ax _ k0 G) G) G
     .exact ax _ (ax _ (dw _ k1) G) G
     .exact dw _ (ax _ (ax _ k2 G) G)
     .exact ax _ (dw _ (ax _ k3 G)) G
     .exact ax _ (ax _ (ax _ k4 G) G) G
     .exact ax _ (ax _ (ax _ k5 G) G) G
     .exact ax _ (ax _ (ax _ k6 G) G) G
     .exact ax _ (ax _ (ax _ k7 G) G) G)
   grind [CF.before]
  rw[<-J];have Q:=q (o+i*8+1);have f2:=q (o+i*8+2);have f3:=q (o+i*8+3);clear a h r n L hn C m P q B;go_wp2;go_ret;exact⟨λq=>absurd (q.symm.trans D) Z,λj a q=>by have e:=A.o.symm.trans q;injection e with e;subst e;exact⟨rfl,R.1,R.2⟩⟩
theorem sq(h:p:=by simp[go_sem]):p:=h
theorem ti(h:p:=by grind [ax,dw]):p:=h
theorem bU.eight{g o:Nat}{b:List BE}(h:bU w g o b)(i)(d:i<b.length)(x)(e:x=b[i]):
  w.cell? (F g (o+i*8))=some (.string ⟨x.name.toArray⟩)/\w.cell? (F g (o+i*8+1))=some (Y x.aH)/\w.cell? (F g (o+i*8+2))=some (H (x.key.toNat:Int))/\w.cell? (F g (o+i*8+3))=some (H (x.before.toNat:Int))/\w.cell? (F g (o+i*8+4))=some (Y x.bI)/\w.cell? (F g (o+i*8+5))=some (Y x.aC)/\w.cell? (F g (o+i*8+6))=some (Y x.bB)/\w.cell? (F g (o+i*8+7))=some (Y x.ae):=by
 have a:=h.entry i d
 subst e
 exact⟨a 0 _ rfl,a 1 _ rfl,a 2 _ rfl,a 3 _ rfl,a 4 _ rfl,a 5 _ rfl,a 6 _ rfl,a 7 _ rfl⟩
theorem bN{a:World}(h:w.grownBy a none){b o:Nat}{v:Value}(d:w.cell? (F b o)=some v):a.cell? (F b o)=some v:=(CF.bF h (λ_ _=>False)).cell d (λe=>e)
theorem JG(g o)(b)(l)(S)(a)(w)(h:bU w g o b)(D:b.Pairwise (λx y=>Op.bytesLess x.name y.name=true))(hS:Hid (S=⟨l.toArray⟩))(t:-9223372036854775808<=a.ae)(u:a.ae<=9223372036854775807):Calls prog 135 #[π g o,.string S,.agg (vS a.bI a.aC a.bB a.ae)] w λe d=>
   ((BE.pq b l).isSome=false->e=.returned (Y 6)/\w.grownBy d none)/\((BE.pq b l).isSome=true->a.qm=false->e=.returned (Y 1)/\w.grownBy d none)/\(∀i(v:i<b.length),BE.pq b l=some i->a.qm=true->e=.returned (Y 0)/\bU d g o (b.set i (b[i].ry a))/\CF w d (KT g o)):=by
 have W:=I D
 have ad:w.1.size≠g:=λe=>by have:=h.live.lt;omega
 have d:=cx w (.cells (vS a.bI a.aC a.bB a.ae) 124) none
 have q:=h.grown d
 have M:=λw=>Ik a w t u
 obtain⟨X,an,J,n,p,k,m⟩:=a
 simp only at M t u d q⊢
 have y:(w.alloc (.cells #[Y n,Y p,Y k,Y m] 124)).c w.1.size 0=some (Y n):=sq
 have A:(w.alloc (.cells #[Y n,Y p,Y k,Y m] 124)).c w.1.size 1=some (Y p):=sq
 have B:(w.alloc (.cells #[Y n,Y p,Y k,Y m] 124)).c w.1.size 2=some (Y k):=sq
 have C:(w.alloc (.cells #[Y n,Y p,Y k,Y m] 124)).c w.1.size 3=some (Y m):=sq
 have f:=I (dN y (dN A (dN B C)))
 have r:=I d
 have j:=I q
 clear D h y A B C d q
 go_in
 go_wp2_with fail
 refine(tX g o b l S _ j W hS).mono ?_
 rintro e w1 ⟨rfl,d⟩
 have h1:=j.grown d
 have A:=bN d f.1
 have B:=bN d f.2.1
 have C:=bN d f.2.2.1
 have D:=bN d f.2.2.2
 have K:=I (aa r d)
 clear j f r d
 cases f:(BE.pq b l).isSome
 .have r:=I f;go_wp2;go_ret;exact⟨λ_=>⟨rfl,K⟩,λq=>absurd (q.symm.trans r) Z,λi v q=>by have:=r.o;rw[q]at this;cases this⟩
 .obtain⟨v,he,hn⟩:=sF W l f;have r:=I f;obtain⟨i,P⟩:∃i,Hid (i=BE.ins b l):=⟨_,I rfl⟩
  have y:i<b.length:=by rw[P];exact v
  have HE:Hid (BE.pq b l=some i):=by show _=_;rw[P];exact he
  have j:=I h1;rw[<-P];clear he hn v f h1;go_wp2_with fail;refine(M _).mono ?_;rintro e T ⟨rfl,d⟩;have h:=j.grown d;have ae:=bN d A;have af:=bN d B;have ag:=bN d C;have ah:=bN d D;have U:=I (aa K d);clear j A B C D K d;cases d:mE.qm ⟨X,an,J,n,p,k,m⟩
  .have Q:=I d;go_wp2;go_ret;exact⟨λq=>absurd (q.symm.trans r) Z,λ_ _=>⟨rfl,U⟩,λi v q j=>absurd (j.symm.trans Q) Z⟩
  .have Q:=I d;have Ui:=h.len;obtain⟨x,V⟩:∃x,Hid (x=b[i]):=⟨_,I rfl⟩
   obtain⟨k0,k1,k2,k3,k4,k5,k6,k7⟩:=h.eight i y x V.o;have f4:=h.live.frozen (o+i*8+4);have f5:=h.live.frozen (o+i*8+5);have f6:=h.live.frozen (o+i*8+6);have f7:=h.live.frozen (o+i*8+7);have OL:(i:Int)<20:=G;have ab:(0:Int)<=(i:Int):=G;have L:=I h;clear h d M;go_wp2;go_region;go_wp2;go_ret;have R:bU ((((T.setCell (F g (o+i*8+4)) (Y n)).setCell (F g (o+i*8+4+1)) (Y p)).setCell (F g (o+i*8+4+2)) (Y k)).setCell (F g (o+i*8+4+3)) (Y m)) g o (b.set i (b[i].ry ⟨X,an,J,n,p,k,m⟩))/\CF T ((((T.setCell (F g (o+i*8+4)) (Y n)).setCell (F g (o+i*8+4+1)) (Y p)).setCell (F g (o+i*8+4+2)) (Y k)).setCell (F g (o+i*8+4+3)) (Y m)) (KT g o):=by
    refine L.LQ i y _ (((((CF.refl _ _).setCell _ _ _ (λ_=>⟨rfl,by omega,by omega⟩)).setCell _ _ _ (λ_=>⟨rfl,by omega,by omega⟩)).setCell _ _ _ (λ_=>⟨rfl,by omega,by omega⟩)).setCell _ _ _ (λ_=>⟨rfl,by omega,by omega⟩)) ?_;rw[<-V];refine JF ?_ ?_ ?_ ?_ ?_ ?_ ?_ ?_
    .exact ax _ (ax _ (ax _ (ax _ k0 G) G) G) G
    .exact ax _ (ax _ (ax _ (ax _ k1 G) G) G) G
    .exact ax _ (ax _ (ax _ (ax _ k2 G) G) G) G
    .exact ax _ (ax _ (ax _ (ax _ k3 G) G) G) G
    .exact ax _ (ax _ (ax _ (dw _ k4) G) G) G
    .exact ax _ (ax _ (dw _ (ax _ k5 G)) G) G
    .exact ax _ (dw _ (ax _ (ax _ k6 G) G)) G
    .exact dw _ (ax _ (ax _ (ax _ k7 G) G) G)
   exact⟨λq=>absurd (q.symm.trans r) Z,λ_ q=>absurd (q.symm.trans Q) Z,λj hj q _=>by have e:=HE.o.symm.trans q;injection e with e;subst e;exact⟨rfl,R.1.drewN 1,(CF.before U R.2).drew⟩⟩
theorem aG{e:Func}{a u:Tmp}{f:TypeId}(h:e.results=#[.cell a f,.tmp u])(d)(P)(w)(b)(g:d.getD a undef = π b 0)(x)(hl:(loadVar f ⟨b,0,none⟩).run P w=.ok x w):
  (results e d).run P w=.ok (.tuple #[x,d.getD u undef]) w:=by
 have hp':d[a]?.getD undef = π b 0:=by simpa using g
 exact rm
theorem gT{a:World}(b)(f:a.1.size<=b):∀(d)(o)(w),a.grownBy w none->a.grownBy (w.setCells b o d) none:=by
 intro d o w h;have C:=CF.setCells (a:=a) (ex:=λ_ _=>False) b d o w (CF.bF h _) (λj _ e=>by omega);exact C.gb (λ_ _ _ e=>e)
theorem eP{P:Program}{b:Nat}{cs:List Value}(h:w.rangeAt b 0 cs)(a)(d)(g:P.underlying a=some d)(e:d.isRow=true)(f:(P.info? a).map (·.size)=some cs.length):(loadVar a ⟨b,0,none⟩).run P w=.ok (.agg cs.toArray) w:=(by grind [run_loadVar_mid])
theorem jw(w:World)(b)(a d e f g h i j){k l m n o p q r:Value}(y:w.c b 0=some k)(A:w.c b 1=some l)(B:w.c b 2=some m)(C:w.c b 3=some n)(t:w.c b 4=some o)(u:w.c b 5=some p)(v:w.c b 6=some q)(x:w.c b 7=some r):
  ((((((((w.s b 0 a).s b 1 d).s b 2 e).s b 3 f).s b 4 g).s b 5 h).s b 6 i).s b 7 j).rangeAt b 0 [a,d,e,f,g,h,i,j]:=by
 refine JF ?_ ?_ ?_ ?_ ?_ ?_ ?_ ?_<;>try simp only[cN]
 .exact ax _ (ax _ ti O) O
 .exact ax _ ti O
 .grind [ax,dw]
 .grind [dw,ax]
 .exact ax _ (ax _ (ax _ (dw _ (ax _ (ax _ (ax _ (ax _ t O) O) O) O)) O) O) O
 .exact ax _ (ax _ (dw _ (ax _ (ax _ (ax _ (ax _ (ax _ u O) O) O) O) O)) O) O
 .exact ax _ (dw _ (ax _ (ax _ (ax _ (ax _ (ax _ (ax _ v O) O) O) O) O) O)) O
 .exact dw _ (ax _ (ax _ (ax _ (ax _ (ax _ (ax _ (ax _ x O) O) O) O) O) O) O)
abbrev lB:Array Value:=#[ε,Y 0,H 0,H 0,Y 0,Y 0,Y 0,Y 0]
theorem X6(g o)(a)(l)(S)(w)(h:bU w g o a)(b:a.Pairwise (λx y=>Op.bytesLess x.name y.name=true))(C:Hid (S=⟨l.toArray⟩)):Calls prog 278 #[π g o,.string S] w λe d=>
   ((BE.pq a l).isSome=false->e=.returned (.tuple #[.agg lB,.bool false]))/\(∀i(k:i<a.length),BE.pq a l=some i->e=.returned (.tuple #[.agg (a[i]).bE.toArray,.bool true]))/\w.grownBy d none:=by
 have u:=I b
 have K:w.1.size≠g:=λe=>by have:=h.live.lt;omega
 have m:=I (cx w (.cells lB 126) none)
 have n:=I (h.grown m)
 clear b h
 have q:=I (b'.new w lB 126)
 go_in
 go_wp2_with fail
 refine(tX g o a l S _ n u C).mono ?_
 rintro e A ⟨rfl,f⟩
 have h:=n.grown f
 have r:=I (aa m f)
 have p:=q.grown f
 have d:∀j,j<8->∃v,A.c w.1.size j=some v:=λj y=>cA.1 (p.some j y)
 have b:=λj=>p.frozen j
 obtain⟨d0,L⟩:=d 0 O
 obtain⟨d1,M⟩:=d 1 O
 obtain⟨d2,P⟩:=d 2 O
 obtain⟨d3,Q⟩:=d 3 O
 obtain⟨d4,R⟩:=d 4 O
 obtain⟨d5,T⟩:=d 5 O
 obtain⟨d6,U⟩:=d 6 O
 obtain⟨d7,V⟩:=d 7 O
 have f0:=b 0
 have f1:=b 1
 have f2:=b 2
 have f3:=b 3
 have f4:=b 4
 have f5:=b 5
 have f6:=b 6
 have f7:=b 7
 have t:=I (λB D J W X v5 v6 v7=>jw A w.1.size B D J W X v5 v6 v7 L M P Q R T U V)
 clear n f q m p d b
 cases b:(BE.pq a l).isSome
 .have d:=I b;clear h;go_wp2;refine bodyPost_ret (v:=.tuple #[.agg lB,.bool false]) ?_ rfl ⟨λ_=>rfl,λi k q=>(by have:=d.o;rw[q]at this;cases this),?_⟩
  .exact aG results278 _ _ _ w.1.size rfl _ (eP (t _ _ _ _ _ _ _ _) 126 _ underlying126 rfl Tryz.iT)
  .repeat refine az ?_ (cy _)
   exact r.o
 .obtain⟨k,p,J⟩:=sF u l b;obtain⟨i,f⟩:∃i,Hid (i=BE.ins a l):=⟨_,I rfl⟩
  have m:i<a.length:=by rw[f];exact k
  have B:Hid (BE.pq a l=some i):=by show _=_;rw[f];exact p
  have d:=I b;have X:=h.len;have W:(i:Int)<20:=G;have D:(0:Int)<=(i:Int):=G;obtain⟨x,n⟩:∃x,Hid (x=a[i]):=⟨_,I rfl⟩
  obtain⟨k0,k1,k2,k3,k4,k5,k6,k7⟩:=h.eight i m x n.o;rw[<-f];clear p J k b h;go_wp2;refine bodyPost_ret (v:=.tuple #[.agg x.bE.toArray,.bool true]) ?_ rfl ⟨λq=>absurd (q.symm.trans d) Z,λj y q=>(by have e:=B.o.symm.trans q;injection e with e;subst e;rw[n]),?_⟩
  .exact aG results278 _ _ _ w.1.size rfl _ (eP (cs:=x.bE) (t _ _ _ _ _ _ _ _) 126 _ underlying126 rfl Tryz.iT)
  .repeat refine az ?_ (cy _)
   exact r.o
theorem Gi{P:Program}(w)(p B C e)(k b o d h)(a)(f m)(g)(A:P.underlying p=some (.slice e))(q:(P.info? e).map (·.size)=some k)(y:g.length=Nat.min f d*k)(l:∀j v,g[j]?=some v->w.cell? (a.add j)=some v)(t:∀j,j<g.length->(w.c b (o+j)).isSome=true)(u:∀j,j<g.length->w.z b (o+j)=false)(r:∀v∈g,v.oneCell'=true):
  (Builtin.copy_ #[p,B] C #[ς b o d h,.slice (some a) f m]).run P w=.ok (goInt (Nat.min f d)) (w.setCells b o g):=by
 have x:=run_loadCells_list (P:=P) w a g l
 have n:=run_storeCells_cells (P:=P) b o g 0 w (by simpa using t) (by simpa using u) r
 cases j:P.info? e with
 |none=>simp[j]at q
 |some i=>
  have v:i.size=k:=by simpa[j]using q
  simp[Builtin.copy_,run_underlying A,Builtin.lenOf,Builtin.firstCells,sizeOf,typeInfo,j,v,<-y,x,n]
theorem LU(es):∀v∈dP es,v.oneCell'=true:=by
 intro v a;simp only[dP,List.mem_flatten,List.mem_map]at a;obtain⟨l,⟨e,_,rfl⟩,a⟩:=a;simp only[BE.bE,List.mem_cons,List.not_mem_nil,or_false]at a;rcases a with rfl|rfl|rfl|rfl|rfl|rfl|rfl|rfl<;>rfl
theorem Gj{P:Program}(w)(j q r b)(k)(d a)(e g f h)(p:P.underlying j=some (.slice b))(o:(P.info? b).map (·.size)=some k)(n:Nat.min f e=0):
  (Builtin.copy_ #[j,q] r #[.slice d e g,.slice a f h]).run P w=.ok (goInt 0) w:=by
 cases l:P.info? b with
 |none=>simp[l]at o
 |some i=>
  have m:=λx=>by simpa using run_loadCells_list (P:=P) w x [] Z
  cases d<;>cases a<;>simp[Builtin.copy_,run_underlying p,Builtin.lenOf,Builtin.firstCells,sizeOf,typeInfo,l,n,storeCells,m]
theorem bU.copy{o:Nat}(h:bU w g o es)(r)(i j f l b m)(d a)(p:0<b->d=⟨g,o+j*8,none⟩/\a=⟨g,o+i*8,none⟩)(B:i+b=es.length)(A:b<=f)(C:j+b<=20):
  (Builtin.copy_ #[287,287] r #[.slice (some d) f l,.slice (some a) b m]).run prog w=.ok (goInt b) (w.setCells g (o+j*8) (dP (es.drop i))):=by
 have k:(dP (es.drop i)).length=b*8:=by rw[eG,dr,<-B,Nat.add_sub_cancel_left]
 have t:Nat.min b f=b:=gh A
 rcases Nat.eq_zero_or_pos b with n|n
 .have e:=fh (by rw[k,n]);rw[e,n];exact Gj (P:=prog) w 287 287 r 126 8 (some d) (some a) f l 0 m underlying287 Tryz.iT (Nat.zero_min _)
 obtain⟨rfl,rfl⟩:=p n
 have:=Gi (P:=prog) w 287 287 r 126 8 g (o+j*8) f l ⟨g,o+i*8,none⟩ b m (dP (es.drop i)) underlying287 Tryz.iT (by rw[t,k])
  (λq v x=>by
   have u:q<b*8:=(by have:=(cM.1 x).1;rwa [k]at this);have e:(dP es)[i*8+q]?=some v:=by
    conv=>lhs;rw[<-eN i es,jQ]
    rw[cY (by rw[eG,ep];omega),eG,ep,show i*8+q-min i es.length*8=q from by rw[gh G];omega];exact x
   have:=h.room _ _ e;rw[<-gi]at this;have y:(⟨g,o+i*8,none⟩:Addr).add q=⟨g,o+i*8+q,none⟩:=(by unfold Addr.add;split<;>simp_all);rw[y]
   exact this)
  (λq u=>h.live.some _ (by rw[k]at u;omega)) (λq _=>h.live.frozen _) (LU _)
 rw[t]at this;exact this
theorem Il(g o k:Nat)(b:k<=20):∃a,(∀w,(Instr.sliceAt 127 (π g o) (some (Y (k:Int))) none none).run prog w=.ok (.slice (some a) (20-k) (20-k)) w)/\(k<20->a=⟨g,o+k*8,none⟩):=by
 refine⟨if 20=k then⟨g,o,none⟩ else(⟨g,o,none⟩:Addr).add (k*8),λw=>?_,λh=>?_⟩
 .have e:=run_sliceAt_array_l (P:=prog) w 127 ⟨g,o,none⟩ underlying127 .i64 (k:Int) G (by show(k:Int)<=20;omega);rw[e];rfl
 .rw[cZ G];unfold Addr.add;split<;>simp_all
theorem Sz(g o k h:Nat)(d:k<=h)(b:h<=20):∃a,(∀w,(Instr.sliceAt 127 (π g o) (some (Y (k:Int))) (some (Y (h:Int))) none).run prog w=.ok (.slice (some a) (h-k) (20-k)) w)/\(k<20->a=⟨g,o+k*8,none⟩):=by
 refine⟨if 20=k then⟨g,o,none⟩ else(⟨g,o,none⟩:Addr).add (k*8),λw=>?_,λh=>?_⟩
 .have e:=run_sliceAt_array_lh (P:=prog) w 127 ⟨g,o,none⟩ underlying127 .i64 .i64 (k:Int) (h:Int) G G (by show(h:Int)<=20;omega);rw[e];rfl
 .rw[cZ G];unfold Addr.add;split<;>simp_all
theorem bU.removed{n d:World}{o:Nat}(h:bU w g o es)(i m:Nat)(t:es.length=m+1)(D:i<=m)(C:n=w.setCells g (o+i*8) (dP (es.drop (i+1))))(f:CF n d (λb j=>b=g/\o+m*8<=j/\j<o+161))(x:d.c g (o+160)=some (Y (m:Int))):bU d g o (es.take i++es.drop (i+1))/\CF w d (KT g o):=by
 have a:(dP (es.drop (i+1))).length=(m-i)*8:=by rw[eG,dr,t];congr 1;omega
 have B:=h.len;have p:CF w n (λb j=>b=g/\o+i*8<=j/\j<o+m*8):=by
  grind [CF.setCells,CF.refl]
 have v:(es.take i++es.drop (i+1)).length=m:=by rw[cD,ep,dr,t];omega
 have r:CF w d (KT g o):=(p.mono (λb j _ e=>⟨e.1,by omega,by omega⟩)).trans f (λb j _ e=>⟨e.1,by omega,by omega⟩);refine⟨⟨h.live.cf r,?_,?_,by omega⟩,r⟩
 .rw[jQ];intro j u l;have b:(dP (es.take i)).length=i*8:=by rw[eG,ep,gh G]
  by_cases y:j<i*8
  .rw[cW (by rw[b];exact y)]at l;have e:(dP es)[j]?=some u:=by
    conv=>lhs;rw[<-eN i es,jQ]
    grind
   exact f.cell (p.cell (h.room j u e) (λq=>by omega)) (λq=>by omega)
  .rw[cY (by rw[b];omega),b]at l;have k:j-i*8<(m-i)*8:=(by have:=(cM.1 l).1;rwa [a]at this);have e:=World.cell?_setCells_in g (dP (es.drop (i+1))) (o+i*8) w (λq A=>h.live.some _ (by rw[a]at A;omega)) (j-i*8) (by rw[a];exact k);grind [CF.cell]
 .rw[v];exact x
theorem bU.X7{a:World}{o:Nat}(h:bU w g o es)(i m:Nat)(f:es.length=m+1)(e:i<=m)(d:a=w.setCells g (o+i*8) (dP (es.drop (i+1)))){u:Value}(b:a.c g (o+160)=some u){v0 v1 v2 v3 v4 v5 v6 v7:Value}:
  bU (((((((((a.s g (o+160) (Y (m:Int))).s g (o+m*8) v0).s g (o+m*8+1) v1).s g (o+m*8+2) v2).s g (o+m*8+3) v3).s g (o+m*8+4) v4).s g (o+m*8+5) v5).s g (o+m*8+6) v6).s g (o+m*8+7) v7) g o (es.take i++es.drop (i+1))/\CF w (((((((((a.s g (o+160) (Y (m:Int))).s g (o+m*8) v0).s g (o+m*8+1) v1).s g (o+m*8+2) v2).s g (o+m*8+3) v3).s g (o+m*8+4) v4).s g (o+m*8+5) v5).s g (o+m*8+6) v6).s g (o+m*8+7) v7) (KT g o):=by
 have j:=h.len
 refine h.removed i m f e d ?_ ?_
 .exact((((((((((CF.refl _ _).setCell _ _ _ G).setCell _ _ _ G).setCell _ _ _ G).setCell _ _ _ G).setCell _ _ _ G).setCell _ _ _ G).setCell _ _ _ G).setCell _ _ _ G).setCell _ _ _ G)
 grind [ax,dw]
theorem P7(g o)(es)(l)(S)(w)(h:bU w g o es)(b:es.Pairwise (λx y=>Op.bytesLess x.name y.name=true))(hS:Hid (S=⟨l.toArray⟩)):Calls prog 133 #[π g o,.string S] w λe a=>
   ((BE.pq es l).isSome=false->e=.returned (Y 6)/\w.grownBy a none)/\(∀i,BE.pq es l=some i->e=.returned (Y 0)/\bU a g o (es.take i++es.drop (i+1))/\CF w a (KT g o)):=by
 have L:=I b
 clear b
 go_in
 go_wp2_with fail
 refine(tX g o es l S _ h L hS).mono ?_
 rintro e x ⟨rfl,n⟩
 have v:=h.grown n
 cases k:(BE.pq es l).isSome
 .have A:=I k;go_wp2;go_ret;exact⟨λ_=>⟨rfl,n⟩,λi q=>by have:=A.o;rw[q]at this;cases this⟩
 .obtain⟨Q,P,hn⟩:=sF L l k;have A:=I k;obtain⟨i,C⟩:∃i,Hid (i=BE.ins es l):=⟨_,I rfl⟩
  have J:i<es.length:=by rw[C];exact Q
  have V:Hid (BE.pq es l=some i):=by show _=_;rw[C];exact P
  have X:=v.len;obtain⟨m,u⟩:∃m,Hid (es.length=m+1):=⟨es.length-1,I G⟩
  have f:=v.count;rw[u]at f X J;rw[show((m+1:Nat):Int)=(m:Int)+1 from by omega]at f;have HB:=I v;have W:=I n;rw[<-C];clear P hn Q k h v n;have OL:(i:Int)<20:=G;have af:(0:Int)<=(i:Int):=G;have ah:(m:Int)<20:=G;have ag:(0:Int)<=(m:Int):=G;have ab:(i:Int)<=(m:Int):=G;obtain⟨d,hd,B⟩:=Il g o i G;obtain⟨a,M,p⟩:=Sz g o (i+1) (m+1) G G;have hw:IntKind.i64.wrap ((i:Int)+1)=(i:Int)+1:=oE;have ai:IntKind.i64.wrap (m:Int)=(m:Int):=oE;have ae:=λw=>by
   have:=M w;rw[show((i+1:Nat):Int)=(i:Int)+1 from by omega,show((m+1:Nat):Int)=(m:Int)+1 from by omega,show m+1-(i+1)=m-i from by omega,show 20-(i+1)=19-i from by omega]at this;exact this
  obtain⟨y,r⟩:∃y,Hid (y=x.drew.setCells g (o+i*8) (dP (es.drop (i+1)))):=⟨_,I rfl⟩
  have K:=(HB.drewN 1).copy 3 (i+1) i (20-i) (20-i) (m-i) (19-i) d a (λb=>⟨B G,p G⟩) (by rw[u];omega) G G;have T:(Builtin.copy_ #[287,287] 3 #[.slice (some d) (20-i) (20-i),.slice (some a) (m-i) (19-i)]).run prog x.drew=.ok (Y ((m-i:Nat):Int)) y:=by rw[r];exact K
  have t:CF x y (λb j=>b=g/\o+i*8<=j/\j<o+160):=by
   rw[r];exact CF.setCells g _ _ _ (CF.refl x _).drew (λj b _=>⟨rfl,by omega,by rw[eG,dr,u.o]at b;omega⟩)
  have D:=t.cell f (λq=>by omega);have b:=HB.live.cf t;have ad:=b.frozen (o+160);obtain⟨c0,p0⟩:=cA.1 (b.some (o+m*8) G);obtain⟨c1,p1⟩:=cA.1 (b.some (o+m*8+1) G);obtain⟨c2,p2⟩:=cA.1 (b.some (o+m*8+2) G);obtain⟨c3,p3⟩:=cA.1 (b.some (o+m*8+3) G);obtain⟨c4,p4⟩:=cA.1 (b.some (o+m*8+4) G);obtain⟨c5,p5⟩:=cA.1 (b.some (o+m*8+5) G);obtain⟨c6,p6⟩:=cA.1 (b.some (o+m*8+6) G);obtain⟨c7,p7⟩:=cA.1 (b.some (o+m*8+7) G);have z0:=b.frozen (o+m*8);have z1:=b.frozen (o+m*8+1);have z2:=b.frozen (o+m*8+2);have z3:=b.frozen (o+m*8+3);have z4:=b.frozen (o+m*8+4);have z5:=b.frozen (o+m*8+5);have z6:=b.frozen (o+m*8+6);have z7:=b.frozen (o+m*8+7);have U:=I (dN B p);clear B p M K t b;go_wp2;go_region;go_wp2;go_region;go_wp2;go_ret;have R:=bU.X7 (HB.drewN 1) i m u G r D (v0:=ε) (v1:=Y 0) (v2:=H 0) (v3:=H 0) (v4:=Y 0) (v5:=Y 0) (v6:=Y 0) (v7:=Y 0);exact⟨λq=>absurd (q.symm.trans A) Z,λj q=>by have e:=V.o.symm.trans q;injection e with e;subst e;exact⟨rfl,R.1.drewN 1,(CF.before W R.2.jN).drew⟩⟩
