import Derived.Test.YtlfifnpjeangmaaGreatDoorGEBoxM
import Derived.Test.YtlfifnpjeangmaaGreatDoorGEShelf
import Derived.Test.YtlfifnpjeangmaaGreatDoorGEIns
import Derived.BigQuiet
import Derived.Test.YtlfifnpjeangmaaGreatDoorGEBlk
namespace Go.Proofs.YtlfifnpjeangmaaGreatDoor
set_option maxHeartbeats 400000
open Proofs.Tryz Go.RowKit
set_option maxRecDepth 100000
variable {es:List BE}{g:Nat}{w:World}{p:Prop}
def BE.bE(e:BE):List Value:=[.string e.name,ι e.aH,υ e.key.toNat,υ e.before.toNat,ι e.bI,ι e.aC,ι e.bB,ι e.ae]
def dP(l:List BE):List Value:=(l.map BE.bE).flatten
theorem eD(l):(dP l).length=l.length*8:=by
 induction l with
 |nil=>rfl
 |cons x l a=>simp only[dP,eE,eI,cD,de]at *;rw[a];show 8+_=_;omega
theorem jP(a b):dP (a++b)=dP a++dP b:=by simp[dP]
theorem vM(l):∀(k j)(a:k<l.length),j<8->(dP l)[k*8+j]?=(l[k]).bE[j]?:=by
 induction l with
 |nil=>intro k j a;simp at a
 |cons x l c=>
  intro k j a b;have e:dP (x::l)=x.bE++dP l:=by simp[dP]
  rw[e];cases k with
  |zero=>rw[gf,cN,cW (by show j<8;exact b)];rfl
  |succ k=>
   rw[cY (by show 8<=(k+1)*8+j;omega),show(k+1)*8+j-x.bE.length=k*8+j from by show(k+1)*8+j-8=k*8+j;omega];grind
structure bS(w:World)(g o:Nat)(es:List BE):Prop where
 live:Live w g (o+161)
 room:w.rangeAt g o (dP es)
 count:w.cell? (g,o+160)=some (ι es.length)
 len:es.length<=20
theorem bS.cf{w':World}{ex:Nat->Nat->Prop}{o:Nat}(h:bS w g o es)(k:CF w w' ex)(a:∀j,o<=j->j<o+161->¬ ex g j):bS w' g o es:=
 ⟨h.live.cf k,(by grind [CF.range,bS.room,bS.len,eD]),(by grind [CF.cell,bS.count]),h.len⟩
theorem bS.grown{w':World}{o:Nat}(h:bS w g o es)(k:w.grownBy w' none):bS w' g o es:=h.cf (CF.bF k (λ_ _=>False)) (λ_ _ _ e=>e)
theorem bS.drewN{o:Nat}(h:bS w g o es)(n):bS (w.drewN n) g o es:=h.grown (aR (cC w none) n)
theorem bS.entry{o:Nat}(h:bS w g o es)(k)(b:k<es.length):w.rangeAt g (o+k*8) es[k].bE:=by
 intro j u a;have c:j<8:=(cM.1 a).1;have:=h.room (k*8+j) u (by rw[vM es k j b c];exact a);grind
theorem XC:∀a b,(Lib.compareBytes a b<0)↔Op.bytesLess a b=true:=by
 intro a;induction a with
 |nil=>intro b;cases b<;>simp[Lib.compareBytes,Op.bytesLess]
 |cons x a c=>
  intro b;cases b with
  |nil=>simp[Lib.compareBytes,Op.bytesLess]
  |cons y b=>
   simp only[Lib.compareBytes,Op.bytesLess,Bool.or_eq_true,Bool.and_eq_true,decide_eq_true_eq,db];grind
theorem acK(h:p:=by
 intro a
 induction a with
 |nil=>intro b;cases b<;>simp[Lib.compareBytes]
 |cons x a ih=>
  intro b
  cases b with
  |nil=>simp[Lib.compareBytes]
  |cons y b=>
   simp only[Lib.compareBytes]
   grind):p:=h
theorem XD:∀a b,(Lib.compareBytes a b=0)↔a=b:=by
 exact acK
theorem TU:∀a b,-1<=Lib.compareBytes a b/\Lib.compareBytes a b<=1:=by
 exact acK
theorem XE(l):∀(es)(k),k<=es.length->(∀j(e:j<es.length),j<k->Op.bytesLess es[j].name l=true)->(∀h:k<es.length,Op.bytesLess es[k].name l=false)->BE.ins es l=k:=by
 intro es;induction es with
 |nil=>intro k a _ _;simp at a;subst a;rfl
 |cons x es d=>
  intro k a c f;cases k with
  |zero=>
   grind [BE.ins]
  |succ k=>
   have b:=c 0 agI agE;simp only[List.getElem_cons_zero]at b;rw[BE.ins,if_pos b,d k (by simpa using a) agM agM]
theorem XF(m:es.Pairwise (λx y=>Op.bytesLess x.name y.name=true))(l):BE.o9 es l=if h:BE.ins es l<es.length then(if es[BE.ins es l].name=l then some (BE.ins es l) else none) else none:=by
 have f:=Pt es l;have k:=Ia l es;cases h:BE.o9 es l with
 |none=>
  grind [Sb]
 |some i=>
  obtain⟨d,c⟩:=Ch h;have a:BE.ins es l=i:=by
   refine XE l es i agE (λj e b=>?_) (λn=>?_)
   ·have:=List.pairwise_iff_getElem.1 m j i e d b;grind
   ·rw[c];exact H9 l
  rw[dif_pos (by rw[a];exact d),if_pos (by simp only[a];exact c),a]
theorem aeb(h:p:=by
 go_wp2
 go_ret
 exact⟨rfl,_,rfl⟩):p:=h
theorem vN(g o:Nat)(es)(w)(h:bS w g o es):
  Calls prog 148 #[(g,o)] w λe w'=>e=.returned (.slice (some (g,o)) es.length 20)/\∃q,w'=w.drewN q:=by
 have d:=h.count
 have c:=h.len
 clear h
 generalize es.length=n at *
 have b:(n:Int)<=20:=agE
 have a:(0:Int)<=(n:Int):=agE
 go_enter func148,ntmps148
 go_wp2_with fail
 go_quiet (fail)
 exact aeb
theorem Tryz.iT:(prog.info? 126).map (·.size)=some 8:=by kernel_rfl
theorem Sj(x:BE)(l)(S)(w)(hS:Hid (S=⟨l.toArray⟩)):
  Calls prog 200 #[.agg x.bE.toArray,.string S] w λe w'=>e=.returned (ι (Lib.compareBytes x.name l))/\w.grownBy w' none:=by
 obtain⟨name,f,key,before,c,aC,d,ae⟩:=x
 have a:(⟨name.toArray⟩:ByteArray).data.toList=name:=agI
 have b:S.data.toList=l:=by rw[hS.o]
 have C:=λw=>Tryz.strings_Compare (⟨name.toArray⟩:ByteArray) S w
 rw[a,b]at C
 have G:=cx w (.cells (BE.bE ⟨name,f,key,before,c,aC,d,ae⟩).toArray 126) none
 simp only[BE.bE]at G⊢
 clear a b
 go_enter func200,ntmps200
 go_wp2_with (go_at_call 201;refine(C _).mono ?_;rintro e w' ⟨rfl,rfl⟩)
 go_ret
 exact⟨rfl,G⟩
set_option maxHeartbeats 2000000
theorem Lv(g o:Nat)(f)(l)(n)(S)(w)(h:bS w g o f)(hn:Hid (f.length=n))(Q:f.Pairwise (λx y=>Op.bytesLess x.name y.name=true))(hS:Hid (S=⟨l.toArray⟩)):
  Calls prog 199 #[.slice (some (g,o)) n 20,.string S,.func (.func 200) #[] #[]] w λe w'=>e=.returned (.tuple #[ι (BE.ins f l),.bool (BE.o9 f l).isSome])/\w.grownBy w' none:=by
 have v:=h.len
 rw[hn.o]at v
 have K:=hid Q
 clear Q
 go_enter func199,ntmps199
 go_wp2
 go_loopw [9,10,11] (λa b _ wr=>∃i j:Nat,i<=j/\j<=n/\a = ι i/\b = ι j/\Hid (∀k(r:k<f.length),k<i->Op.bytesLess f[k].name l=true)/\Hid (∀k(r:k<f.length),j<=k->Op.bytesLess f[k].name l=false)/\w.grownBy wr none) (λa b _ _=>(intOf b-intOf a).toNat)
 case atStart=>exact⟨0,n,cS _,cy _,rfl,rfl,hid (λk _ r=>by omega),(by grind [hid,RowKit.Hid.o]),cC _ _⟩
 case round=>
  obtain⟨i,j,X,F,rfl,rfl,N,HB,m⟩:=hrel;have s:=h.grown m;by_cases af:i<j
  ·have J:(i:Int)<(j:Int):=agE;have W:(i+j) / 2<n:=agE;have G:(i+j) / 2<f.length:=(by rw[hn.o];exact W);have A:i<=(i+j) / 2:=agE;have ah:(i+j) / 2<j:=agE;have d:=hid (s.entry _ G);obtain⟨x,u⟩:∃x,Hid (x=f[(i+j) / 2]):=⟨_,hid rfl⟩
   rw[<-u.o]at d;have ab:((i:Int)+(j:Int))<=40:=agE;have T:=hid (XC x.name l);have E:=hid (TU x.name l);clear s;go_wp2_with (refine wpList_load_mid rfl 126 _ rfl g (o+(i+j) / 2*8) rfl x.bE _ d.o underlying126 rfl Tryz.iT ?_)
   refine(Sj x l S _ hS).mono ?_;rintro e w1 ⟨rfl,p⟩;have z:=aa m p;clear d m p;obtain⟨c,Y⟩:∃c,Hid (c=Lib.compareBytes x.name l):=⟨_,hid rfl⟩
   rw[<-Y.o]at T E⊢;have ai:=E.o.1;have ad:=E.o.2;by_cases hc:c<0
   ·have P:=hid (T.o.1 hc);go_wp2;go_roundw
    case rel=>
     refine⟨(i+j) / 2+1,j,by omega,F,by go_num,rfl,hid (λk r B=>?_),HB,z⟩;rcases Nat.lt_or_ge k ((i+j) / 2)with q|q
     ·exact zi (List.pairwise_iff_getElem.1 K.o k _ r G q) (by rw[<-u.o];exact P.o)
     grind [RowKit.Hid.o]
    case measure=>simp[intOf];omega
   ·have P:Hid (Op.bytesLess x.name l=false):=by
     grind [RowKit.Hid.o]
    go_wp2;go_roundw
    case rel=>
     refine⟨i,(i+j) / 2,A,by omega,rfl,by go_num,N,hid (λk r B=>?_),z⟩;rcases Nat.lt_or_ge ((i+j) / 2) k with q|q
     ·cases hb:Op.bytesLess f[k].name l with
      |false=>rfl
      |true=>
       have h1:=zi (List.pairwise_iff_getElem.1 K.o _ k G r q) hb;grind [RowKit.Hid.o]
     grind [RowKit.Hid.o]
    case measure=>simp[intOf];omega
  ·have D:i=j:=agE;subst D;have M:Hid (BE.ins f l=i):=by
    grind [XE,RowKit.Hid.o]
   have t:=hid (XF K.o l);clear N HB;have J:¬ (i:Int)<(i:Int):=agE;by_cases I:i<n
   ·have L:i<f.length:=(by rw[hn.o];exact I);have H:(i:Int)<(n:Int):=agE;have ag:(0:Int)<=(i:Int):=agE;have d:=hid (s.entry _ L);obtain⟨x,u⟩:∃x,Hid (x=f[i]):=⟨_,hid rfl⟩
    rw[<-u.o]at d;have C:Hid ((BE.o9 f l).isSome=(Lib.compareBytes x.name l==0)):=by
     grind [XD,RowKit.Hid.o]
    clear s t u;obtain⟨name,U,key,before,R,aC,O,ae⟩:=x;have k0:wr.cell? (g,o+i*8)=some (.string name):=d.o 0 _ rfl;have V:wr.cell? (g,o+i*8+1)=some (ι U):=d.o 1 _ rfl;have Z:wr.cell? (g,o+i*8+2)=some (υ key.toNat):=d.o 2 _ rfl;have k3:wr.cell? (g,o+i*8+3)=some (υ before.toNat):=d.o 3 _ rfl;have k4:wr.cell? (g,o+i*8+4)=some (ι R):=d.o 4 _ rfl;have k5:wr.cell? (g,o+i*8+5)=some (ι aC):=d.o 5 _ rfl;have k6:wr.cell? (g,o+i*8+6)=some (ι O):=d.o 6 _ rfl;have k7:wr.cell? (g,o+i*8+7)=some (ι ae):=d.o 7 _ rfl;go_wp2_with fail;refine(Sj ⟨name,U,key,before,R,aC,O,ae⟩ l S _ hS).mono ?_;rintro e w1 ⟨rfl,p⟩;clear k0 V Z k3 k4 k5 k6 k7;have z:=aa m p;clear d m p;go_wp2;go_ret2;exact⟨by rw[M.o,C.o];rfl,z⟩
   ·have H:¬ (i:Int)<(n:Int):=agE;have C:Hid ((BE.o9 f l).isSome=false):=by
     grind [RowKit.Hid.o]
    clear s t;go_wp2;go_ret2;exact⟨by rw[M.o,C.o];rfl,m⟩
theorem tQ(g o:Nat)(a)(l)(S)(w)(h:bS w g o a)(c:a.Pairwise (λx y=>Op.bytesLess x.name y.name=true))(hS:Hid (S=⟨l.toArray⟩)):
  Calls prog 160 #[(g,o),.string S] w λe w'=>e=.returned (.tuple #[ι (BE.ins a l),.bool (BE.o9 a l).isSome])/\w.grownBy w' none:=by
 have i:=hid c
 clear c
 go_enter func160,ntmps160
 go_wp2_with fail
 refine(vN g o a w h).mono ?_
 rintro e w' ⟨rfl,q,rfl⟩
 have d:=h.drewN q
 have f:=aR (cC w none) q
 go_wp2_with fail
 refine(Lv g o a l a.length S _ d (hid rfl) i.o hS).mono ?_
 rintro e j ⟨rfl,b⟩
 have G:=aa f b
 clear b d
 go_wp2
 go_ret2
 exact⟨rfl,G⟩
abbrev vO(bI aC bB ae:Int):Array Value:=#[ι bI,ι aC,ι bB,ι ae]
theorem zB(a:mW)(w):Calls prog 136 #[.agg a.cells] w λe w'=>e=.returned (.agg (vO a.bI a.aC a.bB a.ae))/\w.grownBy w' none:=by
 obtain⟨f,d,key,c,aC,b,ae⟩:=a;simp only[mW.cells];go_enter func136,ntmps136;go_wp2;exact bodyPost_ret (v:=.agg #[ι c,ι aC,ι b,ι ae]) (by simp[results,results136,go_sem]) rfl ⟨rfl,aM (cx w _ none) _⟩
theorem adY(h:p:=by
 have HF:Hid (mW.ql ⟨ak,an,key,bI,aC,bB,ae⟩=false):=agR
 clear hb
 go_enter func162,ntmps162
 go_wp2
 go_ret
 exact⟨by rw[HF.o];rfl,cx w _ none⟩):p:=h
theorem Ih(a:mW)(w)(c:-9223372036854775808<=a.ae)(b:a.ae<=9223372036854775807):Calls prog 162 #[.agg (vO a.bI a.aC a.bB a.ae)] w λe w'=>e=.returned (.bool a.ql)/\w.grownBy w' none:=by
 obtain⟨ak,an,key,bI,aC,bB,ae⟩:=a;have d:Hid (mW.ql ⟨ak,an,key,bI,aC,bB,ae⟩=decide (0<=bI/\0<=aC/\0<=ae/\ae<64)):=rfl;have hb:=XG ae c b;simp only at c b⊢;by_cases i:0<=bI
 ·by_cases j:0<=aC
  ·have HF:Hid (mW.ql ⟨ak,an,key,bI,aC,bB,ae⟩=decide (0<=ae/\ae<64)):=agM;clear d;have HB:=hid hb;cases h:(bits .andNot .i64 ae 63==0)
   all_goals
    have f:=hid (HB.o.symm.trans h)
    clear hb HB
    go_enter func162,ntmps162
    go_wp2
    go_ret
    exact⟨by rw[HF.o,f.o];rfl,cx w _ none⟩
  ·exact adY
 ·exact adY
theorem JA{a:Nat}{l e k i c f h d:Value}(s:w.cell? (g,a)=some l)(m:w.cell? (g,a+1)=some e)(p:w.cell? (g,a+2)=some k)(t:w.cell? (g,a+3)=some i)(q:w.cell? (g,a+4)=some c)(o:w.cell? (g,a+5)=some f)(r:w.cell? (g,a+6)=some h)(n:w.cell? (g,a+7)=some d):
  w.rangeAt g a [l,e,k,i,c,f,h,d]:=by
 intro j u b
 match j,b with
 |0,b=>injection b with b;subst b;exact s
 |1,b=>injection b with b;subst b;exact m
 |2,b=>injection b with b;subst b;exact p
 |3,b=>injection b with b;subst b;exact t
 |4,b=>injection b with b;subst b;exact q
 |5,b=>injection b with b;subst b;exact o
 |6,b=>injection b with b;subst b;exact r
 |7,b=>injection b with b;subst b;exact n
 |j+8,b=>simp at b
theorem di{a:Addr}{u:Value}(v)(h:w.cell? a=some u):(w.setCell a v).cell? a=some v:=World.cell?_setCell_same _ _ _ h
theorem ax{i j:Nat}{u:Value}(v)(h:w.cell? (g,j)=some u)(a:i≠j):(w.setCell (g,i) v).cell? (g,j)=some u:=by
 grind [World.cell?_setCell_other]
def KL(g o:Nat)(b j:Nat):Prop:=b=g/\o<=j/\j<o+161
theorem bS.LC{w':World}{o:Nat}{a:List BE}(h:bS w g o a)(i)(p:i<a.length)(y)(f:CF w w' (λb j=>b=g/\o+i*8<=j/\j<o+i*8+8))(hy:w'.rangeAt g (o+i*8) y.bE):bS w' g o (a.set i y)/\CF w w' (KL g o):=by
 have n:=h.len;refine⟨⟨h.live.cf f,?_,?_,by rw[eL];exact n⟩,f.mono (λb j _ e=>⟨e.1,by omega,by omega⟩)⟩
 ·intro j u l;have m:j<(a.set i y).length*8:=by have:=(cM.1 l).1;rwa [eD]at this
  rw[eL]at m;have k:j / 8<a.length:=agE;have c:=vM (a.set i y) (j / 8) (j % 8) (by rw[eL];exact k) agE;rw[show j / 8*8+j % 8=j from by omega,l]at c;by_cases e:j / 8=i
  ·have d:(a.set i y)[j / 8]'agM=y:=by
    subst e;simp
   rw[d]at c;have:=hy (j % 8) u c.symm;grind
  ·have d:(a.set i y)[j / 8]'agM=a[j / 8]:=by
    rw[List.getElem_set_ne (λq=>e q.symm)]
   rw[d,<-vM a (j / 8) (j % 8) k agE,show j / 8*8+j % 8=j from by omega]at c;exact f.cell (h.room j u c.symm) (λq=>by omega)
 grind [bS.count,CF.cell]
theorem su{a:List BE}(b:a.Pairwise (λx y=>Op.bytesLess x.name y.name=true))(l)(h:(BE.o9 a l).isSome=true):∃c:BE.ins a l<a.length,BE.o9 a l=some (BE.ins a l)/\a[BE.ins a l].name=l:=by
 grind [XF]
theorem TW(g o:Nat)(b)(l)(S)(key)(w)(h:bS w g o b)(C:b.Pairwise (λx y=>Op.bytesLess x.name y.name=true))(hS:Hid (S=⟨l.toArray⟩))(B:∀e∈b,1<=e.aH/\e.aH<=4611686018427387904):
  Calls prog 134 #[(g,o),.string S,υ key.toNat] w λe w'=>
   ((BE.o9 b l).isSome=false->e=.returned (ι 6)/\w.grownBy w' none)/\(∀i(v:i<b.length),BE.o9 b l=some i->e=.returned (ι 0)/\bS w' g o (b.set i (b[i].jk key))/\CF w w' (KL g o)):=by
 have E:=hid C
 have W:=hid B
 clear C B
 go_enter func134,ntmps134
 go_wp2_with fail
 refine(tQ g o b l S w h E.o hS).mono ?_
 rintro e c ⟨rfl,f⟩
 have n:=h.grown f
 cases d:(BE.o9 b l).isSome
 ·have A:=hid d;go_wp2;go_ret;exact⟨λ_=>⟨rfl,f⟩,agM⟩
 ·obtain⟨v,D,hn⟩:=su E.o l d;have G:=hid D;have A:=hid d;obtain⟨i,z⟩:∃i,Hid (i=BE.ins b l):=⟨_,hid rfl⟩
  have k:i<b.length:=by rw[z.o];exact v
  have t:Hid (BE.o9 b l=some i):=agR;have a:=n.entry i k;have m:=W.o _ (ef k);have Y:=n.len;obtain⟨x,u⟩:∃x,Hid (x=b[i]):=⟨_,hid rfl⟩
  rw[<-u.o]at a m;obtain⟨name,s,r,before,V,aC,L,ae⟩:=x;obtain⟨H,P⟩:=m;simp only at H P;have M:c.cell? (g,o+i*8)=some (.string name):=a 0 _ rfl;have F:c.cell? (g,o+i*8+1)=some (ι s):=a 1 _ rfl;have I:c.cell? (g,o+i*8+2)=some (υ r.toNat):=a 2 _ rfl;have K:c.cell? (g,o+i*8+3)=some (υ before.toNat):=a 3 _ rfl;have T:c.cell? (g,o+i*8+4)=some (ι V):=a 4 _ rfl;have N:c.cell? (g,o+i*8+5)=some (ι aC):=a 5 _ rfl;have O:c.cell? (g,o+i*8+6)=some (ι L):=a 6 _ rfl;have J:c.cell? (g,o+i*8+7)=some (ι ae):=a 7 _ rfl;have p:=λj=>n.live.frozen j;have OD:(i:Int)<20:=agE;have U:(0:Int)<=(i:Int):=agE;have R:Hid (bS (((c.setCell (g,o+i*8+1) (ι (s+1))).setCell (g,o+i*8+3) (υ r.toNat)).setCell (g,o+i*8+2) (υ key.toNat)) g o (b.set i (b[i].jk key))/\CF w (((c.setCell (g,o+i*8+1) (ι (s+1))).setCell (g,o+i*8+3) (υ r.toNat)).setCell (g,o+i*8+2) (υ key.toNat)) (KL g o)):=by
   have Z:=a
   have Q:=n.LC (w':=((c.setCell (g,o+i*8+1) (ι (s+1))).setCell (g,o+i*8+3) (υ r.toNat)).setCell (g,o+i*8+2) (υ key.toNat)) i k (b[i].jk key)
    (by grind [CF.refl,CF.setCell])
    (by
     rw[<-u.o];refine JA ?_ ?_ ?_ ?_ ?_ ?_ ?_ ?_
     ·exact ax _ (ax _ (ax _ M agE) agE) agE
     ·exact ax _ (ax _ (di _ F) agE) agE
     ·exact di _ (ax _ (ax _ I agE) agE)
     ·exact ax _ (di _ (ax _ K agE)) agE
     ·exact ax _ (ax _ (ax _ T agE) agE) agE
     ·exact ax _ (ax _ (ax _ N agE) agE) agE
     ·exact ax _ (ax _ (ax _ O agE) agE) agE
     ·exact ax _ (ax _ (ax _ J agE) agE) agE)
   grind [CF.before]
  rw[<-z.o];have f1:=p (o+i*8+1);have f2:=p (o+i*8+2);have f3:=p (o+i*8+3);clear a h n f D hn v d G p u;go_wp2;go_ret;exact⟨λq=>absurd (q.symm.trans A.o) agI,λj X q=>by have e:=t.o.symm.trans q;injection e with e;subst e;exact⟨rfl,R.o.1,R.o.2⟩⟩
theorem aiM(h:p:=by simp[go_sem]):p:=h
theorem ai1(h:p:=by grind [ax,di]):p:=h
theorem bS.eight{g o:Nat}{b:List BE}(h:bS w g o b)(i)(d:i<b.length)(x)(c:x=b[i]):
  w.cell? (g,o+i*8)=some (.string ⟨x.name.toArray⟩)/\w.cell? (g,o+i*8+1)=some (ι x.aH)/\w.cell? (g,o+i*8+2)=some (υ x.key.toNat)/\w.cell? (g,o+i*8+3)=some (υ x.before.toNat)/\w.cell? (g,o+i*8+4)=some (ι x.bI)/\w.cell? (g,o+i*8+5)=some (ι x.aC)/\w.cell? (g,o+i*8+6)=some (ι x.bB)/\w.cell? (g,o+i*8+7)=some (ι x.ae):=by
 have a:=h.entry i d
 subst c
 exact⟨a 0 _ rfl,a 1 _ rfl,a 2 _ rfl,a 3 _ rfl,a 4 _ rfl,a 5 _ rfl,a 6 _ rfl,a 7 _ rfl⟩
theorem bN{w':World}(h:w.grownBy w' none){b o:Nat}{v:Value}(a:w.cell? (b,o)=some v):w'.cell? (b,o)=some v:=(CF.bF h (λ_ _=>False)).cell a (λe=>e)
theorem JC(g o:Nat)(b)(l)(S)(a)(w)(h:bS w g o b)(X:b.Pairwise (λx y=>Op.bytesLess x.name y.name=true))(hS:Hid (S=⟨l.toArray⟩))(u:-9223372036854775808<=a.ae)(E:a.ae<=9223372036854775807):
  Calls prog 135 #[(g,o),.string S,.agg (vO a.bI a.aC a.bB a.ae)] w λe w'=>
   ((BE.o9 b l).isSome=false->e=.returned (ι 6)/\w.grownBy w' none)/\((BE.o9 b l).isSome=true->a.ql=false->e=.returned (ι 1)/\w.grownBy w' none)/\(∀i(D:i<b.length),BE.o9 b l=some i->a.ql=true->e=.returned (ι 0)/\bS w' g o (b.set i (b[i].rq a))/\CF w w' (KL g o)):=by
 have Ig:=hid X
 have ai:w.heap.size≠g:=λe=>by have:=h.live.lt;omega
 have G:=cx w (.cells (vO a.bI a.aC a.bB a.ae) 124) none
 have J:=h.grown G
 have M:=λw=>Ih a w u E
 obtain⟨W,T,key,f,m,p,n⟩:=a
 simp only at M u E G J⊢
 have Z:(w.alloc (.cells #[ι f,ι m,ι p,ι n] 124)).cell? (w,0)=some (ι f):=aiM
 have P:(w.alloc (.cells #[ι f,ι m,ι p,ι n] 124)).cell? (w,1)=some (ι m):=aiM
 have Y:(w.alloc (.cells #[ι f,ι m,ι p,ι n] 124)).cell? (w,2)=some (ι p):=aiM
 have U:(w.alloc (.cells #[ι f,ι m,ι p,ι n] 124)).cell? (w,3)=some (ι n):=aiM
 have A:=hid (And.intro Z (And.intro P (And.intro Y U)))
 have Q:=hid G
 have N:=hid J
 clear X h Z P Y U G J
 go_enter func135,ntmps135
 go_wp2_with fail
 refine(tQ g o b l S _ N.o Ig.o hS).mono ?_
 rintro e w1 ⟨rfl,c⟩
 have h1:=N.o.grown c
 have v:=bN c A.o.1
 have t:=bN c A.o.2.1
 have B:=bN c A.o.2.2.1
 have C:=bN c A.o.2.2.2
 have O:=hid (aa Q.o c)
 clear N A Q c
 cases k:(BE.o9 b l).isSome
 ·have s:=hid k;go_wp2;go_ret;exact⟨λ_=>⟨rfl,O.o⟩,λq=>absurd (q.symm.trans s.o) agI,λi D q=>by have:=s.o;rw[q]at this;cases this⟩
 ·obtain⟨D,he,hn⟩:=su Ig.o l k;have s:=hid k;obtain⟨i,H⟩:∃i,Hid (i=BE.ins b l):=⟨_,hid rfl⟩
  have F:i<b.length:=by rw[H.o];exact D
  have HE:Hid (BE.o9 b l=some i):=by show _=_;rw[H.o];exact he
  have z:=hid h1;rw[<-H.o];clear he hn D k h1;go_wp2_with fail;refine(M _).mono ?_;rintro e w2 ⟨rfl,d⟩;have r:=z.o.grown d;have ab:=bN d v;have af:=bN d t;have ah:=bN d B;have ad:=bN d C;have G2:=hid (aa O.o d);clear z v t B C O d;cases I:mW.ql ⟨W,T,key,f,m,p,n⟩
  ·have K:=hid I;go_wp2;go_ret;exact⟨λq=>absurd (q.symm.trans s.o) agI,λ_ _=>⟨rfl,G2.o⟩,λi D q q2=>absurd (q2.symm.trans K.o) agI⟩
  ·have K:=hid I;have TY:=r.len;obtain⟨x,V⟩:∃x,Hid (x=b[i]):=⟨_,hid rfl⟩
   obtain⟨k0,k1,k2,k3,k4,k5,k6,k7⟩:=r.eight i F x V.o;have f4:=r.live.frozen (o+i*8+4);have f5:=r.live.frozen (o+i*8+5);have f6:=r.live.frozen (o+i*8+6);have f7:=r.live.frozen (o+i*8+7);have OD:(i:Int)<20:=agE;have ag:(0:Int)<=(i:Int):=agE;have L:=hid r;clear r I M;go_wp2;go_region;go_wp2;go_ret;have R:bS ((((w2.setCell (g,o+i*8+4) (ι f)).setCell (g,o+i*8+4+1) (ι m)).setCell (g,o+i*8+4+2) (ι p)).setCell (g,o+i*8+4+3) (ι n)) g o (b.set i (b[i].rq ⟨W,T,key,f,m,p,n⟩))/\CF w2 ((((w2.setCell (g,o+i*8+4) (ι f)).setCell (g,o+i*8+4+1) (ι m)).setCell (g,o+i*8+4+2) (ι p)).setCell (g,o+i*8+4+3) (ι n)) (KL g o):=by
    refine L.o.LC i F _ (((((CF.refl _ _).setCell _ _ _ (λ_=>⟨rfl,by omega,by omega⟩)).setCell _ _ _ (λ_=>⟨rfl,by omega,by omega⟩)).setCell _ _ _ (λ_=>⟨rfl,by omega,by omega⟩)).setCell _ _ _ (λ_=>⟨rfl,by omega,by omega⟩)) ?_;rw[<-V.o];refine JA ?_ ?_ ?_ ?_ ?_ ?_ ?_ ?_
    ·exact ax _ (ax _ (ax _ (ax _ k0 agE) agE) agE) agE
    ·exact ax _ (ax _ (ax _ (ax _ k1 agE) agE) agE) agE
    ·exact ax _ (ax _ (ax _ (ax _ k2 agE) agE) agE) agE
    ·exact ax _ (ax _ (ax _ (ax _ k3 agE) agE) agE) agE
    ·exact ax _ (ax _ (ax _ (di _ k4) agE) agE) agE
    ·exact ax _ (ax _ (di _ (ax _ k5 agE)) agE) agE
    ·exact ax _ (di _ (ax _ (ax _ k6 agE) agE)) agE
    ·exact di _ (ax _ (ax _ (ax _ k7 agE) agE) agE)
   exact⟨λq=>absurd (q.symm.trans s.o) agI,λ_ q=>absurd (q.symm.trans K.o) agI,λj hj q _=>by have e:=HE.o.symm.trans q;injection e with e;subst e;exact⟨rfl,R.1.drewN 1,(CF.before G2.o R.2).drew⟩⟩
theorem aF{e:Func}{a u:Tmp}{d:TypeId}(h:e.results=#[.cell a d,.tmp u])(c)(P)(w)(b:Nat)(f:c.getD a undef=.pointer (some (b,0)))(x)(hl:(loadVar d ⟨b,0,none⟩).run P w=.ok x w):
  (results e c).run P w=.ok (.tuple #[x,c.getD u undef]) w:=by
 have hp':c[a]?.getD undef=.pointer (some (b,0)):=by simpa using f
 exact aek
theorem gQ{a:World}(b)(f:a.heap.size<=b):∀(c)(o)(w),a.grownBy w none->a.grownBy (w.setCells b o c) none:=by
 intro c o w h;have C:=CF.setCells (a:=a) (ex:=λ_ _=>False) b c o w (CF.bF h _) (λj _ d=>by omega);exact C.gb (λ_ _ _ e=>e)
theorem eG{P:Program}{b:Nat}{cs:List Value}(h:w.rangeAt b 0 cs)(a)(d)(e:P.underlying a=some d)(c:d.isRow=true)(f:(P.info? a).map (·.size)=some cs.length):(loadVar a ⟨b,0,none⟩).run P w=.ok (.agg cs.toArray) w:=(by grind [run_loadVar_mid])
theorem jo(w:World)(b:Nat)(v0 v1 v2 v3 v4 v5 v6 v7){g e d a k h c l:Value}(n:w.cell? (b,0)=some g)(q:w.cell? (b,1)=some e)(o:w.cell? (b,2)=some d)(p:w.cell? (b,3)=some a)(j:w.cell? (b,4)=some k)(i:w.cell? (b,5)=some h)(m:w.cell? (b,6)=some c)(f:w.cell? (b,7)=some l):
  ((((((((w.setCell (b,0) v0).setCell (b,1) v1).setCell (b,2) v2).setCell (b,3) v3).setCell (b,4) v4).setCell (b,5) v5).setCell (b,6) v6).setCell (b,7) v7).rangeAt b 0 [v0,v1,v2,v3,v4,v5,v6,v7]:=by
 refine JA ?_ ?_ ?_ ?_ ?_ ?_ ?_ ?_<;>try simp only[cN]
 ·exact ax _ (ax _ ai1 agF) agF
 ·exact ax _ ai1 agF
 ·grind [ax,di]
 ·grind [di,ax]
 ·exact ax _ (ax _ (ax _ (di _ (ax _ (ax _ (ax _ (ax _ j agF) agF) agF) agF)) agF) agF) agF
 ·exact ax _ (ax _ (di _ (ax _ (ax _ (ax _ (ax _ (ax _ i agF) agF) agF) agF) agF)) agF) agF
 ·exact ax _ (di _ (ax _ (ax _ (ax _ (ax _ (ax _ (ax _ m agF) agF) agF) agF) agF) agF)) agF
 ·exact di _ (ax _ (ax _ (ax _ (ax _ (ax _ (ax _ (ax _ f agF) agF) agF) agF) agF) agF) agF)
abbrev noEntry:Array Value:=#[.string ⟨#[]⟩,ι 0,υ 0,υ 0,ι 0,ι 0,ι 0,ι 0]
theorem XH(g o:Nat)(a)(l)(S)(w)(h:bS w g o a)(D:a.Pairwise (λx y=>Op.bytesLess x.name y.name=true))(hS:Hid (S=⟨l.toArray⟩)):
  Calls prog 278 #[(g,o),.string S] w λe w'=>
   ((BE.o9 a l).isSome=false->e=.returned (.tuple #[.agg noEntry,.bool false]))/\(∀i(k:i<a.length),BE.o9 a l=some i->e=.returned (.tuple #[.agg (a[i]).bE.toArray,.bool true]))/\w.grownBy w' none:=by
 have G:=hid D
 have J:w.heap.size≠g:=λe=>by have:=h.live.lt;omega
 have s:=hid (cx w (.cells noEntry 126) none)
 have t:=hid (h.grown s.o)
 clear D h
 have A:=hid (Live.new w noEntry 126)
 go_enter func278,ntmps278
 go_wp2_with fail
 refine(tQ g o a l S _ t.o G.o hS).mono ?_
 rintro e H ⟨rfl,b⟩
 have m:=t.o.grown b
 have F:=hid (aa s.o b)
 have r:=A.o.grown b
 have c:∀j,j<8->∃v,H.cell? ⟨w.heap.size,j,none⟩=some v:=λj z=>cA.1 (r.some j z)
 have f:=λj=>r.frozen j
 obtain⟨d0,N⟩:=c 0 agF
 obtain⟨X,M⟩:=c 1 agF
 obtain⟨d2,L⟩:=c 2 agF
 obtain⟨d3,Q⟩:=c 3 agF
 obtain⟨d4,R⟩:=c 4 agF
 obtain⟨d5,P⟩:=c 5 agF
 obtain⟨Z,T⟩:=c 6 agF
 obtain⟨d7,K⟩:=c 7 agF
 have Y:=f 0
 have f1:=f 1
 have f2:=f 2
 have f3:=f 3
 have U:=f 4
 have f5:=f 5
 have f6:=f 6
 have f7:=f 7
 have C:=hid (λv0 v1 v2 v3 v4 v5 v6 v7=>jo H w.heap.size v0 v1 v2 v3 v4 v5 v6 v7 N M L Q R P T K)
 clear t b A s r c f
 cases d:(BE.o9 a l).isSome
 ·have p:=hid d;clear m;go_wp2;refine bodyPost_ret (v:=.tuple #[.agg noEntry,.bool false]) ?_ rfl ⟨λ_=>rfl,λi k q=>(by have:=p.o;rw[q]at this;cases this),?_⟩
  ·exact aF results278 _ _ _ w.heap.size rfl _ (eG (C.o _ _ _ _ _ _ _ _) 126 _ underlying126 rfl Tryz.iT)
  ·repeat refine az ?_ (cy _)
   exact F.o
 ·obtain⟨k,E,hn⟩:=su G.o l d;obtain⟨i,n⟩:∃i,Hid (i=BE.ins a l):=⟨_,hid rfl⟩
  have u:i<a.length:=by rw[n.o];exact k
  have I:Hid (BE.o9 a l=some i):=by show _=_;rw[n.o];exact E
  have p:=hid d;have V:=m.len;have OD:(i:Int)<20:=agE;have O:(0:Int)<=(i:Int):=agE;obtain⟨x,B⟩:∃x,Hid (x=a[i]):=⟨_,hid rfl⟩
  obtain⟨k0,W,k2,k3,k4,k5,k6,k7⟩:=m.eight i u x B.o;rw[<-n.o];clear E hn k d m;go_wp2;refine bodyPost_ret (v:=.tuple #[.agg x.bE.toArray,.bool true]) ?_ rfl ⟨λq=>absurd (q.symm.trans p.o) agI,λj z q=>(by have e:=I.o.symm.trans q;injection e with e;subst e;rw[B.o]),?_⟩
  ·exact aF results278 _ _ _ w.heap.size rfl _ (eG (cs:=x.bE) (C.o _ _ _ _ _ _ _ _) 126 _ underlying126 rfl Tryz.iT)
  ·repeat refine az ?_ (cy _)
   exact F.o
theorem Gg{P:Program}(w)(q u A d)(k b o c f:Nat)(a)(e l)(cs)(x:P.underlying q=some (.slice d))(p:(P.info? d).map (·.size)=some k)(hn:cs.length=Nat.min e c*k)(h:∀j v,cs[j]?=some v->w.cell? (a.add j)=some v)(z:∀j,j<cs.length->(w.cell? (b,o+j)).isSome=true)(s:∀j,j<cs.length->w.frozen? (b,o+j)=false)(r:∀v∈cs,v.oneCell'=true):
  (Builtin.copy_ #[q,u] A #[.slice (some (b,o)) c f,.slice (some a) e l]).run P w=.ok (goInt (Nat.min e c)) (w.setCells b o cs):=by
 have t:=run_loadCells_list (P:=P) w a cs h
 have n:=run_storeCells_cells (P:=P) b o cs 0 w (by simpa using z) (by simpa using s) r
 cases m:P.info? d with
 |none=>simp[m]at p
 |some i=>
  have y:i.size=k:=by simpa[m]using p
  simp[Builtin.copy_,run_underlying x,Builtin.lenOf,Builtin.firstCells,sizeOf,typeInfo,m,y,<-hn,t,n]
theorem LF(es):∀v∈dP es,v.oneCell'=true:=by
 intro v a;simp only[dP,List.mem_flatten,List.mem_map]at a;obtain⟨l,⟨e,_,rfl⟩,a⟩:=a;simp only[BE.bE,List.mem_cons,List.not_mem_nil,or_false]at a;rcases a with rfl|rfl|rfl|rfl|rfl|rfl|rfl|rfl<;>rfl
theorem Gh{P:Program}(w)(l m p b)(k)(d a)(c f e h)(o:P.underlying l=some (.slice b))(q:(P.info? b).map (·.size)=some k)(hn:Nat.min e c=0):
  (Builtin.copy_ #[l,m] p #[.slice d c f,.slice a e h]).run P w=.ok (goInt 0) w:=by
 cases j:P.info? b with
 |none=>simp[j]at q
 |some i=>
  have n:=λx=>by simpa using run_loadCells_list (P:=P) w x [] agI
  cases d<;>cases a<;>simp[Builtin.copy_,run_underlying o,Builtin.lenOf,Builtin.firstCells,sizeOf,typeInfo,j,hn,storeCells,n]
theorem bS.copy{o:Nat}(h:bS w g o es)(p)(i j c k b l)(d a)(n:0<b->d=⟨g,o+j*8,none⟩/\a=⟨g,o+i*8,none⟩)(x:i+b=es.length)(y:b<=c)(z:j+b<=20):
  (Builtin.copy_ #[287,287] p #[.slice (some d) c k,.slice (some a) b l]).run prog w=.ok (goInt b) (w.setCells g (o+j*8) (dP (es.drop i))):=by
 have f:(dP (es.drop i)).length=b*8:=by rw[eD,dr,<-x,Nat.add_sub_cancel_left]
 have r:Nat.min b c=b:=gh y
 rcases Nat.eq_zero_or_pos b with m|m
 ·have e:=fh (by rw[f,m]);rw[e,m];exact Gh (P:=prog) w 287 287 p 126 8 (some d) (some a) c k 0 l underlying287 Tryz.iT (Nat.zero_min _)
 obtain⟨rfl,rfl⟩:=n m
 have:=Gg (P:=prog) w 287 287 p 126 8 g (o+j*8) c k ⟨g,o+i*8,none⟩ b l (dP (es.drop i)) underlying287 Tryz.iT (by rw[r,f])
  (λq v s=>by
   have t:q<b*8:=(by have:=(cM.1 s).1;rwa [f]at this);have e:(dP es)[i*8+q]?=some v:=by
    conv=>lhs;rw[<-eN i es,jP]
    rw[cY (by rw[eD,ep];omega),eD,ep,show i*8+q-min i es.length*8=q from by rw[gh agE];omega];exact s
   have:=h.room _ _ e;rw[<-gi]at this;have u:(⟨g,o+i*8,none⟩:Addr).add q=⟨g,o+i*8+q,none⟩:=(by unfold Addr.add;split<;>simp_all);rw[u]
   exact this)
  (λq t=>h.live.some _ (by rw[f]at t;omega)) (λq _=>h.live.frozen _) (LF _)
 rw[r]at this;exact this
theorem Ii(g o k:Nat)(b:k<=20):∃a,(∀w,(Instr.sliceAt 127 (.pointer (some (g,o))) (some (ι k)) none none).run prog w=.ok (.slice (some a) (20-k) (20-k)) w)/\(k<20->a=⟨g,o+k*8,none⟩):=by
 refine⟨if 20=k then⟨g,o,none⟩ else(⟨g,o,none⟩:Addr).add (k*8),λw=>?_,λh=>?_⟩
 ·have e:=run_sliceAt_array_l (P:=prog) w 127 ⟨g,o,none⟩ underlying127 .i64 (k:Int) agE (by show(k:Int)<=20;omega);rw[e];rfl
 ·rw[if_neg agE];unfold Addr.add;split<;>simp_all
theorem Sk(g o k h:Nat)(b:k<=h)(c:h<=20):∃a,(∀w,(Instr.sliceAt 127 (.pointer (some (g,o))) (some (ι k)) (some (ι h)) none).run prog w=.ok (.slice (some a) (h-k) (20-k)) w)/\(k<20->a=⟨g,o+k*8,none⟩):=by
 refine⟨if 20=k then⟨g,o,none⟩ else(⟨g,o,none⟩:Addr).add (k*8),λw=>?_,λh=>?_⟩
 ·have e:=run_sliceAt_array_lh (P:=prog) w 127 ⟨g,o,none⟩ underlying127 .i64 .i64 (k:Int) (h:Int) agE agE (by show(h:Int)<=20;omega);rw[e];rfl
 ·rw[if_neg agE];unfold Addr.add;split<;>simp_all
theorem bS.removed{w2 c:World}{o:Nat}(h:bS w g o es)(i m)(p:es.length=m+1)(A:i<=m)(z:w2=w.setCells g (o+i*8) (dP (es.drop (i+1))))(f:CF w2 c (λb j=>b=g/\o+m*8<=j/\j<o+161))(v:c.cell? (g,o+160)=some (ι (m:Int))):bS c g o (es.take i++es.drop (i+1))/\CF w c (KL g o):=by
 have a:(dP (es.drop (i+1))).length=(m-i)*8:=by rw[eD,dr,p];congr 1;omega
 have y:=h.len;have r:CF w w2 (λb j=>b=g/\o+i*8<=j/\j<o+m*8):=by
  grind [CF.setCells,CF.refl]
 have t:(es.take i++es.drop (i+1)).length=m:=by rw[cD,ep,dr,p];omega
 have n:CF w c (KL g o):=(r.mono (λb j _ e=>⟨e.1,by omega,by omega⟩)).trans f (λb j _ e=>⟨e.1,by omega,by omega⟩);refine⟨⟨h.live.cf n,?_,?_,by omega⟩,n⟩
 ·rw[jP];intro j u d;have k:(dP (es.take i)).length=i*8:=by rw[eD,ep,gh agE]
  by_cases s:j<i*8
  ·rw[cW (by rw[k];exact s)]at d;have e:(dP es)[j]?=some u:=by
    conv=>lhs;rw[<-eN i es,jP]
    grind
   exact f.cell (r.cell (h.room j u e) (λq=>by omega)) (λq=>by omega)
  ·rw[cY (by rw[k];omega),k]at d;have l:j-i*8<(m-i)*8:=(by have:=(cM.1 d).1;rwa [a]at this);have e:=World.cell?_setCells_in g (dP (es.drop (i+1))) (o+i*8) w (λq x=>h.live.some _ (by rw[a]at x;omega)) (j-i*8) (by rw[a];exact l);grind [CF.cell]
 ·rw[t];exact v
theorem bS.XI{w2:World}{o:Nat}(h:bS w g o es)(i m)(a:es.length=m+1)(b:i<=m)(c:w2=w.setCells g (o+i*8) (dP (es.drop (i+1)))){u:Value}(d:w2.cell? (g,o+160)=some u){v0 v1 v2 v3 v4 v5 v6 v7:Value}:
  bS (((((((((w2.setCell (g,o+160) (ι (m:Int))).setCell (g,o+m*8) v0).setCell (g,o+m*8+1) v1).setCell (g,o+m*8+2) v2).setCell (g,o+m*8+3) v3).setCell (g,o+m*8+4) v4).setCell (g,o+m*8+5) v5).setCell (g,o+m*8+6) v6).setCell (g,o+m*8+7) v7) g o (es.take i++es.drop (i+1))/\CF w (((((((((w2.setCell (g,o+160) (ι (m:Int))).setCell (g,o+m*8) v0).setCell (g,o+m*8+1) v1).setCell (g,o+m*8+2) v2).setCell (g,o+m*8+3) v3).setCell (g,o+m*8+4) v4).setCell (g,o+m*8+5) v5).setCell (g,o+m*8+6) v6).setCell (g,o+m*8+7) v7) (KL g o):=by
 have e:=h.len
 refine h.removed i m a b c ?_ ?_
 ·exact((((((((((CF.refl _ _).setCell _ _ _ agE).setCell _ _ _ agE).setCell _ _ _ agE).setCell _ _ _ agE).setCell _ _ _ agE).setCell _ _ _ agE).setCell _ _ _ agE).setCell _ _ _ agE).setCell _ _ _ agE)
 grind [ax,di]
theorem PS(g o:Nat)(es)(l)(S)(w)(h:bS w g o es)(G:es.Pairwise (λx y=>Op.bytesLess x.name y.name=true))(hS:Hid (S=⟨l.toArray⟩)):
  Calls prog 133 #[(g,o),.string S] w λe w'=>
   ((BE.o9 es l).isSome=false->e=.returned (ι 6)/\w.grownBy w' none)/\(∀i,BE.o9 es l=some i->e=.returned (ι 0)/\bS w' g o (es.take i++es.drop (i+1))/\CF w w' (KL g o)):=by
 have I:=hid G
 clear G
 go_enter func133,ntmps133
 go_wp2_with fail
 refine(tQ g o es l S _ h I.o hS).mono ?_
 rintro e v ⟨rfl,k⟩
 have u:=h.grown k
 cases n:(BE.o9 es l).isSome
 ·have A:=hid n;go_wp2;go_ret;exact⟨λ_=>⟨rfl,k⟩,λi q=>by have:=A.o;rw[q]at this;cases this⟩
 ·obtain⟨F,H,hn⟩:=su I.o l n;have A:=hid n;obtain⟨i,z⟩:∃i,Hid (i=BE.ins es l):=⟨_,hid rfl⟩
  have B:i<es.length:=by rw[z.o];exact F
  have N:Hid (BE.o9 es l=some i):=by show _=_;rw[z.o];exact H
  have L:=u.len;obtain⟨m,t⟩:∃m,Hid (es.length=m+1):=⟨es.length-1,hid agE⟩
  have f:=u.count;rw[t.o]at f L B;rw[show((m+1:Nat):Int)=(m:Int)+1 from by omega]at f;have HB:=hid u;have M:=hid k;rw[<-z.o];clear H hn F n h u k;have OD:(i:Int)<20:=agE;have X:(0:Int)<=(i:Int):=agE;have W:(m:Int)<20:=agE;have U:(0:Int)<=(m:Int):=agE;have V:(i:Int)<=(m:Int):=agE;obtain⟨d,hd,C⟩:=Ii g o i agE;obtain⟨a,E,r⟩:=Sk g o (i+1) (m+1) agE agE;have hw:IntKind.i64.wrap ((i:Int)+1)=(i:Int)+1:=ag6;have Y:IntKind.i64.wrap (m:Int)=(m:Int):=ag6;have P:=λw=>by
   have:=E w;rw[show((i+1:Nat):Int)=(i:Int)+1 from by omega,show((m+1:Nat):Int)=(m:Int)+1 from by omega,show m+1-(i+1)=m-i from by omega,show 20-(i+1)=19-i from by omega]at this;exact this
  obtain⟨w2,p⟩:∃w2,Hid (w2=v.drew.setCells g (o+i*8) (dP (es.drop (i+1)))):=⟨_,hid rfl⟩
  have J:=(HB.o.drewN 1).copy 3 (i+1) i (20-i) (20-i) (m-i) (19-i) d a (λh0=>⟨C agE,r agE⟩) (by rw[t.o];omega) agE agE;have T:(Builtin.copy_ #[287,287] 3 #[.slice (some d) (20-i) (20-i),.slice (some a) (m-i) (19-i)]).run prog v.drew=.ok (ι ((m-i:Nat):Int)) w2:=by rw[p.o];exact J
  have s:CF v w2 (λb j=>b=g/\o+i*8<=j/\j<o+160):=by
   rw[p.o];exact CF.setCells g _ _ _ (CF.refl v _).drew (λj K _=>⟨rfl,by omega,by rw[eD,dr,t.o]at K;omega⟩)
  have D:=s.cell f (λq=>by omega);have c:=HB.o.live.cf s;have O:=c.frozen (o+160);obtain⟨c0,p0⟩:=cA.1 (c.some (o+m*8) agE);obtain⟨c1,p1⟩:=cA.1 (c.some (o+m*8+1) agE);obtain⟨c2,p2⟩:=cA.1 (c.some (o+m*8+2) agE);obtain⟨c3,p3⟩:=cA.1 (c.some (o+m*8+3) agE);obtain⟨c4,p4⟩:=cA.1 (c.some (o+m*8+4) agE);obtain⟨c5,p5⟩:=cA.1 (c.some (o+m*8+5) agE);obtain⟨c6,p6⟩:=cA.1 (c.some (o+m*8+6) agE);obtain⟨c7,p7⟩:=cA.1 (c.some (o+m*8+7) agE);have z0:=c.frozen (o+m*8);have z1:=c.frozen (o+m*8+1);have Z:=c.frozen (o+m*8+2);have z3:=c.frozen (o+m*8+3);have z4:=c.frozen (o+m*8+4);have z5:=c.frozen (o+m*8+5);have z6:=c.frozen (o+m*8+6);have z7:=c.frozen (o+m*8+7);have Q:=hid (And.intro C r);clear C r E J s c;go_wp2;go_region;go_wp2;go_region;go_wp2;go_ret;have R:=bS.XI (HB.o.drewN 1) i m t.o agE p.o D (v0:=.string ⟨#[]⟩) (v1:=ι 0) (v2:=υ 0) (v3:=υ 0) (v4:=ι 0) (v5:=ι 0) (v6:=ι 0) (v7:=ι 0);exact⟨λq=>absurd (q.symm.trans A.o) agI,λj q=>by have e:=N.o.symm.trans q;injection e with e;subst e;exact⟨rfl,R.1.drewN 1,(CF.before M.o R.2.jM).drew⟩⟩
end Go.Proofs.YtlfifnpjeangmaaGreatDoor
