import Derived.Test.YticfhckmhcaigaaGreatDoorGEScript
import Derived.Test.YticfhckmhcaigaaGreatDoorGERGivB
namespace Go.Proofs.YticfhckmhcaigaaGreatDoor.scr
set_option maxHeartbeats 1000000
open Go.ChangeShapes Go.WideShapes Go.ChangeAt Go.RowKit
set_option linter.unusedVariables false
set_option maxRecDepth 100000
variable {H:Type}{x:DataW H×List MemPlace}{cs:List Value}{n:Nat}{enc:TypeId×Value->H}{W:World}
theorem Z1:Tryz.prog.cellsOf 45=25:=by kernel_rfl
theorem KH:Tryz.prog.cellsOf 192=34:=by kernel_rfl
theorem YQ:Tryz.prog.cellsOf 46=1:=by kernel_rfl
theorem Br{H:Type}:∀{l:List (DataW H)}{d:DataW H},d∈l->Rows.uptoBulk d<=Rows.uptoBulkAll l
 | [],_,h=>by cases h
 |x::l,d,h=>by
  simp only[Rows.uptoBulkAll]
  rcases List.mem_cons.1 h with rfl|h
  .omega
  .have:=Br h;omega
theorem Ip{H:Type}:∀(l:List (DataW H)),(∀d∈l,1<=Rows.uptoBulk d)->l.length<=Rows.uptoBulkAll l
 | [],_=>cA _
 |x::l,h=>by
  have a:=Ip l dT
  have b:=h x (List.mem_cons_self ..)
  simp only[Rows.uptoBulkAll,de]
  omega
theorem uX{a:List (DataW H×List MemPlace)}{i:Nat}{y:DataW H×List MemPlace}(e:a[i]?=some y)(h:Rows.uptoBulk (.agg (a.map (·.1)))<=n):Rows.uptoBulk y.1+1<=n:=by
 have:=Br (eS (f:=(·.1)) (eE e));simp only[Rows.uptoBulk]at h;omega
theorem l7{x:Int}(h:(Lit.int .i64 x).wf=true):bT x:=by
 have a:=bounds_i64 h;exact⟨by omega,by omega⟩
theorem O0(h:cs.length=7):∃a b d e f g i,cs=[a,b,d,e,f,g,i]:=by
 iterate 7 (obtain⟨c,r,rfl,k⟩:=kW h;clear h;have h:=k;clear k)
 obtain rfl:=eW h;iterate 7 apply Exists.intro
 rfl
theorem Ri(h:cs.length=25):∃r t u v w x y A B C a b d e f g i j k l m n q o p,cs=[r,t,u,v,w,x,y,A,B,C,a,b,d,e,f,g,i,j,k,l,m,n,q,o,p]:=by
 iterate 25 (obtain⟨c,r,rfl,k⟩:=kW h;clear h;have h:=k;clear k)
 obtain rfl:=eW h;iterate 25 apply Exists.intro
 rfl
theorem Iq{m:Nat}{a:List (DataW H×List MemPlace)}{o i N:Nat}(d:Rows.uptoBulk (.agg (a.map (·.1)))<=1048576)(f:DataW.trod enc Tryz.prog W 0 (λ_=>true) true m 9 ((cs.drop o).take (Tryz.prog.cellsOf 9))=a[i]?)(j:a.length=N)(c)(h:cs[o]?=some c)(g:i<N):∃v,c=.string v/\v.data.toList.length<=1048576:=by
 obtain⟨v,e,r⟩:=yi f j c h g;have b:=uX r d;simp only[Rows.uptoBulk]at b;exact⟨v,e,by omega⟩
theorem OX(d:cs.length=7)(h:DataW.trod enc Tryz.prog W 0 (λ_=>true) true n 43 cs=some x)(p:Rows.uptoBulk x.1<=1048576):∃t:TK,cs=t.cells/\t.In/\t.az.length<=1048576:=by
 obtain⟨f,g,i,j,k,l,o,rfl⟩:=O0 d;obtain⟨K,m,rfl,rfl,_,a,b⟩:=DataW.trod_struct Tryz.underlying43 h;obtain⟨q,rfl,A⟩:=kA Tryz.underlying2 fF (b 0 _ rfl) a f rfl a7;obtain⟨r,rfl,B⟩:=kA Tryz.underlying39 xQ (b 1 _ rfl) a g rfl a7;obtain⟨t,rfl,e⟩:=Iq p (b 2 _ rfl) a i rfl a7;obtain⟨u,rfl,w3⟩:=kA Tryz.underlying2 fF (b 3 _ rfl) a j rfl a7;obtain⟨v,rfl,C⟩:=kA Tryz.underlying2 fF (b 4 _ rfl) a k rfl a7;obtain⟨w,rfl,D⟩:=kA Tryz.underlying2 fF (b 5 _ rfl) a l rfl a7;obtain⟨y,rfl,J⟩:=kA Tryz.underlying2 fF (b 6 _ rfl) a o rfl a7;refine⟨⟨q,UInt64.ofNat r.toNat,t.data.toList,u,v,w,y⟩,?_,⟨l7 A,l7 w3,l7 C,l7 D,l7 J⟩,e⟩;simp only[TK.cells];rw[<-Io B]
theorem K0(d:cs.length=25)(h:DataW.trod enc Tryz.prog W 0 (λ_=>true) true n 45 cs=some x)(e:Rows.uptoBulk x.1<=1048576):∃a:qH,cs=a.cells/\a.Ok:=by
 obtain⟨c0,c1,c2,c3,c4,c5,c6,c7,c8,c9,g,j,k,o,p,q,r,u,v,w,y,A,MQ,B,C,rfl⟩:=Ri d;obtain⟨xs,m,rfl,rfl,_,hxl,a⟩:=DataW.trod_struct Tryz.underlying45 h;obtain⟨v0,rfl,w0⟩:=kA Tryz.underlying3 jJ (a 0 _ rfl) hxl c0 rfl a7;obtain⟨v1,rfl,b1⟩:=Iq e (a 1 _ rfl) hxl c1 rfl a7;obtain⟨v2,rfl,b2⟩:=Iq e (a 2 _ rfl) hxl c2 rfl a7;obtain⟨v3,rfl,w3⟩:=kA Tryz.underlying2 fF (a 3 _ rfl) hxl c3 rfl a7;obtain⟨v4,rfl,w4⟩:=kA Tryz.underlying2 fF (a 4 _ rfl) hxl c4 rfl a7;obtain⟨v5,rfl,w5⟩:=kA Tryz.underlying2 fF (a 5 _ rfl) hxl c5 rfl a7;obtain⟨v6,rfl,w6⟩:=kA Tryz.underlying2 fF (a 6 _ rfl) hxl c6 rfl a7;obtain⟨v7,rfl,w7⟩:=kA Tryz.underlying2 fF (a 7 _ rfl) hxl c7 rfl a7;obtain⟨v8,rfl,w8⟩:=kA Tryz.underlying3 jJ (a 8 _ rfl) hxl c8 rfl a7;obtain⟨v9,rfl,w9⟩:=kA Tryz.underlying2 fF (a 9 _ rfl) hxl c9 rfl a7;obtain⟨K,rfl,yu⟩:=kA Tryz.underlying3 jJ (a 10 _ rfl) hxl g rfl a7;obtain⟨L,rfl,U⟩:=kA Tryz.underlying2 fF (a 12 _ rfl) hxl v rfl a7;obtain⟨M,rfl,V⟩:=kA Tryz.underlying3 jJ (a 13 _ rfl) hxl w rfl a7;obtain⟨P,rfl,f⟩:=Iq e (a 14 _ rfl) hxl y rfl a7;obtain⟨Q,rfl,X⟩:=kA Tryz.underlying2 fF (a 15 _ rfl) hxl A rfl a7;obtain⟨R,rfl,ab⟩:=kA Tryz.underlying2 fF (a 16 _ rfl) hxl MQ rfl a7;obtain⟨S,rfl,ad⟩:=kA Tryz.underlying3 jJ (a 17 _ rfl) hxl B rfl a7;obtain⟨T,rfl,ae⟩:=kA Tryz.underlying3 jJ (a 18 _ rfl) hxl C rfl a7;have b:=cN (l:=xs) (i:=11) pD;obtain⟨t,ht,J,D⟩:=OX (cs:=[j,k,o,p,q,r,u]) rfl ((a 11 _ rfl).trans b) (by have:=uX b e;omega);refine⟨⟨v0,v1.data.toList,v2.data.toList,v3,v4,v5,v6,v7,v8,v9,K,t,L,M,P.data.toList,Q,R,S,T⟩,?_,⟨l7 w0,b1,b2,l7 w3,l7 w4,l7 w5,l7 w6,l7 w7,l7 w8,l7 w9,l7 yu,J,D,l7 U,l7 V,f,l7 X,l7 ab,l7 ad,l7 ae⟩⟩;simp only[TK.cells,List.cons.injEq,and_true]at ht;obtain⟨rfl,rfl,rfl,rfl,rfl,rfl,rfl⟩:=ht;rfl
def adh(cs:Array Value):Prop:=(∃zs:E,cs[7]?=some (.string ⟨zs.toArray⟩)/\zs.length<=1048576)/\∃a:qH,a.Ok/\∀j v,a.cells[j]?=some v->cs[15+j]?=some v
theorem adi(D:cs.length=41)(h:DataW.trod enc Tryz.prog W 0 (λ_=>true) true n 48 cs=some x)(hb:Rows.uptoBulk x.1<=1048576):adh cs.toArray:=by
 obtain⟨c0,c1,c2,c3,c4,c5,c6,c7,c8,c9,J,K,L,M,P,b,d,f,g,k,o,p,S,t,u,U,V,X,w,YK,T,y,A,YL,B,YM,YN,C,YO,YP,Q,rfl⟩:=UI D;obtain⟨xs,m,rfl,rfl,_,hxl,hf⟩:=DataW.trod_struct Tryz.underlying48 h;obtain⟨v7,rfl,b7⟩:=Iq hb (hf 7 _ rfl) hxl c7 rfl a7;have e9:=cN (l:=xs) (i:=9) pD;obtain⟨a,ha,R⟩:=K0 (cs:=[b,d,f,g,k,o,p,S,t,u,U,V,X,w,YK,T,y,A,YL,B,YM,YN,C,YO,YP]) rfl ((hf 9 _ rfl).trans e9) (by have:=uX e9 hb;omega);refine⟨⟨v7.data.toList,rfl,b7⟩,a,R,λj v e=>?_⟩;rw[<-ha]at e;have v:j<25:=(cM.1 e).1;rw[<-e];have e:∀(l r q:List Value),l.length=15->j<r.length->(l++r++q).toArray[15+j]?=r[j]?:=dT;exact e [c0,c1,c2,c3,c4,c5,c6,.string v7,c8,c9,J,K,L,M,P] [b,d,f,g,k,o,p,S,t,u,U,V,X,w,YK,T,y,A,YL,B,YM,YN,C,YO,YP] [Q] rfl v
theorem QV(d:DataW H):1<=Rows.uptoBulk d:=by
 cases d with
 |lit l=>cases l<;>simp[Rows.uptoBulk]
 |_=>simp[Rows.uptoBulk]
theorem Is{p:Prop}(h:p:=by
 refine Nat.lt_of_not_le λhge=>?_
 rw[Addr.add_lit,Addr.add_lit]at hc0
 simp[World.cell?,Array.getElem?_eq_none hge]at hc0):p:=h
theorem UJ{a:Option Addr}{g B:Nat}{d:DataW H}{p:List MemPlace}(Good:Int->Array Value->Prop)(h:DataW.Trod enc Tryz.prog W 0 (λ_=>true) true 22 (.slice a g B) d p)(hw:∀m∈d.weights Tryz.prog 22,m<=140737488351232)(R:Rows.uptoBulk d<=1048576)(J:∀(n)(cs)(x)(f),cs.length=41->DataW.trod enc Tryz.prog W 0 (λ_=>true) true n 48 cs=some x->(∀m∈x.1.weights Tryz.prog 48,m<=140737488351232)->Rows.uptoBulk x.1<=1048576->ua f cs.toArray->Good f cs.toArray):
  ru Good W a g/\g<=1048576:=by
 obtain⟨Q,hf⟩:=h
 rcases Go.Deep.open_slice Tryz.underlying22 hf with⟨j,_⟩|⟨x,l,c,m,n,D,Pl,j,ao,hl,hm,y,S,w⟩
 .simp[Value.cells]at j;obtain⟨rfl,rfl,rfl⟩:=j;exact⟨λi e=>absurd e G,by omega⟩
 .simp[Value.cells]at j;obtain⟨rfl,rfl,rfl⟩:=j;simp only[Prod.mk.injEq]at S;obtain⟨rfl,_⟩:=S;simp only[if_true]at y;subst y;have C:g<=1048576:=by
   have v:=Ip ((List.range g).map D) (λd _=>QV d);simp only[Rows.uptoBulk]at R;simp only[cU,List.length_range]at v;omega
  refine⟨λi e=>?_,C⟩;obtain⟨u,v,h2⟩:=w i G;rw[VJ]at v;obtain⟨_,q,r⟩:=World.cells?_some v;have hc0:=r 0 a7;rw[cN G]at hc0;obtain⟨b,P,A⟩:=x;have t:A=none:=by
   obtain⟨K,k,_⟩:=w 0 G;rw[VJ]at k;obtain⟨_,L,M⟩:=World.cells?_some k;have o:=M 0 a7;rw[cN G]at o;simpa[Addr.add]using World.cell?_spot o
  subst t;have L:b<W.1.size:=by
   exact Is
  have M:∀k∈(D i).weights Tryz.prog 48,k<=140737488351232:=by
   intro k K;refine hw k ?_;simp only[DataW.weights,Tryz.underlying22,List.mem_cons,fp];exact Or.inr (Or.inl (Dt dT k K))
  have ar:Rows.uptoBulk (D i)<=1048576:=by
   have v:=Br (l:=(List.range g).map D) (List.mem_map.2 ⟨i,by simpa using e,rfl⟩);simp only[Rows.uptoBulk]at R;omega
  obtain⟨f,k⟩:=S4 (cs:=u) q h2 M;refine⟨b,P,rfl,L,f,u.toArray,by simpa using q,?_,dT,?_⟩
  .obtain⟨o,T,U,V,X,ab,ad,ae,MQ,af,ag,YH,YI,YJ,ah,YK,SG,ai,aj,YL,ak,YM,YN,al,YO,YP,an,_,K,e⟩:=k;rw[e,<-K];rfl
  grind [Addr.add_lit]
