import Derived.Test.YtlfifnpjeangmaaGreatDoorGEScript
import Derived.Test.YtlfifnpjeangmaaGreatDoorGERGivB
namespace Go.Proofs.YtlfifnpjeangmaaGreatDoor.scr
set_option maxHeartbeats 1000000
open Go.ChangeShapes Go.WideShapes Go.ChangeAt Go.RowKit
set_option linter.unusedVariables false
set_option maxRecDepth 100000
variable {H:Type}{cs:List Value}{n:Nat}{enc:TypeId×Value->H}{W:World}
theorem Wc:Tryz.prog.cellsOf 45=25:=by kernel_rfl
theorem I9:Tryz.prog.cellsOf 192=34:=by kernel_rfl
theorem V9:Tryz.prog.cellsOf 46=1:=by kernel_rfl
theorem Ag{H:Type}:∀{l:List (DataW H)}{d:DataW H},d∈l->Rows.uptoBulk d<=Rows.uptoBulkAll l
 | [],_,h=>by cases h
 |x::l,d,h=>by
  simp only[Rows.uptoBulkAll]
  rcases List.mem_cons.1 h with rfl|h
  .omega
  .have:=Ag h;omega
theorem FE{H:Type}:∀(l:List (DataW H)),(∀d∈l,1<=Rows.uptoBulk d)->l.length<=Rows.uptoBulkAll l
 | [],_=>cy _
 |x::l,h=>by
  have a:=FE l fA
  have b:=h x (List.mem_cons_self ..)
  simp only[Rows.uptoBulkAll,de]
  omega
theorem wO{a:List (DataW H×List MemPlace)}{i:Nat}{y:DataW H×List MemPlace}(e:a[i]?=some y)(h:Rows.uptoBulk (.agg (a.map (·.1)))<=n):Rows.uptoBulk y.1+1<=n:=by
 have:=Ag (eK (f:=(·.1)) (ey e));simp only[Rows.uptoBulk]at h;omega
theorem lE{x:Int}(h:(Lit.int .i64 x).wf=true):b9 x:=by
 have a:=bounds_i64 h;exact⟨by omega,by omega⟩
theorem Mb(h:cs.length=7):∃a b d e f g i,cs=[a,b,d,e,f,g,i]:=by
 iterate 7 (obtain⟨c,r,rfl,k⟩:=kM h;clear h;have h:=k;clear k)
 obtain rfl:=fh h;iterate 7 apply Exists.intro
 rfl
theorem OF(h:cs.length=25):∃r t u v w x y A B C a b d e f g i j k l m n q o p,cs=[r,t,u,v,w,x,y,A,B,C,a,b,d,e,f,g,i,j,k,l,m,n,q,o,p]:=by
 iterate 25 (obtain⟨c,r,rfl,k⟩:=kM h;clear h;have h:=k;clear k)
 obtain rfl:=fh h;iterate 25 apply Exists.intro
 rfl
theorem Ja{m:Nat}{a:List (DataW H×List MemPlace)}{o i N:Nat}(d:Rows.uptoBulk (.agg (a.map (·.1)))<=1048576)(f:DataW.trod enc Tryz.prog W 0 (λ_=>true) true m 9 ((cs.drop o).take (Tryz.prog.cellsOf 9))=a[i]?)(j:a.length=N)(c)(h:cs[o]?=some c)(g:i<N):∃v,c=.string v/\v.data.toList.length<=1048576:=by
 obtain⟨v,e,r⟩:=xf f j c h g;have b:=wO r d;simp only[Rows.uptoBulk]at b;exact⟨v,e,by omega⟩
theorem Ma{x:DataW H×List MemPlace}(d:cs.length=7)(h:DataW.trod enc Tryz.prog W 0 (λ_=>true) true n 43 cs=some x)(p:Rows.uptoBulk x.1<=1048576):∃t:TK,cs=t.cells/\t.In/\t.ay.length<=1048576:=by
 obtain⟨f,g,i,j,k,l,o,rfl⟩:=Mb d;obtain⟨K,m,rfl,rfl,_,a,b⟩:=DataW.trod_struct Tryz.underlying43 h;obtain⟨q,rfl,A⟩:=iS Tryz.underlying2 fC (b 0 _ rfl) a f rfl O;obtain⟨r,rfl,B⟩:=iS Tryz.underlying39 wM (b 1 _ rfl) a g rfl O;obtain⟨t,rfl,e⟩:=Ja p (b 2 _ rfl) a i rfl O;obtain⟨u,rfl,w3⟩:=iS Tryz.underlying2 fC (b 3 _ rfl) a j rfl O;obtain⟨v,rfl,C⟩:=iS Tryz.underlying2 fC (b 4 _ rfl) a k rfl O;obtain⟨w,rfl,D⟩:=iS Tryz.underlying2 fC (b 5 _ rfl) a l rfl O;obtain⟨y,rfl,J⟩:=iS Tryz.underlying2 fC (b 6 _ rfl) a o rfl O;refine⟨⟨q,UInt64.ofNat r.toNat,t.data.toList,u,v,w,y⟩,?_,⟨lE A,lE w3,lE C,lE D,lE J⟩,e⟩;simp only[TK.cells];rw[<-FD B]
theorem Ot{x:DataW H×List MemPlace}(d:cs.length=25)(h:DataW.trod enc Tryz.prog W 0 (λ_=>true) true n 45 cs=some x)(e:Rows.uptoBulk x.1<=1048576):∃a:qM,cs=a.cells/\a.Ok:=by
 obtain⟨c0,c1,c2,c3,c4,c5,c6,c7,c8,c9,g,j,k,o,p,q,r,u,v,w,y,A,KS,B,C,rfl⟩:=OF d;obtain⟨xs,m,rfl,rfl,_,hxl,a⟩:=DataW.trod_struct Tryz.underlying45 h;obtain⟨v0,rfl,w0⟩:=iS Tryz.underlying3 jC (a 0 _ rfl) hxl c0 rfl O;obtain⟨v1,rfl,b1⟩:=Ja e (a 1 _ rfl) hxl c1 rfl O;obtain⟨v2,rfl,b2⟩:=Ja e (a 2 _ rfl) hxl c2 rfl O;obtain⟨v3,rfl,w3⟩:=iS Tryz.underlying2 fC (a 3 _ rfl) hxl c3 rfl O;obtain⟨v4,rfl,w4⟩:=iS Tryz.underlying2 fC (a 4 _ rfl) hxl c4 rfl O;obtain⟨v5,rfl,w5⟩:=iS Tryz.underlying2 fC (a 5 _ rfl) hxl c5 rfl O;obtain⟨v6,rfl,w6⟩:=iS Tryz.underlying2 fC (a 6 _ rfl) hxl c6 rfl O;obtain⟨v7,rfl,w7⟩:=iS Tryz.underlying2 fC (a 7 _ rfl) hxl c7 rfl O;obtain⟨v8,rfl,w8⟩:=iS Tryz.underlying3 jC (a 8 _ rfl) hxl c8 rfl O;obtain⟨v9,rfl,w9⟩:=iS Tryz.underlying2 fC (a 9 _ rfl) hxl c9 rfl O;obtain⟨K,rfl,xq⟩:=iS Tryz.underlying3 jC (a 10 _ rfl) hxl g rfl O;obtain⟨L,rfl,U⟩:=iS Tryz.underlying2 fC (a 12 _ rfl) hxl v rfl O;obtain⟨M,rfl,V⟩:=iS Tryz.underlying3 jC (a 13 _ rfl) hxl w rfl O;obtain⟨P,rfl,f⟩:=Ja e (a 14 _ rfl) hxl y rfl O;obtain⟨Q,rfl,X⟩:=iS Tryz.underlying2 fC (a 15 _ rfl) hxl A rfl O;obtain⟨R,rfl,ab⟩:=iS Tryz.underlying2 fC (a 16 _ rfl) hxl KS rfl O;obtain⟨S,rfl,ad⟩:=iS Tryz.underlying3 jC (a 17 _ rfl) hxl B rfl O;obtain⟨T,rfl,ae⟩:=iS Tryz.underlying3 jC (a 18 _ rfl) hxl C rfl O;have b:=cL (l:=xs) (i:=11) o';obtain⟨t,ht,J,D⟩:=Ma (cs:=[j,k,o,p,q,r,u]) rfl ((a 11 _ rfl).trans b) (by have:=wO b e;omega);refine⟨⟨v0,v1.data.toList,v2.data.toList,v3,v4,v5,v6,v7,v8,v9,K,t,L,M,P.data.toList,Q,R,S,T⟩,?_,⟨lE w0,b1,b2,lE w3,lE w4,lE w5,lE w6,lE w7,lE w8,lE w9,lE xq,J,D,lE U,lE V,f,lE X,lE ab,lE ad,lE ae⟩⟩;simp only[TK.cells,List.cons.injEq,and_true]at ht;obtain⟨rfl,rfl,rfl,rfl,rfl,rfl,rfl⟩:=ht;rfl
theorem OJ(d:DataW H):1<=Rows.uptoBulk d:=by
 cases d with
 |lit l=>cases l<;>simp[Rows.uptoBulk]
 |_=>simp[Rows.uptoBulk]
theorem Hc{p:Prop}(h:p:=by
 refine Nat.lt_of_not_le λhge=>?_
 rw[Addr.add_lit,Addr.add_lit]at hc0
 simp[World.cell?,Array.getElem?_eq_none hge]at hc0):p:=h
theorem R9{a:Option Addr}{g B:Nat}{d:DataW H}{p:List MemPlace}(Good:Int->Array Value->Prop)(h:DataW.Trod enc Tryz.prog W 0 (λ_=>true) true 22 (.slice a g B) d p)(hw:∀m∈d.weights Tryz.prog 22,m<=140737488351232)(R:Rows.uptoBulk d<=1048576)(J:∀(n)(cs)(x)(f),cs.length=41->DataW.trod enc Tryz.prog W 0 (λ_=>true) true n 48 cs=some x->(∀m∈x.1.weights Tryz.prog 48,m<=140737488351232)->Rows.uptoBulk x.1<=1048576->tS f cs.toArray->Good f cs.toArray):
  qD Good W a g/\g<=1048576:=by
 obtain⟨Q,hf⟩:=h
 rcases Go.Deep.open_slice Tryz.underlying22 hf with⟨j,_⟩|⟨x,l,c,m,n,D,Pl,j,ao,hl,hm,y,S,w⟩
 .simp[Value.cells]at j;obtain⟨rfl,rfl,rfl⟩:=j;exact⟨λi e=>absurd e G,by omega⟩
 .simp[Value.cells]at j;obtain⟨rfl,rfl,rfl⟩:=j;simp only[Prod.mk.injEq]at S;obtain⟨rfl,_⟩:=S;simp only[if_true]at y;subst y;have C:g<=1048576:=by
   have v:=FE ((List.range g).map D) (λd _=>OJ d);simp only[Rows.uptoBulk]at R;simp only[cR,List.length_range]at v;omega
  refine⟨λi e=>?_,C⟩;obtain⟨u,v,h2⟩:=w i G;rw[Tz]at v;obtain⟨_,q,r⟩:=World.cells?_some v;have hc0:=r 0 O;rw[cL G]at hc0;obtain⟨b,P,A⟩:=x;have t:A=none:=by
   obtain⟨K,k,_⟩:=w 0 G;rw[Tz]at k;obtain⟨_,L,M⟩:=World.cells?_some k;have o:=M 0 O;rw[cL G]at o;simpa[Addr.add]using World.cell?_spot o
  subst t;have L:b<W.1.size:=by
   exact Hc
  have M:∀k∈(D i).weights Tryz.prog 48,k<=140737488351232:=by
   intro k K;refine hw k ?_;simp only[DataW.weights,Tryz.underlying22,List.mem_cons,eW];exact Or.inr (Or.inl (BN fA k K))
  have ar:Rows.uptoBulk (D i)<=1048576:=by
   have v:=Ag (l:=(List.range g).map D) (List.mem_map.2 ⟨i,by simpa using e,rfl⟩);simp only[Rows.uptoBulk]at R;omega
  obtain⟨f,k⟩:=RK (cs:=u) q h2 M;refine⟨b,P,rfl,L,f,u.toArray,by simpa using q,?_,fA,?_⟩
  .obtain⟨o,T,U,V,X,ab,ad,ae,KS,af,ag,We,Wh,Wi,ah,Wj,Sg,ai,aj,Wl,ak,Wm,Wn,al,Wo,Wp,an,_,K,e⟩:=k;rw[e,<-K];rfl
  grind [Addr.add_lit]
