import Derived.Test.YtlfifnpjeangmaaGreatDoorGEScript
import Derived.Test.YtlfifnpjeangmaaGreatDoorGERGivB
namespace Go.Proofs.YtlfifnpjeangmaaGreatDoor.scr
set_option maxHeartbeats 1000000
open Go.ChangeShapes Go.WideShapes Go.ChangeAt Go.RowKit
set_option linter.unusedVariables false
set_option maxRecDepth 100000
variable {cs:List Value}{n:Nat}{H:Type}{enc:TypeId×Value->H}{W:World}
theorem aay:Tryz.prog.cellsOf 45=25:=by kernel_rfl
theorem I6:Tryz.prog.cellsOf 192=34:=by kernel_rfl
theorem VW:Tryz.prog.cellsOf 46=1:=by kernel_rfl
theorem Ae{H:Type}:∀{l:List (DataW H)}{d:DataW H},d∈l->Rows.uptoBulk d<=Rows.uptoBulkAll l
 | [],_,h=>by cases h
 |x::l,d,h=>by
  simp only[Rows.uptoBulkAll]
  rcases List.mem_cons.1 h with rfl|h
  ·omega
  ·have:=Ae h;omega
theorem FB{H:Type}:∀(l:List (DataW H)),(∀d∈l,1<=Rows.uptoBulk d)->l.length<=Rows.uptoBulkAll l
 | [],_=>cy _
 |x::l,h=>by
  have a:=FB l agM
  have b:=h x (List.mem_cons_self ..)
  simp only[Rows.uptoBulkAll,de]
  omega
theorem wJ{a:List (DataW H×List MemPlace)}{i:Nat}{y:DataW H×List MemPlace}(e:a[i]?=some y)(h:Rows.uptoBulk (.agg (a.map (·.1)))<=n):Rows.uptoBulk y.1+1<=n:=by
 have:=Ae (eK (f:=(·.1)) (ey e));simp only[Rows.uptoBulk]at h;omega
theorem i64_in{x:Int}(h:(Lit.int .i64 x).wf=true):In64 x:=by
 have a:=bounds_i64 h;exact⟨by omega,by omega⟩
theorem ak4(h:cs.length=7):∃i b g f a d e,cs=[i,b,g,f,a,d,e]:=by
 iterate 7 (obtain⟨c,r,rfl,k⟩:=kK h;clear h;have h:=k;clear k)
 obtain rfl:=fh h;iterate 7 apply Exists.intro
 rfl
theorem agW(h:cs.length=25):∃B w A y z C D v u t a f j g o q e i m p b d x l s,cs=[B,w,A,y,z,C,D,v,u,t,a,f,j,g,o,q,e,i,m,p,b,d,x,l,s]:=by
 iterate 25 (obtain⟨c,r,rfl,k⟩:=kK h;clear h;have h:=k;clear k)
 obtain rfl:=fh h;iterate 25 apply Exists.intro
 rfl
theorem I7{m:Nat}{a:List (DataW H×List MemPlace)}{o i N:Nat}(g:Rows.uptoBulk (.agg (a.map (·.1)))<=1048576)(f:DataW.trod enc Tryz.prog W 0 (λ_=>true) true m 9 ((cs.drop o).take (Tryz.prog.cellsOf 9))=a[i]?)(d:a.length=N)(c)(h:cs[o]?=some c)(j:i<N):∃v,c=.string v/\v.data.toList.length<=1048576:=by
 obtain⟨v,e,r⟩:=fstr f d c h j;have b:=wJ r g;simp only[Rows.uptoBulk]at b;exact⟨v,e,by omega⟩
theorem ak5{x:DataW H×List MemPlace}(c:cs.length=7)(h:DataW.trod enc Tryz.prog W 0 (λ_=>true) true n 43 cs=some x)(g:Rows.uptoBulk x.1<=1048576):∃t:TK,cs=t.cells/\t.In/\t.ay.length<=1048576:=by
 obtain⟨s,e,q,l,d,f,j,rfl⟩:=ak4 c;obtain⟨v,m,rfl,rfl,_,a,b⟩:=DataW.trod_struct Tryz.underlying43 h;obtain⟨v0,rfl,r⟩:=fint Tryz.underlying2 fw (b 0 _ rfl) a s rfl agF;obtain⟨v1,rfl,k⟩:=fint Tryz.underlying39 wI (b 1 _ rfl) a e rfl agF;obtain⟨v2,rfl,i⟩:=I7 g (b 2 _ rfl) a q rfl agF;obtain⟨v3,rfl,w3⟩:=fint Tryz.underlying2 fw (b 3 _ rfl) a l rfl agF;obtain⟨v4,rfl,p⟩:=fint Tryz.underlying2 fw (b 4 _ rfl) a d rfl agF;obtain⟨v5,rfl,o⟩:=fint Tryz.underlying2 fw (b 5 _ rfl) a f rfl agF;obtain⟨v6,rfl,u⟩:=fint Tryz.underlying2 fw (b 6 _ rfl) a j rfl agF;refine⟨⟨v0,UInt64.ofNat v1.toNat,v2.data.toList,v3,v4,v5,v6⟩,?_,⟨i64_in r,i64_in w3,i64_in p,i64_in o,i64_in u⟩,i⟩;simp only[TK.cells];rw[<-Fz k]
theorem agX{x:DataW H×List MemPlace}(c:cs.length=25)(h:DataW.trod enc Tryz.prog W 0 (λ_=>true) true n 45 cs=some x)(e:Rows.uptoBulk x.1<=1048576):∃a:qJ,cs=a.cells/\a.Ok:=by
 obtain⟨c0,Y,c2,c3,c4,c5,c6,X,V,T,g,u,B,w,I,P,q,z,G,O,k,o,O6,E,R,rfl⟩:=agW c;obtain⟨xs,m,rfl,rfl,_,hxl,b⟩:=DataW.trod_struct Tryz.underlying45 h;obtain⟨v0,rfl,w0⟩:=fint Tryz.underlying3 jB (b 0 _ rfl) hxl c0 rfl agF;obtain⟨v1,rfl,b1⟩:=I7 e (b 1 _ rfl) hxl Y rfl agF;obtain⟨v2,rfl,Z⟩:=I7 e (b 2 _ rfl) hxl c2 rfl agF;obtain⟨v3,rfl,w3⟩:=fint Tryz.underlying2 fw (b 3 _ rfl) hxl c3 rfl agF;obtain⟨v4,rfl,w4⟩:=fint Tryz.underlying2 fw (b 4 _ rfl) hxl c4 rfl agF;obtain⟨v5,rfl,w5⟩:=fint Tryz.underlying2 fw (b 5 _ rfl) hxl c5 rfl agF;obtain⟨v6,rfl,w6⟩:=fint Tryz.underlying2 fw (b 6 _ rfl) hxl c6 rfl agF;obtain⟨v7,rfl,w7⟩:=fint Tryz.underlying2 fw (b 7 _ rfl) hxl X rfl agF;obtain⟨v8,rfl,w8⟩:=fint Tryz.underlying3 jB (b 8 _ rfl) hxl V rfl agF;obtain⟨v9,rfl,w9⟩:=fint Tryz.underlying2 fw (b 9 _ rfl) hxl T rfl agF;obtain⟨f,rfl,U⟩:=fint Tryz.underlying3 jB (b 10 _ rfl) hxl g rfl agF;obtain⟨K,rfl,y⟩:=fint Tryz.underlying2 fw (b 12 _ rfl) hxl G rfl agF;obtain⟨j,rfl,C⟩:=fint Tryz.underlying3 jB (b 13 _ rfl) hxl O rfl agF;obtain⟨p,rfl,J⟩:=I7 e (b 14 _ rfl) hxl k rfl agF;obtain⟨A,rfl,N⟩:=fint Tryz.underlying2 fw (b 15 _ rfl) hxl o rfl agF;obtain⟨Q,rfl,v⟩:=fint Tryz.underlying2 fw (b 16 _ rfl) hxl O6 rfl agF;obtain⟨L,rfl,M⟩:=fint Tryz.underlying3 jB (b 17 _ rfl) hxl E rfl agF;obtain⟨r,rfl,s⟩:=fint Tryz.underlying3 jB (b 18 _ rfl) hxl R rfl agF;have d:=cL (l:=xs) (i:=11) ahl;obtain⟨t,S,F,D⟩:=ak5 (cs:=[u,B,w,I,P,q,z]) rfl ((b 11 _ rfl).trans d) (by have:=wJ d e;omega);refine⟨⟨v0,v1.data.toList,v2.data.toList,v3,v4,v5,v6,v7,v8,v9,f,t,K,j,p.data.toList,A,Q,L,r⟩,?_,⟨i64_in w0,b1,Z,i64_in w3,i64_in w4,i64_in w5,i64_in w6,i64_in w7,i64_in w8,i64_in w9,i64_in U,F,D,i64_in y,i64_in C,J,i64_in N,i64_in v,i64_in M,i64_in s⟩⟩;simp only[TK.cells,List.cons.injEq,and_true]at S;obtain⟨rfl,rfl,rfl,rfl,rfl,rfl,rfl⟩:=S;rfl
theorem OC(d:DataW H):1<=Rows.uptoBulk d:=by
 cases d with
 |lit l=>cases l<;>simp[Rows.uptoBulk]
 |_=>simp[Rows.uptoBulk]
theorem aen{p:Prop}(h:p:=by
 refine Nat.lt_of_not_le λhge=>?_
 rw[Addr.add_lit,Addr.add_lit]at hc0
 simp[World.cell?,Array.getElem?_eq_none hge]at hc0):p:=h
theorem RI{a:Option Addr}{g cap:Nat}{d:DataW H}{p:List MemPlace}(Good:Int->Array Value->Prop)(h:DataW.Trod enc Tryz.prog W 0 (λ_=>true) true 22 (.slice a g cap) d p)(hw:∀m∈d.weights Tryz.prog 22,m<=140737488351232)(M:Rows.uptoBulk d<=1048576)(C:∀(n)(cs)(x)(f),cs.length=41->DataW.trod enc Tryz.prog W 0 (λ_=>true) true n 48 cs=some x->(∀m∈x.1.weights Tryz.prog 48,m<=140737488351232)->Rows.uptoBulk x.1<=1048576->aau f cs.toArray->Good f cs.toArray):
  qy Good W a g/\g<=1048576:=by
 obtain⟨K,hf⟩:=h
 rcases Go.Deep.open_slice Tryz.underlying22 hf with⟨j,_⟩|⟨x,l,c,m,n,D,Pl,j,X,hl,hm,v,L,t⟩
 ·simp[Value.cells]at j;obtain⟨rfl,rfl,rfl⟩:=j;exact⟨λi F=>absurd F agE,by omega⟩
 ·simp[Value.cells]at j;obtain⟨rfl,rfl,rfl⟩:=j;simp only[Prod.mk.injEq]at L;obtain⟨rfl,_⟩:=L;simp only[if_true]at v;subst v;have G:g<=1048576:=by
   have w:=FB ((List.range g).map D) (λd _=>OC d);simp only[Rows.uptoBulk]at M;simp only[cR,List.length_range]at w;omega
  refine⟨λi F=>?_,G⟩;obtain⟨y,w,Q⟩:=t i agE;rw[Tk]at w;obtain⟨_,q,s⟩:=World.cells?_some w;have hc0:=s 0 agF;rw[cL agE]at hc0;obtain⟨b,off,u⟩:=x;have r:u=none:=by
   obtain⟨aw,I,_⟩:=t 0 agE;rw[Tk]at I;obtain⟨_,aq,V⟩:=World.cells?_some I;have J:=V 0 agF;rw[cL agE]at J;simpa[Addr.add]using World.cell?_spot J
  subst r;have E:b<W.heap.size:=by
   exact aen
  have A:∀k∈(D i).weights Tryz.prog 48,k<=140737488351232:=by
   intro k z;refine hw k ?_;simp only[DataW.weights,Tryz.underlying22,List.mem_cons,eW];exact Or.inr (Or.inl (BJ agM k z))
  have aj:Rows.uptoBulk (D i)<=1048576:=by
   have w:=Ae (l:=(List.range g).map D) (List.mem_map.2 ⟨i,by simpa using F,rfl⟩);simp only[Rows.uptoBulk]at M;omega
  obtain⟨f,B⟩:=adE (cs:=y) q Q A;refine⟨b,off,rfl,E,f,y.toArray,by simpa using q,?_,agM,?_⟩
  ·obtain⟨o,ar,U,ad,af,ao,P,T,O6,ae,av,N,an,au,ag,Y,V8,ah,S,Z,ak,ai,aa,ab,R,O,al,_,z,e⟩:=B;rw[e,<-z];rfl
  grind [Addr.add_lit]
end Go.Proofs.YtlfifnpjeangmaaGreatDoor.scr
