import Derived.Test.YticfhckmhcaigaaGreatDoorGERBoxH
import Derived.ProofKit
import Derived.OpenShut
import Derived.Deep.DeepHandedRow
import Derived.Deep.Slices
import Derived.LaidSub
namespace Go.Proofs.YticfhckmhcaigaaGreatDoor
theorem pD{p:Prop}(h:p:=by rw[hxl];decide):p:=h
abbrev qX(x:Int):Prop:=-9223372036854775808<=x/\x<=9223372036854775807
structure OpF where
 kind:Int
 A:Int
 B:Int
 C:Int
 K:UInt64
 D:UInt64
 now:Int
 zs:E
 ak:Int
 an:E
 key:UInt64
 bH:Int
 aD:Int
 bB:Int
 ae:Int
def OpF.ok(o:OpF):Prop:=qX o.kind/\qX o.A/\qX o.B/\qX o.C/\qX o.now/\o.zs.length<=140737488351232/\qX o.ak/\o.an.length<=140737488351232/\qX o.bH/\qX o.aD/\qX o.bB/\qX o.ae
abbrev OpF.cells(o:OpF)(c15 c16 c17 c18 c19 c20 c21 MQ c23 c24 YH YI YJ c28 YK SG c31 c32 YL c34 YM YN c37 YO YP c40:Value):Array Value:=#[Y o.kind,Y o.A,Y o.B,Y o.C,O (o.K.toNat:Int),O (o.D.toNat:Int),Y o.now,.string ⟨o.zs.toArray⟩,Y o.ak,.string ⟨o.an.toArray⟩,O (o.key.toNat:Int),Y o.bH,Y o.aD,Y o.bB,Y o.ae,c15,c16,c17,c18,c19,c20,c21,MQ,c23,c24,YH,YI,YJ,c28,YK,SG,c31,c32,YL,c34,YM,YN,c37,YO,YP,c40]
def ua(kind:Int)(cs:Array Value):Prop:=∃(o:OpF) (c15 c16 c17 c18 c19 c20 c21 MQ c23 c24 YH YI YJ c28 YK SG c31 c32 YL c34 YM YN c37 YO YP c40:Value),o.ok/\o.kind=kind/\cs=o.cells c15 c16 c17 c18 c19 c20 c21 MQ c23 c24 YH YI YJ c28 YK SG c31 c32 YL c34 YM YN c37 YO YP c40
theorem Im:qX 0:=by decide
theorem O1:qX 2:=by decide
theorem Rr:qX 10:=by decide
theorem Z3(a)(d:qX a)(b)(h:b.length=500):ua a (DY a b):=
 ⟨⟨a,10,2,0,0,0,0,b,0,[],0,0,0,0,0⟩,Y 0,ε,ε,Y 0,Y 0,Y 0,Y 0,Y 0,Y 0,Y 0,Y 0,Y 0,O 0,ε,Y 0,Y 0,Y 0,Y 0,Y 0,Y 0,ε,Y 0,Y 0,Y 0,Y 0,σ,⟨d,Rr,O1,Im,Im,by show b.length<=_;omega,Im,by simp,Im,Im,Im,Im⟩,rfl,rfl⟩
end Go.Proofs.YticfhckmhcaigaaGreatDoor
namespace Go.Proofs.YticfhckmhcaigaaGreatDoor.scr
open Go.ChangeShapes Go.WideShapes Go.ChangeAt Go.RowKit
set_option linter.unusedVariables false
set_option maxRecDepth 100000
variable {H:Type}{cs:List Value}{enc:TypeId×Value->H}{W:World}
theorem own:ownKnob Tryz.prog.godebug=none:=by kernel_rfl
theorem laidOut:laidOutB Tryz.prog=true:=by kernel_rfl
theorem VJ:Tryz.prog.cellsOf 48=41:=by kernel_rfl
theorem jJ:Tryz.prog.cellsOf 3=1:=by kernel_rfl
theorem fF:Tryz.prog.cellsOf 2=1:=by kernel_rfl
theorem xQ:Tryz.prog.cellsOf 39=1:=by kernel_rfl
theorem Z2:Tryz.prog.cellsOf 9=1:=by kernel_rfl
theorem Io{x:Int}(h:(Lit.int .u64 x).wf=true):x=((UInt64.ofNat x.toNat).toNat:Int):=by
 have a:=bounds_u64 h;rw[Pure.lG _ G,Int.toNat_of_nonneg a.1]
theorem uz{x:Int}(h:(Lit.int .i64 x).wf=true):qX x:=by
 have a:=bounds_i64 h;omega
theorem kW{l:List Value}{n:Nat}(h:l.length=n+1):∃a r,l=a::r/\r.length=n:=by
 cases l with
 |nil=>simp at h
 |cons a r=>grind
theorem UI(h:cs.length=41):∃Q R S T U V W X c8 c9 a b d e f g i j k l m n x o p A B C q D y r t J u K L v M P w,
  cs=[Q,R,S,T,U,V,W,X,c8,c9,a,b,d,e,f,g,i,j,k,l,m,n,x,o,p,A,B,C,q,D,y,r,t,J,u,K,L,v,M,P,w]:=by
 iterate 41 (obtain⟨c,r,rfl,k⟩:=kW h;clear h;have h:=k;clear k)
 obtain rfl:=eW h
 iterate 41 apply Exists.intro
 rfl
theorem Fl{o:Nat}{c:Value}(h:cs[o]?=some c):(cs.drop o).take 1=[c]:=by
 obtain⟨a,e⟩:=cM.1 h;rw[List.drop_eq_getElem_cons a,e];rfl
theorem kA{m:Nat}{a:List (DataW H×List MemPlace)}{t:TypeId}{K:IntKind}{o i N:Nat}(e:Tryz.prog.underlying t=some (.int K))(b:Tryz.prog.cellsOf t=1)(f:DataW.trod enc Tryz.prog W 0 (λ_=>true) true m t ((cs.drop o).take (Tryz.prog.cellsOf t))=a[i]?)(g:a.length=N)(c)(h:cs[o]?=some c)(d:i<N):∃v,c=.int K v/\(Lit.int K v).wf=true:=by
 rw[b,Fl h,cN G]at f;grind [DataW.trod_int]
theorem yi{m:Nat}{a:List (DataW H×List MemPlace)}{o i N:Nat}(f:DataW.trod enc Tryz.prog W 0 (λ_=>true) true m 9 ((cs.drop o).take (Tryz.prog.cellsOf 9))=a[i]?)(d:a.length=N)(c)(h:cs[o]?=some c)(b:i<N):∃v,c=.string v/\a[i]?=some (.lit (.string v.data.toList),[]):=by
 have e:=cN (l:=a) (i:=i) G;rw[Z2,Fl h,e]at f;grind [DataW.trod_string,Proofs.Tryz.underlying9]
theorem S4{n:Nat}{x:DataW H×List MemPlace}(p:cs.length=41)(h:DataW.trod enc Tryz.prog W 0 (λ_=>true) true n 48 cs=some x)(hw:∀m∈x.1.weights Tryz.prog 48,m<=140737488351232):
  ∃a,ua a cs.toArray:=by
 obtain⟨xs,m,rfl,rfl,_,hxl,b⟩:=DataW.trod_struct Tryz.underlying48 h
 obtain⟨c0,c1,c2,c3,c4,c5,c6,c7,S,T,e,f,g,k,o,q,r,u,v,w,y,A,MQ,B,C,YH,YI,YJ,D,YK,SG,J,K,YL,L,YM,YN,M,YO,YP,P,rfl⟩:=UI p
 obtain⟨X,rfl,w0⟩:=kA Tryz.underlying3 jJ (b 0 _ rfl) hxl c0 rfl a7
 obtain⟨v1,rfl,w1⟩:=kA Tryz.underlying3 jJ (b 1 _ rfl) hxl c1 rfl a7
 obtain⟨v2,rfl,w2⟩:=kA Tryz.underlying3 jJ (b 2 _ rfl) hxl c2 rfl a7
 obtain⟨v3,rfl,w3⟩:=kA Tryz.underlying3 jJ (b 3 _ rfl) hxl c3 rfl a7
 obtain⟨v4,rfl,w4⟩:=kA Tryz.underlying39 xQ (b 4 _ rfl) hxl c4 rfl a7
 obtain⟨v5,rfl,w5⟩:=kA Tryz.underlying39 xQ (b 5 _ rfl) hxl c5 rfl a7
 obtain⟨v6,rfl,w6⟩:=kA Tryz.underlying2 fF (b 6 _ rfl) hxl c6 rfl a7
 obtain⟨v7,rfl,e7⟩:=yi (b 7 _ rfl) hxl c7 rfl a7
 have U:=cN (l:=xs) (i:=8) pD
 obtain⟨ys,m8,ab,Q,_,a,d⟩:=DataW.trod_struct (cs:=[S,T,e,f,g,k,o]) Tryz.underlying41 ((b 8 _ rfl).trans U)
 obtain⟨p0,rfl,q0⟩:=kA Tryz.underlying3 jJ (d 0 _ rfl) a S rfl a7
 obtain⟨V,rfl,b1⟩:=yi (d 1 _ rfl) a T rfl a7
 obtain⟨p2,rfl,q2⟩:=kA Tryz.underlying39 xQ (d 2 _ rfl) a e rfl a7
 obtain⟨p3,rfl,q3⟩:=kA Tryz.underlying2 fF (d 3 _ rfl) a f rfl a7
 obtain⟨p4,rfl,q4⟩:=kA Tryz.underlying2 fF (d 4 _ rfl) a g rfl a7
 obtain⟨p5,rfl,q5⟩:=kA Tryz.underlying2 fF (d 5 _ rfl) a k rfl a7
 obtain⟨p6,rfl,q6⟩:=kA Tryz.underlying3 jJ (d 6 _ rfl) a o rfl a7
 have hz:v7.data.toList.length<=140737488351232:=by
  refine hw _ ?_;simp only[DataW.weights,Tryz.underlying48];refine DataW.weights_mem_each (j:=7) (t:=9) rfl (by rw[eJ,e7];rfl) _ ?_;simp[DataW.weights]
 have R:V.data.toList.length<=140737488351232:=by
  refine hw _ ?_;simp only[DataW.weights,Tryz.underlying48];refine DataW.weights_mem_each (j:=8) (t:=41) rfl (by rw[eJ,U];rfl) _ ?_;rw[Q];simp only[DataW.weights,Tryz.underlying41];refine DataW.weights_mem_each (j:=1) (t:=9) rfl (by rw[eJ,b1];rfl) _ ?_;simp[DataW.weights]
 refine⟨X,⟨X,v1,v2,v3,UInt64.ofNat v4.toNat,UInt64.ofNat v5.toNat,v6,v7.data.toList,p0,V.data.toList,UInt64.ofNat p2.toNat,p3,p4,p5,p6⟩,q,r,u,v,w,y,A,MQ,B,C,YH,YI,YJ,D,YK,SG,J,K,YL,L,YM,YN,M,YO,YP,P,⟨uz w0,uz w1,uz w2,uz w3,uz w6,hz,uz q0,R,uz q3,uz q4,uz q5,uz q6⟩,rfl,?_⟩
 simp only[OpF.cells]
 rw[<-Io w4,<-Io w5,<-Io q2]
theorem Dt{H:Type}{P:Program}{e:TypeId}:∀{l:List (DataW H)}{d:DataW H},d∈l->∀n∈d.weights P e,n∈DataW.weightsAll P e l
 | [],_,a,_,_=>by simp at a
 |d0::l,d,a,n,b=>by
  simp only[DataW.weightsAll,fp]
  rcases List.mem_cons.1 a with rfl|a
  .exact Or.inl b
  .exact Or.inr (Dt a n b)
