import Derived.Test.YtlfifnpjeangmaaGreatDoorGERBoxH
import Derived.ProofKit
import Derived.OpenShut
import Derived.Deep.DeepHandedRow
import Derived.Deep.Slices
import Derived.LaidSub
namespace Go.Proofs.YtlfifnpjeangmaaGreatDoor
theorem ahl{p:Prop}(h:p:=by rw[hxl];decide):p:=h
abbrev qw(x:Int):Prop:=-9223372036854775808<=x/\x<=9223372036854775807
structure OpF where
 kind:Int
 A:Int
 B:Int
 C:Int
 K:UInt64
 D:UInt64
 now:Int
 zs:List UInt8
 ak:Int
 an:List UInt8
 key:UInt64
 bI:Int
 aC:Int
 bB:Int
 ae:Int
def OpF.ok(o:OpF):Prop:=qw o.kind/\qw o.A/\qw o.B/\qw o.C/\qw o.now/\o.zs.length<=140737488351232/\qw o.ak/\o.an.length<=140737488351232/\qw o.bI/\qw o.aC/\qw o.bB/\qw o.ae
abbrev OpF.cells(o:OpF)(c15 c16 c17 c18 c19 c20 c21 O6 c23 c24 c25 c26 c27 c28 c29 V8 c31 c32 c33 c34 c35 c36 c37 c38 c39 c40:Value):Array Value:=#[ι o.kind,ι o.A,ι o.B,ι o.C,υ o.K.toNat,υ o.D.toNat,ι o.now,.string o.zs,ι o.ak,.string o.an,υ o.key.toNat,ι o.bI,ι o.aC,ι o.bB,ι o.ae,c15,c16,c17,c18,c19,c20,c21,O6,c23,c24,c25,c26,c27,c28,c29,V8,c31,c32,c33,c34,c35,c36,c37,c38,c39,c40]
def aau(kind:Int)(cs:Array Value):Prop:=∃(o:OpF) (c15 c16 c17 c18 c19 c20 c21 O6 c23 c24 c25 c26 c27 c28 c29 V8 c31 c32 c33 c34 c35 c36 c37 c38 c39 c40:Value),o.ok/\o.kind=kind/\cs=o.cells c15 c16 c17 c18 c19 c20 c21 O6 c23 c24 c25 c26 c27 c28 c29 V8 c31 c32 c33 c34 c35 c36 c37 c38 c39 c40
theorem Fy:qw 0:=by decide
theorem ak3:qw 2:=by decide
theorem agV:qw 10:=by decide
theorem aav(a)(b:qw a)(zs)(h:zs.length=500):aau a (Cg a zs):=
 ⟨⟨a,10,2,0,0,0,0,zs,0,[],0,0,0,0,0⟩,ι 0,.string ⟨#[]⟩,.string ⟨#[]⟩,ι 0,ι 0,ι 0,ι 0,ι 0,ι 0,ι 0,ι 0,ι 0,υ 0,.string ⟨#[]⟩,ι 0,ι 0,ι 0,ι 0,ι 0,ι 0,.string ⟨#[]⟩,ι 0,ι 0,ι 0,ι 0,.slice none 0 0,⟨b,agV,ak3,Fy,Fy,by show zs.length<=_;omega,Fy,by simp,Fy,Fy,Fy,Fy⟩,rfl,rfl⟩
end Go.Proofs.YtlfifnpjeangmaaGreatDoor
namespace Go.Proofs.YtlfifnpjeangmaaGreatDoor.scr
open Go.ChangeShapes Go.WideShapes Go.ChangeAt Go.RowKit
set_option linter.unusedVariables false
set_option maxRecDepth 100000
variable {cs:List Value}{H:Type}{enc:TypeId×Value->H}{W:World}
theorem own:ownKnob Tryz.prog.godebug=none:=by kernel_rfl
theorem laidOut:laidOutB Tryz.prog=true:=by kernel_rfl
theorem Tk:Tryz.prog.cellsOf 48=41:=by kernel_rfl
theorem jB:Tryz.prog.cellsOf 3=1:=by kernel_rfl
theorem fw:Tryz.prog.cellsOf 2=1:=by kernel_rfl
theorem wI:Tryz.prog.cellsOf 39=1:=by kernel_rfl
theorem aaw:Tryz.prog.cellsOf 9=1:=by kernel_rfl
theorem Fz{x:Int}(h:(Lit.int .u64 x).wf=true):x=((UInt64.ofNat x.toNat).toNat:Int):=by
 have a:=bounds_u64 h;rw[Pure.mR _ agE,Int.toNat_of_nonneg a.1]
theorem tu{x:Int}(h:(Lit.int .i64 x).wf=true):qw x:=by
 have a:=bounds_i64 h;omega
theorem kK{l:List Value}{n:Nat}(h:l.length=n+1):∃a r,l=a::r/\r.length=n:=by
 cases l with
 |nil=>simp at h
 |cons a r=>grind
theorem aax(h:cs.length=41):∃R L Q O P S T K J I b l t q w E j s v C e i N u G a D F x m M y g n A z o p f d B,
  cs=[R,L,Q,O,P,S,T,K,J,I,b,l,t,q,w,E,j,s,v,C,e,i,N,u,G,a,D,F,x,m,M,y,g,n,A,z,o,p,f,d,B]:=by
 iterate 41 (obtain⟨c,r,rfl,k⟩:=kK h;clear h;have h:=k;clear k)
 obtain rfl:=fh h
 iterate 41 apply Exists.intro
 rfl
theorem aeB{o:Nat}{c:Value}(h:cs[o]?=some c):(cs.drop o).take 1=[c]:=by
 obtain⟨a,e⟩:=cM.1 h;rw[List.drop_eq_getElem_cons a,e];rfl
theorem fint{m:Nat}{a:List (DataW H×List MemPlace)}{t:TypeId}{K:IntKind}{o i N:Nat}(e:Tryz.prog.underlying t=some (.int K))(b:Tryz.prog.cellsOf t=1)(f:DataW.trod enc Tryz.prog W 0 (λ_=>true) true m t ((cs.drop o).take (Tryz.prog.cellsOf t))=a[i]?)(d:a.length=N)(c)(h:cs[o]?=some c)(g:i<N):∃v,c=.int K v/\(Lit.int K v).wf=true:=by
 rw[b,aeB h,cL agE]at f;grind [DataW.trod_int]
theorem fstr{m:Nat}{a:List (DataW H×List MemPlace)}{o i N:Nat}(f:DataW.trod enc Tryz.prog W 0 (λ_=>true) true m 9 ((cs.drop o).take (Tryz.prog.cellsOf 9))=a[i]?)(d:a.length=N)(c)(h:cs[o]?=some c)(b:i<N):∃v,c=.string v/\a[i]?=some (.lit (.string v.data.toList),[]):=by
 have e:=cL (l:=a) (i:=i) agE;rw[aaw,aeB h,e]at f;grind [DataW.trod_string,Proofs.Tryz.underlying9]
theorem adE{n:Nat}{x:DataW H×List MemPlace}(o:cs.length=41)(h:DataW.trod enc Tryz.prog W 0 (λ_=>true) true n 48 cs=some x)(hw:∀m∈x.1.weights Tryz.prog 48,m<=140737488351232):
  ∃e,aau e cs.toArray:=by
 obtain⟨xs,m,rfl,rfl,_,hxl,b⟩:=DataW.trod_struct Tryz.underlying48 h
 obtain⟨c0,Z,c2,c3,c4,c5,c6,Y,U,T,d,f,k,g,p,P,y,D,F,O,s,v,O6,E,S,q,N,R,G,z,V8,J,w,A,L,K,B,C,u,r,M,rfl⟩:=aax o
 obtain⟨v0,rfl,w0⟩:=fint Tryz.underlying3 jB (b 0 _ rfl) hxl c0 rfl agF
 obtain⟨v1,rfl,w1⟩:=fint Tryz.underlying3 jB (b 1 _ rfl) hxl Z rfl agF
 obtain⟨v2,rfl,w2⟩:=fint Tryz.underlying3 jB (b 2 _ rfl) hxl c2 rfl agF
 obtain⟨v3,rfl,w3⟩:=fint Tryz.underlying3 jB (b 3 _ rfl) hxl c3 rfl agF
 obtain⟨v4,rfl,w4⟩:=fint Tryz.underlying39 wI (b 4 _ rfl) hxl c4 rfl agF
 obtain⟨v5,rfl,w5⟩:=fint Tryz.underlying39 wI (b 5 _ rfl) hxl c5 rfl agF
 obtain⟨v6,rfl,w6⟩:=fint Tryz.underlying2 fw (b 6 _ rfl) hxl c6 rfl agF
 obtain⟨v7,rfl,e7⟩:=fstr (b 7 _ rfl) hxl Y rfl agF
 have X:=cL (l:=xs) (i:=8) ahl
 obtain⟨ys,m8,aa,Q,_,a,c⟩:=DataW.trod_struct (cs:=[U,T,d,f,k,g,p]) Tryz.underlying41 ((b 8 _ rfl).trans X)
 obtain⟨p0,rfl,q0⟩:=fint Tryz.underlying3 jB (c 0 _ rfl) a U rfl agF
 obtain⟨V,rfl,b1⟩:=fstr (c 1 _ rfl) a T rfl agF
 obtain⟨p2,rfl,q2⟩:=fint Tryz.underlying39 wI (c 2 _ rfl) a d rfl agF
 obtain⟨p3,rfl,q3⟩:=fint Tryz.underlying2 fw (c 3 _ rfl) a f rfl agF
 obtain⟨p4,rfl,q4⟩:=fint Tryz.underlying2 fw (c 4 _ rfl) a k rfl agF
 obtain⟨p5,rfl,q5⟩:=fint Tryz.underlying2 fw (c 5 _ rfl) a g rfl agF
 obtain⟨p6,rfl,q6⟩:=fint Tryz.underlying3 jB (c 6 _ rfl) a p rfl agF
 have hz:v7.data.toList.length<=140737488351232:=by
  refine hw _ ?_;simp only[DataW.weights,Tryz.underlying48];refine DataW.weights_mem_each (j:=7) (t:=9) rfl (by rw[eA,e7];rfl) _ ?_;simp[DataW.weights]
 have I:V.data.toList.length<=140737488351232:=by
  refine hw _ ?_;simp only[DataW.weights,Tryz.underlying48];refine DataW.weights_mem_each (j:=8) (t:=41) rfl (by rw[eA,X];rfl) _ ?_;rw[Q];simp only[DataW.weights,Tryz.underlying41];refine DataW.weights_mem_each (j:=1) (t:=9) rfl (by rw[eA,b1];rfl) _ ?_;simp[DataW.weights]
 refine⟨v0,⟨v0,v1,v2,v3,UInt64.ofNat v4.toNat,UInt64.ofNat v5.toNat,v6,v7.data.toList,p0,V.data.toList,UInt64.ofNat p2.toNat,p3,p4,p5,p6⟩,P,y,D,F,O,s,v,O6,E,S,q,N,R,G,z,V8,J,w,A,L,K,B,C,u,r,M,⟨tu w0,tu w1,tu w2,tu w3,tu w6,hz,tu q0,I,tu q3,tu q4,tu q5,tu q6⟩,rfl,?_⟩
 simp only[OpF.cells]
 rw[<-Fz w4,<-Fz w5,<-Fz q2]
theorem BJ{H:Type}{P:Program}{e:TypeId}:∀{l:List (DataW H)}{d:DataW H},d∈l->∀n∈d.weights P e,n∈DataW.weightsAll P e l
 | [],_,a,_,_=>by simp at a
 |d0::l,d,a,n,hn=>by
  simp only[DataW.weightsAll,eW]
  rcases List.mem_cons.1 a with rfl|a
  ·exact Or.inl hn
  ·exact Or.inr (BJ a n hn)
end Go.Proofs.YtlfifnpjeangmaaGreatDoor.scr
