import Derived.Test.YtlfifnpjeangmaaGreatDoorGERBoxH
import Derived.ProofKit
import Derived.OpenShut
import Derived.Deep.DeepHandedRow
import Derived.Deep.Slices
import Derived.LaidSub
namespace Go.Proofs.YtlfifnpjeangmaaGreatDoor
theorem o'{p:Prop}(h:p:=by rw[hxl];decide):p:=h
abbrev qx(x:Int):Prop:=-9223372036854775808<=x/\x<=9223372036854775807
structure OpF where
 kind:Int
 A:Int
 B:Int
 C:Int
 K:UInt64
 D:UInt64
 now:Int
 zs:E
 ak:Int
 an:E
 key:UInt64
 bI:Int
 aC:Int
 bB:Int
 ae:Int
def OpF.ok(o:OpF):Prop:=qx o.kind/\qx o.A/\qx o.B/\qx o.C/\qx o.now/\o.zs.length<=140737488351232/\qx o.ak/\o.an.length<=140737488351232/\qx o.bI/\qx o.aC/\qx o.bB/\qx o.ae
abbrev OpF.cells(o:OpF)(c15 c16 c17 c18 c19 c20 c21 KS c23 c24 We Wh Wi c28 Wj Sg c31 c32 Wl c34 Wm Wn c37 Wo Wp c40:Value):Array Value:=#[Y o.kind,Y o.A,Y o.B,Y o.C,υ (o.K.toNat:Int),υ (o.D.toNat:Int),Y o.now,.string ⟨o.zs.toArray⟩,Y o.ak,.string ⟨o.an.toArray⟩,υ (o.key.toNat:Int),Y o.bI,Y o.aC,Y o.bB,Y o.ae,c15,c16,c17,c18,c19,c20,c21,KS,c23,c24,We,Wh,Wi,c28,Wj,Sg,c31,c32,Wl,c34,Wm,Wn,c37,Wo,Wp,c40]
def tS(kind:Int)(cs:Array Value):Prop:=∃(o:OpF) (c15 c16 c17 c18 c19 c20 c21 KS c23 c24 We Wh Wi c28 Wj Sg c31 c32 Wl c34 Wm Wn c37 Wo Wp c40:Value),o.ok/\o.kind=kind/\cs=o.cells c15 c16 c17 c18 c19 c20 c21 KS c23 c24 We Wh Wi c28 Wj Sg c31 c32 Wl c34 Wm Wn c37 Wo Wp c40
theorem FB:qx 0:=by decide
theorem Mn:qx 2:=by decide
theorem OK:qx 10:=by decide
theorem Wg(a)(d:qx a)(b)(h:b.length=500):tS a (Ck a b):=
 ⟨⟨a,10,2,0,0,0,0,b,0,[],0,0,0,0,0⟩,Y 0,ε,ε,Y 0,Y 0,Y 0,Y 0,Y 0,Y 0,Y 0,Y 0,Y 0,υ 0,ε,Y 0,Y 0,Y 0,Y 0,Y 0,Y 0,ε,Y 0,Y 0,Y 0,Y 0,σ,⟨d,OK,Mn,FB,FB,by show b.length<=_;omega,FB,by simp,FB,FB,FB,FB⟩,rfl,rfl⟩
end Go.Proofs.YtlfifnpjeangmaaGreatDoor
namespace Go.Proofs.YtlfifnpjeangmaaGreatDoor.scr
open Go.ChangeShapes Go.WideShapes Go.ChangeAt Go.RowKit
set_option linter.unusedVariables false
set_option maxRecDepth 100000
variable {H:Type}{cs:List Value}{enc:TypeId×Value->H}{W:World}
theorem own:ownKnob Tryz.prog.godebug=none:=by kernel_rfl
theorem laidOut:laidOutB Tryz.prog=true:=by kernel_rfl
theorem Tz:Tryz.prog.cellsOf 48=41:=by kernel_rfl
theorem jC:Tryz.prog.cellsOf 3=1:=by kernel_rfl
theorem fC:Tryz.prog.cellsOf 2=1:=by kernel_rfl
theorem wM:Tryz.prog.cellsOf 39=1:=by kernel_rfl
theorem Wf:Tryz.prog.cellsOf 9=1:=by kernel_rfl
theorem FD{x:Int}(h:(Lit.int .u64 x).wf=true):x=((UInt64.ofNat x.toNat).toNat:Int):=by
 have a:=bounds_u64 h;rw[Pure.mV _ G,Int.toNat_of_nonneg a.1]
theorem tF{x:Int}(h:(Lit.int .i64 x).wf=true):qx x:=by
 have a:=bounds_i64 h;omega
theorem kM{l:List Value}{n:Nat}(h:l.length=n+1):∃a r,l=a::r/\r.length=n:=by
 cases l with
 |nil=>simp at h
 |cons a r=>grind
theorem Lo(h:cs.length=41):∃Q R S T U V W X c8 c9 a b d e f g i j k l m n x o p A B C q D y r t J u K L v M P w,
  cs=[Q,R,S,T,U,V,W,X,c8,c9,a,b,d,e,f,g,i,j,k,l,m,n,x,o,p,A,B,C,q,D,y,r,t,J,u,K,L,v,M,P,w]:=by
 iterate 41 (obtain⟨c,r,rfl,k⟩:=kM h;clear h;have h:=k;clear k)
 obtain rfl:=fh h
 iterate 41 apply Exists.intro
 rfl
theorem GP{o:Nat}{c:Value}(h:cs[o]?=some c):(cs.drop o).take 1=[c]:=by
 obtain⟨a,e⟩:=cM.1 h;rw[List.drop_eq_getElem_cons a,e];rfl
theorem iS{m:Nat}{a:List (DataW H×List MemPlace)}{t:TypeId}{K:IntKind}{o i N:Nat}(e:Tryz.prog.underlying t=some (.int K))(b:Tryz.prog.cellsOf t=1)(f:DataW.trod enc Tryz.prog W 0 (λ_=>true) true m t ((cs.drop o).take (Tryz.prog.cellsOf t))=a[i]?)(g:a.length=N)(c)(h:cs[o]?=some c)(d:i<N):∃v,c=.int K v/\(Lit.int K v).wf=true:=by
 rw[b,GP h,cL G]at f;grind [DataW.trod_int]
theorem xf{m:Nat}{a:List (DataW H×List MemPlace)}{o i N:Nat}(f:DataW.trod enc Tryz.prog W 0 (λ_=>true) true m 9 ((cs.drop o).take (Tryz.prog.cellsOf 9))=a[i]?)(d:a.length=N)(c)(h:cs[o]?=some c)(b:i<N):∃v,c=.string v/\a[i]?=some (.lit (.string v.data.toList),[]):=by
 have e:=cL (l:=a) (i:=i) G;rw[Wf,GP h,e]at f;grind [DataW.trod_string,Proofs.Tryz.underlying9]
theorem RK{n:Nat}{x:DataW H×List MemPlace}(p:cs.length=41)(h:DataW.trod enc Tryz.prog W 0 (λ_=>true) true n 48 cs=some x)(hw:∀m∈x.1.weights Tryz.prog 48,m<=140737488351232):
  ∃a,tS a cs.toArray:=by
 obtain⟨xs,m,rfl,rfl,_,hxl,b⟩:=DataW.trod_struct Tryz.underlying48 h
 obtain⟨c0,c1,c2,c3,c4,c5,c6,c7,S,T,e,f,g,k,o,q,r,u,v,w,y,A,KS,B,C,We,Wh,Wi,D,Wj,Sg,J,K,Wl,L,Wm,Wn,M,Wo,Wp,P,rfl⟩:=Lo p
 obtain⟨X,rfl,w0⟩:=iS Tryz.underlying3 jC (b 0 _ rfl) hxl c0 rfl O
 obtain⟨v1,rfl,w1⟩:=iS Tryz.underlying3 jC (b 1 _ rfl) hxl c1 rfl O
 obtain⟨v2,rfl,w2⟩:=iS Tryz.underlying3 jC (b 2 _ rfl) hxl c2 rfl O
 obtain⟨v3,rfl,w3⟩:=iS Tryz.underlying3 jC (b 3 _ rfl) hxl c3 rfl O
 obtain⟨v4,rfl,w4⟩:=iS Tryz.underlying39 wM (b 4 _ rfl) hxl c4 rfl O
 obtain⟨v5,rfl,w5⟩:=iS Tryz.underlying39 wM (b 5 _ rfl) hxl c5 rfl O
 obtain⟨v6,rfl,w6⟩:=iS Tryz.underlying2 fC (b 6 _ rfl) hxl c6 rfl O
 obtain⟨v7,rfl,e7⟩:=xf (b 7 _ rfl) hxl c7 rfl O
 have U:=cL (l:=xs) (i:=8) o'
 obtain⟨ys,m8,ab,Q,_,a,d⟩:=DataW.trod_struct (cs:=[S,T,e,f,g,k,o]) Tryz.underlying41 ((b 8 _ rfl).trans U)
 obtain⟨p0,rfl,q0⟩:=iS Tryz.underlying3 jC (d 0 _ rfl) a S rfl O
 obtain⟨V,rfl,b1⟩:=xf (d 1 _ rfl) a T rfl O
 obtain⟨p2,rfl,q2⟩:=iS Tryz.underlying39 wM (d 2 _ rfl) a e rfl O
 obtain⟨p3,rfl,q3⟩:=iS Tryz.underlying2 fC (d 3 _ rfl) a f rfl O
 obtain⟨p4,rfl,q4⟩:=iS Tryz.underlying2 fC (d 4 _ rfl) a g rfl O
 obtain⟨p5,rfl,q5⟩:=iS Tryz.underlying2 fC (d 5 _ rfl) a k rfl O
 obtain⟨p6,rfl,q6⟩:=iS Tryz.underlying3 jC (d 6 _ rfl) a o rfl O
 have hz:v7.data.toList.length<=140737488351232:=by
  refine hw _ ?_;simp only[DataW.weights,Tryz.underlying48];refine DataW.weights_mem_each (j:=7) (t:=9) rfl (by rw[eA,e7];rfl) _ ?_;simp[DataW.weights]
 have R:V.data.toList.length<=140737488351232:=by
  refine hw _ ?_;simp only[DataW.weights,Tryz.underlying48];refine DataW.weights_mem_each (j:=8) (t:=41) rfl (by rw[eA,U];rfl) _ ?_;rw[Q];simp only[DataW.weights,Tryz.underlying41];refine DataW.weights_mem_each (j:=1) (t:=9) rfl (by rw[eA,b1];rfl) _ ?_;simp[DataW.weights]
 refine⟨X,⟨X,v1,v2,v3,UInt64.ofNat v4.toNat,UInt64.ofNat v5.toNat,v6,v7.data.toList,p0,V.data.toList,UInt64.ofNat p2.toNat,p3,p4,p5,p6⟩,q,r,u,v,w,y,A,KS,B,C,We,Wh,Wi,D,Wj,Sg,J,K,Wl,L,Wm,Wn,M,Wo,Wp,P,⟨tF w0,tF w1,tF w2,tF w3,tF w6,hz,tF q0,R,tF q3,tF q4,tF q5,tF q6⟩,rfl,?_⟩
 simp only[OpF.cells]
 rw[<-FD w4,<-FD w5,<-FD q2]
theorem BN{H:Type}{P:Program}{e:TypeId}:∀{l:List (DataW H)}{d:DataW H},d∈l->∀n∈d.weights P e,n∈DataW.weightsAll P e l
 | [],_,a,_,_=>by simp at a
 |d0::l,d,a,n,b=>by
  simp only[DataW.weightsAll,eW]
  rcases List.mem_cons.1 a with rfl|a
  .exact Or.inl b
  .exact Or.inr (BN a n b)
