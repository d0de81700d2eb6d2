import Derived.Test.YteknelimjfgmaaaGreatDoorGJRBoxH
import Derived.ProofKit
import Derived.OpenShut
import Derived.Deep.DeepHandedRow
import Derived.Deep.Slices
import Derived.LaidSub
namespace Go.Proofs.YteknelimjfgmaaaGreatDoor
abbrev pg (x:Int):Prop:=-9223372036854775808<=x/\x<=9223372036854775807
structure OpF where
 kind:Int
 A:Int
 B:Int
 C:Int
 K:UInt64
 D:UInt64
 now:Int
 zs:List UInt8
 ak:Int
 an:List UInt8
 key:UInt64
 bI:Int
 aD:Int
 bC:Int
 ay:Int
def OpF.ok (o:OpF):Prop:=pg o.kind/\pg o.A/\pg o.B/\pg o.C/\pg o.now/\o.zs.length<=140737488351232/\pg o.ak/\o.an.length<=140737488351232/\pg o.bI/\pg o.aD/\pg o.bC/\pg o.ay
abbrev OpF.cells (o:OpF) (c15 c16 c17 c18 c19 c20 c21 oM c23 c24 qy qz qD c28 qG pK c31 c32 qH c34 qI qJ c37 qL qM c40:Value):Array Value:=#[.int .i64 o.kind,.int .i64 o.A,.int .i64 o.B,.int .i64 o.C,.int .u64 (o.K.toNat:Int),.int .u64 (o.D.toNat:Int),.int .i64 o.now,.string ⟨o.zs.toArray⟩,.int .i64 o.ak,.string ⟨o.an.toArray⟩,.int .u64 (o.key.toNat:Int),.int .i64 o.bI,.int .i64 o.aD,.int .i64 o.bC,.int .i64 o.ay,c15,c16,c17,c18,c19,c20,c21,oM,c23,c24,qy,qz,qD,c28,qG,pK,c31,c32,qH,c34,qI,qJ,c37,qL,qM,c40]
def N7 (kind:Int) (cs:Array Value):Prop:=∃ (o:OpF) (c15 c16 c17 c18 c19 c20 c21 oM c23 c24 qy qz qD c28 qG pK c31 c32 qH c34 qI qJ c37 qL qM c40:Value),o.ok/\o.kind=kind/\cs=o.cells c15 c16 c17 c18 c19 c20 c21 oM c23 c24 qy qz qD c28 qG pK c31 c32 qH c34 qI qJ c37 qL qM c40
theorem DI:pg 0:=by decide
theorem afw:pg 2:=by decide
theorem ab4:pg 10:=by decide
theorem VV (k0:Int) (hk:pg k0) (zs:List UInt8) (h:zs.length=500):N7 k0 (Ba k0 zs):=
 ⟨⟨k0,10,2,0,0,0,0,zs,0,[],0,0,0,0,0⟩,.int .i64 0,.string ⟨#[]⟩,.string ⟨#[]⟩,.int .i64 0,.int .i64 0,.int .i64 0,.int .i64 0,.int .i64 0,.int .i64 0,.int .i64 0,.int .i64 0,.int .i64 0,.int .u64 0,.string ⟨#[]⟩,.int .i64 0,.int .i64 0,.int .i64 0,.int .i64 0,.int .i64 0,.int .i64 0,.string ⟨#[]⟩,.int .i64 0,.int .i64 0,.int .i64 0,.int .i64 0,.slice none 0 0,⟨hk,ab4,afw,DI,DI,by show zs.length<=_;omega,DI,by simp,DI,DI,DI,DI⟩,rfl,rfl⟩
end Go.Proofs.YteknelimjfgmaaaGreatDoor
namespace Go.Proofs.YteknelimjfgmaaaGreatDoor.scr
open Go.ChangeShapes Go.WideShapes Go.ChangeAt Go.RowKit
set_option linter.unusedVariables false
set_option maxRecDepth 100000
variable {cs:List Value} {H:Type} {enc:TypeId×Value->H} {W:World}
theorem own:ownKnob Tryz.prog.godebug=none:=by kernel_rfl
theorem laidOut:laidOutB Tryz.prog=true:=by kernel_rfl
theorem Pq:Tryz.prog.cellsOf 48=41:=by kernel_rfl
theorem jT:Tryz.prog.cellsOf 3=1:=by kernel_rfl
theorem gH:Tryz.prog.cellsOf 2=1:=by kernel_rfl
theorem zh:Tryz.prog.cellsOf 39=1:=by kernel_rfl
theorem VW:Tryz.prog.cellsOf 9=1:=by kernel_rfl
theorem Ik {x:Int} (h:(Lit.int .u64 x).wf=true):x=((UInt64.ofNat x.toNat).toNat:Int):=by
 have hb:=bounds_u64 h;rw[Pure.lX _ afp,Int.toNat_of_nonneg hb.1]
theorem rV {x:Int} (h:(Lit.int .i64 x).wf=true):pg x:=by
 have hb:=bounds_i64 h;exact ⟨by omega,by omega⟩
theorem DJ {l:List Value} {n:Nat} (h:l.length=n+1):∃ a r,l=a::r/\r.length=n:=by
 cases l with
 | nil=>simp at h
 | cons a r=>exact ⟨a,r,rfl,by simpa using h⟩
theorem VX (h:cs.length=41):∃ c0 c1 c2 c3 c4 c5 c6 c7 c8 c9 c10 c11 c12 c13 c14 c15 c16 c17 c18 c19 c20 c21 oM c23 c24 qy qz qD c28 qG pK c31 c32 qH c34 qI qJ c37 qL qM c40:Value,
  cs=[c0,c1,c2,c3,c4,c5,c6,c7,c8,c9,c10,c11,c12,c13,c14,c15,c16,c17,c18,c19,c20,c21,oM,c23,c24,qy,qz,qD,c28,qG,pK,c31,c32,qH,c34,qI,qJ,c37,qL,qM,c40]:=by
 iterate 41 (obtain ⟨c,r,rfl,k⟩:=DJ h;clear h;have h:=k;clear k)
 obtain rfl:=ep h
 iterate 41 apply Exists.intro
 rfl
theorem Z7 {o:Nat} {c:Value} (h:cs[o]?=some c):(cs.drop o).take 1=[c]:=by
 obtain ⟨hl,e⟩:=cq.1 h;rw[List.drop_eq_getElem_cons hl,e];rfl
theorem fint {m:Nat} {xs:List (DataW H×List MemPlace)} {t:TypeId} {K:IntKind} {o i N:Nat} (hu:Tryz.prog.underlying t=some (.int K)) (hc:Tryz.prog.cellsOf t=1) (f:DataW.trod enc Tryz.prog W 0 (fun _=>true) true m t ((cs.drop o).take (Tryz.prog.cellsOf t))=xs[i]?) (hx:xs.length=N) (c:Value) (h:cs[o]?=some c) (hi:i<N):∃ v,c = .int K v/\(Lit.int K v).wf=true:=by
 rw[hc,Z7 h,cr afp] at f;obtain ⟨v,g,_,w⟩:=DataW.trod_int hu f;exact ⟨v,(List.cons.inj g).1,w⟩
theorem fstr {m:Nat} {xs:List (DataW H×List MemPlace)} {o i N:Nat} (f:DataW.trod enc Tryz.prog W 0 (fun _=>true) true m 9 ((cs.drop o).take (Tryz.prog.cellsOf 9))=xs[i]?) (hx:xs.length=N) (c:Value) (h:cs[o]?=some c) (hi:i<N):∃ v,c = .string v/\xs[i]?=some (.lit (.string v.data.toList),[]):=by
 have e:=cr (l:=xs) (i:=i) afp;rw[VW,Z7 h,e] at f;obtain ⟨v,g,r,_⟩:=DataW.trod_string Tryz.underlying9 f;exact ⟨v,(List.cons.inj g).1,by rw[e,r]⟩
theorem Y1 {n:Nat} {x:DataW H×List MemPlace} (hlen:cs.length=41)
  (h:DataW.trod enc Tryz.prog W 0 (fun _=>true) true n 48 cs=some x) (hw:∀ m∈x.1.weights Tryz.prog 48,m<=140737488351232) :
  ∃ kind,N7 kind cs.toArray:=by
 obtain ⟨xs,m,rfl,rfl,_,hxl,hf⟩:=DataW.trod_struct Tryz.underlying48 h
 obtain ⟨c0,c1,c2,c3,c4,c5,c6,c7,c8,c9,c10,c11,c12,c13,c14,c15,c16,c17,c18,c19,c20,c21,oM,c23,c24,qy,qz,qD,c28,qG,pK,c31,c32,qH,c34,qI,qJ,c37,qL,qM,c40,rfl⟩:=VX hlen
 obtain ⟨v0,rfl,w0⟩:=fint Tryz.underlying3 jT (hf 0 _ rfl) hxl c0 rfl afq
 obtain ⟨v1,rfl,w1⟩:=fint Tryz.underlying3 jT (hf 1 _ rfl) hxl c1 rfl afq
 obtain ⟨v2,rfl,w2⟩:=fint Tryz.underlying3 jT (hf 2 _ rfl) hxl c2 rfl afq
 obtain ⟨v3,rfl,w3⟩:=fint Tryz.underlying3 jT (hf 3 _ rfl) hxl c3 rfl afq
 obtain ⟨v4,rfl,w4⟩:=fint Tryz.underlying39 zh (hf 4 _ rfl) hxl c4 rfl afq
 obtain ⟨v5,rfl,w5⟩:=fint Tryz.underlying39 zh (hf 5 _ rfl) hxl c5 rfl afq
 obtain ⟨v6,rfl,w6⟩:=fint Tryz.underlying2 gH (hf 6 _ rfl) hxl c6 rfl afq
 obtain ⟨v7,rfl,e7⟩:=fstr (hf 7 _ rfl) hxl c7 rfl afq
 have e8:=cr (l:=xs) (i:=8) (by rw[hxl];decide)
 obtain ⟨ys,m8,hm8,hy8,_,hyl,hg⟩:=DataW.trod_struct (cs:=[c8,c9,c10,c11,c12,c13,c14]) Tryz.underlying41 ((hf 8 _ rfl).trans e8)
 obtain ⟨p0,rfl,q0⟩:=fint Tryz.underlying3 jT (hg 0 _ rfl) hyl c8 rfl afq
 obtain ⟨p1,rfl,b1⟩:=fstr (hg 1 _ rfl) hyl c9 rfl afq
 obtain ⟨p2,rfl,q2⟩:=fint Tryz.underlying39 zh (hg 2 _ rfl) hyl c10 rfl afq
 obtain ⟨p3,rfl,q3⟩:=fint Tryz.underlying2 gH (hg 3 _ rfl) hyl c11 rfl afq
 obtain ⟨p4,rfl,q4⟩:=fint Tryz.underlying2 gH (hg 4 _ rfl) hyl c12 rfl afq
 obtain ⟨p5,rfl,q5⟩:=fint Tryz.underlying2 gH (hg 5 _ rfl) hyl c13 rfl afq
 obtain ⟨p6,rfl,q6⟩:=fint Tryz.underlying3 jT (hg 6 _ rfl) hyl c14 rfl afq
 have hz:v7.data.toList.length<=140737488351232:=by
  refine hw _ ?_;simp only[DataW.weights,Tryz.underlying48];refine DataW.weights_mem_each (j:=7) (t:=9) rfl (by rw[List.getElem?_map,e7];rfl) _ ?_;simp[DataW.weights]
 have hzn:p1.data.toList.length<=140737488351232:=by
  refine hw _ ?_;simp only[DataW.weights,Tryz.underlying48];refine DataW.weights_mem_each (j:=8) (t:=41) rfl (by rw[List.getElem?_map,e8];rfl) _ ?_;rw[hy8];simp only[DataW.weights,Tryz.underlying41];refine DataW.weights_mem_each (j:=1) (t:=9) rfl (by rw[List.getElem?_map,b1];rfl) _ ?_;simp[DataW.weights]
 refine ⟨v0,⟨v0,v1,v2,v3,UInt64.ofNat v4.toNat,UInt64.ofNat v5.toNat,v6,v7.data.toList,p0,p1.data.toList,UInt64.ofNat p2.toNat,p3,p4,p5,p6⟩,c15,c16,c17,c18,c19,c20,c21,oM,c23,c24,qy,qz,qD,c28,qG,pK,c31,c32,qH,c34,qI,qJ,c37,qL,qM,c40,⟨rV w0,rV w1,rV w2,rV w3,rV w6,hz,rV q0,hzn,rV q3,rV q4,rV q5,rV q6⟩,rfl,?_⟩
 simp only[OpF.cells]
 rw[<-Ik w4,<-Ik w5,<-Ik q2]
theorem Ap {H:Type} {P:Program} {e:TypeId}:∀ {l:List (DataW H)} {d:DataW H},d∈l->∀ n∈d.weights P e,n∈DataW.weightsAll P e l
 | [],_,hd,_,_=>by simp at hd
 | d0::l,d,hd,n,hn=>by
  simp only[DataW.weightsAll,eg]
  rcases List.mem_cons.1 hd with rfl | hd
  ·exact Or.inl hn
  ·exact Or.inr (Ap hd n hn)
end Go.Proofs.YteknelimjfgmaaaGreatDoor.scr
namespace Go.Proofs.YteknelimjfgmaaaGreatDoor
open Go.RowKit
set_option maxRecDepth 100000
variable {PP QP:Type} {D:uQ PP QP}
structure LI (D:uQ PP QP) (PN:PP->Nat->Prop) (QN:QP->Nat->Prop) (w1:World) (i:Nat) (wr:World) (d:WD PP QP):Prop where
 sep:iK D w1.heap.size w1.heap.size d wr
 below:Below w1.heap.size w1 wr
 eb:d.eb.length<=2*i
 ei:d.ei.length<=2*i
 es:d.es.length<=2*i
 ps:d.ps.length<=i
 qs:d.qs.length<=i
 dv:d.dv = .slice none 0 0
 ed:d.ed=[]
 pn:∀ p∈d.ps,PN p i
 qn:∀ q∈d.qs,QN q i
variable {PN:PP->Nat->Prop} {QN:QP->Nat->Prop}
theorem LI.mono (hP:∀ p i,PN p i->PN p (i+1)) (hQ:∀ q i,QN q i->QN q (i+1)) {w1 wr:World} {i:Nat} {d:WD PP QP} (h:LI D PN QN w1 i wr d):LI D PN QN w1 (i+1) wr d:=
 ⟨h.sep,h.below,by have:=h.eb;omega,by have:=h.ei;omega,by have:=h.es;omega,by have:=h.ps;omega,by have:=h.qs;omega,h.dv,h.ed,fun p hp=>hP p i (h.pn p hp),fun q hq=>hQ q i (h.qn q hq)⟩
theorem LI.grown {w1 wr w':World} {i:Nat} {d:WD PP QP} (h:LI D PN QN w1 i wr d) (g:wr.grownBy w' none):LI D PN QN w1 i w' d:=
 ⟨h.sep.grown g,h.below.trans (uR g h.below.size),h.eb,h.ei,h.es,h.ps,h.qs,h.dv,h.ed,h.pn,h.qn⟩
theorem LI.start {w1 wr:World} (hg:(w1.alloc Mm).grownBy wr none):LI D PN QN w1 0 wr ⟨.slice none 0 0,.slice none 0 0,.slice none 0 0,.slice none 0 0,.slice none 0 0,.slice none 0 0,[],[],[],[],[],[]⟩:=by
 have hb:dX wr w1.heap.size #[.slice none 0 0,.slice none 0 0,.slice none 0 0,.slice none 0 0,.slice none 0 0,.slice none 0 0]:=(dX.new w1 _ _).grown hg aft;have G:=aa (aE w1 _ none) hg;have nof:∀ j b,WD.F D w1.heap.size ⟨.slice none 0 0,.slice none 0 0,.slice none 0 0,.slice none 0 0,.slice none 0 0,.slice none 0 0,[],[],[],[],[],[]⟩ j b->j=0/\b=w1.heap.size:=by
  intro j b h;match j,h with
  | 0,h=>exact ⟨rfl,h⟩
  | 1,h=>cases h
  | 2,h=>cases h
  | 3,h=>cases h
  | 4,h=>obtain ⟨_,h,_⟩:=h;cases h
  | 5,h=>cases h
  | 6,h=>obtain ⟨_,h,_⟩:=h;cases h
  | 7,h=>cases h
  | 8,h=>obtain ⟨_,h,_⟩:=h;cases h
  | 9,h=>cases h
  | 10,h=>obtain ⟨_,h,_⟩:=h;cases h
  | k+11,h=>
   simp only[WD.F] at h;split at h <;> simp at h
 refine ⟨⟨fun j=>?_,fun j b h=>by rw[(nof j b h).2];exact hb.lt,fun j b h=>by rw[(nof j b h).2];exact bd _,fun i j b h k=>by rw[(nof i b h).1,(nof j b k).1],by have:=G.size;omega⟩,Bz G,by simp,by simp,by simp,by simp,by simp,rfl,rfl,by simp,by simp⟩;match j with
 | 0=>exact hb
 | 1=>exact World.ownsRow_nil _ _ _ _
 | 2=>exact World.ownsRow_nil _ _ _ _
 | 3=>exact World.ownsRow_nil _ _ _ _
 | 4=>intro x hx;cases hx
 | 5=>exact World.ownsRow_nil _ _ _ _
 | 6=>intro x hx;cases hx
 | 7=>exact World.ownsRow_nil _ _ _ _
 | 8=>intro x hx;cases hx
 | 9=>exact World.ownsRow_nil _ _ _ _
 | 10=>intro x hx;cases hx
 | k+11=>simp only[WD.C];split <;> (intro p hp;simp at hp)
theorem LI.looks {w1 wr:World} {i:Nat} {d:WD PP QP} (h:LI D PN QN w1 i wr d) (hi:i*392<=140737488355328+392) :
  Calls Tryz.prog 8 #[.pointer (some ⟨w1.heap.size,2,none⟩)] wr fun e w'=>e = .returned (.bool true)/\LI D PN QN w1 i w' d:=by
 have h0:dX wr w1.heap.size d.cells:=h.sep.here 0
 rw[WD.cells,h.dv] at h0
 have a:=h.eb
 have b:=h.ei
 have c:=h.es
 refine (Xu w1.heap.size w1.heap.size d.pv d.qv d.bv d.iv d.sv d.eb d.ei d.es wr h0 ⟨h.sep.here 3,fun x hx=>(h.sep.here 4 x hx).1,fun x hx=>(h.sep.here 4 x hx).2⟩ ⟨h.sep.here 5,fun x hx=>(h.sep.here 6 x hx).1,fun x hx=>(h.sep.here 6 x hx).2⟩ ⟨h.sep.here 7,fun x hx=>(h.sep.here 8 x hx).1,fun x hx=>(h.sep.here 8 x hx).2⟩ afp afp afp).mono ?_
 rintro e w' ⟨rfl,g⟩
 exact ⟨rfl,h.grown g⟩
end Go.Proofs.YteknelimjfgmaaaGreatDoor
