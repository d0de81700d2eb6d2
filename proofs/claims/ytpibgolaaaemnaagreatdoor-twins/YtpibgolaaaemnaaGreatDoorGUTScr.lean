/-
  
-/
import Derived.Test.YtpibgolaaaemnaaGreatDoorGUPWriteB
import Derived.Test.YtpibgolaaaemnaaGreatDoorRows
import Derived.WalkKit
import Derived.ProofKit
import Derived.OpenShut
import Derived.ChangeOld
import Derived.Below
import Derived.SizedLaws
import Derived.Deep.DeepHandedRow
import Derived.Deep.Slices
import Derived.Lib.LaidTab
import Derived.LaidSub
import Derived.MakeChecks
namespace Go.Proofs.YtpibgolaaaemnaaGreatDoor.scr
open Go.ChangeShapes Go.WideShapes Go.ChangeAt Go.RowKit
set_option linter.unusedVariables false
set_option maxRecDepth 100000
theorem own:ownKnob Tryz.prog.godebug=none:=by kernel_rfl
theorem laidOut:laidOutB Tryz.prog=true:=by kernel_rfl
theorem NI:Tryz.prog.cellsOf 51=6:=by kernel_rfl
theorem XB:Tryz.prog.bytesOf 51=56:=by kernel_rfl
theorem U0:Tryz.prog.bytesOf 3=8:=by kernel_rfl
theorem qa:Tryz.prog.cellsOf 3=1:=by kernel_rfl
theorem U4:Tryz.prog.cellsOf 2=1:=by kernel_rfl
theorem U5:Tryz.prog.cellsOf 9=1:=by kernel_rfl
theorem i64_in {x:Int} (h:(Lit.int .i64 x).wf=true):In64 x:=by
 have hb:=bounds_i64 h
 exact ⟨by omega,by omega⟩
theorem U6 {l:List Value} {n:Nat} (h:l.length=n+1):∃ a r,l=a::r∧r.length=n:=by
 cases l with
 | nil=>simp at h
 | cons a r=>exact ⟨a,r,rfl,by simpa using h⟩
theorem aeh {cs:List Value} (h:cs.length=6):∃ c0 c1 c2 c3 c4 c5:Value,cs=[c0,c1,c2,c3,c4,c5]:=by
 match cs,h with
 | [c0,c1,c2,c3,c4,c5],_=>exact ⟨_,_,_,_,_,_,rfl⟩
theorem Yp {cs:List Value} {o:Nat} {c:Value} (h:cs[o]?=some c):(cs.drop o).take 1=[c]:=by
 obtain ⟨hl,e⟩:=List.getElem?_eq_some_iff.1 h
 rw[List.drop_eq_getElem_cons hl,e]
 rfl
theorem fint {H:Type} {enc:TypeId×Value→H} {W:World} {m:Nat} {cs:List Value} {xs:List (DataW H×List MemPlace)} {t:TypeId} {K:IntKind} {o i N:Nat} (hu:Tryz.prog.underlying t=some (.int K)) (hc:Tryz.prog.cellsOf t=1) (f:DataW.trod enc Tryz.prog W 0 (fun _=>true) true m t ((cs.drop o).take (Tryz.prog.cellsOf t))=xs[i]?) (hx:xs.length=N) (c:Value) (h:cs[o]?=some c) (hi:i<N):∃ v,c = .int K v∧(Lit.int K v).wf=true:=by
 rw[hc,Yp h,List.getElem?_eq_getElem (by omega)] at f
 obtain ⟨v,g,_,w⟩:=DataW.trod_int hu f
 exact ⟨v,(List.cons.inj g).1,w⟩
theorem fstr {H:Type} {enc:TypeId×Value→H} {W:World} {m:Nat} {cs:List Value} {xs:List (DataW H×List MemPlace)} {o i N:Nat} (f:DataW.trod enc Tryz.prog W 0 (fun _=>true) true m 9 ((cs.drop o).take (Tryz.prog.cellsOf 9))=xs[i]?) (hx:xs.length=N) (c:Value) (h:cs[o]?=some c) (hi:i<N):∃ v,c = .string v∧xs[i]?=some (.lit (.string v.data.toList),[]):=by
 have e:=List.getElem?_eq_getElem (l:=xs) (i:=i) (by omega)
 rw[U5,Yp h,e] at f
 obtain ⟨v,g,r,_⟩:=DataW.trod_string Tryz.underlying9 f
 exact ⟨v,(List.cons.inj g).1,by rw[e,r]⟩
theorem aei {H:Type} {enc:TypeId×Value→H} {W:World} {n:Nat} {cs:List Value} {x:DataW H×List MemPlace} (hlen:cs.length=6)
  (h:DataW.trod enc Tryz.prog W 0 (fun _=>true) true n 51 cs=some x) (hw:∀ m∈x.1.weights Tryz.prog 51,m≤140737488351232) :
  ∃ kd A B D T S,cs=(doC kd A B D T S).toList∧In64 A∧In64 B∧In64 D∧In64 T∧S.length≤140737488351232:=by
 obtain ⟨xs,m,rfl,rfl,_,hxl,hf⟩:=DataW.trod_struct Tryz.underlying51 h
 obtain ⟨c0,c1,c2,c3,c4,c5,rfl⟩:=aeh hlen
 obtain ⟨v0,rfl,w0⟩:=fint Tryz.underlying3 qa (hf 0 _ rfl) hxl c0 rfl (by decide)
 obtain ⟨v1,rfl,w1⟩:=fint Tryz.underlying3 qa (hf 1 _ rfl) hxl c1 rfl (by decide)
 obtain ⟨v2,rfl,w2⟩:=fint Tryz.underlying3 qa (hf 2 _ rfl) hxl c2 rfl (by decide)
 obtain ⟨v3,rfl,w3⟩:=fint Tryz.underlying3 qa (hf 3 _ rfl) hxl c3 rfl (by decide)
 obtain ⟨v4,rfl,w4⟩:=fint Tryz.underlying2 U4 (hf 4 _ rfl) hxl c4 rfl (by decide)
 obtain ⟨v5,rfl,e5⟩:=fstr (hf 5 _ rfl) hxl c5 rfl (by decide)
 refine ⟨v0,v1,v2,v3,v4,v5.data.toList,rfl,i64_in w1,i64_in w2,i64_in w3,i64_in w4,?_⟩
 refine hw _ ?_
 simp only[DataW.weights,Tryz.underlying51]
 refine DataW.weights_mem_each (j:=5) (t:=9) rfl (by rw[List.getElem?_map,e5];rfl) _ ?_
 simp[DataW.weights]
theorem yU {H:Type} {P:Program} {e:TypeId}:∀ {l:List (DataW H)} {d:DataW H},d∈l→∀ n∈d.weights P e,n∈DataW.weightsAll P e l
 | [],_,hd,_,_=>by simp at hd
 | d0::l,d,hd,n,hn=>by
  simp only[DataW.weightsAll,List.mem_append]
  rcases List.mem_cons.1 hd with rfl | hd
  ·exact Or.inl hn
  ·exact Or.inr (yU hd n hn)
theorem aaz {H:Type} {enc:TypeId×Value→H} {W:World} {a:Option Addr} {len cap:Nat} {d:DataW H} {p:List MemPlace}
  (h:DataW.Trod enc Tryz.prog W 0 (fun _=>true) true 23 (.slice a len cap) d p) (hw:∀ m∈d.weights Tryz.prog 23,m≤140737488351232) :
  Yf W a len∧len*56≤140737488351232:=by
 obtain ⟨fuel,hf⟩:=h
 rcases Go.Deep.open_slice Tryz.underlying23 hf with ⟨hcs,_⟩ | ⟨x,l,c,m,n,D,Pl,hcs,hb,hl,hm,hmm,hx,hel⟩
 ·simp[Value.cells] at hcs
  obtain ⟨rfl,rfl,rfl⟩:=hcs
  exact ⟨fun i hi=>absurd hi (by omega),by omega⟩
 ·simp[Value.cells] at hcs
  obtain ⟨rfl,rfl,rfl⟩:=hcs
  simp only[Prod.mk.injEq] at hx
  obtain ⟨rfl,_⟩:=hx
  simp only[if_true] at hmm
  subst hmm
  have hbig:len*56≤140737488351232:=by
   have:=hw ((((List.range len).map D).length+((List.range (m-len)).map fun j=>D (len+j)).length)*Tryz.prog.bytesOf 51) (by simp only[DataW.weights,Tryz.underlying23,List.mem_cons,true_or])
   rw[XB] at this
   simp only[List.length_map,List.length_range] at this
   omega
  refine ⟨fun i hi=>?_,by omega⟩
  obtain ⟨cs',h1,h2⟩:=hel i (by omega)
  rw[NI] at h1
  obtain ⟨_,hlen',hcell⟩:=World.cells?_some h1
  obtain ⟨b,off,spot⟩:=x
  have hspot:spot=none:=by
   obtain ⟨cs0,k1,_⟩:=hel 0 (by omega)
   rw[NI] at k1
   obtain ⟨_,hl0,k2⟩:=World.cells?_some k1
   have k3:=k2 0 (by decide)
   rw[List.getElem?_eq_getElem (by omega)] at k3
   simpa[Addr.add] using World.cell?_spot k3
  subst hspot
  obtain ⟨kd,A,B,D',T,S,e,hA,hB,hD,hT,hS⟩:=aei (cs:=cs') hlen' h2 (by
   intro k hk
   refine hw k ?_
   simp only[DataW.weights,Tryz.underlying23,List.mem_cons,List.mem_append]
   exact Or.inr (Or.inl (yU (List.mem_map.2 ⟨i,by simpa using hi,rfl⟩) k hk)))
  refine ⟨b,off,kd,A,B,D',T,S,rfl,hA,hB,hD,hT,by omega,fun j u hu=>?_⟩
  have hj:j<6:=by
   have:=(Array.getElem?_eq_some_iff.1 hu).1
   simpa using this
  have:=hcell j hj
  simp only[Addr.add_lit] at this
  rw[this,e]
  simpa using hu
theorem XC {H:Type} {enc:TypeId×Value→H} {W:World} {a:Option Addr} {len cap:Nat} {d:DataW H} {p:List MemPlace}
  (h:DataW.Trod enc Tryz.prog W 0 (fun _=>true) true 22 (.slice a len cap) d p) (hw:∀ m∈d.weights Tryz.prog 22,m≤140737488351232) :
  Uz W a len∧len≤140737488355328:=by
 obtain ⟨fuel,hf⟩:=h
 rcases Go.Deep.open_slice Tryz.underlying22 hf with ⟨hcs,_⟩ | ⟨x,l,c,m,n,D,Pl,hcs,hb,hl,hm,hmm,hx,hel⟩
 ·simp[Value.cells] at hcs
  obtain ⟨rfl,rfl,rfl⟩:=hcs
  exact ⟨fun i hi=>absurd hi (by omega),by omega⟩
 ·simp[Value.cells] at hcs
  obtain ⟨rfl,rfl,rfl⟩:=hcs
  simp only[Prod.mk.injEq] at hx
  obtain ⟨rfl,_⟩:=hx
  simp only[if_true] at hmm
  subst hmm
  have hbig:len*8≤140737488351232:=by
   have:=hw ((((List.range len).map D).length+((List.range (m-len)).map fun j=>D (len+j)).length)*Tryz.prog.bytesOf 3) (by simp only[DataW.weights,Tryz.underlying22,List.mem_cons,true_or])
   rw[U0] at this
   simp only[List.length_map,List.length_range] at this
   omega
  refine ⟨fun i hi=>?_,by omega⟩
  obtain ⟨cs',h1,h2⟩:=hel i (by omega)
  rw[qa] at h1
  obtain ⟨_,hlen',hcell⟩:=World.cells?_some h1
  obtain ⟨b,off,spot⟩:=x
  have hspot:spot=none:=by
   obtain ⟨cs0,k1,_⟩:=hel 0 (by omega)
   rw[qa] at k1
   obtain ⟨_,hl0,k2⟩:=World.cells?_some k1
   have k3:=k2 0 (by decide)
   rw[List.getElem?_eq_getElem (by omega)] at k3
   simpa[Addr.add] using World.cell?_spot k3
  subst hspot
  obtain ⟨c0,r,rfl,hr⟩:=U6 hlen'
  obtain rfl:=List.length_eq_zero_iff.1 hr
  obtain ⟨v,g,_,wf⟩:=DataW.trod_int Tryz.underlying3 h2
  obtain rfl:=(List.cons.inj g).1
  refine ⟨b,off,v,rfl,?_,i64_in wf⟩
  have:=hcell 0 (by decide)
  simp only[Addr.add_lit] at this
  simpa using this
end Go.Proofs.YtpibgolaaaemnaaGreatDoor.scr
