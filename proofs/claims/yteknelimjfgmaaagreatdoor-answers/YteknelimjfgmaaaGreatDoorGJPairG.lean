import Derived.Test.YteknelimjfgmaaaGreatDoorGJPairF
import Derived.Test.YteknelimjfgmaaaGreatDoorGJScript
namespace Go.Proofs.YteknelimjfgmaaaGreatDoor
set_option maxHeartbeats 1000000
open Proofs.Tryz Go.RowKit
set_option maxRecDepth 100000
variable {QP:Type} {jU:QP->uF} {qb:QP->Nat} {base wb:Nat}
theorem VY (d:WD PD QP) (kind A B C:Int) (K DD:UInt64) (zs:List UInt8) (c1 c6 c8 c9 c10 c11 c12 c13 c14 c15 c16 c17 c18 c19 c20 c21 oM c23 c24 qy qz qD c28 qG pK c31 c32 qH c34 qI qJ c37 qL qM c40:Value) (w:World) (hk:Hid (kind=5)) (hA:c1 = .int .i64 A) (hl:zs.length<=140737488351232)
  (hI:iK (dA jU qb) base wb d w) (hll:(d.ps.length+1)*112<=140737488355328) :
  Calls prog 7 #[.pointer (some ⟨wb,0,none⟩),.agg #[.int .i64 kind,c1,.int .i64 B,.int .i64 C,.int .u64 (K.toNat:Int),.int .u64 (DD.toNat:Int),c6,.string ⟨zs.toArray⟩,c8,c9,c10,c11,c12,c13,c14,c15,c16,c17,c18,c19,c20,c21,oM,c23,c24,qy,qz,qD,c28,qG,pK,c31,c32,qH,c34,qI,qJ,c37,qL,qM,c40]] w fun e w'=>e = .returned (.bool true)/\((iK (dA jU qb) base wb d w'/\Below base w w')\/Pp jU qb base wb d ⟨A,[],[],zs⟩ w w'):=by
 have G:=aE w (.cells #[.int .i64 kind,c1,.int .i64 B,.int .i64 C,.int .u64 (K.toNat:Int),.int .u64 (DD.toNat:Int),c6,.string ⟨zs.toArray⟩,c8,c9,c10,c11,c12,c13,c14,c15,c16,c17,c18,c19,c20,c21,oM,c23,c24,qy,qz,qD,c28,qG,pK,c31,c32,qH,c34,qI,qJ,c37,qL,qM,c40] 48) none
 have hI1:=hI.grown G
 have CC:=NZ d kind A B C K DD zs c1 c6 c8 c9 c10 c11 c12 c13 c14 c15 c16 c17 c18 c19 c20 c21 oM c23 c24 qy qz qD c28 qG pK c31 c32 qH c34 qI qJ c37 qL qM c40 _ hA hk.o hl hI1 hll
 have C2:Calls prog 9 #[.pointer (some ⟨wb,0,none⟩),.agg #[.int .i64 kind,c1,.int .i64 B,.int .i64 C,.int .u64 (K.toNat:Int),.int .u64 (DD.toNat:Int),c6,.string ⟨zs.toArray⟩,c8,c9,c10,c11,c12,c13,c14,c15,c16,c17,c18,c19,c20,c21,oM,c23,c24,qy,qz,qD,c28,qG,pK,c31,c32,qH,c34,qI,qJ,c37,qL,qM,c40]] (w.alloc (.cells #[.int .i64 kind,c1,.int .i64 B,.int .i64 C,.int .u64 (K.toNat:Int),.int .u64 (DD.toNat:Int),c6,.string ⟨zs.toArray⟩,c8,c9,c10,c11,c12,c13,c14,c15,c16,c17,c18,c19,c20,c21,oM,c23,c24,qy,qz,qD,c28,qG,pK,c31,c32,qH,c34,qI,qJ,c37,qL,qM,c40] 48)) fun e w'=>e = .returned (.bool true)/\((iK (dA jU qb) base wb d w'/\Below base w w')\/Pp jU qb base wb d ⟨A,[],[],zs⟩ w w'):=
  CC.mono fun e w' ⟨h1,h2⟩=>⟨h1,by
   have gb:=uR G hI.room;rcases h2 with ⟨a,b⟩ | ⟨a,b⟩
   ·exact .inl ⟨a,gb.trans b⟩
   ·exact .inr ⟨a,gb.trans b⟩⟩
 have hrow:(w.alloc (.cells #[.int .i64 kind,c1,.int .i64 B,.int .i64 C,.int .u64 (K.toNat:Int),.int .u64 (DD.toNat:Int),c6,.string ⟨zs.toArray⟩,c8,c9,c10,c11,c12,c13,c14,c15,c16,c17,c18,c19,c20,c21,oM,c23,c24,qy,qz,qD,c28,qG,pK,c31,c32,qH,c34,qI,qJ,c37,qL,qM,c40] 48)).heap[w.heap.size]?=some (.cells #[.int .i64 kind,c1,.int .i64 B,.int .i64 C,.int .u64 (K.toNat:Int),.int .u64 (DD.toNat:Int),c6,.string ⟨zs.toArray⟩,c8,c9,c10,c11,c12,c13,c14,c15,c16,c17,c18,c19,c20,c21,oM,c23,c24,qy,qz,qD,c28,qG,pK,c31,c32,qH,c34,qI,qJ,c37,qL,qM,c40] 48 (0,0)):=heap_alloc_new w _
 clear hI hI1 G CC hA
 obtain rfl:=hk.o
 clear hk
 go_enter func7,ntmps7
 go_wp2_with (refine wpList_load_row rfl 48 _ rfl w.heap.size rfl 48 _ (0,0) _ hrow underlying48 rfl Tryz.Mi ?_)
 refine C2.mono ?_
 rintro e w' ⟨rfl,R⟩
 clear C2 hrow
 go_wp2
 go_ret
 exact ⟨rfl,R⟩
variable {PN:PD->Nat->Prop}
structure ab5 (PN:PD->Nat->Prop):Prop where
 mono:∀ p i,PN p i->PN p (i+1)
 new:∀ p i,0<=p.M.aC->p.M.aC<=300->p.M.bg=[]->p.M.aN=[]->p.M.aO.length<=140737488351232->p.kl=[]->PN p (i+1)
 bg:∀ p i,PN p i->gU (i+1) p.M.bg
 adm:∀ p p' i a,PN p i->i+1<4611686018427387904->In64 a.bI->In64 a.aD->p'.M={p.M with bg:=(gy p.M.bg a).1}->p'.kl=p.kl->PN p' (i+1)
variable {QN:QP->Nat->Prop}
theorem LI.new (hP:ab5 PN) (hQ:∀ q i,QN q i->QN q (i+1)) {w1 wr:World} {i:Nat} {d:WD PD QP} (h:LI (dA jU qb) PN QN w1 i wr d) (hi:i*392<=140737488355328) {kind:Int} {cs:Array Value} (hk:kind=5) (hgo:N7 kind cs) :
  Calls prog 7 #[.pointer (some ⟨w1.heap.size,0,none⟩),.agg cs] wr fun e w'=>e = .returned (.bool true)/\∃ d',LI (dA jU qb) PN QN w1 (i+1) w' d':=by
 obtain ⟨o,c15,c16,c17,c18,c19,c20,c21,oM,c23,c24,qy,qz,qD,c28,qG,pK,c31,c32,qH,c34,qI,qJ,c37,qL,qM,c40,hok,hko,rfl⟩:=hgo
 have a:=h.ps
 refine (VY d o.kind o.A o.B o.C o.K o.D o.zs (.int .i64 o.A) (.int .i64 o.now) (.int .i64 o.ak) (.string ⟨o.an.toArray⟩) (.int .u64 (o.key.toNat:Int)) (.int .i64 o.bI) (.int .i64 o.aD) (.int .i64 o.bC) (.int .i64 o.ay) c15 c16 c17 c18 c19 c20 c21 oM c23 c24 qy qz qD c28 qG pK c31 c32 qH c34 qI qJ c37 qL qM c40 wr (hid (hko.trans hk)) rfl hok.2.2.2.2.2.1 h.sep afp).mono ?_
 rintro e w' ⟨rfl,⟨s,b⟩ | ⟨⟨pv,p,s,hp,hkl,hs0,hs1⟩,b⟩⟩
 ·exact ⟨rfl,d,LI.mono hP.mono hQ ⟨s,h.below.trans b,h.eb,h.ei,h.es,h.ps,h.qs,h.dv,h.ed,h.pn,h.qn⟩⟩
 ·refine ⟨rfl,_,s,h.below.trans b,by have:=h.eb;show d.eb.length<=_;omega,by have:=h.ei;show d.ei.length<=_;omega,by have:=h.es;show d.es.length<=_;omega,?_,by have:=h.qs;show d.qs.length<=_;omega,h.dv,h.ed,fun q hq=>?_,fun q hq=>hQ q i (h.qn q hq)⟩
  ·show (d.ps++[p]).length<=_;rw[bj,fX];omega
  ·rcases eg.1 hq with hq | hq
   ·exact hP.mono q i (h.pn q hq)
   ·rw[da.1 hq];exact hP.new p i (by rw[hp];exact hs0) (by rw[hp];exact hs1) (by rw[hp]) (by rw[hp]) (by rw[hp];exact hok.2.2.2.2.2.1) hkl
theorem ae8 {p:Prop} (h:p:=by
 rintro e w' ⟨rfl,q1,q2,q3⟩
 exact ⟨rfl,q3,q1,(uR g h.sep.room).trans q2⟩):p:=h
theorem LI.afx (hP:ab5 PN) (hQ:∀ q i,QN q i->QN q (i+1)) {w1 wr:World} {i:Nat} {d:WD PD QP} (h:LI (dA jU qb) PN QN w1 i wr d) (hi:i*392<=140737488355328) {kind:Int} {cs:Array Value} (hk:kind=6) (hgo:N7 kind cs) :
  Calls prog 7 #[.pointer (some ⟨w1.heap.size,0,none⟩),.agg cs] wr fun e w'=>e = .returned (.bool true)/\∃ d',LI (dA jU qb) PN QN w1 (i+1) w' d':=by
 obtain ⟨o,c15,c16,c17,c18,c19,c20,c21,oM,c23,c24,qy,qz,qD,c28,qG,pK,c31,c32,qH,c34,qI,qJ,c37,qL,qM,c40,hok,hko,rfl⟩:=hgo
 have a:=h.ps
 have hk6:o.kind=6:=hko.trans hk
 by_cases hps:d.ps=[]
 ·refine (Ga d o.kind _ wr (hid (.inl hk6)) rfl h.sep hps).mono ?_;rintro e w' ⟨rfl,g⟩;exact ⟨rfl,d,(h.grown g).mono hP.mono hQ⟩
 ·have hpos:0<d.ps.length:=fL.2 hps;have hkl:=yx o.A hpos;obtain ⟨k,hkk⟩:=aq (uw o.A d.ps.length);rw[hkk] at hkl;have hp:d.ps[k]?=some d.ps[k]:=cr hkl;obtain ⟨p,hpe⟩:=aq (d.ps[k]);rw[hpe] at hp;have hpn:PN p i:=h.pn p (fk hp);have hbk:=hP.bg p i hpn;refine (Ao d o.kind o.A _ k p (fun w'=>(∃ p',iK (dA jU qb) w1.heap.size w1.heap.size {d with ps:=d.ps.set k p'} w'/\p'.M={p.M with bg:=(gy p.M.bg ⟨o.ak,o.an,o.key,o.bI,o.aD,o.bC,o.ay⟩).1}/\p'.kl=p.kl)/\Below w1.heap.size wr w') wr (hid (.inl hk6)) rfl rfl rfl hok.2.1.1 hok.2.1.2 (hid afp) (hid hkk) hp h.sep (fun W g=>?_)).mono ?_
  ·refine (Ld d (i+1) k p ⟨o.ak,o.an,o.key,o.bI,o.aD,o.bC,o.ay⟩ o.kind o.B o.C o.K o.D o.zs (.int .i64 o.A) (.int .i64 o.now) (.int .i64 o.ak) (.string ⟨o.an.toArray⟩) (.int .u64 (o.key.toNat:Int)) (.int .i64 o.bI) (.int .i64 o.aD) (.int .i64 o.bC) (.int .i64 o.ay) c15 c16 c17 c18 c19 c20 c21 oM c23 c24 qy qz qD c28 qG pK c31 c32 qH c34 qI qJ c37 qL qM c40 W hp (by rw[hk6];rfl) ?_ hbk afp hok.2.2.2.2.2.2.2.2.2.2.2.1 hok.2.2.2.2.2.2.2.2.2.2.2.2 (by have:=hok.2.2.2.2.2.2.2.1;show o.an.length<=_;omega) (h.sep.grown g)).mono ?_
   ·refine ⟨?_,?_,?_,?_,?_,?_,?_⟩ <;> (rw[World.cell?_alloc_at (hn:=rfl)];rfl)
   ·exact ae8
  ·rintro e w' ⟨rfl,⟨p',s,hM,hkl⟩,b⟩;refine ⟨rfl,_,s,h.below.trans b,by have:=h.eb;show d.eb.length<=_;omega,by have:=h.ei;show d.ei.length<=_;omega,by have:=h.es;show d.es.length<=_;omega,by show (d.ps.set k p').length<=_;rw[cU];omega,by have:=h.qs;show d.qs.length<=_;omega,h.dv,h.ed,fun q hq=>?_,fun q hq=>hQ q i (h.qn q hq)⟩;rcases eJ hq with hq | rfl
   ·exact hP.mono q i (h.pn q hq)
   ·exact hP.adm p q i _ hpn afp ⟨hok.2.2.2.2.2.2.2.2.1.1,hok.2.2.2.2.2.2.2.2.1.2⟩ ⟨hok.2.2.2.2.2.2.2.2.2.1.1,hok.2.2.2.2.2.2.2.2.2.1.2⟩ hM hkl
end Go.Proofs.YteknelimjfgmaaaGreatDoor
namespace Go.Proofs.YteknelimjfgmaaaGreatDoor.scr
set_option maxHeartbeats 1000000
open Go.ChangeShapes Go.WideShapes Go.ChangeAt Go.RowKit
set_option linter.unusedVariables false
set_option maxRecDepth 100000
variable {H:Type} {x:DataW H×List MemPlace} {cs:List Value} {n:Nat} {enc:TypeId×Value->H} {W:World}
theorem DX {H:Type}:∀ {l:List (DataW H)} {d:DataW H},d∈l->Rows.uptoBulk d<=Rows.uptoBulkAll l
 | [],_,h=>by cases h
 | x::l,d,h=>by
  simp only[Rows.uptoBulkAll]
  rcases List.mem_cons.1 h with rfl | h
  ·omega
  ·have:=DX h;omega
theorem LC {H:Type}:∀ (l:List (DataW H)),(∀ d∈l,1<=Rows.uptoBulk d)->l.length<=Rows.uptoBulkAll l
 | [],_=>bd _
 | x::l,h=>by
  have h1:=LC l (fun d hd=>h d (List.mem_cons_of_mem _ hd))
  have h2:=h x (List.mem_cons_self ..)
  simp only[Rows.uptoBulkAll,cN]
  omega
theorem DY {xs:List (DataW H×List MemPlace)} {i:Nat} {y:DataW H×List MemPlace} (e:xs[i]?=some y) (h:Rows.uptoBulk (.agg (xs.map (·.1)))<=n):Rows.uptoBulk y.1+1<=n:=by
 have:=DX (ev (f:=(·.1)) (fk e));simp only[Rows.uptoBulk] at h;omega
theorem i64_in {x:Int} (h:(Lit.int .i64 x).wf=true):In64 x:=by
 have hb:=bounds_i64 h;exact ⟨by omega,by omega⟩
theorem agt (h:cs.length=7):∃ c0 c1 c2 c3 c4 c5 c6:Value,cs=[c0,c1,c2,c3,c4,c5,c6]:=by
 iterate 7 (obtain ⟨c,r,rfl,k⟩:=DJ h;clear h;have h:=k;clear k)
 obtain rfl:=ep h;iterate 7 apply Exists.intro
 rfl
theorem acB (h:cs.length=25):∃ c0 c1 c2 c3 c4 c5 c6 c7 c8 c9 c10 c11 c12 c13 c14 c15 c16 c17 c18 c19 c20 c21 oM c23 c24:Value,cs=[c0,c1,c2,c3,c4,c5,c6,c7,c8,c9,c10,c11,c12,c13,c14,c15,c16,c17,c18,c19,c20,c21,oM,c23,c24]:=by
 iterate 25 (obtain ⟨c,r,rfl,k⟩:=DJ h;clear h;have h:=k;clear k)
 obtain rfl:=ep h;iterate 25 apply Exists.intro
 rfl
theorem LD {m:Nat} {xs:List (DataW H×List MemPlace)} {o i N:Nat} (hb:Rows.uptoBulk (.agg (xs.map (·.1)))<=1048576) (f:DataW.trod enc Tryz.prog W 0 (fun _=>true) true m 9 ((cs.drop o).take (Tryz.prog.cellsOf 9))=xs[i]?) (hx:xs.length=N) (c:Value) (h:cs[o]?=some c) (hi:i<N):∃ v,c = .string v/\v.data.toList.length<=1048576:=by
 obtain ⟨v,e,r⟩:=fstr f hx c h hi;have h1:=DY r hb;simp only[Rows.uptoBulk] at h1;exact ⟨v,e,by omega⟩
theorem agu (hlen:cs.length=7) (h:DataW.trod enc Tryz.prog W 0 (fun _=>true) true n 43 cs=some x) (hb:Rows.uptoBulk x.1<=1048576):∃ t:TK,cs=t.cells/\t.In/\t.ax.length<=1048576:=by
 obtain ⟨c0,c1,c2,c3,c4,c5,c6,rfl⟩:=agt hlen;obtain ⟨xs,m,rfl,rfl,_,hxl,hf⟩:=DataW.trod_struct Tryz.underlying43 h;obtain ⟨v0,rfl,w0⟩:=fint Tryz.underlying2 gH (hf 0 _ rfl) hxl c0 rfl afq;obtain ⟨v1,rfl,w1⟩:=fint Tryz.underlying39 zh (hf 1 _ rfl) hxl c1 rfl afq;obtain ⟨v2,rfl,b2⟩:=LD hb (hf 2 _ rfl) hxl c2 rfl afq;obtain ⟨v3,rfl,w3⟩:=fint Tryz.underlying2 gH (hf 3 _ rfl) hxl c3 rfl afq;obtain ⟨v4,rfl,w4⟩:=fint Tryz.underlying2 gH (hf 4 _ rfl) hxl c4 rfl afq;obtain ⟨v5,rfl,w5⟩:=fint Tryz.underlying2 gH (hf 5 _ rfl) hxl c5 rfl afq;obtain ⟨v6,rfl,w6⟩:=fint Tryz.underlying2 gH (hf 6 _ rfl) hxl c6 rfl afq;refine ⟨⟨v0,UInt64.ofNat v1.toNat,v2.data.toList,v3,v4,v5,v6⟩,?_,⟨i64_in w0,i64_in w3,i64_in w4,i64_in w5,i64_in w6⟩,b2⟩;simp only[TK.cells];rw[<-Ik w1]
theorem acC (hlen:cs.length=25) (h:DataW.trod enc Tryz.prog W 0 (fun _=>true) true n 45 cs=some x) (hb:Rows.uptoBulk x.1<=1048576):∃ a:oL,cs=a.cells/\a.Ok:=by
 obtain ⟨c0,c1,c2,c3,c4,c5,c6,c7,c8,c9,c10,c11,c12,c13,c14,c15,c16,c17,c18,c19,c20,c21,oM,c23,c24,rfl⟩:=acB hlen;obtain ⟨xs,m,rfl,rfl,_,hxl,hf⟩:=DataW.trod_struct Tryz.underlying45 h;obtain ⟨v0,rfl,w0⟩:=fint Tryz.underlying3 jT (hf 0 _ rfl) hxl c0 rfl afq;obtain ⟨v1,rfl,b1⟩:=LD hb (hf 1 _ rfl) hxl c1 rfl afq;obtain ⟨v2,rfl,b2⟩:=LD hb (hf 2 _ rfl) hxl c2 rfl afq;obtain ⟨v3,rfl,w3⟩:=fint Tryz.underlying2 gH (hf 3 _ rfl) hxl c3 rfl afq;obtain ⟨v4,rfl,w4⟩:=fint Tryz.underlying2 gH (hf 4 _ rfl) hxl c4 rfl afq;obtain ⟨v5,rfl,w5⟩:=fint Tryz.underlying2 gH (hf 5 _ rfl) hxl c5 rfl afq;obtain ⟨v6,rfl,w6⟩:=fint Tryz.underlying2 gH (hf 6 _ rfl) hxl c6 rfl afq;obtain ⟨v7,rfl,w7⟩:=fint Tryz.underlying2 gH (hf 7 _ rfl) hxl c7 rfl afq;obtain ⟨v8,rfl,w8⟩:=fint Tryz.underlying3 jT (hf 8 _ rfl) hxl c8 rfl afq;obtain ⟨v9,rfl,w9⟩:=fint Tryz.underlying2 gH (hf 9 _ rfl) hxl c9 rfl afq;obtain ⟨v10,rfl,w10⟩:=fint Tryz.underlying3 jT (hf 10 _ rfl) hxl c10 rfl afq;obtain ⟨v12,rfl,w12⟩:=fint Tryz.underlying2 gH (hf 12 _ rfl) hxl c18 rfl afq;obtain ⟨v13,rfl,w13⟩:=fint Tryz.underlying3 jT (hf 13 _ rfl) hxl c19 rfl afq;obtain ⟨v14,rfl,b14⟩:=LD hb (hf 14 _ rfl) hxl c20 rfl afq;obtain ⟨v15,rfl,w15⟩:=fint Tryz.underlying2 gH (hf 15 _ rfl) hxl c21 rfl afq;obtain ⟨v16,rfl,w16⟩:=fint Tryz.underlying2 gH (hf 16 _ rfl) hxl oM rfl afq;obtain ⟨v17,rfl,w17⟩:=fint Tryz.underlying3 jT (hf 17 _ rfl) hxl c23 rfl afq;obtain ⟨v18,rfl,w18⟩:=fint Tryz.underlying3 jT (hf 18 _ rfl) hxl c24 rfl afq;have e11:=cr (l:=xs) (i:=11) (by rw[hxl];decide);obtain ⟨t,ht,hti,htc⟩:=agu (cs:=[c11,c12,c13,c14,c15,c16,c17]) rfl ((hf 11 _ rfl).trans e11) (by have:=DY e11 hb;omega);refine ⟨⟨v0,v1.data.toList,v2.data.toList,v3,v4,v5,v6,v7,v8,v9,v10,t,v12,v13,v14.data.toList,v15,v16,v17,v18⟩,?_,⟨i64_in w0,b1,b2,i64_in w3,i64_in w4,i64_in w5,i64_in w6,i64_in w7,i64_in w8,i64_in w9,i64_in w10,hti,htc,i64_in w12,i64_in w13,b14,i64_in w15,i64_in w16,i64_in w17,i64_in w18⟩⟩;simp only[TK.cells,List.cons.injEq,and_true] at ht;obtain ⟨rfl,rfl,rfl,rfl,rfl,rfl,rfl⟩:=ht;rfl
def WM (cs:Array Value):Prop:=(∃ zs:List UInt8,cs[7]?=some (.string ⟨zs.toArray⟩)/\zs.length<=1048576)/\∃ a:oL,a.Ok/\∀ j v,a.cells[j]?=some v->cs[15+j]?=some v
theorem WN (hlen:cs.length=41) (h:DataW.trod enc Tryz.prog W 0 (fun _=>true) true n 48 cs=some x) (hb:Rows.uptoBulk x.1<=1048576):WM cs.toArray:=by
 obtain ⟨c0,c1,c2,c3,c4,c5,c6,c7,c8,c9,c10,c11,c12,c13,c14,c15,c16,c17,c18,c19,c20,c21,oM,c23,c24,qy,qz,qD,c28,qG,pK,c31,c32,qH,c34,qI,qJ,c37,qL,qM,c40,rfl⟩:=VX hlen;obtain ⟨xs,m,rfl,rfl,_,hxl,hf⟩:=DataW.trod_struct Tryz.underlying48 h;obtain ⟨v7,rfl,b7⟩:=LD hb (hf 7 _ rfl) hxl c7 rfl afq;have e9:=cr (l:=xs) (i:=9) (by rw[hxl];decide);obtain ⟨a,ha,hok⟩:=acC (cs:=[c15,c16,c17,c18,c19,c20,c21,oM,c23,c24,qy,qz,qD,c28,qG,pK,c31,c32,qH,c34,qI,qJ,c37,qL,qM]) rfl ((hf 9 _ rfl).trans e9) (by have:=DY e9 hb;omega);refine ⟨⟨v7.data.toList,rfl,b7⟩,a,hok,fun j v hv=>?_⟩;rw[<-ha] at hv;have hj:j<25:=(cq.1 hv).1;rw[<-hv];have e:∀ (l r q:List Value),l.length=15->j<r.length->(l++r++q).toArray[15+j]?=r[j]?:=fun l r q h1 h2=>by
  rw[cx,cR,cM afp,cF afp,h1,Nat.add_sub_cancel_left]
 exact e [c0,c1,c2,c3,c4,c5,c6,.string v7,c8,c9,c10,c11,c12,c13,c14] [c15,c16,c17,c18,c19,c20,c21,oM,c23,c24,qy,qz,qD,c28,qG,pK,c31,c32,qH,c34,qI,qJ,c37,qL,qM] [c40] rfl hj
theorem WO (d:DataW H):1<=Rows.uptoBulk d:=by
 cases d with
 | lit l=>cases l <;> simp[Rows.uptoBulk]
 | _=>simp[Rows.uptoBulk]
theorem Ov {a:Option Addr} {len cap:Nat} {d:DataW H} {p:List MemPlace} (Good:Int->Array Value->Prop)
  (h:DataW.Trod enc Tryz.prog W 0 (fun _=>true) true 22 (.slice a len cap) d p) (hw:∀ m∈d.weights Tryz.prog 22,m<=140737488351232) (hb:Rows.uptoBulk d<=1048576)
  (hgood:∀ (n:Nat) (cs:List Value) (x:DataW H×List MemPlace) (kind:Int),cs.length=41->DataW.trod enc Tryz.prog W 0 (fun _=>true) true n 48 cs=some x->(∀ m∈x.1.weights Tryz.prog 48,m<=140737488351232)->Rows.uptoBulk x.1<=1048576->N7 kind cs.toArray->Good kind cs.toArray) :
  pE Good W a len/\len<=1048576:=by
 obtain ⟨fuel,hf⟩:=h
 rcases Go.Deep.open_slice Tryz.underlying22 hf with ⟨hcs,_⟩ | ⟨x,l,c,m,n,D,Pl,hcs,hbb,hl,hm,hmm,hx,hel⟩
 ·simp[Value.cells] at hcs;obtain ⟨rfl,rfl,rfl⟩:=hcs;exact ⟨fun i hi=>absurd hi afp,by omega⟩
 ·simp[Value.cells] at hcs;obtain ⟨rfl,rfl,rfl⟩:=hcs;simp only[Prod.mk.injEq] at hx;obtain ⟨rfl,_⟩:=hx;simp only[ez] at hmm;subst hmm;have hbl:len<=1048576:=by
   have h1:=LC ((List.range len).map D) (fun d _=>WO d);simp only[Rows.uptoBulk] at hb;simp only[cw,List.length_range] at h1;omega
  refine ⟨fun i hi=>?_,hbl⟩;obtain ⟨cs',h1,h2⟩:=hel i afp;rw[Pq] at h1;obtain ⟨_,hlen',hcell⟩:=World.cells?_some h1;have hc0:=hcell 0 afq;rw[cr afp] at hc0;obtain ⟨b,off,spot⟩:=x;have hspot:spot=none:=by
   obtain ⟨cs0,k1,_⟩:=hel 0 afp;rw[Pq] at k1;obtain ⟨_,hl0,k2⟩:=World.cells?_some k1;have k3:=k2 0 afq;rw[cr afp] at k3;simpa[Addr.add] using World.cell?_spot k3
  subst hspot;have hlt:b<W.heap.size:=by
   refine Nat.lt_of_not_le fun hge=>?_;rw[Addr.add_lit,Addr.add_lit] at hc0;simp[World.cell?,Array.getElem?_eq_none hge] at hc0
  have hwi:∀ k∈(D i).weights Tryz.prog 48,k<=140737488351232:=by
   intro k hk;refine hw k ?_;simp only[DataW.weights,Tryz.underlying22,List.mem_cons,eg];exact Or.inr (Or.inl (Ap (List.mem_map.2 ⟨i,by simpa using hi,rfl⟩) k hk))
  have hbi:Rows.uptoBulk (D i)<=1048576:=by
   have h1:=DX (l:=(List.range len).map D) (List.mem_map.2 ⟨i,by simpa using hi,rfl⟩);simp only[Rows.uptoBulk] at hb;omega
  obtain ⟨kind,hok⟩:=Y1 (cs:=cs') hlen' h2 hwi;refine ⟨b,off,rfl,hlt,kind,cs'.toArray,by simpa using hlen',?_,hgood _ cs' _ kind hlen' h2 hwi hbi hok,?_⟩
  ·obtain ⟨o,c15,c16,c17,c18,c19,c20,c21,oM,c23,c24,qy,qz,qD,c28,qG,pK,c31,c32,qH,c34,qI,qJ,c37,qL,qM,c40,_,hk,e⟩:=hok;rw[e,<-hk];rfl
  ·intro j v hv;have hj:j<41:=by
    have:=(cq.1 hv).1;simpa[hlen'] using this
   have:=hcell j hj;simp only[Addr.add_lit] at this;rw[this];simpa using hv
end Go.Proofs.YteknelimjfgmaaaGreatDoor.scr
namespace Go.Proofs.YteknelimjfgmaaaGreatDoor
open Go.RowKit
set_option maxRecDepth 100000
variable {QP:Type} {jU:QP->uF} {qb:QP->Nat}
def WQ (p:PD) (i:Nat):Prop:=fD p.M (i+1)/\p.kl.length<=i
theorem zl:ab5 WQ:=
 ⟨fun p i h=>⟨h.1.mono afp,by have:=h.2;omega⟩,
  fun p i h0 h1 hb hp hd hk=>⟨by
   obtain ⟨pb,xb,dp,yb,rg,⟨s,b,pr,dr⟩,sv,kl⟩:=p
   simp only at h0 h1 hb hp hd
   subst hb hp
   exact fD.new h0 h1 afp _,by rw[hk];exact cE _⟩,
  fun p i h=>h.1.bg,
  fun p p' i a h hi hl hr hM hk=>⟨by rw[hM];exact h.1.adm afp a hl hr,by rw[hk];have:=h.2;omega⟩⟩
def Py (kind:Int) (cs:Array Value):Prop:=N7 kind cs/\scr.WM cs
theorem Gf:In64 0:=⟨by decide,by decide⟩
theorem R9 (k0:Int) (hk:pg k0) (zs:List UInt8) (h:zs.length=500):Py k0 (Ba k0 zs):=
 ⟨VV k0 hk zs h,⟨zs,rfl,by omega⟩,⟨0,[],[],0,0,0,0,0,0,0,0,⟨0,0,[],0,0,0,0⟩,0,0,[],0,0,0,0⟩,
  ⟨Gf,cE _,cE _,Gf,Gf,Gf,Gf,Gf,Gf,Gf,Gf,⟨Gf,Gf,Gf,Gf,Gf⟩,cE _,Gf,Gf,cE _,Gf,Gf,Gf,Gf⟩,
  fun j v hv=>by
   have hj:j<25:=(cq.1 hv).1
   rw[<-hv]
   match j,hj with
   | 0,_=>rfl | 1,_=>rfl | 2,_=>rfl | 3,_=>rfl | 4,_=>rfl | 5,_=>rfl | 6,_=>rfl | 7,_=>rfl | 8,_=>rfl | 9,_=>rfl | 10,_=>rfl | 11,_=>rfl | 12,_=>rfl | 13,_=>rfl | 14,_=>rfl | 15,_=>rfl | 16,_=>rfl | 17,_=>rfl | 18,_=>rfl | 19,_=>rfl | 20,_=>rfl | 21,_=>rfl | 22,_=>rfl | 23,_=>rfl | 24,_=>rfl⟩
variable {QN:QP->Nat->Prop}
theorem LI.answer (hQ:∀ q i,QN q i->QN q (i+1)) {w1 wr:World} {i:Nat} {d:WD PD QP} (h:LI (dA jU qb) WQ QN w1 i wr d) (hi:i<=1048577) {kind:Int} {cs:Array Value} (hk:kind=7) (hgo:N7 kind cs) (Zm:scr.WM cs) :
  Calls Tryz.prog 7 #[.pointer (some ⟨w1.heap.size,0,none⟩),.agg cs] wr fun e w'=>e = .returned (.bool true)/\∃ d',LI (dA jU qb) WQ QN w1 (i+1) w' d':=by
 obtain ⟨o,c15,c16,c17,c18,c19,c20,c21,oM,c23,c24,qy,qz,qD,c28,qG,pK,c31,c32,qH,c34,qI,qJ,c37,qL,qM,c40,hok,hko,hcs⟩:=hgo
 obtain ⟨⟨zs,hzs,hzl⟩,a,ha,hac⟩:=Zm
 have b1:=h.ps
 have b2:=h.eb
 have Xh:o.kind=7:=hko.trans hk
 have h0:cs[0]?=some (.int .i64 o.kind):=by rw[hcs];rfl
 have h1:cs[1]?=some (.int .i64 o.A):=by rw[hcs];rfl
 have h3:cs[3]?=some (.int .i64 o.C):=by rw[hcs];rfl
 have h6:cs[6]?=some (.int .i64 o.now):=by rw[hcs];rfl
 have hsz:cs.size=41:=by rw[hcs];rfl
 by_cases hps:d.ps=[]
 ·refine (Ga d o.kind _ wr (hid (.inr (.inl Xh))) h0 h.sep hps).mono ?_;rintro e w' ⟨rfl,g⟩;exact ⟨rfl,d,(h.grown g).mono zl.mono hQ⟩
 ·have hpos:0<d.ps.length:=fL.2 hps;have hkl:=yx o.A hpos;obtain ⟨k,hkk⟩:=aq (uw o.A d.ps.length);rw[hkk] at hkl;have hp:d.ps[k]?=some d.ps[k]:=cr hkl;obtain ⟨p,hpe⟩:=aq (d.ps[k]);rw[hpe] at hp;have hpn:WQ p i:=h.pn p (fk hp);have hpl:=hpn.2;refine (Ao d o.kind o.A cs k p (fun w'=>(∃ p' x v',iK (dA jU qb) w1.heap.size w1.heap.size {d with ps:=d.ps.set k p',bv:=v',eb:=d.eb++[x]} w'/\fD p'.M (i+1)/\p'.kl.length<=p.kl.length+1)/\Below w1.heap.size wr w') wr (hid (.inr (.inl Xh))) hsz h0 h1 hok.2.1.1 hok.2.1.2 (hid afp) (hid hkk) hp h.sep (fun W g=>?_)).mono ?_
  ·refine (IC d (i+1) k p a o.now o.kind o.C zs cs W hp (by rw[Xh];rfl) (by rw[Xh];rfl) h0 h3 h6 hzs hac ha hzl ⟨hok.2.2.2.2.1.1,hok.2.2.2.2.1.2⟩ hpn.1 afp afp afp (h.sep.grown g)).mono ?_;exact ae8
  ·rintro e w' ⟨rfl,⟨p',x,v',s,hM,hl⟩,b⟩;refine ⟨rfl,_,s,h.below.trans b,?_,by have:=h.ei;show d.ei.length<=_;omega,by have:=h.es;show d.es.length<=_;omega,by show (d.ps.set k p').length<=_;rw[cU];omega,by have:=h.qs;show d.qs.length<=_;omega,h.dv,h.ed,fun q hq=>?_,fun q hq=>hQ q i (h.qn q hq)⟩
   ·show (d.eb++[x]).length<=_;rw[bj,fX];omega
   rcases eJ hq with hq | rfl
   ·exact zl.mono q i (h.pn q hq)
   ·exact ⟨hM.mono afp,by omega⟩
end Go.Proofs.YteknelimjfgmaaaGreatDoor
