import Derived.Test.YteknelimjfgmaaaGreatDoorGJSHandB
import Derived.Test.YteknelimjfgmaaaGreatDoorGJRNxoB
import Derived.Test.YteknelimjfgmaaaGreatDoorGJRFstB
namespace Go.Proofs.YteknelimjfgmaaaGreatDoor
set_option maxHeartbeats 2000000
open Go.RowKit
set_option maxRecDepth 100000
variable {QP:Type} {jU:QP->uF} {qb:QP->Nat} {base wb:Nat}
theorem dO.booked {w w':World} {g:Nat} {dp:Option Pl} {d:DM} {es:List BE} (h:dO w g 0 dp d) (k:CF w w' (GJ g 2)) (hb:bY w' g 2 es) (hd:Pl.blk dp≠some g):dO w' g 0 dp {d with bg:=es}:=by
 obtain ⟨v,hv,ho⟩:=h.aO;refine ⟨h.live.cf k,k.cell h.aC (fun e=>by have:=e.2.1;omega),⟨v,k.cell hv (fun e=>by have:=e.2.1;omega),ho.cf k (fun q hq j _ e=>hd (by rw[hq];exact eh some e.1))⟩,hb,k.range h.aN (fun j _ e=>by have:=e.2.2;omega),k.cell h.count (fun e=>by have:=e.2.2;omega),h.few⟩
def afu (w:World) (b:Nat) (a:jV):Prop:=
 w.cell? ⟨b,8,none⟩=some (.int .i64 a.kind)/\w.cell? ⟨b,9,none⟩=some (.string ⟨a.name.toArray⟩)/\w.cell? ⟨b,10,none⟩=some (.int .u64 (a.key.toNat:Int))/\w.cell? ⟨b,11,none⟩=some (.int .i64 a.bI)/\w.cell? ⟨b,12,none⟩=some (.int .i64 a.aD)/\w.cell? ⟨b,13,none⟩=some (.int .i64 a.bC)/\w.cell? ⟨b,14,none⟩=some (.int .i64 a.ay)
def Ii (jU:QP->uF) (qb:QP->Nat) (base wb:Nat) (d:WD PD QP) (k:Nat) (M:DM) (kl:List KN) (w w':World):Prop:=
 (∃ p,iK (dA jU qb) base wb {d with ps:=d.ps.set k p} w'/\p.M=M/\p.kl=kl)/\Below base w w'/\Lc (dA jU qb) wb d w w'
theorem Ii.of {d:WD PD QP} {k:Nat} {p:PD} {a:jV} {w w0 w1 w2:World} (hI:iK (dA jU qb) base wb d w) (hk:d.ps[k]?=some p) (g0:w.grownBy w0 none) (hb:bY w1 p.xb 2 (gy p.M.bg a).1) (c:CF w0 w1 (GJ p.xb 2)) (hr:iB 0 p.yb p.M p.rg a w1 w2):Ii jU qb base wb d k {p.M with bg:=(gy p.M.bg a).1} p.kl w w2:=by
 obtain ⟨g',hrd,fr,hn⟩:=hr;have hp:=hI.part hk;have hp0:p.ok w0:=hp.keep (fun b hb=>g0.block b (hp.lt hb) aft);have s0:=g0.size;have s1:=c.size;have s2:=fr.size;have hx1:dO w1 p.xb 0 p.dp {p.M with bg:=(gy p.M.bg a).1}:=hp0.x.booked c hb hp.dx;have hx2:dO w2 p.xb 0 p.dp {p.M with bg:=(gy p.M.bg a).1}:=hx1.keep (fun b hb=>fr.block b (hx1.lt hb) (fun e=>hp.xy b hb e));have hpx:p.pb≠p.xb:=fun e=>hp.px (.inl e);have hblk:dX w2 p.pb #[ptrTo p.xb,ptrTo p.yb,p.sv]:=(hp0.blk.kept (c.block p.pb hp0.blk.lt (fun o e=>hpx e.1))).kept (fr.block p.pb (by have:=hp0.blk.lt;omega) hp.py);have Z6:∀ b,b<w.heap.size->¬ p.foot b->w2.heap[b]?=w.heap[b]?:=fun b hb hx=>by
  rw[fr.block b afp (fun e=>hx (PD.fy e)),c.block b afp (fun o e=>hx (.inr (.inl (.inl e.1)))),g0.block b hb aft]
 have R:=hI.put hk (p':={p with rg:=g',M:={p.M with bg:=(gy p.M.bg a).1}}) (w':=w2) ⟨(fr.os.trans c.os).trans g0.os,(fr.tape.trans c.tape).trans g0.tape,(fr.output.trans c.output).trans g0.output,by omega,fun b hb hx=>?_⟩ ⟨hblk,hx2,hrd,hp.dx,hp.px,fun e=>?_,fun b hb e=>?_,?_,fun b hb=>⟨(hp.sd b hb).1,(hp.sd b hb).2.1,fun e=>?_⟩,hp.ss⟩ rfl (fun b hb=>?_)
 ·refine ⟨⟨_,R.1,rfl,rfl⟩,R.2,⟨?_,fun b hb hx=>Z6 b hb (fun e=>hx ⟨2*k+11,by omega,WD.zT hk e⟩)⟩⟩;have hb2:dX w2 wb d.cells:=R.1.here 0;exact hb2.cell 0
 ·exact Z6 b hb hx
 ·have e:g'.foot p.yb p.pb:=e;rcases hn p.pb e with e | e
  ·exact hp.py e
  ·have:=hp0.blk.lt;omega
 ·rcases hn b e with e | e
  ·exact hp.xy b hb e
  ·have:=hp0.x.lt hb;omega
 ·refine hp0.s.keep (fun b hb=>?_);have hb0:b<w0.heap.size:=by
   rcases hb with e | e
   ·rw[e];exact hp0.blk.lt
   ·exact hp0.s.lt e
  have hnx:b≠p.xb:=fun e=>by
   rcases hb with q | q
   ·exact hpx (by rw[<-q,e])
   ·exact (hp.sd b q).2.1 (.inl e)
  have hny:¬ p.rg.foot p.yb b:=fun e=>by
   rcases hb with q | q
   ·exact hp.py (by rw[<-q];exact e)
   ·exact (hp.sd b q).2.2 e
  rw[fr.block b afp hny,c.block b hb0 (fun o e=>hnx e.1)]
 ·rcases hn b e with e | e
  ·exact (hp.sd b hb).2.2 e
  ·have:=hp0.s.lt hb;omega
 ·rcases hb with e | e | e | e
  ·exact .inl (.inl e)
  ·exact .inl (.inr (.inl e))
  ·rcases hn b e with e | e
   ·exact .inl (PD.fy e)
   ·exact .inr afp
  ·exact .inl (PD.fs e)
theorem iB.dG {base yb:Nat} {M:DM} {g:RG} {a:jV} {w w':World} (h:iB base yb M g a (w.drewN 1) w'):iB base yb M g a w w':=by
 obtain ⟨g',h1,h2,h3⟩:=h;exact ⟨g',h1,⟨h2.os,h2.tape,h2.output,h2.size,h2.block⟩,h3⟩
theorem iB.cell {base yb:Nat} {M:DM} {g:RG} {a:jV} {w w':World} {b o:Nat} {v:Value} (h:iB base yb M g a w w') (hc:w.cell? ⟨b,o,none⟩=some v) (hb:¬ g.foot yb b):w'.cell? ⟨b,o,none⟩=some v:=by
 obtain ⟨g',h1,h2,h3⟩:=h;rw[World.cell?_of_block (w:=w) (w':=w') (a:=⟨b,o,none⟩) (h2.block b (World.block_lt_of_cell? w _ hc) hb)];exact hc
theorem Ld (d:WD PD QP) (n k:Nat) (p:PD) (a:jV) (kind B C:Int) (K DD:UInt64) (zs:List UInt8) (c1 c6 c8 c9 c10 c11 c12 c13 c14 c15 c16 c17 c18 c19 c20 c21 oM c23 c24 qy qz qD c28 qG pK c31 c32 qH c34 qI qJ c37 qL qM c40:Value) (w:World) (hk:d.ps[k]?=some p) (hk6:(kind==6)=true)
  (ha:afu (w.alloc (.cells #[.int .i64 kind,c1,.int .i64 B,.int .i64 C,.int .u64 (K.toNat:Int),.int .u64 (DD.toNat:Int),c6,.string ⟨zs.toArray⟩,c8,c9,c10,c11,c12,c13,c14,c15,c16,c17,c18,c19,c20,c21,oM,c23,c24,qy,qz,qD,c28,qG,pK,c31,c32,qH,c34,qI,qJ,c37,qL,qM,c40] 48)) w.heap.size a) (hok:gU n p.M.bg) (hn:n<4611686018427387904) (hf0:-9223372036854775808<=a.ay) (hf1:a.ay<=9223372036854775807) (hl:a.name.length<=9223372036854775807)
  (hI:iK (dA jU qb) base wb d w) :
  Calls Tryz.prog 10 #[.pointer (some ⟨wb,0,none⟩),.agg #[.int .i64 kind,c1,.int .i64 B,.int .i64 C,.int .u64 (K.toNat:Int),.int .u64 (DD.toNat:Int),c6,.string ⟨zs.toArray⟩,c8,c9,c10,c11,c12,c13,c14,c15,c16,c17,c18,c19,c20,c21,oM,c23,c24,qy,qz,qD,c28,qG,pK,c31,c32,qH,c34,qI,qJ,c37,qL,qM,c40],.pointer (some ⟨p.pb,0,none⟩)] w fun e w'=>e = .returned (.bool true)/\Ii jU qb base wb d k {p.M with bg:=(gy p.M.bg a).1} p.kl w w':=by
 have hp:=hI.part hk
 have G0:=aE w (.cells #[.int .i64 kind,c1,.int .i64 B,.int .i64 C,.int .u64 (K.toNat:Int),.int .u64 (DD.toNat:Int),c6,.string ⟨zs.toArray⟩,c8,c9,c10,c11,c12,c13,c14,c15,c16,c17,c18,c19,c20,c21,oM,c23,c24,qy,qz,qD,c28,qG,pK,c31,c32,qH,c34,qI,qJ,c37,qL,qM,c40] 48) none
 have hp0:p.ok (w.alloc (.cells #[.int .i64 kind,c1,.int .i64 B,.int .i64 C,.int .u64 (K.toNat:Int),.int .u64 (DD.toNat:Int),c6,.string ⟨zs.toArray⟩,c8,c9,c10,c11,c12,c13,c14,c15,c16,c17,c18,c19,c20,c21,oM,c23,c24,qy,qz,qD,c28,qG,pK,c31,c32,qH,c34,qI,qJ,c37,qL,qM,c40] 48)):=hp.keep (fun b hb=>G0.block b (hp.lt hb) aft)
 have k0:(w.alloc (.cells #[.int .i64 kind,c1,.int .i64 B,.int .i64 C,.int .u64 (K.toNat:Int),.int .u64 (DD.toNat:Int),c6,.string ⟨zs.toArray⟩,c8,c9,c10,c11,c12,c13,c14,c15,c16,c17,c18,c19,c20,c21,oM,c23,c24,qy,qz,qD,c28,qG,pK,c31,c32,qH,c34,qI,qJ,c37,qL,qM,c40] 48)).cell? ⟨w.heap.size,0,none⟩=some (.int .i64 kind):=by rw[World.cell?_alloc_at (hn:=rfl)];rfl
 have HCx:=hid (fun w' (h:bY w' p.xb 2 p.M.bg)=>Cg p.xb p.M.bg a w' h hok.sorted (fun e he=>by have:=hok.num e he;omega) hf0 hf1 hl)
 have HCy:=hid (fun w' (h:RD w' 0 p.yb p.M p.rg)=>ME n 0 p.yb p.M p.rg a w' h hok hn hl (cE _))
 obtain ⟨e8,e9,e10,e11,e12,e13,e14⟩:=ha
 have q0:(w.alloc (.cells #[.int .i64 kind,c1,.int .i64 B,.int .i64 C,.int .u64 (K.toNat:Int),.int .u64 (DD.toNat:Int),c6,.string ⟨zs.toArray⟩,c8,c9,c10,c11,c12,c13,c14,c15,c16,c17,c18,c19,c20,c21,oM,c23,c24,qy,qz,qD,c28,qG,pK,c31,c32,qH,c34,qI,qJ,c37,qL,qM,c40] 48)).cell? ⟨p.pb,0,none⟩=some (.pointer (some ⟨p.xb,0,none⟩)):=hp0.blk.cell 0
 have q1:(w.alloc (.cells #[.int .i64 kind,c1,.int .i64 B,.int .i64 C,.int .u64 (K.toNat:Int),.int .u64 (DD.toNat:Int),c6,.string ⟨zs.toArray⟩,c8,c9,c10,c11,c12,c13,c14,c15,c16,c17,c18,c19,c20,c21,oM,c23,c24,qy,qz,qD,c28,qG,pK,c31,c32,qH,c34,qI,qJ,c37,qL,qM,c40] 48)).cell? ⟨p.pb,1,none⟩=some (.pointer (some ⟨p.yb,0,none⟩)):=hp0.blk.cell 1
 have hne:w.heap.size≠p.xb:=fun e=>by have:=hp.lt (.inr (.inl (.inl e)));omega
 have hnp:p.pb≠p.xb:=fun e=>hp.px (.inl e)
 have hno:¬ p.rg.foot p.yb w.heap.size:=fun e=>by have:=hp.lt (PD.fy e);omega
 have hnb:=hp.py
 have VH:=hid hp0
 have HI:=hid (And.intro hI hk)
 have HG:=hid G0
 obtain ⟨er,HE⟩:∃ er,Hid ((gy p.M.bg a).2=er):=⟨_,hid rfl⟩
 rw[HE.o] at HCx HCy
 clear hp hp0 G0 hok hf0 hf1 hl hI hk
 go_enter Tryz.func10,Tryz.ntmps10
 go_wp2_with fail
 go_region_held3 (fun w'=>w'.cell? ⟨p.pb,0,none⟩=some (.pointer (some ⟨p.xb,0,none⟩))/\w'.cell? ⟨w.heap.size,8,none⟩=some (.int .i64 a.kind)/\w'.cell? ⟨w.heap.size,9,none⟩=some (.string ⟨a.name.toArray⟩)/\w'.cell? ⟨w.heap.size,10,none⟩=some (.int .u64 (a.key.toNat:Int))/\w'.cell? ⟨w.heap.size,11,none⟩=some (.int .i64 a.bI)/\w'.cell? ⟨w.heap.size,12,none⟩=some (.int .i64 a.aD)/\w'.cell? ⟨w.heap.size,13,none⟩=some (.int .i64 a.bC)/\w'.cell? ⟨w.heap.size,14,none⟩=some (.int .i64 a.ay)) (go_keep) (first|(go_at_call 31;refine (HCx.o _ (VH.o.x.bg.drewN 1)).mono ?_;rintro e w1 ⟨rfl,b1,C1⟩;have u0:=C1.dG.cell q0 (fun q=>hnp q.1);have u8:=C1.dG.cell e8 (fun q=>hne q.1);have u9:=C1.dG.cell e9 (fun q=>hne q.1);have u10:=C1.dG.cell e10 (fun q=>hne q.1);have u11:=C1.dG.cell e11 (fun q=>hne q.1);have u12:=C1.dG.cell e12 (fun q=>hne q.1);have u13:=C1.dG.cell e13 (fun q=>hne q.1);have u14:=C1.dG.cell e14 (fun q=>hne q.1)))
 have u1:=C1.dG.cell q1 (fun q=>hnp q.1)
 have HR1:Hid (RD w1 0 p.yb p.M p.rg):=VH.o.y.keep (fun b hb=>C1.dG.block b (VH.o.lt (PD.fy hb)) (fun o e=>VH.o.xy b (.inl e.1) hb))
 have qN:=hid C1.dG
 have HB1:=hid b1
 clear e8 e9 e10 e11 e12 e13 e14 q0 q1 k0 u0 C1 b1
 go_wp2_with fail
 go_region_held3 (fun w'=>w'.cell? ⟨p.pb,1,none⟩=some (.pointer (some ⟨p.yb,0,none⟩))/\w'.cell? ⟨w.heap.size,8,none⟩=some (.int .i64 a.kind)/\w'.cell? ⟨w.heap.size,9,none⟩=some (.string ⟨a.name.toArray⟩)/\w'.cell? ⟨w.heap.size,10,none⟩=some (.int .u64 (a.key.toNat:Int))/\w'.cell? ⟨w.heap.size,11,none⟩=some (.int .i64 a.bI)/\w'.cell? ⟨w.heap.size,12,none⟩=some (.int .i64 a.aD)/\w'.cell? ⟨w.heap.size,13,none⟩=some (.int .i64 a.bC)/\w'.cell? ⟨w.heap.size,14,none⟩=some (.int .i64 a.ay)) (go_keep) (first|(go_at_call 32;refine (HCy.o _ (HR1.o.keep (w':=w1.drewN 1) (fun _ _=>rfl))).mono ?_;rintro e w2 ⟨rfl,A2'⟩;have A2:=A2'.dG;have v1:=A2.cell u1 hnb;have v8:=A2.cell u8 hno;have v9:=A2.cell u9 hno;have v10:=A2.cell u10 hno;have v11:=A2.cell u11 hno;have v12:=A2.cell u12 hno;have v13:=A2.cell u13 hno;have v14:=A2.cell u14 hno))
 go_wp2
 go_ret
 exact ⟨rfl,Ii.of HI.o.1 HI.o.2 HG.o HB1.o qN.o A2⟩
open Proofs.Tryz
theorem sj.lt {w0 w:World} {a:Option Addr} {cap:Nat} {zs:List UInt8} {gB:Option Nat} (h:sj w0 w a cap zs gB) (k:Nat) (hk:some k=gB):k<w.heap.size:=by
 rcases h with ⟨_,_,_,h⟩ | ⟨g,_,h2,_,h4⟩
 ·rw[h] at hk;cases hk
 ·rw[h2] at hk;cases hk;exact h4.lt
theorem iK.push {d:WD PD QP} {w wa w7:World} {p:PD} {pv':Value} (hI:iK (dA jU qb) base wb d w) (ga:w.grownBy wa none) (hp:p.ok wa) (FV:∀ b,p.foot b->w.heap.size<=b) (Xc:wa.grownBy w7 d.pv.ownBlock)
  (hown:w7.ownsRow base 51 1 pv' (d.ps.length+1) ((d.ps.map fun p=>ptrTo p.pb)++[ptrTo p.pb])) (hblk:pv'.ownBlock=d.pv.ownBlock\/pv'.ownBlock=some wa.heap.size) :
  iK (dA jU qb) base wb {d with pv:=pv',ps:=d.ps++[p]} (w7.setCell ⟨wb,0,none⟩ pv')/\Below base w (w7.setCell ⟨wb,0,none⟩ pv'):=by
 have s1:=ga.size
 have s2:=Xc.size
 have hwb:WD.F (dA jU qb) wb d 0 wb:=rfl
 have hwl:=hI.lt 0 wb hwb
 have hpl:∀ b,d.pv.ownBlock=some b->b<w.heap.size:=fun b e=>hI.lt 1 b e
 have hne:d.pv.ownBlock≠some wb:=fun e=>by have:=hI.one 0 1 wb hwb e;omega
 have hnw:pv'.ownBlock≠some wb:=by
  rcases hblk with e | e
  ·rw[e];exact hne
  ·rw[e];intro q;injection q with q;omega
 have hb0:dX w wb d.cells:=hI.here 0
 have hb7:dX w7 wb d.cells:=(hb0.grown ga aft).grown Xc (fun e=>hne e.symm)
 refine iK.pair hI ⟨Xc.os.trans ga.os,Xc.tape.trans ga.tape,Xc.output.trans ga.output,by rw[World.size_setCell];omega,fun b hb hx=>?_⟩ (hb7.set 0 pv') (eF hown (fun b hb=>Below.heap_setCell _ _ _ _ (fun e=>hnw afR))) (fun b e=>?_) (hp.keep (fun b hb=>?_)) FV (fun b hb e=>?_)
 ·rw[Below.heap_setCell _ _ _ _ (fun e=>hx (.inl e)),Xc.block b afp (fun e=>hx (.inr e.symm)),ga.block b hb aft]
 ·rcases hblk with e2 | e2
  ·exact .inl (by rw[<-e2];exact e)
  ·rw[e2] at e;injection e with e;exact .inr afp
 ·have h1:=hp.lt hb;have h2:=FV b hb;rw[Below.heap_setCell _ _ _ _ (fun e=>by have e:b=wb:=e;omega),Xc.block b h1 (fun e=>by have:=hpl b e.symm;omega)]
 ·have h1:=hp.lt hb;have h2:=FV b hb;rcases hblk with e2 | e2
  ·have:=hpl b (by rw[<-e2];exact e);omega
  ·rw[e2] at e;injection e with e;omega
theorem Tryz.VU:(prog.info? 51).map (fun i=>(i.zero,i.size,i.bytes))=some (some (.pointer none),1,8):=by kernel_rfl
theorem RD.new {w:World} {bs yb:Nat} {aC:Int} {dv:Value} {zs:List UInt8} (h:iG w bs yb aC (.slice none 0 0) (.slice none 0 0) dv [] zs):RD w bs yb ⟨aC,[],[],zs⟩ ⟨.slice none 0 0,.slice none 0 0,dv,[]⟩:=
 ⟨h,rfl,World.ownsRow_nil _ _ _ _,by simp[Value.ownBlock],.inl rfl,.inl rfl⟩
theorem DC (kind A B C:Int) (K DD:UInt64) (zs:List UInt8) (c1 c6 c8 c9 c10 c11 c12 c13 c14 c15 c16 c17 c18 c19 c20 c21 oM c23 c24 qy qz qD c28 qG pK c31 c32 qH c34 qI qJ c37 qL qM c40:Value) (w:World) (hA:c1 = .int .i64 A) (hk1:(kind==1)=false) (hk2:(kind==2)=false) (hk3:(kind==3)=false) (hk4:(kind==4)=false) (hk5:(kind==5)=true) (hl:zs.length<=140737488351232) (hs:Hid (A<0\/300<A)) :
  Calls prog 9 #[.pointer (some ⟨wb,0,none⟩),.agg #[.int .i64 kind,c1,.int .i64 B,.int .i64 C,.int .u64 (K.toNat:Int),.int .u64 (DD.toNat:Int),c6,.string ⟨zs.toArray⟩,c8,c9,c10,c11,c12,c13,c14,c15,c16,c17,c18,c19,c20,c21,oM,c23,c24,qy,qz,qD,c28,qG,pK,c31,c32,qH,c34,qI,qJ,c37,qL,qM,c40]] w fun e w'=>e = .returned (.bool true)/\w.grownBy w' none:=by
 have hl2:zs.length<=140737488355328:=by omega
 have hO:=xe.new w kind B C K DD zs c1 c6 c8 c9 c10 c11 c12 c13 c14 c15 c16 c17 c18 c19 c20 c21 oM c23 c24 qy qz qD c28 qG pK c31 c32 qH c34 qI qJ c37 qL qM c40
 have k1:(w.alloc (.cells #[.int .i64 kind,c1,.int .i64 B,.int .i64 C,.int .u64 (K.toNat:Int),.int .u64 (DD.toNat:Int),c6,.string ⟨zs.toArray⟩,c8,c9,c10,c11,c12,c13,c14,c15,c16,c17,c18,c19,c20,c21,oM,c23,c24,qy,qz,qD,c28,qG,pK,c31,c32,qH,c34,qI,qJ,c37,qL,qM,c40] 48)).cell? ⟨w.heap.size,1,none⟩=some c1:=by rw[World.cell?_alloc_at (hn:=rfl)];rfl
 subst hA
 go_enter func9,ntmps9
 go_wp2_with fail
 refine (BG zs _ _ hl).mono ?_
 rintro e w1 ⟨a,cap,gB,rfl,hL,hg1⟩
 have hO1:=hO.grown hg1 aft
 have k1':=dR hg1 k1
 have G1:=aa (aE w _ none) hg1
 have hold:∀ j,some j=gB->w.heap.size+1<=j:=fun j hj=>by have:=hL.old j hj;simpa using this
 have hgb:gB≠some w.heap.size:=fun e=>by have:=hold _ e.symm;omega
 obtain ⟨k0,k2,k3,k4,k5,k7⟩:=hO1
 clear hO hg1 k1
 go_wp2_with fail
 refine (GN A _ _ hs.o).mono ?_
 rintro e w2 ⟨rfl,hg2⟩
 have hL2:=hL.grown hg2
 have hO2:xe w2 w.heap.size kind B C K DD zs:=xe.grown ⟨k0,k2,k3,k4,k5,k7⟩ hg2 aft
 have k1:=dR hg2 k1'
 have G2:=aa G1 hg2
 clear k0 k2 k3 k4 k5 k7 hL G1 hg2 k1'
 obtain ⟨k0,k2,k3,k4,k5,k7⟩:=hO2
 go_wp2_with fail
 refine (BH zs zs.length a cap gB _ _ (hid rfl) hl hL2).mono ?_
 rintro e w4 ⟨rfl,hg4⟩
 have hO4:xe w4 w.heap.size kind B C K DD zs:=xe.grown ⟨k0,k2,k3,k4,k5,k7⟩ hg4 hgb
 have k1':w4.cell? ⟨w.heap.size,1,none⟩=some (.int .i64 A):=hg4.cell k1 (fun e=>hgb e.symm)
 have G4:w.grownBy w4 none:=I8 G2 hg4 (fun j hj=>by have:=hold j hj;omega)
 clear k0 k2 k3 k4 k5 k7 hg4 hL2 G2 k1
 obtain ⟨k0,k2,k3,k4,k5,k7⟩:=hO4
 go_wp2_with (first|(refine oO _ rfl _ 9 37 rfl 5 underlying9 underlying37 underlying5 zs rfl hl2 ?_;intro b5 cap5 w5 PK Y0 wZ hg5))
 refine (Tx A _ _ hs.o).mono ?_
 rintro e w6 ⟨rfl,rfl⟩
 have G6:=aa G4 hg5
 clear k0 k2 k3 k4 k5 k7 hg5 G4 wZ k1'
 go_wp2
 go_ret
 exact ⟨rfl,G6⟩
def Pp (jU:QP->uF) (qb:QP->Nat) (base wb:Nat) (d:WD PD QP) (M:DM) (w w':World):Prop:=
 (∃ pv p,iK (dA jU qb) base wb {d with pv:=pv,ps:=d.ps++[p]} w'/\p.M=M/\p.kl=[]/\0<=M.aC/\M.aC<=300)/\Below base w w'
theorem EG (d:WD PD QP) (kind A B C:Int) (K DD:UInt64) (zs:List UInt8) (c1 c6 c8 c9 c10 c11 c12 c13 c14 c15 c16 c17 c18 c19 c20 c21 oM c23 c24 qy qz qD c28 qG pK c31 c32 qH c34 qI qJ c37 qL qM c40:Value) (w:World) (hA:c1 = .int .i64 A) (hk1:(kind==1)=false) (hk2:(kind==2)=false) (hk3:(kind==3)=false) (hk4:(kind==4)=false) (hk5:(kind==5)=true) (hl:zs.length<=140737488351232) (h0:0<=A) (h1:A<=300)
  (hI:iK (dA jU qb) base wb d w) (hll:(d.ps.length+1)*112<=140737488355328) :
  Calls prog 9 #[.pointer (some ⟨wb,0,none⟩),.agg #[.int .i64 kind,c1,.int .i64 B,.int .i64 C,.int .u64 (K.toNat:Int),.int .u64 (DD.toNat:Int),c6,.string ⟨zs.toArray⟩,c8,c9,c10,c11,c12,c13,c14,c15,c16,c17,c18,c19,c20,c21,oM,c23,c24,qy,qz,qD,c28,qG,pK,c31,c32,qH,c34,qI,qJ,c37,qL,qM,c40]] w fun e w'=>e = .returned (.bool true)/\Pp jU qb base wb d ⟨A,[],[],zs⟩ w w':=by
 obtain ⟨ie,hie,he0,he1,he2⟩:=info_parts Tryz.VU
 have hl2:zs.length<=140737488355328:=by omega
 have hO:=xe.new w kind B C K DD zs c1 c6 c8 c9 c10 c11 c12 c13 c14 c15 c16 c17 c18 c19 c20 c21 oM c23 c24 qy qz qD c28 qG pK c31 c32 qH c34 qI qJ c37 qL qM c40
 have k1:(w.alloc (.cells #[.int .i64 kind,c1,.int .i64 B,.int .i64 C,.int .u64 (K.toNat:Int),.int .u64 (DD.toNat:Int),c6,.string ⟨zs.toArray⟩,c8,c9,c10,c11,c12,c13,c14,c15,c16,c17,c18,c19,c20,c21,oM,c23,c24,qy,qz,qD,c28,qG,pK,c31,c32,qH,c34,qI,qJ,c37,qL,qM,c40] 48)).cell? ⟨w.heap.size,1,none⟩=some c1:=by rw[World.cell?_alloc_at (hn:=rfl)];rfl
 have HI:=hid hI
 have H01:=hid (And.intro h0 h1)
 subst hA
 clear hI h0 h1
 go_enter func9,ntmps9
 go_wp2_with fail
 refine (BG zs _ _ hl).mono ?_
 rintro e w1 ⟨a,cap,gB,rfl,hL,hg1⟩
 have hO1:=hO.grown hg1 aft
 have k1':=dR hg1 k1
 have G1:=aa (aE w _ none) hg1
 have hold:∀ j,some j=gB->w.heap.size+1<=j:=fun j hj=>by have:=hL.old j hj;simpa using this
 have hgb:gB≠some w.heap.size:=fun e=>by have:=hold _ e.symm;omega
 obtain ⟨k0,k2,k3,k4,k5,k7⟩:=hO1
 clear hO hg1 k1
 go_wp2_with fail
 refine (EF A zs zs.length a cap gB _ _ H01.o.1 H01.o.2 (hid rfl) hl2 hL).mono ?_
 rintro e w2 ⟨b,dp,rfl,hD2,hb2,hf2,hq2,hg2⟩
 have hL2:=hL.grown hg2
 have hO2:xe w2 w.heap.size kind B C K DD zs:=xe.grown ⟨k0,k2,k3,k4,k5,k7⟩ hg2 aft
 have k1:=dR hg2 k1'
 have G2:=aa G1 hg2
 have HLt:=hid (fun k hk=>hL.lt k hk)
 have s1:=G1.size
 have hB:∀ k,(k=b\/Pl.blk dp=some k)->w1.heap.size<=k:=by
  rintro k (rfl | e)
  ·exact hb2
  ·cases dp with
   | none=>cases e
   | some q=>injection e with e;rw[<-e];exact hf2 q rfl
 have Xd:Pl.blk dp≠some b:=by
  intro e;cases dp with
  | none=>cases e
  | some q=>injection e with e;exact hq2 q rfl e
 have HD2:=hid (And.intro hD2 (And.intro hB Xd))
 clear k0 k2 k3 k4 k5 k7 hL G1 hg2 k1' hb2 hf2 hq2 hD2 hB Xd
 obtain ⟨k0,k2,k3,k4,k5,k7⟩:=hO2
 go_wp2_with fail
 refine (BH zs zs.length a cap gB _ _ (hid rfl) hl hL2).mono ?_
 rintro e w4 ⟨rfl,hg4⟩
 have hO4:xe w4 w.heap.size kind B C K DD zs:=xe.grown ⟨k0,k2,k3,k4,k5,k7⟩ hg4 hgb
 have k1':w4.cell? ⟨w.heap.size,1,none⟩=some (.int .i64 A):=hg4.cell k1 (fun e=>hgb e.symm)
 have G4:w.grownBy w4 none:=I8 G2 hg4 (fun j hj=>by have:=hold j hj;omega)
 have HD4:Hid (dO w4 b 0 dp ⟨A,[],[],zs⟩):=HD2.o.1.keep (fun k hk=>hg4.block k (HD2.o.1.lt hk) (fun e=>by have:=HLt.o k e;have:=HD2.o.2.1 k hk;omega))
 clear k0 k2 k3 k4 k5 k7 hg4 hL2 G2 k1
 obtain ⟨k0,k2,k3,k4,k5,k7⟩:=hO4
 go_wp2_with (first|(refine oO _ rfl _ 9 37 rfl 5 underlying9 underlying37 underlying5 zs rfl hl2 ?_;intro b5 cap5 w5 PK Y0 wZ hg5))
 refine (XF w5.heap.size A zs zs.length _ cap5 _ H01.o.1 H01.o.2 (hid rfl) hl2 (hid (fun e=>by cases e)) wZ (bd _)).mono ?_
 rintro e w6 ⟨dv,rfl,hR6,wY⟩
 have s5:=hg5.size
 have s6:=wY.size
 have s4:=G4.size
 have G6:=aa G4 (aa hg5 wY)
 have hI6:=HI.o.grown G6
 have hrow:w6.ownsRow base 51 1 d.pv d.ps.length (d.ps.map fun p=>ptrTo p.pb):=hI6.here 1
 have hb0:dX w6 wb d.cells:=hI6.here 0
 have hbase:=hI6.room
 obtain ⟨ab,cb,hpv⟩:=cu hrow
 have c0:w6.cell? ⟨wb,0,none⟩=some (.slice ab d.ps.length cb):=by rw[<-hpv];exact hb0.cell 0
 have hrow':w6.ownsRow base 51 1 (.slice ab d.ps.length cb) d.ps.length (d.ps.map fun p=>ptrTo p.pb):=by rw[<-hpv];exact hrow
 have Ij:=hid hpv
 have hne:(Value.slice ab d.ps.length cb).ownBlock≠some wb:=fun e=>by have:=hI6.one 0 1 wb rfl (by rw[<-hpv] at e;exact e);omega
 have hdv:∀ k,dv.ownBlock=some k->w5.heap.size<=k:=fun k e=>(hR6.aO.lt k e).1
 have ajJ:d.ps.length+1<=maxLen:=by unfold maxLen;omega
 have ajK:(d.ps.length+1)*8<=140737488355328:=by omega
 have HX:Hid (∀ W,(w6.alloc (.cells #[.pointer (some ⟨b,0,none⟩),.pointer (some ⟨w5.heap.size,0,none⟩),.slice none 0 0] 90)).grownBy W none->PD.ok ⟨w6.heap.size,b,dp,w5.heap.size,⟨.slice none 0 0,.slice none 0 0,dv,[]⟩,⟨A,[],[],zs⟩,.slice none 0 0,[]⟩ W):=by
  intro W gW;have gA:=aE w6 (.cells #[.pointer (some ⟨b,0,none⟩),.pointer (some ⟨w5.heap.size,0,none⟩),.slice none 0 0] 90) none;have x4:=HD4.o;have x6:=(x4.grown hg5).grown wY;have y6:=RD.new hR6;have ylt:∀ k,RG.foot ⟨.slice none 0 0,.slice none 0 0,dv,[]⟩ w5.heap.size k->w5.heap.size<=k:=fun k e=>by
   rcases e with e | e | e | e
   ·omega
   ·cases e
   ·cases e
   ·exact hdv k e
  exact ⟨(dX.new w6 _ _).grown gW aft,(x6.grown gA).grown gW,((y6.down (cE _)).keep (fun k hk=>(gA.block k (y6.lt k hk).2 aft))).keep (fun k hk=>gW.block k (by rw[ch];have:=(y6.lt k hk).2;omega) aft),HD2.o.2.2,fun e=>by have:=x6.lt e;exact absurd this (fS _),fun e=>by have:=(y6.lt _ e).2;exact absurd this (fS _),fun k hk e=>(by have:=x4.lt hk;have:=ylt k e;omega),⟨((dX.new w6 #[.pointer (some ⟨b,0,none⟩),.pointer (some ⟨w5.heap.size,0,none⟩),.slice none 0 0] 90).grown gW aft).cell 2,World.ownsRow_nil _ _ _ _,fun k hk=>by cases hk⟩,fun k hk=>(by rcases hk with e | ⟨x,hx,_⟩;cases e;cases hx),fun x hx=>by cases hx⟩
 have HF:Hid (∀ k,PD.foot ⟨w6.heap.size,b,dp,w5.heap.size,⟨.slice none 0 0,.slice none 0 0,dv,[]⟩,⟨A,[],[],zs⟩,.slice none 0 0,[]⟩ k->w.heap.size<=k):=by
  intro k hk;rcases hk with e | e|(e | e | e | e) | e
  ·have e:k=w6.heap.size:=e;omega
  ·have:=HD2.o.2.1 k e;omega
  ·have e:k=w5.heap.size:=e;omega
  ·cases e
  ·cases e
  ·have:=hdv k e;omega
  ·rcases e with e | ⟨x,hx,_⟩
   ·cases e
   ·cases hx
 have Nk:=hid G6
 have HB0:=hid hb0
 clear k0 k2 k3 k4 k5 k7 k1' hg5 wY G4 G6 wZ hR6 hrow hI6 hb0 HD4 hdv hold hgb HLt hpv HD2 s1 s4 s5 s6
 go_wp2_with (at_builtin;refine gN _ rfl _ _ 27 rfl base 51 ie _ 1 8 underlying27 hie he0 he1 he2 rfl afq (.slice ab d.ps.length cb) d.ps.length _ rfl ((hrow'.alloc _).alloc _) ⟨w6.heap.size+1,0,none⟩ 1 1 [.pointer (some ⟨w6.heap.size,0,none⟩)] rfl rfl (by have:=lY (w6.alloc (.cells #[.pointer (some ⟨b,0,none⟩),.pointer (some ⟨w5.heap.size,0,none⟩),.slice none 0 0] 90)) 51 [.pointer (some ⟨w6.heap.size,0,none⟩)];rw[ch] at this;exact this) (by intro u hu;rw[da.1 hu];rfl) afp ajJ ajK (by rw[ch,ch];omega) ?_;intro pv' w7 wK Xc hblk;obtain ⟨ab',cb',aaB⟩:=cu wK;subst aaB;have h7w:=((HB0.o.alloc (.cells #[.pointer (some ⟨b,0,none⟩),.pointer (some ⟨w5.heap.size,0,none⟩),.slice none 0 0] 90)).alloc (.cells #[.pointer (some ⟨w6.heap.size,0,none⟩)] 51)).grown Xc (fun e=>hne e.symm);have hc7:=h7w.cell 0;have hf7:=h7w.frozen 0;simp only[cx,ct] at hc7)
 have R:=iK.push (p:=⟨w6.heap.size,b,dp,w5.heap.size,⟨.slice none 0 0,.slice none 0 0,dv,[]⟩,⟨A,[],[],zs⟩,.slice none 0 0,[]⟩) HI.o (aR (aR Nk.o _) _) (HX.o _ (aE _ _ none)) HF.o (by rw[Ij.o];exact Xc) wK (by have:=hblk.o;rw[Ij.o];exact this)
 go_ret
 exact ⟨rfl,⟨_,_,R.1,rfl,rfl,H01.o.1,H01.o.2⟩,R.2⟩
theorem NZ (d:WD PD QP) (kind A B C:Int) (K DD:UInt64) (zs:List UInt8) (c1 c6 c8 c9 c10 c11 c12 c13 c14 c15 c16 c17 c18 c19 c20 c21 oM c23 c24 qy qz qD c28 qG pK c31 c32 qH c34 qI qJ c37 qL qM c40:Value) (w:World) (hA:c1 = .int .i64 A) (hk:kind=5) (hl:zs.length<=140737488351232) (hI:iK (dA jU qb) base wb d w) (hll:(d.ps.length+1)*112<=140737488355328) :
  Calls prog 9 #[.pointer (some ⟨wb,0,none⟩),.agg #[.int .i64 kind,c1,.int .i64 B,.int .i64 C,.int .u64 (K.toNat:Int),.int .u64 (DD.toNat:Int),c6,.string ⟨zs.toArray⟩,c8,c9,c10,c11,c12,c13,c14,c15,c16,c17,c18,c19,c20,c21,oM,c23,c24,qy,qz,qD,c28,qG,pK,c31,c32,qH,c34,qI,qJ,c37,qL,qM,c40]] w fun e w'=>e = .returned (.bool true)/\((iK (dA jU qb) base wb d w'/\Below base w w')\/Pp jU qb base wb d ⟨A,[],[],zs⟩ w w'):=by
 subst hk
 by_cases hs:A<0\/300<A
 ·refine (DC 5 A B C K DD zs c1 c6 c8 c9 c10 c11 c12 c13 c14 c15 c16 c17 c18 c19 c20 c21 oM c23 c24 qy qz qD c28 qG pK c31 c32 qH c34 qI qJ c37 qL qM c40 w hA rfl rfl rfl rfl rfl hl (hid hs)).mono ?_;rintro e w' ⟨rfl,g⟩;exact ⟨rfl,.inl ⟨hI.grown g,uR g hI.room⟩⟩
 ·refine (EG d 5 A B C K DD zs c1 c6 c8 c9 c10 c11 c12 c13 c14 c15 c16 c17 c18 c19 c20 c21 oM c23 c24 qy qz qD c28 qG pK c31 c32 qH c34 qI qJ c37 qL qM c40 w hA rfl rfl rfl rfl rfl hl afp afp hI hll).mono ?_;rintro e w' ⟨rfl,g⟩;exact ⟨rfl,.inr g⟩
abbrev aca (g:Nat) (b y:Nat):Prop:=¬ (b=g/\2<=y/\y<163)
theorem V4 (w:World) (g:Nat) (dp:Option Pl) (M:DM) (hd:dO w g 0 dp M) (Xd:Pl.blk dp≠some g) (hin:∀ e∈M.bg,e.In) (hso:M.bg.Pairwise (fun x y=>Op.bytesLess x.name y.name=true)) :
  HS (w.heap.size+1) g (w.heap.size+2) 210 (.pointer (some ⟨g,0,none⟩)) (.pointer (some ⟨g,0,none⟩)) none none dp (fun W=>bY W g 2 M.bg) (fun _ _=>False) (aca g) M.bg:=by
 have hg:g<w.heap.size:=hd.lt (.inl rfl)
 have hno:∀ b y,¬ Pl.has none b y:=fun b y h=>by obtain ⟨q,e,_⟩:=h;cases e
 refine ⟨NT g,KV g M.bg hso,fun _ h=>h,fun _ _ _ h=>h,fun b y hb h=>by have:=h.1;omega,fun b y h=>absurd h (hno b y),fun b y h=>absurd h (hno b y),fun h=>by omega,fun y h1 _ h=>by omega,(fun q h=>by cases h),(fun q h=>by cases h),fun j _=>hno _ _,fun j _=>hno _ _,fun _ _ h=>h,by omega,fun p hp=>?_,by omega,by omega,hin,hso⟩
 have h1:p.g<w.heap.size:=hd.lt (.inr (by rw[hp];rfl))
 exact ⟨fun e=>Xd (by rw[hp,<-e];rfl),by omega,by omega,fun y=>⟨fun h=>h,hno _ _,hno _ _⟩⟩
theorem DK (g:Nat) (dp:Option Pl) (M:DM) (now:Int) (S:Source) (bA:List UInt8) (n:Nat) (ao:Option Addr) (cap:Nat) (w:World) (hd:dO w g 0 dp M) (Xd:Pl.blk dp≠some g) (hin:∀ e∈M.bg,e.In) (hso:M.bg.Pairwise (fun x y=>Op.bytesLess x.name y.name=true))
  (hn:Hid (bA.length=n)) (hs:At w S.1 S.2) (hb:Bs S (.slice ao n cap) bA) (dm:In64 now) (hsk:In64 M.aC) (zo:∀ y∈M.aN,In64 y.time) :
  Calls prog 66 #[.pointer (some ⟨g,0,none⟩),.int .i64 now,.slice ao n cap] w fun e w'=>∃ v',e = .returned v'/\Fin w w' g none none dp (fun _ _=>False) v' (fw M now bA):=by
 have C1:=hid (Il g 210 (.pointer (some ⟨g,0,none⟩)) (.pointer (some ⟨g,0,none⟩)) (.slice none 0 0) (.slice none 0 0) none none dp _ _ _ M now S bA n ao cap w (V4 w g dp M hd Xd hin hso) hd hd.bg (Out.nil w) (Out.nil w) hn hs hb (fun b off _ j _=>⟨fun h=>(by obtain ⟨q,e,_⟩:=h;cases e),fun h=>h⟩) dm hsk zo)
 obtain ⟨R,hR⟩:=aq (fw M now bA)
 rw[hR] at C1 ⊢
 clear hR hd Xd hin hso hn hs hb dm hsk zo
 go_enter func66,ntmps66
 go_wp2_with (go_at_call 97;refine C1.o.mono ?_;rintro e w' ⟨v',rfl,r,_⟩)
 go_ret
 exact ⟨_,rfl,r⟩
theorem AY (g:Nat) (dp:Option Pl) (M:DM) (now:Int) (S:Source) (bA:List UInt8) (n:Nat) (ao:Option Addr) (cap:Nat) (w:World) (hd:dO w g 0 dp M) (Xd:Pl.blk dp≠some g) (hin:∀ e∈M.bg,e.In) (hso:M.bg.Pairwise (fun x y=>Op.bytesLess x.name y.name=true))
  (hn:Hid (bA.length=n)) (hs:At w S.1 S.2) (hb:Bs S (.slice ao n cap) bA) (dm:In64 now) (hsk:In64 M.aC) (zo:∀ y∈M.aN,In64 y.time) :
  Calls prog 34 #[.pointer (some ⟨g,0,none⟩),.int .i64 now,.slice ao n cap] w fun e w'=>∃ v',e = .returned v'/\Fin w w' g none none dp (fun _ _=>False) v' (fw M now bA):=by
 have C1:=hid (DK g dp M now S bA n ao cap w hd Xd hin hso hn hs hb dm hsk zo)
 obtain ⟨R,hR⟩:=aq (fw M now bA)
 rw[hR] at C1 ⊢
 clear hR hd Xd hin hso hn hs hb dm hsk zo
 go_enter func34,ntmps34
 go_wp2_with (go_at_call 66;refine C1.o.mono ?_;rintro e w' ⟨v',rfl,r⟩)
 go_ret
 exact ⟨_,rfl,r⟩
theorem acp {α β:Type} {f:mW->Option α} {k:α->List mW->Option β} {l:List mW} {b:β} (h:bW f k l=some b):∃ p r a,l=p::r/\k a r=some b:=by
 cases l with
 | nil=>cases h
 | cons p r=>
  have h:(f p).bind (fun a=>k a r)=some b:=h
  cases hf:f p with
  | none=>rw[hf] at h;cases h
  | some a=>rw[hf] at h;exact ⟨p,r,a,rfl,h⟩
theorem Ar {ps:List mW} {q:FQ} (h:kH ps=some q):∃ p r,ps=p::r/\bF p=some 10/\ps.length=9:=by
 match ps,h with
 | [],h=>cases h
 | p0::ps,h=>
  have e:kH (p0::ps)=(bF p0).bind fun k=>(if k=10 then bW di fun c=>bW di fun s=>bW bF fun n=>bW bF fun f=>bW bF fun t=>bW bF fun r=>bW bF fun o=>bW lu fun p=>wF ⟨c,s,n,f,t,r,o,p⟩ else fun _=>none) ps:=rfl;rw[e] at h;cases hn:bF p0 with
  | none=>rw[hn] at h;cases h
  | some k=>
   rw[hn] at h;have h:(if k=10 then bW di fun c=>bW di fun s=>bW bF fun n=>bW bF fun f=>bW bF fun t=>bW bF fun r=>bW bF fun o=>bW lu fun p=>wF ⟨c,s,n,f,t,r,o,p⟩ else fun _=>none) ps=some q:=h;by_cases hk:k=10
   ·rw[if_pos hk] at h;refine ⟨p0,ps,rfl,by rw[hn,hk],?_⟩;have L:∀ {α β:Type} {f:mW->Option α} {k:α->List mW->Option β} {l:List mW} {b:β},bW f k l=some b->∃ p r a,l=p::r/\k a r=some b:=by
     exact acp
    obtain ⟨q1,r1,a1,rfl,j1⟩:=L h;obtain ⟨q2,r2,a2,rfl,j2⟩:=L j1;obtain ⟨q3,r3,a3,rfl,j3⟩:=L j2;obtain ⟨q4,r4,a4,rfl,j4⟩:=L j3;obtain ⟨q5,r5,a5,rfl,j5⟩:=L j4;obtain ⟨q6,r6,a6,rfl,j6⟩:=L j5;obtain ⟨q7,r7,a7,rfl,j7⟩:=L j6;obtain ⟨q8,r8,a8,rfl,j8⟩:=L j7;have h:(if r8=[] then some (⟨a1,a2,a3,a4,a5,a6,a7,a8⟩:FQ) else none)=some q:=j8;split at h
    ·rename_i hr;rw[hr];rfl
    ·cases h
   ·rw[if_neg hk] at h;cases h
theorem Au {ps:List mW} {q:NQ} (h:kI ps=some q):∃ p r,ps=p::r/\bF p=some 12/\ps.length=8:=by
 match ps,h with
 | [],h=>cases h
 | p0::ps,h=>
  have e:kI (p0::ps)=(bF p0).bind fun k=>(if k=12 then bW gD fun c=>bW iX fun p=>bW di fun s=>bW bF fun n=>bW bF fun t=>bW bF fun r=>bW bF fun o=>wF ⟨c.1,c.2.1,c.2.2,p,s,n,t,r,o⟩ else fun _=>none) ps:=rfl;rw[e] at h;cases hn:bF p0 with
  | none=>rw[hn] at h;cases h
  | some k=>
   rw[hn] at h;have h:(if k=12 then bW gD fun c=>bW iX fun p=>bW di fun s=>bW bF fun n=>bW bF fun t=>bW bF fun r=>bW bF fun o=>wF ⟨c.1,c.2.1,c.2.2,p,s,n,t,r,o⟩ else fun _=>none) ps=some q:=h;by_cases hk:k=12
   ·rw[if_pos hk] at h;refine ⟨p0,ps,rfl,by rw[hn,hk],?_⟩;have L:∀ {α β:Type} {f:mW->Option α} {k:α->List mW->Option β} {l:List mW} {b:β},bW f k l=some b->∃ p r a,l=p::r/\k a r=some b:=by
     exact acp
    obtain ⟨q1,r1,a1,rfl,j1⟩:=L h;obtain ⟨q2,r2,a2,rfl,j2⟩:=L j1;obtain ⟨q3,r3,a3,rfl,j3⟩:=L j2;obtain ⟨q4,r4,a4,rfl,j4⟩:=L j3;obtain ⟨q5,r5,a5,rfl,j5⟩:=L j4;obtain ⟨q6,r6,a6,rfl,j6⟩:=L j5;obtain ⟨q7,r7,a7,rfl,j7⟩:=L j6;have h:(if r7=[] then some (⟨a1.1,a1.2.1,a1.2.2,a2,a3,a4,a5,a6,a7⟩:NQ) else none)=some q:=j7;split at h
    ·rename_i hr;rw[hr];rfl
    ·cases h
   ·rw[if_neg hk] at h;cases h
section
variable {M:DM} {now:Int} {bA:List UInt8}
theorem Zg (h:bA.length<=300->kG bA=none\/kG bA=some []):fw M now bA=(bu now 60,M):=by
 have h1:mq bA=none:=by
  unfold mq;split
  ·rename_i hl;rcases h hl with e | e <;> rw[e] <;> rfl
  ·rfl
 have h2:qh bA=none:=by
  unfold qh;split
  ·rename_i hl;rcases h hl with e | e <;> rw[e] <;> rfl
  ·rfl
 unfold fw;rw[h1,h2]
theorem ac7 {p:Prop} (h:p:=by
 obtain ⟨p',r',e',hn'⟩:=hp
 rw[e] at e'
 injection e' with e1 e2
 subst e1
 rw[hn] at hn'
 injection hn' with hn'
 omega):p:=h
theorem Rz {ps:List mW} (hl:bA.length<=300) (h:kG bA=some ps) (hp:∃ p r,ps=p::r/\bF p=some 10):fw M now bA=dC M now (mO M now ps):=by
 have h1:mq bA=kH ps:=by unfold mq;rw[if_pos hl,h];rfl
 have h2:qh bA=kI ps:=by unfold qh;rw[if_pos hl,h];rfl
 have h3:kI ps=none:=by
  cases hq:kI ps with
  | none=>rfl
  | some q=>
   obtain ⟨p,r,e,hn,_⟩:=Au hq;exact ac7
 unfold fw mO;rw[h1,h2,h3];cases kH ps with
 | none=>rfl
 | some q=>rfl
theorem Wu {ps:List mW} (hl:bA.length<=300) (h:kG bA=some ps) (hp:∃ p r,ps=p::r/\bF p=some 12):fw M now bA=dC (mR M now ps).2 now (mR M now ps).1:=by
 have h1:mq bA=kH ps:=by unfold mq;rw[if_pos hl,h];rfl
 have h2:qh bA=kI ps:=by unfold qh;rw[if_pos hl,h];rfl
 have h3:kH ps=none:=by
  cases hq:kH ps with
  | none=>rfl
  | some q=>
   obtain ⟨p,r,e,hn,_⟩:=Ar hq;exact ac7
 unfold fw mR;rw[h1,h2,h3];cases kI ps with
 | none=>rfl
 | some q=>
  show uX M now q=_;rw[Kv];dsimp only;cases (iq M now q).1 with
  | error c=>rfl
  | ok t=>rfl
theorem Wv {ps:List mW} (hl:bA.length<=300) (h:kG bA=some ps) (h1:∀ p r,ps=p::r->¬ (bF p=some 10/\ps.length=9)) (h2:∀ p r,ps=p::r->¬ (bF p=some 12/\ps.length=8)):fw M now bA=(bu now 60,M):=by
 have e1:mq bA=kH ps:=by unfold mq;rw[if_pos hl,h];rfl
 have e2:qh bA=kI ps:=by unfold qh;rw[if_pos hl,h];rfl
 have e3:kH ps=none:=by
  cases hq:kH ps with
  | none=>rfl
  | some q=>
   obtain ⟨p,r,e,hn,hln⟩:=Ar hq;exact absurd ⟨hn,hln⟩ (h1 p r e)
 have e4:kI ps=none:=by
  cases hq:kI ps with
  | none=>rfl
  | some q=>
   obtain ⟨p,r,e,hn,hln⟩:=Au hq;exact absurd ⟨hn,hln⟩ (h2 p r e)
 unfold fw;rw[e1,e2,e3,e4]
theorem DR {R:Except Int GR} (h:codeOf M R≠0):dC M now R=(bu now (codeOf M R),M):=by
 unfold codeOf at h ⊢;unfold dC;cases R with
 | error c=>rfl
 | ok g=>
  dsimp only at h ⊢;split at h
  ·rename_i hd;rw[if_pos hd,if_pos hd]
  ·exact absurd rfl h
theorem Iz {gr:GR} (h:codeOf M (.ok gr)=0):dC M now (.ok gr)=(gr.box M.aO,{M with aO:=M.aO.drop 24}):=by
 unfold codeOf at h;unfold dC;dsimp only at h ⊢;split at h
 ·exact absurd h afq
 ·rename_i hd;rw[if_neg hd]
end
def wD (base yb:Nat) (g:RG) (A:List UInt8×DM) (w w':World) (o:Value):Prop:=
 Made w.heap.size w' o A.1/\(∃ g',RD w' base yb A.2 g'/\∀ b,g'.foot yb b->g.foot yb b\/w.heap.size<=b)/\w.grownBy w' (some yb)
def Bq (base yb:Nat) (g:RG) (A:Int×List UInt8×DM) (w w':World) (o:Value) (c:Int):Prop:=
 c=A.1/\(c≠0->o = .slice none 0 0)/\(c=0->Made w.heap.size w' o A.2.1)/\(∃ g',RD w' base yb A.2.2 g'/\∀ b,g'.foot yb b->g.foot yb b\/w.heap.size<=b)/\w.grownBy w' (some yb)
theorem DT {g:RG} {yb n:Nat} {v u:Value} (hv:v=g.pv\/NewAt n v) (hu:u=g.dv\/NewAt n u):∀ b,({g with pv:=v,dv:=u}:RG).foot yb b->g.foot yb b\/n<=b:=by
 intro b hb;rcases hb with e | e | e | e
 ·exact .inl (.inl e)
 ·exact .inl (.inr (.inl e))
 ·rcases hv with h | h
  ·exact .inl (.inr (.inr (.inl (by rw[<-h];exact e))))
  ·exact .inr (h b e)
 ·rcases hu with h | h
  ·exact .inl (.inr (.inr (.inr (by rw[<-h];exact e))))
  ·exact .inr (h b e)
def Lr (M:DM) (now:Int) (R:Except Int GR):Int×List UInt8×DM:=(codeOf M R,(dC M now R).1,(dC M now R).2)
theorem aei {p:Prop} (h:p:=by
 subst hR
 show Made w.heap.size w' o (dC M now (.ok gr)).1
 rw[Iz (by rw[<-h1];exact hc)]
 exact hH):p:=h
theorem aeX {p:Prop} (h:p:=by
 show RD w' base yb (dC M now (.ok gr)).2 _
 rw[Iz (by rw[<-h1];exact hc)]
 exact hD):p:=h
theorem RF {base yb:Nat} {M:DM} {g:RG} {now:Int} {R:Except Int GR} {w w':World} {o:Value} {c:Int} (h:Bl base yb M g R w w' o c):Bq base yb g (Lr M now R) w w' o c:=by
 obtain ⟨h1,h2,h3⟩:=h;refine ⟨h1,fun hc=>(h2 hc).1,fun hc=>?_,?_,?_⟩
 ·obtain ⟨gr,v,hR,hH,_⟩:=h3 hc;exact aei
 ·by_cases hc:c=0
  ·obtain ⟨gr,v,hR,hH,hD,hN,_⟩:=h3 hc;subst hR;refine ⟨{g with dv:=v},?_,DT (.inl rfl) (.inr hN)⟩;exact aeX
  ·refine ⟨g,?_,fun b hb=>.inl hb⟩;show RD w' base yb (dC M now R).2 _;rw[DR (by rw[<-h1];exact hc)];exact (h2 hc).2.1
 ·by_cases hc:c=0
  ·obtain ⟨gr,v,hR,hH,hD,hN,hg⟩:=h3 hc;exact hg
  ·exact lh (h2 hc).2.2 yb
theorem Ww {base yb:Nat} {g:RG} {now:Int} {A:Except Int GR×DM} {w w':World} {o:Value} {c:Int} (h:Bp base yb g A w w' o c):Bq base yb g (Lr A.2 now A.1) w w' o c:=by
 obtain ⟨R,M⟩:=A;obtain ⟨h1,⟨v,hv,h2,h3⟩,hg⟩:=h;have h1:c=codeOf M R:=h1;refine ⟨h1,fun hc=>(h2 hc).1,fun hc=>?_,?_,hg⟩
 ·obtain ⟨gr,u,hR,hH,_⟩:=h3 hc;have hR:R = .ok gr:=hR;exact aei
 ·by_cases hc:c=0
  ·obtain ⟨gr,u,hR,hH,hD,hN⟩:=h3 hc;have hR:R = .ok gr:=hR;subst hR;refine ⟨{g with pv:=v,dv:=u},?_,DT hv (.inr hN)⟩;exact aeX
  ·refine ⟨{g with pv:=v},?_,DT (u:=g.dv) hv (.inl rfl)⟩;show RD w' base yb (dC M now R).2 _;rw[DR (by rw[<-h1];exact hc)];exact (h2 hc).2
theorem Oj {α:Type} {l:List α} (h:l.length=9):∃ a b c d e f g i j,l=[a,b,c,d,e,f,g,i,j]:=by
 match l,h with
 | [a,b,c,d,e,f,g,i,j],_=>exact ⟨a,b,c,d,e,f,g,i,j,rfl⟩
theorem Ol {α:Type} {l:List α} (h:l.length=8):∃ a b c d e f g i,l=[a,b,c,d,e,f,g,i]:=by
 match l,h with
 | [a,b,c,d,e,f,g,i],_=>exact ⟨a,b,c,d,e,f,g,i,rfl⟩
end Go.Proofs.YteknelimjfgmaaaGreatDoor
