/-
  
-/
import Derived.Test.YtpibgolaaaemnaaGreatDoorGULaws
import Derived.Deep.MidRow
import Derived.Deep.AppendSrc
namespace Go.Proofs.YtpibgolaaaemnaaGreatDoor
open Go.RowKit
structure CF (w w':World) (ex:Nat→Nat→Prop):Prop where
 os:w'.os=w.os
 tape:w'.tape=w.tape
 output:w'.output=w.output
 size:w.heap.size≤w'.heap.size
 block:∀ b,b<w.heap.size→(∀ o,¬ ex b o)→w'.heap[b]?=w.heap[b]?
 cells:∀ b cur e fz,w.heap[b]?=some (.cells cur e fz)→∃ cur',w'.heap[b]?=some (.cells cur' e fz)∧cur'.size=cur.size∧∀ o,¬ ex b o→cur'[o]?=cur[o]?
theorem CF.refl (w:World) (ex:Nat→Nat→Prop):CF w w ex:=⟨rfl,rfl,rfl,Nat.le_refl _,fun _ _ _=>rfl,fun _ cur _ _ h=>⟨cur,h,rfl,fun _ _=>rfl⟩⟩
theorem CF.mono {w w':World} {ex ex':Nat→Nat→Prop} (h:CF w w' ex) (k:∀ b o,b<w.heap.size→ex b o→ex' b o):CF w w' ex':=by
 refine ⟨h.os,h.tape,h.output,h.size,fun b hb hx=>h.block b hb (fun o e=>hx o (k b o hb e)),fun b cur e fz hc=>?_⟩
 obtain ⟨cur',h1,h2,h3⟩:=h.cells b cur e fz hc
 exact ⟨cur',h1,h2,fun o hx=>h3 o (fun e=>hx (k b o (Array.getElem?_eq_some_iff.1 hc).1 e))⟩
theorem CF.trans {a b c:World} {ex Yu:Nat→Nat→Prop} (h:CF a b ex) (k:CF b c Yu) (hx:∀ i o,i<a.heap.size→Yu i o→ex i o):CF a c ex:=by
 have s:=h.size
 refine ⟨k.os.trans h.os,k.tape.trans h.tape,k.output.trans h.output,Nat.le_trans h.size k.size,fun i hi hn=>?_,fun i cur e fz hc=>?_⟩
 ·rw[k.block i (by omega) (fun o e=>hn o (hx i o hi e)),h.block i hi hn]
 ·obtain ⟨cur',h1,h2,h3⟩:=h.cells i cur e fz hc
  obtain ⟨afe,k1,k2,k3⟩:=k.cells i cur' e fz h1
  have hi:=(Array.getElem?_eq_some_iff.1 hc).1
  exact ⟨afe,k1,by omega,fun o hn=>(k3 o (fun e=>hn (hx i o hi e))).trans (h3 o hn)⟩
theorem CF.aW {w w':World} (h:w.grownBy w' none) (ex:Nat→Nat→Prop):CF w w' ex:=
 ⟨h.os,h.tape,h.output,h.size,fun b hb _=>h.block b hb (by simp),fun b cur _ _ hc=>⟨cur,by rw[h.block b (Array.getElem?_eq_some_iff.1 hc).1 (by simp)];exact hc,rfl,fun _ _=>rfl⟩⟩
theorem CF.gb {w w':World} {ex:Nat→Nat→Prop} (h:CF w w' ex) (hx:∀ b o,b<w.heap.size→¬ ex b o):w.grownBy w' none:=⟨h.os,h.tape,h.output,h.size,fun b hb _=>h.block b hb (fun o=>hx b o hb)⟩
theorem CF.below {w w':World} {ex:Nat→Nat→Prop} {B:Nat} (h:CF w w' ex) (hB:B≤w.heap.size) (hx:∀ b o,b<B→¬ ex b o):Below B w w':=⟨h.os,h.tape,h.output,h.size,fun b hb=>h.block b (by omega) (fun o=>hx b o hb)⟩
theorem CF.cell {w w':World} {ex:Nat→Nat→Prop} {b o:Nat} {v:Value} (h:CF w w' ex) (hc:w.cell? ⟨b,o,none⟩=some v) (hx:¬ ex b o):w'.cell? ⟨b,o,none⟩=some v:=by
 cases hb:w.heap[b]? with
 | none=>simp[World.cell?,hb] at hc
 | some ob=>
  cases ob with
  | cells cur e fz=>
   obtain ⟨cur',h1,h2,h3⟩:=h.cells b cur e fz hb
   rw[cell_of_row w b o cur e fz hb] at hc
   rw[cell_of_row w' b o cur' e fz h1,h3 o hx]
   exact hc
  | _=>simp[World.cell?,hb] at hc
theorem CF.range {w w':World} {ex:Nat→Nat→Prop} {b o:Nat} {cs:List Value} (h:CF w w' ex) (hc:w.rangeAt b o cs) (hx:∀ j,j<cs.length→¬ ex b (o+j)):w'.rangeAt b o cs:=
 fun j v hv=>h.cell (hc j v hv) (hx j (List.getElem?_eq_some_iff.1 hv).1)
def Live (w:World) (b n:Nat):Prop:=∃ cur e,w.heap[b]?=some (.cells cur e (0,0))∧n≤cur.size
theorem Live.lt {w:World} {b n:Nat} (h:Live w b n):b<w.heap.size:=by
 obtain ⟨cur,e,h1,_⟩:=h
 exact (Array.getElem?_eq_some_iff.1 h1).1
theorem Live.mono {w:World} {b n m:Nat} (h:Live w b n) (k:m≤n):Live w b m:=by
 obtain ⟨cur,e,h1,h2⟩:=h
 exact ⟨cur,e,h1,by omega⟩
theorem Live.cf {w w':World} {ex:Nat→Nat→Prop} {b n:Nat} (h:Live w b n) (k:CF w w' ex):Live w' b n:=by
 obtain ⟨cur,e,h1,h2⟩:=h
 obtain ⟨cur',k1,k2,_⟩:=k.cells b cur e _ h1
 exact ⟨cur',e,k1,by omega⟩
theorem Live.frozen {w:World} {b n:Nat} (h:Live w b n) (j:Nat):w.frozen? ⟨b,j,none⟩=false:=by
 obtain ⟨cur,e,h1,h2⟩:=h
 simp[World.frozen?,h1]
theorem Live.some {w:World} {b n:Nat} (h:Live w b n) (j:Nat) (hj:j<n):(w.cell? ⟨b,j,none⟩).isSome=true:=by
 obtain ⟨cur,e,h1,h2⟩:=h
 rw[cell_of_row w b j cur e _ h1]
 have:j<cur.size:=by omega
 simp[this]
theorem Live.there {w:World} {b n:Nat} (h:Live w b n) (o k:Nat) (hk:o+k≤n):w.there b o k:=fun j hj=>⟨h.some (o+j) (by omega),h.frozen _⟩
theorem Live.new (w:World) (cs:Array Value) (e:TypeId):Live (w.alloc (.cells cs e)) w.heap.size cs.size:=⟨cs,e,heap_alloc_new w _,Nat.le_refl _⟩
theorem Live.alloc {w:World} {b n:Nat} (h:Live w b n) (o:Obj):Live (w.alloc o) b n:=h.cf (CF.aW (World.grownBy_alloc w o none) (fun _ _=>False))
theorem Live.drew {w:World} {b n:Nat} (h:Live w b n):Live w.drew b n:=h
theorem Live.grown {w w':World} {b n:Nat} (h:Live w b n) (k:w.grownBy w' none):Live w' b n:=h.cf (CF.aW k (fun _ _=>False))
theorem CF.setCell {a w:World} {ex:Nat→Nat→Prop} (h:CF a w ex) (b o:Nat) (u:Value) (hp:b<a.heap.size→ex b o):CF a (w.setCell ⟨b,o,none⟩ u) ex:=by
 refine h.trans (Yu:=fun b' o'=>b'=b∧o'=o) ⟨rfl,rfl,rfl,by simp[World.setCell],fun k _ hx=>Below.heap_setCell _ _ _ _ (fun e=>hx o ⟨e,rfl⟩),fun k cur e fz hc=>?_⟩ (fun i o' hi e=>by obtain ⟨rfl,rfl⟩:=e;exact hp hi)
 by_cases e2:k=b
 ·subst e2
  refine ⟨cur.setIfInBounds o u,?_,by simp,fun o' hx=>?_⟩
  ·simp[World.setCell,Array.getElem?_modify,hc]
  ·have:o≠o':=fun e=>hx ⟨rfl,e.symm⟩
   rw[Array.getElem?_setIfInBounds]
   simp[this]
 ·exact ⟨cur,by rw[Below.heap_setCell _ _ _ _ e2];exact hc,rfl,fun _ _=>rfl⟩
theorem CF.setCells {a:World} {ex:Nat→Nat→Prop} (b:Nat):∀ (vs:List Value) (o:Nat) (w:World),CF a w ex→(∀ j,j<vs.length→b<a.heap.size→ex b (o+j))→CF a (w.setCells b o vs) ex
 | [],_,_,h,_=>h
 | v::r,o,w,h,hp=>CF.setCells b r (o+1) _ (h.setCell b o v (by simpa using hp 0 (by simp))) (fun j hj hb=>by have:=hp (j+1) (by simp;omega) hb;rwa [show o+(j+1)=o+1+j from by omega] at this)
theorem CF.alloc {a w:World} {ex:Nat→Nat→Prop} (h:CF a w ex) (o:Obj):CF a (w.alloc o) ex:=h.trans (Yu:=fun _ _=>False) (CF.aW (World.grownBy_alloc w o none) _) (fun _ _ _ e=>e.elim)
theorem CF.grown {a w w':World} {ex:Nat→Nat→Prop} (h:CF a w ex) (g:w.grownBy w' none):CF a w' ex:=h.trans (Yu:=fun _ _=>False) (CF.aW g _) (fun _ _ _ e=>e.elim)
theorem CF.before {a w w':World} {ex:Nat→Nat→Prop} (g:a.grownBy w none) (h:CF w w' ex):CF a w' ex:=(CF.aW g ex).trans h (fun _ _ _ e=>e)
theorem CF.row {a b c:World} {ex:Nat→Nat→Prop} {g:Nat} (h:CF a b ex) (k:b.grownBy c (some g)) (hg:a.heap.size≤g):CF a c ex:=by
 have s:=h.size
 refine ⟨k.os.trans h.os,k.tape.trans h.tape,k.output.trans h.output,Nat.le_trans h.size k.size,fun i hi hx=>?_,fun i cur e fz hc=>?_⟩
 ·rw[k.block i (by omega) (by simp;omega),h.block i hi hx]
 ·have hi:=(Array.getElem?_eq_some_iff.1 hc).1
  obtain ⟨cur',h1,h2⟩:=h.cells i cur e fz hc
  exact ⟨cur',by rw[k.block i (by omega) (by simp;omega)];exact h1,h2⟩
theorem CF.drew {a w:World} {ex:Nat→Nat→Prop} (h:CF a w ex):CF a w.drew ex:=⟨h.os,h.tape,h.output,h.size,h.block,h.cells⟩
theorem CF.drewN {a w:World} {ex:Nat→Nat→Prop} (h:CF a w ex) (n:Nat):CF a (w.drewN n) ex:=⟨h.os,h.tape,h.output,h.size,h.block,h.cells⟩
theorem CF.bM {a w:World} {ex:Nat→Nat→Prop} (h:CF a.drew w ex):CF a w ex:=⟨h.os,h.tape,h.output,h.size,h.block,h.cells⟩
theorem CF.qm {a w:World} {ex:Nat→Nat→Prop} {n:Nat} (h:CF (a.drewN n) w ex):CF a w ex:=⟨h.os,h.tape,h.output,h.size,h.block,h.cells⟩
theorem At.range {w:World} {b off:Nat} {zs:List UInt8} (h:At w (.some ⟨b,off,.none⟩) zs):w.rangeAt b off (zs.map U8):=fun j v hv=>by
 simp only[List.getElem?_map,Option.map_eq_some_iff] at hv
 obtain ⟨y,hy,rfl⟩:=hv
 obtain ⟨hj,rfl⟩:=List.getElem?_eq_some_iff.1 hy
 exact h.cells j hj
theorem At.rZ {w:World} {b off:Nat} {zs:List UInt8} (h:w.rangeAt b off (zs.map U8)):At w (.some ⟨b,off,.none⟩) zs:=
 At.some fun j hj=>h j (U8 zs[j]) (by simp[hj])
theorem At.cf {w w':World} {ex:Nat→Nat→Prop} {ao:Option Addr} {zs:List UInt8} (h:At w ao zs) (k:CF w w' ex) (hx:∀ b off,ao = .some ⟨b,off,.none⟩→∀ j,j<zs.length→¬ ex b (off+j)):At w' ao zs:=by
 intro j hj
 obtain ⟨b,off,h1,h2⟩:=h j hj
 exact ⟨b,off,h1,k.cell h2 (hx b off h1 j hj)⟩
structure Pl where
 g:Nat
 off:Nat
 cap:Nat
def Pl.has (p:Option Pl) (b o:Nat):Prop:=∃ q,p=some q∧b=q.g∧q.off≤o∧o<q.off+q.cap
def Pl.fresh (n:Nat) (p:Option Pl):Prop:=∀ q,p=some q→n≤q.g
def Out (w:World) (v:Value) (p:Option Pl) (bs:List UInt8):Prop:=
 (p=none∧v = .slice none 0 0∧bs=[])∨
 ∃ q,p=some q∧v = .slice (some ⟨q.g,q.off,none⟩) bs.length q.cap∧bs.length≤q.cap∧q.cap≤maxLen∧Live w q.g (q.off+q.cap)∧w.rangeAt q.g q.off (bs.map U8)
theorem Out.nil (w:World):Out w (.slice none 0 0) none []:=.inl ⟨rfl,rfl,rfl⟩
theorem Out.shape {w:World} {v:Value} {p:Option Pl} {bs:List UInt8} (h:Out w v p bs):∃ ao cap,v = .slice ao bs.length cap∧bs.length≤cap∧cap≤maxLen∧At w ao bs∧(ao=none→cap=0):=by
 rcases h with ⟨_,rfl,rfl⟩ | ⟨q,_,rfl,h1,h2,h3,h4⟩
 ·exact ⟨none,0,rfl,Nat.le_refl _,Nat.zero_le _,At.nil _ _,fun _=>rfl⟩
 ·exact ⟨_,_,rfl,h1,h2,At.rZ h4,fun h=>by cases h⟩
theorem Out.open {w:World} {v:Value} {p:Option Pl} {bs:List UInt8} {n:Nat} (h:Out w v p bs) (hn:Hid (bs.length=n)):∃ ao cap,v = .slice ao n cap∧n≤cap∧cap≤9223372036854775807∧At w ao bs∧Hid (ao=none→cap=0):=by
 obtain ⟨ao,cap,h1,h2,h3,h4,h5⟩:=h.shape
 rw[hn.out] at h1 h2
 exact ⟨ao,cap,h1,h2,by unfold maxLen at h3;exact h3,h4,h5⟩
theorem Out.cf {w w':World} {ex:Nat→Nat→Prop} {v:Value} {p:Option Pl} {bs:List UInt8} (h:Out w v p bs) (k:CF w w' ex) (hx:∀ q,p=some q→∀ j,j<bs.length→¬ ex q.g (q.off+j)):Out w' v p bs:=by
 rcases h with h | ⟨q,e,hv,h1,h2,h3,h4⟩
 ·exact .inl h
 ·exact .inr ⟨q,e,hv,h1,h2,h3.cf k,k.range h4 (fun j hj=>hx q e j (by simpa using hj))⟩
theorem Out.grown {w w':World} {v:Value} {p:Option Pl} {bs:List UInt8} (h:Out w v p bs) (k:w.grownBy w' none):Out w' v p bs:=h.cf (CF.aW k (fun _ _=>False)) (fun _ _ _ _ e=>e)
theorem Out.lt {w:World} {v:Value} {p:Option Pl} {bs:List UInt8} (h:Out w v p bs) {b o:Nat} (hb:Pl.has p b o):b<w.heap.size:=by
 obtain ⟨q,hq,e,_⟩:=hb
 rcases h with ⟨h,_⟩ | ⟨q',e',_,_,_,h3,_⟩
 ·rw[h] at hq;cases hq
 ·rw[e'] at hq;injection hq with hq;subst hq;subst e;exact h3.lt
theorem Out.Et {w:World} {v:Value} {p:Option Pl} {bs:List UInt8} (h:Out w v p bs) (q:Pl) (hq:p=some q):q.g<w.heap.size:=by
 rcases h with ⟨h,_⟩ | ⟨q',e',_,_,_,h3,_⟩
 ·rw[h] at hq;cases hq
 ·rw[e'] at hq;injection hq with hq;subst hq;exact h3.lt
theorem Out.drew {w:World} {v:Value} {p:Option Pl} {bs:List UInt8} (h:Out w v p bs):Out w.drew v p bs:=h
theorem Out.own {w:World} {base:Nat} {e:TypeId} {v:Value} {n:Nat} {bs:List UInt8} (h:w.ownsRow base e 1 v n (bs.map U8)):∃ p,Out w v p bs∧Pl.fresh base p:=by
 have hn:n=bs.length:=by simpa using h.1.symm
 rcases h.2 with ⟨hv,h0⟩ | ⟨g,cap,cur,hv,hb,hg,hnc,hcm,hcs,htk⟩
 ·subst h0
  have:bs=[]:=List.length_eq_zero_iff.1 hn.symm
  exact ⟨none,.inl ⟨rfl,hv,this⟩,fun q hq=>by cases hq⟩
 ·refine ⟨some ⟨g,0,cap⟩,.inr ⟨_,rfl,by rw[hv,hn],by show bs.length≤cap;omega,hcm,⟨cur,e,hg,by show 0+cap≤cur.size;omega⟩,?_⟩,fun q hq=>by injection hq with hq;subst hq;exact hb⟩
  intro j u hu
  have hj:j<bs.length:=by simpa using (List.getElem?_eq_some_iff.1 hu).1
  rw[cell_of_row w g _ cur e (0,0) hg,Nat.zero_add]
  have h6:(cur.toList.take (n*1))[j]?=(bs.map U8)[j]?:=by rw[htk]
  rw[List.getElem?_take_of_lt (by omega)] at h6
  rw[←hu,←h6]
  simp
theorem NM {n:Nat} {p:Option Pl} (h:Pl.fresh n p) {b o:Nat} (hb:b<n):¬ Pl.has p b o:=by
 rintro ⟨q,hq,e,_⟩
 have:=h q hq
 omega
theorem jK {n m:Nat} {p:Option Pl} (h:Pl.fresh n p) (k:m≤n):Pl.fresh m p:=fun q hq=>by have:=h q hq;omega
theorem aQ (w:World) (cs:Array Value) (e:TypeId):(w.alloc (.cells cs e)).rangeAt w.heap.size 0 cs.toList:=fun j v hv=>by
 rw[Nat.zero_add,World.cell?_alloc_at (hn:=rfl)]
 simpa using hv
def aI (w w':World) (v':Value) (p:Option Pl) (bs:List UInt8):Prop:=∃ p',Out w' v' p' bs∧CF w w' (Pl.has p)∧(p'=p∨Pl.fresh w.heap.size p')∧∀ q,p=some q→bs.length≤q.cap→p'=p
theorem Dh (w:World) (e:TypeId) (xs:List UInt8) (n k:Nat) (hn:n=xs.length) (ex:Nat→Nat→Prop) (hm:n+k≤maxLen) :
  Out (w.drew.alloc (.cells ((xs.map U8).toArray++Builtin.zeroCells #[.int .u8 0] k) e)) (.slice (some ⟨w.heap.size,0,none⟩) n (n+k)) (some ⟨w.heap.size,0,n+k⟩) xs∧
   CF w (w.drew.alloc (.cells ((xs.map U8).toArray++Builtin.zeroCells #[.int .u8 0] k) e)) ex:=by
 subst hn
 refine ⟨.inr ⟨_,rfl,rfl,Nat.le_add_right _ _,hm,?_,?_⟩,(CF.refl w ex).drew.alloc _⟩
 ·have:=Live.new w.drew ((xs.map U8).toArray++Builtin.zeroCells #[.int .u8 0] k) e
  refine this.mono ?_
  simp[size_zeroCells]
 ·intro j u hu
  have h:=aQ w.drew ((xs.map U8).toArray++Builtin.zeroCells #[.int .u8 0] k) e j u ?_
  ·exact h
  ·rw[Array.toList_append,List.getElem?_append_left (by simpa using (List.getElem?_eq_some_iff.1 hu).1)]
   simpa using hu
theorem yV {P:Program} (w:World) (t tx ty e:TypeId) (i:TypeInfo) (ht:P.underlying t=some (.slice e)) (hi:P.info? e=some i) (hz:i.zero=some (.int .u8 0)) (hs:i.size=1) (hb:i.bytes=1)
  (v x:Value) (p:Option Pl) (bs ys:List UInt8) (hv:Out w v p bs) (n:Nat) (hsrc:Src P 1 tx x n (ys.map U8) w) (hl:bs.length+ys.length≤140737488355328) :
  ∃ v' w',(Builtin.append_ #[t,tx] ty #[v,x]).run P w = .ok v' w'∧aI w w' v' p (bs++ys)∧∀ b o u,w.cell? ⟨b,o,none⟩=some u→w'.cell? ⟨b,o,none⟩=some u∨∃ y∈ys,w'.cell? ⟨b,o,none⟩=some (U8 y):=by
 have hnew:∀ ob b o u,w.cell? ⟨b,o,none⟩=some u→(w.drew.alloc ob).cell? ⟨b,o,none⟩=some u∨∃ y∈ys,(w.drew.alloc ob).cell? ⟨b,o,none⟩=some (U8 y):=fun ob b o u hu=>.inl ((aC (dA (World.grownBy.refl w none)) ob).cell hu (by simp))
 have hn:n=ys.length:=by have:=hsrc.newsLen;simp at this;omega
 subst hn
 rw[←hs] at hsrc
 have hmax:bs.length+ys.length≤maxLen:=by unfold maxLen;omega
 rcases hv with ⟨hp,rfl,rfl⟩ | ⟨q,hp,rfl,h1,h2,h3,h4⟩
 ·by_cases h0:ys.length=0
  ·have:ys=[]:=List.length_eq_zero_iff.1 h0
   subst this
   refine ⟨.slice none 0 0,w,?_,⟨none,Out.nil w,CF.refl _ _,.inl hp.symm,fun _ _ _=>hp.symm⟩,fun _ _ _ h=>.inl h⟩
   have l1:(Builtin.lenOf x).run P w = .ok 0 w:=hsrc.len w
   have l2:(Builtin.firstCells i.size 0 x).run P w = .ok #[] w:=hsrc.cells
   rcases hsrc.kind with ⟨e',hk⟩ | hk <;> simp[Builtin.append_,run_underlying ht,run_underlying hk,sizeOf,typeInfo,hi,l1,l2]
  ·have hold:(Builtin.firstCells i.size 0 (.slice none 0 0)).run P w.drew = .ok ([]:List Value).toArray w.drew:=run_firstCells_none w.drew _ 0 0 0
   have hfit:=growslice_fits (need:=0+ys.length) (old:=0) (bytes:=i.bytes) (by omega) (by rw[hb];simp at hl;omega)
   have hr:=run_append_grow_src (P:=P) w t tx ty e i (.int .u8 0) ht hi hz none 0 0 [] hold x ys.length (ys.map U8) hsrc (by omega) (by simp at hl;omega) hfit
   have hge:=grownCap_ge w (0+ys.length) 0 e
   have hcm:grownCap w (0+ys.length) 0 e≤maxLen:=grownCap_le_maxLen w _ 0 e (by simpa using hmax)
   obtain ⟨k,hk⟩:∃ k,grownCap w (0+ys.length) 0 e=ys.length+k:=⟨grownCap w (0+ys.length) 0 e-ys.length,by omega⟩
   rw[hk] at hr hcm
   obtain ⟨g1,g2⟩:=Dh w e ys ys.length k rfl (Pl.has p) hcm
   refine ⟨_,_,hr,?_,hnew _⟩
   rw[show ys.length+k-(0+ys.length)=k from by omega,Nat.zero_add]
   exact ⟨_,by simpa[Value.cells] using g1,g2,.inr (fun q hq=>by injection hq with hq;subst hq;exact Nat.le_refl _),fun q hq=>by rw[hp] at hq;cases hq⟩
 ·by_cases hroom:bs.length+ys.length≤q.cap
  ·have hl1:(ys.map U8).length=ys.length:=by simp
   have hc:=run_append_room_src (P:=P) w t tx ty e i ht hi q.g q.off bs.length q.cap x ys.length (ys.map U8) hsrc hroom
    (fun j hj=>h3.some _ (by rw[hs,Nat.mul_one];omega)) (fun j _=>h3.frozen _)
   have F:CF w (w.setCells q.g (q.off+bs.length*i.size) (ys.map U8)) (Pl.has p):=by
    refine CF.setCells q.g (ys.map U8) _ w (CF.refl _ _) (fun j hj _=>⟨q,hp,rfl,?_,?_⟩)
    ·omega
    ·rw[hs];omega
   have aff:=World.cell?_setCells_in q.g (ys.map U8) (q.off+bs.length*i.size) w (fun k hk=>h3.some _ (by rw[hs,Nat.mul_one];omega))
   refine ⟨_,_,hc,⟨some q,?_,F,.inl hp.symm,fun _ _ _=>hp.symm⟩,fun b o u hu=>?_⟩
   rotate_left
   ·by_cases hin:b=q.g∧q.off+bs.length*i.size≤o∧o<q.off+bs.length*i.size+(ys.map U8).length
    ·obtain ⟨rfl,h7,h8⟩:=hin
     obtain ⟨j,rfl⟩:∃ j,o=q.off+bs.length*i.size+j:=⟨o-(q.off+bs.length*i.size),by omega⟩
     have hj:j<(ys.map U8).length:=by omega
     refine .inr ⟨ys[j]'(by simpa using hj),List.getElem_mem _,?_⟩
     rw[aff j hj]
     simp
    ·refine .inl ?_
     rw[World.cell?_setCells_out q.g (ys.map U8) _ w _ (fun h1 _=>by
      have h1':b=q.g:=h1
      show o<_∨_≤o
      omega)]
     exact hu
   refine .inr ⟨q,rfl,by rw[List.length_append],by rw[List.length_append];exact hroom,h2,h3.cf F,?_⟩
   intro j u hu
   rw[List.map_append] at hu
   by_cases hj:j<bs.length
   ·rw[List.getElem?_append_left (by simpa using hj)] at hu
    rw[World.cell?_setCells_out q.g (ys.map U8) _ w _ (fun _ _=>Or.inl (by rw[hs];show q.off+j<_;omega))]
    exact h4 j u hu
   ·rw[List.getElem?_append_right (by simpa using Nat.le_of_not_lt hj),List.length_map] at hu
    have hj2:=(List.getElem?_eq_some_iff.1 hu).1
    have:=World.cell?_setCells_in q.g (ys.map U8) (q.off+bs.length*i.size) w (fun k hk=>h3.some _ (by rw[hs,Nat.mul_one];omega)) (j-bs.length) hj2
    rw[show q.off+bs.length*i.size+(j-bs.length)=q.off+j from by rw[hs];omega] at this
    rw[this,←hu,List.getElem?_eq_getElem hj2]
  ·have hold:(Builtin.firstCells i.size bs.length (.slice (some ⟨q.g,q.off,none⟩) bs.length q.cap)).run P w.drew = .ok (bs.map U8).toArray w.drew:=
    run_firstCells_some w.drew _ bs.length ⟨q.g,q.off,none⟩ bs.length q.cap (bs.map U8) (by simp[hs]) (fun j u hu=>by rw[Addr.add_lit];exact h4 j u hu)
   have hfit:=growslice_fits (need:=bs.length+ys.length) (old:=q.cap) (bytes:=i.bytes) (by omega) (by rw[hb];omega)
   have hr:=run_append_grow_src (P:=P) w t tx ty e i (.int .u8 0) ht hi hz (some ⟨q.g,q.off,none⟩) bs.length q.cap (bs.map U8) hold x ys.length (ys.map U8) hsrc (by omega) (by omega) hfit
   have hge:=grownCap_ge w (bs.length+ys.length) q.cap e
   have hcm:grownCap w (bs.length+ys.length) q.cap e≤maxLen:=grownCap_le_maxLen w _ q.cap e hmax
   obtain ⟨k,hk⟩:∃ k,grownCap w (bs.length+ys.length) q.cap e=bs.length+ys.length+k:=⟨grownCap w (bs.length+ys.length) q.cap e-(bs.length+ys.length),by omega⟩
   rw[hk] at hr hcm
   obtain ⟨g1,g2⟩:=Dh w e (bs++ys) (bs.length+ys.length) k (by simp) (Pl.has p) hcm
   refine ⟨_,_,hr,?_,hnew _⟩
   rw[show bs.length+ys.length+k-(bs.length+ys.length)=k from by omega,←List.map_append]
   exact ⟨_,g1,g2,.inr (fun q hq=>by injection hq with hq;subst hq;exact Nat.le_refl _),fun q' hq hle=>by rw[hp] at hq;injection hq with hq;subst hq;rw[List.length_append] at hle;omega⟩
theorem si {P:Program} (w:World) (t tx ty e:TypeId) (i:TypeInfo) (ht:P.underlying t=some (.slice e)) (hi:P.info? e=some i) (hz:i.zero=some (.int .u8 0)) (hs:i.size=1) (hb:i.bytes=1)
  (v x:Value) (p:Option Pl) (bs ys:List UInt8) (hv:Out w v p bs) (n:Nat) (hsrc:Src P 1 tx x n (ys.map U8) w) (hl:bs.length+ys.length≤140737488355328) :
  ∃ v' w',(Builtin.append_ #[t,tx] ty #[v,x]).run P w = .ok v' w'∧aI w w' v' p (bs++ys):=by
 obtain ⟨v',w',h1,h2,_⟩:=yV (P:=P) w t tx ty e i ht hi hz hs hb v x p bs ys hv n hsrc hl
 exact ⟨v',w',h1,h2⟩
theorem aI.comp {w w1 w2:World} {v2:Value} {p p1:Option Pl} {bs1 bs2:List UInt8} (h:CF w w1 (Pl.has p)∧(p1=p∨Pl.fresh w.heap.size p1)∧∀ q,p=some q→bs1.length≤q.cap→p1=p) (k:aI w1 w2 v2 p1 bs2) (hl:bs1.length≤bs2.length):aI w w2 v2 p bs2:=by
 obtain ⟨f,e,h4⟩:=h
 obtain ⟨p2,k1,k2,k3,k4⟩:=k
 have s:=f.size
 refine ⟨p2,k1,f.trans k2 (fun i o hi hx=>?_),?_,fun q hq hle=>?_⟩
 ·rcases e with e | e
  ·rw[←e];exact hx
  ·exact absurd hx (NM e hi)
 ·rcases k3 with k3 | k3
  ·rw[k3];exact e
  ·exact .inr (jK k3 s)
 ·have e1:=h4 q hq (by omega)
  rw[k4 q (by rw[e1];exact hq) hle,e1]
theorem aI.from {w w1 w2:World} {v2:Value} {p:Option Pl} {bs2:List UInt8} (h:CF w w1 (Pl.has p)) (k:aI w1 w2 v2 p bs2):aI w w2 v2 p bs2:=aI.comp (bs1:=[]) ⟨h,.inl rfl,fun _ _ _=>rfl⟩ k (by simp)
theorem aI.refl {w:World} {v:Value} {p:Option Pl} {bs:List UInt8} (h:Out w v p bs):aI w w v p bs:=⟨p,h,CF.refl _ _,.inl rfl,fun _ _ _=>rfl⟩
theorem aI.cf {w w':World} {v:Value} {p:Option Pl} {bs:List UInt8} (h:aI w w' v p bs):CF w w' (Pl.has p):=by
 obtain ⟨_,_,f,_⟩:=h
 exact f
theorem aI.before {w0 w w':World} {v:Value} {p:Option Pl} {bs:List UInt8} (g:w0.grownBy w none) (h:aI w w' v p bs):aI w0 w' v p bs:=by
 obtain ⟨p',h1,h2,h3,h4⟩:=h
 exact ⟨p',h1,CF.before g h2,by rcases h3 with h3 | h3;exact .inl h3;exact .inr (jK h3 g.size),h4⟩
theorem aI.drewN {w w':World} {v:Value} {p:Option Pl} {bs:List UInt8} (h:aI w w' v p bs) (n:Nat):aI w (w'.drewN n) v p bs:=by
 obtain ⟨p',h1,h2,h3⟩:=h
 exact ⟨p',h1,h2.drewN n,h3⟩
theorem bY {P:Program} (w:World) {ops:Array Oper} {rest:List Oper} {o:Oper} {a:Act} {Q:Exit→Act→World→Prop}
  (hg:o.guard=none) (s x:Operand) (t tx:TypeId) (hop:o.op=Op.call {callee:=Callee.builtin Builtin.append,args:=#[s,x],argTypes:=#[t,tx]})
  (e:TypeId) (i:TypeInfo) (h1:P.underlying t=some (.slice e)) (h2:P.info? e=some i) (h3:i.zero=some (.int .u8 0)) (h4:i.size=1) (h5:i.bytes=1)
  (v xv:Value) (p:Option Pl) (bs ys:List UInt8) (hs:a.eval s=v) (hx:a.eval x=xv) (hv:Out w v p bs) (n:Nat) (hsrc:Src P 1 tx xv n (ys.map U8) w) (hl:bs.length+ys.length≤140737488355328)
  (hK:∀ v' w',aI w w' v' p (bs++ys)→wpList P ops Q rest (a.put o.dst v') w') :
  wpList P ops Q (o::rest) a w:=by
 refine wpList_plain hg fun K hK'=>?_
 obtain ⟨v',w',hrun,r1⟩:=si (P:=P) w t tx o.type e i h1 h2 h3 h4 h5 v xv p bs ys hv n hsrc hl
 unfold Oper.wp
 simp[execOp,hop,resolve,invoke,builtin,hs,hx,hrun,Result.andThen]
 exact hK' _ _ (hK v' w' r1)
theorem yX {P:Program} {ops:Array Oper} {o:Oper} {a:Act} {w:World} {K:Act→World→Prop} {Q:Exit→Act→World→Prop} {E:Prop}
  (hg:o.guard=none) (s x:Operand) (t tx:TypeId) (hop:o.op=Op.call {callee:=Callee.builtin Builtin.append,args:=#[s,x],argTypes:=#[t,tx]})
  (e:TypeId) (i:TypeInfo) (h1:P.underlying t=some (.slice e)) (h2:P.info? e=some i) (h3:i.zero=some (.int .u8 0)) (h4:i.size=1) (h5:i.bytes=1)
  (v xv:Value) (p:Option Pl) (bs ys:List UInt8) (hs:a.eval s=v) (hx:a.eval x=xv) (hv:Out w v p bs) (n:Nat) (hsrc:Src P 1 tx xv n (ys.map U8) w) (hl:bs.length+ys.length≤140737488355328)
  (hK:∀ v' w',aI w w' v' p (bs++ys)→K (a.put o.dst v') w') :
  if Region.wanted o (yielded ops a.tmps)=true then Oper.wp P o a w K Q else E:=by
 have hw:Region.wanted o (yielded ops a.tmps)=true:=by simp[Region.wanted,hg]
 rw[if_pos hw]
 obtain ⟨v',w',hrun,r1⟩:=si (P:=P) w t tx o.type e i h1 h2 h3 h4 h5 v xv p bs ys hv n hsrc hl
 unfold Oper.wp
 simp[execOp,hop,resolve,invoke,builtin,hs,hx,hrun,Result.andThen]
 exact hK v' w' r1
theorem qp {P:Program} {w:World} {tx e':TypeId} (hk:P.underlying tx=some (.slice e')) (ao:Option Addr) (n c:Nat) (ys:List UInt8) (hn:ys.length=n) (h:At w ao ys):Src P 1 tx (.slice ao n c) n (ys.map U8) w:=by
 subst hn
 cases ao with
 | none=>obtain rfl:=h.none;exact Src.ofNil w hk c
 | some ad=>exact Src.ofSlice w hk ad ys.length c (ys.map U8) (by simp) (pg h) (qh ys)
theorem Vo {P:Program} {w:World} {tx:TypeId} (hk:P.underlying tx=some .string) (ys:List UInt8):Src P 1 tx (.string ⟨ys.toArray⟩) ys.length (ys.map U8) w:=by
 have h:=Src.ofString (P:=P) w hk (⟨ys.toArray⟩:ByteArray)
 have e:byteCells ⟨ys.toArray⟩=ys.map U8:=by simp[byteCells,U8]
 rw[e] at h
 simpa[ByteArray.size] using h
end Go.Proofs.YtpibgolaaaemnaaGreatDoor
