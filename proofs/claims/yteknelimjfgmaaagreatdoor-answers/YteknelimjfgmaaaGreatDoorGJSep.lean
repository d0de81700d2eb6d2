import Derived.Test.YteknelimjfgmaaaGreatDoorGJRows2
import Derived.Test.YteknelimjfgmaaaGreatDoorGJLaw1
namespace Go.Proofs.YteknelimjfgmaaaGreatDoor
open Go.RowKit
theorem eF {w w':World} {base:Nat} {e:TypeId} {size:Nat} {v:Value} {n:Nat} {xs:List Value} (h:w.ownsRow base e size v n xs) (hk:∀ b,v.ownBlock=some b->w'.heap[b]?=w.heap[b]?):w'.ownsRow base e size v n xs:=by
 refine ⟨h.1,?_⟩;rcases h.2 with hn | ⟨g,cap,cur,rfl,hb,hgg,rest⟩
 ·exact .inl hn
 ·exact .inr ⟨g,cap,cur,rfl,hb,(hk g rfl).trans hgg,rest⟩
theorem lN.refl (w:World) (ex:Nat->Prop):lN w w ex:=⟨rfl,rfl,rfl,bd _,fun _ _ _=>rfl⟩
theorem lN.mono {w w':World} {ex ex':Nat->Prop} (h:lN w w' ex) (k:∀ b,b<w.heap.size->ex b->ex' b):lN w w' ex':=⟨h.os,h.tape,h.output,h.size,fun b hb hx=>h.block b hb (fun e=>hx (k b hb e))⟩
theorem lN.trans {a b c:World} {ex:Nat->Prop} (h:lN a b ex) (k:lN b c fun i=>ex i\/a.heap.size<=i):lN a c ex:=by
 have s:=h.size;refine ⟨k.os.trans h.os,k.tape.trans h.tape,k.output.trans h.output,br h.size k.size,fun i hi hx=>?_⟩;rw[k.block i afp (by rintro (e | e);exact hx e;omega),h.block i hi hx]
theorem lN.bN {w w':World} {row:Option Nat} (h:w.grownBy w' row):lN w w' fun b=>row=some b:=⟨h.os,h.tape,h.output,h.size,fun b hb hx=>h.block b hb (fun e=>hx e.symm)⟩
theorem lN.OC {w w':World} (h:w.grownBy w' none) (ex:Nat->Prop):lN w w' ex:=⟨h.os,h.tape,h.output,h.size,fun b hb _=>h.block b hb aft⟩
theorem lN.below {w w':World} {ex:Nat->Prop} {B:Nat} (h:lN w w' ex) (hB:B<=w.heap.size) (hx:∀ b,ex b->B<=b):Below B w w':=⟨h.os,h.tape,h.output,h.size,fun b hb=>h.block b afp (fun e=>by have:=hx b e;omega)⟩
theorem lN.setCell {a w:World} {ex:Nat->Prop} (h:lN a w ex) (p:Addr) (u:Value) (hp:ex p.block\/a.heap.size<=p.block):lN a (w.setCell p u) ex:=
 h.trans ⟨rfl,rfl,rfl,by simp[World.setCell],fun k _ hx=>Below.heap_setCell _ _ _ _ (fun e=>hx (by rw[e];exact hp))⟩
theorem lN.set {a w:World} {ex:Nat->Prop} {g:Nat} (h:lN a w ex) (hg:ex g) (j:Nat) (u:Value):lN a (w.setCell ⟨g,j,none⟩ u) ex:=h.setCell ⟨g,j,none⟩ u (.inl hg)
section
variable {S:Type} {C:S->Nat->World->Prop} {pq:S->Nat->Nat->Prop}
def Loc (C:S->Nat->World->Prop) (pq:S->Nat->Nat->Prop):Prop:=∀ s k w w',C s k w->(∀ b,pq s k b->w'.heap[b]?=w.heap[b]?)->C s k w'
structure Sep (C:S->Nat->World->Prop) (pq:S->Nat->Nat->Prop) (B:Nat) (s:S) (w:World):Prop where
 here:∀ k,C s k w
 lt:∀ k b,pq s k b->b<w.heap.size
 base:∀ k b,pq s k b->B<=b
 one:∀ j k b,pq s j b->pq s k b->j=k
 room:B<=w.heap.size
theorem Sep.grown (L:Loc C pq) {B:Nat} {s:S} {w w':World} (h:Sep C pq B s w) (g:w.grownBy w' none):Sep C pq B s w':=
 have z:=g.size
 ⟨fun k=>L s k w w' (h.here k) (fun b hb=>g.block b (h.lt k b hb) aft),fun k b hb=>by have:=h.lt k b hb;omega,h.base,h.one,by have:=h.room;omega⟩
end
end Go.Proofs.YteknelimjfgmaaaGreatDoor
namespace Go.Proofs.YteknelimjfgmaaaGreatDoor
open Go.RowKit
set_option maxRecDepth 100000
theorem afD {p:Prop} (h:p:=by simpa using hk):p:=h
theorem afR {p:Prop} (h:p:=by rw[hb,e]):p:=h
variable {w:World}
structure lT where
 l:Sl
 one:Sl
 two:Sl
 three:Sl
 mark:Value
def lT.cells (x:lT):List Value:=[x.l.val,x.one.val,x.two.val,x.three.val,x.mark]
def iJ (l:List lT):List Value:=(l.map lT.cells).flatten
theorem Gn (l:List lT) (x:lT):iJ (l++[x])=iJ l++x.cells:=by simp[iJ]
theorem uP (l:List lT):∀ (k j:Nat) (hk:k<l.length),j<5->(iJ l)[k*5+j]?=(l[k]).cells[j]?:=by
 induction l with
 | nil=>intro k j hk;simp at hk
 | cons x l ih=>
  intro k j hk hj;have e:iJ (x::l)=x.cells++iJ l:=by simp[iJ]
  rw[e];cases k with
  | zero=>rw[gi,cC,cF (by show j<5;exact hj)];rfl
  | succ k=>
   rw[cM (by show 5<=(k+1)*5+j;omega),show (k+1)*5+j-x.cells.length=k*5+j from by show (k+1)*5+j-5=k*5+j;omega];exact ih k j afD hj
def kP (w:World) (m:Value) (s:Sl):Prop:=s.2.1<=9223372036854775807/\D5 w s.1 (List.replicate s.2.1 m)
def Sl.on (s:Sl) (b:Nat):Prop:=∃ off,s.1=some ⟨b,off,none⟩/\0<s.2.1
def lT.ok (w:World) (x:lT):Prop:=kP w x.mark x.l/\kP w x.mark x.one/\kP w x.mark x.two/\kP w x.mark x.three
def lT.on (x:lT) (b:Nat):Prop:=x.l.on b\/x.one.on b\/x.two.on b\/x.three.on b
theorem kP.keep {w':World} {m:Value} {s:Sl} (h:kP w m s) (k:∀ b,s.on b->w'.heap[b]?=w.heap[b]?):kP w' m s:=by
 refine ⟨h.1,fun j u hu=>?_⟩;obtain ⟨b,off,e1,e2⟩:=h.2 j u hu;have hj:=(cq.1 hu).1;rw[List.length_replicate] at hj;refine ⟨b,off,e1,?_⟩;rw[World.cell?_of_block (w:=w) (w':=w') (a:=⟨b,off+j,none⟩) (k b ⟨off,e1,by omega⟩)];exact e2
theorem lT.ok.keep {w':World} {x:lT} (h:x.ok w) (k:∀ b,x.on b->w'.heap[b]?=w.heap[b]?):x.ok w':=
 ⟨h.1.keep (fun b hb=>k b (.inl hb)),h.2.1.keep (fun b hb=>k b (.inr (.inl hb))),h.2.2.1.keep (fun b hb=>k b (.inr (.inr (.inl hb)))),h.2.2.2.keep (fun b hb=>k b (.inr (.inr (.inr hb))))⟩
theorem kP.lt {m:Value} {s:Sl} (h:kP w m s) {b:Nat} (hb:s.on b):b<w.heap.size:=by
 obtain ⟨off,e1,e2⟩:=hb;obtain ⟨b',off',e3,e4⟩:=h.2 0 m (by simp[e2]);rw[e1] at e3;injection e3 with e3;injection e3 with e3 _ _;subst e3;exact World.block_lt_of_cell? w _ e4
theorem lT.ok.lt {x:lT} (h:x.ok w) {b:Nat} (hb:x.on b):b<w.heap.size:=by
 rcases hb with e | e | e | e
 ·exact h.1.lt e
 ·exact h.2.1.lt e
 ·exact h.2.2.1.lt e
 ·exact h.2.2.2.lt e
def PS (v:Value):Prop:=∃ m:UInt8,v = .int .u8 (m.toNat:Int)
def aaw (v:Value):Prop:=∃ m:Int,v = .int .i64 m
def adH (v:Value):Prop:=∃ m:ByteArray,v = .string m
def XOn (x:lT) (gB:Option Nat) (n:Nat):Prop:=∀ b,x.on b->gB=some b\/n<=b
def EU (base wb j:Nat) (Xr:TypeId) (mk:Value->Prop) (gB:Option Nat) (vb:Value) (cs:Array Value) (oP:List lT) (w w':World):Prop:=
 ∃ x PT,mk x.mark/\dX w' wb (cs.setIfInBounds j PT)/\w'.ownsRow base Xr 5 PT (oP.length+1) (iJ (oP++[x]))/\x.ok w'/\lN w w' (fun b=>b=wb\/vb.ownBlock=some b\/gB=some b)/\
  (∀ b,PT.ownBlock=some b->vb.ownBlock=some b\/w.heap.size<=b)/\∀ b,x.on b->b≠wb/\PT.ownBlock≠some b/\(gB=some b\/w.heap.size<=b)
theorem EU.push {base wb j:Nat} {Xr:TypeId} {mk:Value->Prop} {gB:Option Nat} {vb PT:Value} {cs:Array Value} {oP:List lT} {wr wa w5:World} {x:lT} {xc:List Value} (hlt:∀ k,vb.ownBlock=some k->base<=k/\k<w.heap.size) (hne:vb.ownBlock≠some wb) (hwb:wb<w.heap.size)
  (Fr:lN w wr (fun b=>gB=some b)) (hx:x.ok wr) (hxc:x.cells=xc) (hxo:XOn x gB w.heap.size) (hg:∀ g,gB=some g->g≠wb/\vb.ownBlock≠some g) (ga:wr.grownBy wa vb.ownBlock) (h5:wa.grownBy w5 vb.ownBlock)
  (hW:dX w5 wb cs) (hown:w5.ownsRow base Xr 5 PT (oP.length+1) (iJ oP++xc)) (hb:PT.ownBlock=vb.ownBlock\/PT.ownBlock=some wa.heap.size) (hmk:mk x.mark):EU base wb j Xr mk gB vb cs oP w (w5.setCell ⟨wb,j,none⟩ PT):=by
 have s1:=Fr.size
 have s2:=ga.size
 have s3:=h5.size
 have hnw:PT.ownBlock≠some wb:=by
  rcases hb with e | e
  ·rw[e];exact hne
  ·rw[e];simp;omega
 have hxb:∀ b,x.on b->b≠wb/\vb.ownBlock≠some b:=by
  intro b hb;rcases hxo b hb with e | e
  ·exact hg b e
  ·exact ⟨by omega,fun e2=>by have:=(hlt b e2).2;omega⟩
 refine ⟨x,PT,hmk,hW.set j PT,?_,?_,?_,?_,?_⟩
 ·rw[Gn,hxc];exact eF hown (fun b hb=>Below.heap_setCell _ _ _ _ (fun e=>hnw afR))
 ·refine hx.keep (fun b hb=>?_);have hlt2:=hx.lt hb;rw[Below.heap_setCell _ _ _ _ (hxb b hb).1,h5.block b afp (fun e=>(hxb b hb).2 e.symm),ga.block b hlt2 (fun e=>(hxb b hb).2 e.symm)]
 ·refine ⟨(h5.os.trans ga.os).trans Fr.os,(h5.tape.trans ga.tape).trans Fr.tape,(h5.output.trans ga.output).trans Fr.output,by rw[World.size_setCell];omega,fun b hb hx=>?_⟩;rw[Below.heap_setCell _ _ _ _ (fun e=>hx (.inl e)),h5.block b afp (fun e=>hx (.inr (.inl e.symm))),ga.block b afp (fun e=>hx (.inr (.inl e.symm))),Fr.block b hb (fun e=>hx (.inr (.inr e)))]
 ·intro b e;rcases hb with e2 | e2
  ·exact .inl (by rw[<-e2];exact e)
  ·rw[e2] at e;injection e with e;exact .inr afp
 ·intro b hb2;refine ⟨(hxb b hb2).1,fun e=>?_,hxo b hb2⟩;rcases hb with e2 | e2
  ·exact (hxb b hb2).2 (by rw[<-e2];exact e)
  ·rw[e2] at e;injection e with e;have:=hx.lt hb2;omega
set_option maxHeartbeats 2000000
open Proofs.Tryz
variable {n:Nat} {p:Option Pl} {u:Value} {w':World}
theorem Tryz.adI:(prog.info? 57).map (fun i=>(i.zero,i.size,i.bytes))=some (some (.agg #[.slice none 0 0,.slice none 0 0,.slice none 0 0,.slice none 0 0,.int .u8 0]),5,104):=by kernel_rfl
theorem Out.set {ao:Option Addr} {cap:Nat} {bs:List UInt8} (h:Out w (.slice ao n cap) p bs) (k:Nat) (y:UInt8) (hk:k<bs.length):∃ b off,ao=some ⟨b,off,none⟩/\w.cell? ⟨b,off+k,none⟩=some (U8 bs[k])/\w.frozen? ⟨b,off+k,none⟩=false/\Out (w.setCell ⟨b,off+k,none⟩ (U8 y)) (.slice ao n cap) p (bs.set k y)/\CF w (w.setCell ⟨b,off+k,none⟩ (U8 y)) (Pl.has p):=by
 rcases h with ⟨_,_,h⟩ | ⟨q,hp,hv,h1,h2,h3,h4⟩
 ·subst h;simp at hk
 ·injection hv with e1 e2 e3;subst e1 e3;have F:CF w (w.setCell ⟨q.g,q.off+k,none⟩ (U8 y)) (Pl.has p):=(CF.refl _ _).setCell _ _ _ (fun _=>⟨q,hp,rfl,by omega,by omega⟩);refine ⟨q.g,q.off,rfl,h4 k _ (by simp[hk]),h3.frozen _,.inr ⟨q,hp,by rw[cU,e2],by rw[cU];exact h1,h2,h3.cf F,?_⟩,F⟩;rw[List.map_set];exact EJ h4 k _
theorem Out.marked {v:Value} {m:UInt8} (h:Out w v p (List.replicate n m)) (hn:n<=9223372036854775807):∃ s:Sl,v=s.val/\s.2.1=n/\kP w (U8 m) s/\∀ b,s.on b->∃ q,p=some q/\q.g=b:=by
 rcases h with ⟨hp,rfl,h⟩ | ⟨q,hp,rfl,h1,h2,h3,h4⟩
 ·refine ⟨(none,0,0),rfl,?_,⟨cE _,fun j u hu=>by simp at hu⟩,?_⟩
  ·have:=eh List.length h;simpa using this.symm
  ·rintro b ⟨off,e,_⟩;cases e
 ·refine ⟨(some ⟨q.g,q.off,none⟩,(List.replicate n m).length,q.cap),rfl,List.length_replicate,⟨by show (List.replicate n m).length<=_;simpa using hn,fun j u hu=>⟨q.g,q.off,rfl,?_⟩⟩,?_⟩
  ·have hu':(List.replicate n (U8 m))[j]?=some u:=(by simpa using hu);exact h4 j u (by rw[List.map_replicate];exact hu')
  ·rintro b ⟨off,e,_⟩;injection e with e;injection e with e _ _;exact ⟨q,hp,e⟩
theorem kP.km {s:Sl} (h:kP w u s) (k:KM w w' u):kP w' u s:=by
 refine ⟨h.1,fun j x hx=>?_⟩;obtain ⟨b,off,e1,e2⟩:=h.2 j x hx;have:x=u:=(List.mem_replicate.1 (fk hx)).2;subst this;exact ⟨b,off,e1,k b _ e2⟩
theorem KM.refl (w:World) (u:Value):KM w w u:=fun _ _ h=>h
theorem KM.trans {a b c:World} (h:KM a b u) (k:KM b c u):KM a c u:=fun x y e=>k x y (h x y e)
theorem KM.bN {a b:World} (h:a.grownBy b none):KM a b u:=fun _ _ e=>h.cell e aft
theorem Out.km {ex:Nat->Nat->Prop} {v:Value} {m:UInt8} (h:Out w v p (List.replicate n m)) (k:KM w w' (U8 m)) (f:CF w w' ex):Out w' v p (List.replicate n m):=by
 rcases h with h | ⟨q,hp,hv,h1,h2,h3,h4⟩
 ·exact .inl h
 ·refine .inr ⟨q,hp,hv,h1,h2,h3.cf f,fun j u hu=>?_⟩;have:=h4 j u hu;rw[List.map_replicate] at hu;have e:u=U8 m:=(List.mem_replicate.1 (fk hu)).2;subst e;exact k _ _ this
def Pl.blk (p:Option Pl):Option Nat:=p.map (·.g)
theorem aax (h:CF w w' (Pl.has p)):lN w w' (fun b=>Pl.blk p=some b):=
 ⟨h.os,h.tape,h.output,h.size,fun b hb hx=>h.block b hb (fun o e=>by obtain ⟨q,hq,e1,_⟩:=e;exact hx (by rw[hq,e1];rfl))⟩
theorem Xt (base wb n:Nat) (v:Value) (p:Option Pl) (bs:List UInt8) (oP:List lT) (vb:Value) (cs:Array Value) (w:World)
  (hW:dX w wb cs) (hcs:cs[2]?=some vb) (hrow:w.ownsRow base 57 5 vb oP.length (iJ oP)) (hne:vb.ownBlock≠some wb) (hbase:base<=w.heap.size) (hn:Hid (bs.length=n)) (hnl:n<=100000)
  (hO:Out w v p bs) (hB:∀ g,Pl.blk p=some g->g≠wb/\vb.ownBlock≠some g) (hll:(oP.length+1)*112<=140737488355328) :
  Calls prog 23 #[.pointer (some ⟨wb,2,none⟩),v] w fun e w'=>e = .returned (.tuple #[])/\EU base wb 2 57 PS (Pl.blk p) vb cs oP w w':=by
 obtain ⟨i0,hif,hz0,hz1,hz2⟩:=info_parts Tryz.info5
 obtain ⟨ie,hie,he0,he1,he2⟩:=info_parts Tryz.adI
 obtain ⟨ab,cb,hvb⟩:=cu hrow
 subst hvb
 obtain ⟨a,cap,hvv,hcap,akm,_,_⟩:=hO.open hn
 subst hvv
 have hc2:w.cell? ⟨wb,2,none⟩=some (.slice ab oP.length cb):=(hW.cell 2).trans hcs
 obtain ⟨m,hm⟩:∃ m:UInt8,m=UInt8.ofNat (oP.length % 251):=⟨_,rfl⟩
 have HM:Hid ((oP.length:Int) % 251=(m.toNat:Int)):=by show _=_;rw[hm];exact Tc _
 clear hm
 have HB:=hid hB
 clear hB
 go_enter func23,ntmps23
 go_wp2
 rw[HM.o]
 go_loopw [5] (fun i wr=>∃ k:Nat,k<=n/\i = .int .i64 k/\Out wr (.slice a n cap) p (List.replicate k m++bs.drop k)/\CF w wr (Pl.has p)) (fun i _=>n-(intOf i).toNat)
 case atStart=>exact ⟨0,cE _,rfl,by simpa using hO,CF.refl _ _⟩
 case round=>
  obtain ⟨k,hk,rfl,hor,hfr⟩:=hrel;by_cases hlt:k<n
  ·have rF:(k:Int)<(n:Int):=(by omega);have hk0:(0:Int)<=(k:Int):=(by omega);have hkl:k<(List.replicate k m++bs.drop k).length:=(by have h:=hn.o;simp;omega);obtain ⟨b,off,hab,hck,hfk,hor2,hf2⟩:=hor.set k m hkl;have hset:=Ed bs m k (by rw[hn.o];exact hlt);rw[hset] at hor2;subst hab;have F2:=hfr.trans hf2 (fun _ _ _ e=>e);have Ee:=hid hor2;have mg:=hid F2;clear hor hfr hset hor2 F2 hf2 hO;go_wp2;go_roundw
   case rel=>exact ⟨k+1,by omega,by go_num,Ee.o,mg.o⟩
   case measure=>simp[intOf];omega
  ·have hkn:k=n:=(by omega);subst hkn;rw[List.drop_of_length_le afM,fg] at hor
   have hs1:∀ W:World,Src prog 1 37 (.slice (some ⟨W.heap.size,0,none⟩) 1 1) 1 ((List.replicate 1 m).map U8) (W.alloc (.cells #[.int .u8 (m.toNat:Int)] 5)):=
    fun W=>rE (P:=prog) underlying37 _ 1 1 (List.replicate 1 m) rfl (fG _ _ _ _ rfl)
   have hs2:∀ W:World,Src prog 1 37 (.slice (some ⟨W.heap.size,0,none⟩) 2 2) 2 ((List.replicate 2 m).map U8) (W.alloc (.cells #[.int .u8 (m.toNat:Int),.int .u8 (m.toNat:Int)] 5)):=
    fun W=>rE (P:=prog) underlying37 _ 2 2 (List.replicate 2 m) rfl (fG _ _ _ _ rfl)
   have EL:Hid ((List.replicate k m).length+1<=140737488355328):=(by show _<=_;simp;omega);have HL2:Hid ((List.replicate k m).length+2<=140737488355328):=(by show _<=_;simp;omega);have aay:∀ j,Hid (List.replicate k m++List.replicate j m=List.replicate (k+j) m):=fun j=>List.replicate_append_replicate;clear hc2 hO;go_wp2_with (first|(at_builtin;refine lL _ rfl (.tmp 27) (.tmp 29) 37 37 rfl 5 i0 underlying37 hif hz0 hz1 hz2 _ _ p m (List.replicate k m) 1 rfl rfl (hor.grown (aE wr _ none)) 1 (hs1 _) EL.o ?_;intro v1 w1 R1 K1;have aaz:Out w1 (.slice a k cap) p (List.replicate k m):=(hor.grown (aE wr _ none)).km K1 R1.cf)|(at_builtin;refine lL _ rfl (.tmp 31) (.tmp 34) 37 37 rfl 5 i0 underlying37 hif hz0 hz1 hz2 _ _ p m (List.replicate k m) 2 rfl rfl (aaz.grown (aE w1 _ none)) 2 (hs2 _) HL2.o ?_;intro v2 w2 R2 K2;have hor2:Out w2 (.slice a k cap) p (List.replicate k m):=(aaz.grown (aE w1 _ none)).km K2 R2.cf))
   rw[(aay 1).o] at R1;rw[(aay 2).o] at R2;have R1':=R1.before (aE wr _ none);have R2':=R2.before (aE w1 _ none);have K1':KM wr w1 (U8 m):=(KM.bN (aE wr _ none)).trans K1;have K2':KM w1 w2 (U8 m):=(KM.bN (aE w1 _ none)).trans K2;clear R1 R2 K1 K2 aaz;obtain ⟨wo,hwo⟩:∃ wo,wo=wr:=⟨wr,rfl⟩
   subst hwo;go_loopw [8,9] (fun o i w3=>∃ j:Nat,j<=64/\i = .int .i64 j/\aU w2 w3 o p (List.replicate (k+j) m)/\KM w2 w3 (U8 m)) (fun _ i _=>64-(intOf i).toNat)
   case atStart=>exact ⟨0,by omega,rfl,aU.refl hor2,KM.refl _ _⟩
   case round=>
    obtain ⟨j,hj,rfl,R3,K3⟩:=hrel;by_cases hlt64:j<64
    ·obtain ⟨p3,ho3,hc3⟩:=R3;have Az:=hid hc3;have HL3:Hid ((List.replicate (k+j) m).length+1<=140737488355328):=(by show _<=_;simp;omega);clear hc3;go_wp2_with (at_builtin;refine lL _ rfl _ _ 37 37 rfl 5 i0 underlying37 hif hz0 hz1 hz2 _ _ p3 m (List.replicate (k+j) m) 1 rfl rfl (ho3.grown (aE wr _ none)) 1 (hs1 _) HL3.o ?_;intro v4 w4 R4 K4)
     have R:aU w2 w4 v4 p (List.replicate (k+(j+1)) m):=by
      have:=aU.comp Az.o (R4.before (aE wr _ none)) aft;rw[List.replicate_append_replicate] at this;exact this
     have K:=K3.trans ((KM.bN (aE wr _ none)).trans K4);clear R4 K4 ho3 Az K3;go_wp2;go_roundw
     case rel=>exact ⟨j+1,by omega,by go_num,R,K⟩
     case measure=>simp[intOf];omega
    ·have ahy:j=64:=(by omega);subst ahy;clear hlt64 hj hs1 hs2 EL HL2 aay;have F1:=R1'.cf;have F2:=R2'.cf;have F3:=R3.cf;have FF:CF w wr (Pl.has p):=((hfr.trans F1 (fun _ _ _ e=>e)).trans F2 (fun _ _ _ e=>e)).trans F3 (fun _ _ _ e=>e);have sA:=hfr.size;have sB:=F1.size;have sC:=F2.size;have sD:=F3.size;have Fr:lN w wr (fun b=>Pl.blk p=some b):=aax FF;have adK:=hW.lt;have Mh:dX wr wb cs:=hW.kept (Fr.block wb adK (fun e=>(HB.o _ e).1 rfl));have adL:wr.ownsRow base 57 5 (.slice ab oP.length cb) oP.length (iJ oP):=eF hrow (fun b hb=>Fr.block b (hrow.lt b hb).2 (fun e=>(HB.o _ e).2 hb));have adM:=hor2.km K3 F3;obtain ⟨p1,o1,_,q1,_⟩:=R1';obtain ⟨p2,o2,_,q2,_⟩:=R2';obtain ⟨p3,o3,_,q3,_⟩:=R3;obtain ⟨⟨z0,n0,c0⟩,hv0,hn0,hm0,adN⟩:=adM.marked afp;obtain ⟨⟨z1,n1,c1⟩,hv1,hn1,hm1,hb1'⟩:=o1.marked afp;obtain ⟨⟨z2,n2,c2⟩,hv2,hn2,hm2,hb2'⟩:=o2.marked afp;obtain ⟨⟨z3,n3,c3⟩,hv3,Zp,hm3,adO⟩:=o3.marked afp;have adP:=hm1.km (K2'.trans K3);have adQ:=hm2.km K3;change Value.slice a k cap = .slice z0 n0 c0 at hv0;change v1 = .slice z1 n1 c1 at hv1;change v2 = .slice z2 n2 c2 at hv2;change u8 = .slice z3 n3 c3 at hv3;injection hv0 with y1 y2 y3;subst y1 y2 y3 hv1 hv2 hv3;obtain ⟨x,hx⟩:∃ x:lT,x=⟨(a,k,cap),(z1,n1,c1),(z2,n2,c2),(z3,n3,c3),.int .u8 (m.toNat:Int)⟩:=⟨_,rfl⟩
     have ahz:x.ok wr:=(by subst hx;exact ⟨hm0,adP,adQ,hm3⟩);have HX:Hid (x.cells=[.slice a k cap,.slice z1 n1 c1,.slice z2 n2 c2,.slice z3 n3 c3,.int .u8 (m.toNat:Int)]):=(by subst hx;rfl);have HMK:Hid (PS x.mark):=(by subst hx;exact ⟨_,rfl⟩);have HXO:XOn x (Pl.blk p) w.heap.size:=by
      have hgo:∀ (pp:Option Pl) (B b:Nat),(pp=p\/Pl.fresh B pp)->w.heap.size<=B->(∃ q,pp=some q/\q.g=b)->Pl.blk p=some b\/w.heap.size<=b:=by
       rintro pp B b h hB ⟨q,hq,e⟩;rcases h with h | h
       ·left;rw[<-h,hq,<-e];rfl
       ·right;have:=h q hq;omega
      intro b hb;rw[hx] at hb;rcases hb with h | h | h | h
      ·exact hgo p w.heap.size b (.inl rfl) (bd _) (adN b h)
      ·exact hgo p1 _ b q1 afp (hb1' b h)
      ·exact hgo p2 _ b q2 afp (hb2' b h)
      ·exact hgo p3 _ b q3 afp (adO b h)
     have AA:oP.length+1<=maxLen:=(by unfold maxLen;omega);have ahA:(oP.length+1)*104<=140737488355328:=(by omega);have hbr:base<=wr.heap.size:=(by omega);have hcr:wr.cell? ⟨wb,2,none⟩=some (.slice ab oP.length cb):=(Mh.cell 2).trans hcs;clear hx hm0 hm1 hm2 hm3 adP adQ adN hb1' hb2' adO o1 o2 o3 q1 q2 q3 hor hor2 adM hn0 hn1 hn2 Zp F1 F2 F3 FF hfr K1' K2' K3;go_wp2_with (at_builtin;refine gN _ rfl _ _ 29 rfl base 57 ie _ 5 104 underlying29 hie he0 he1 he2 rfl afq _ _ _ rfl (adL.alloc _) ⟨wr.heap.size,0,none⟩ 1 1 [.slice a k cap,.slice z1 n1 c1,.slice z2 n2 c2,.slice z3 n3 c3,.int .u8 (m.toNat:Int)] rfl rfl (lY wr _ _) (by intro u hu;simp at hu;rcases hu with rfl | rfl | rfl | rfl | rfl <;> rfl) afp AA ahA afz ?_;intro PT w5 hown5 hg5 hblk;obtain ⟨ab',cb',aaB⟩:=cu hown5;subst aaB;have h5w:=(Mh.alloc (.cells #[.slice a k cap,.slice z1 n1 c1,.slice z2 n2 c2,.slice z3 n3 c3,.int .u8 (m.toNat:Int)] 57)).grown hg5 (fun e=>hne e.symm);have PK:w5.cell? ⟨wb,2,none⟩=some (.slice ab oP.length cb):=((h5w.cell 2).trans hcs);have hf5:=h5w.frozen 2)
     have R:EU base wb 2 57 PS (Pl.blk p) (.slice ab oP.length cb) cs oP w (w5.setCell ⟨wb,2,none⟩ (.slice ab' (oP.length+1) cb')):=EU.push hrow.lt hne adK Fr ahz HX.o HXO HB.o (aE wr _ _) hg5 h5w hown5 hblk.o HMK.o;clear hblk hown5 hg5 h5w;go_end0;exact ⟨rfl,R⟩
theorem yf (n:Nat) (ao:Option Addr) (cap:Nat) (m:Int) (w:World) (hl:n<=9223372036854775807) (hc:D5 w ao (List.replicate n (.int .i64 m:Value))) :
  Calls Tryz.prog 14 #[.slice ao n cap,.int .i64 m] w fun e w'=>e = .returned (.bool true)/\w=w':=by
 go_enter Tryz.func14,Tryz.ntmps14
 go_wp2
 go_loop [5] (fun i=>∃ k:Nat,k<=n/\i = .int .i64 k) (fun i=>n-(intOf i).toNat)
 case atStart=>exact ⟨0,cE _,rfl⟩
 case round=>
  obtain ⟨k,hk,rfl⟩:=hrel;by_cases hlt:k<n
  ·have rF:(k:Int)<(n:Int):=(by omega);have hk0:(0:Int)<=(k:Int):=(by omega);obtain ⟨b,off,rfl,hck⟩:=hc k _ (by rw[List.getElem?_replicate,if_pos hlt]);exact abJ
  ·have rF:¬ (k:Int)<(n:Int):=(by omega);clear hc;exact aaG
theorem yg (n:Nat) (ao:Option Addr) (cap:Nat) (M:ByteArray) (w:World) (hl:n<=9223372036854775807) (hc:D5 w ao (List.replicate n (.string M:Value))) :
  Calls Tryz.prog 15 #[.slice ao n cap,.string M] w fun e w'=>e = .returned (.bool true)/\w=w':=by
 go_enter Tryz.func15,Tryz.ntmps15
 go_wp2
 go_loop [5] (fun i=>∃ k:Nat,k<=n/\i = .int .i64 k) (fun i=>n-(intOf i).toNat)
 case atStart=>exact ⟨0,cE _,rfl⟩
 case round=>
  obtain ⟨k,hk,rfl⟩:=hrel;by_cases hlt:k<n
  ·have rF:(k:Int)<(n:Int):=(by omega);have hk0:(0:Int)<=(k:Int):=(by omega);obtain ⟨b,off,rfl,hck⟩:=hc k _ (by rw[List.getElem?_replicate,if_pos hlt]);exact abJ
  ·have rF:¬ (k:Int)<(n:Int):=(by omega);clear hc;exact aaG
theorem vQ (n:Nat) (ao:Option Addr) (cap:Nat) (m:UInt8) (w:World) (hl:n<=9223372036854775807) (hc:D5 w ao (List.replicate n (.int .u8 (m.toNat:Int):Value))) :
  Calls Tryz.prog 13 #[.slice ao n cap,.int .u8 (m.toNat:Int)] w fun e w'=>e = .returned (.bool true)/\w=w':=by
 go_enter Tryz.func13,Tryz.ntmps13
 go_wp2
 go_loop [5] (fun i=>∃ k:Nat,k<=n/\i = .int .i64 k) (fun i=>n-(intOf i).toNat)
 case atStart=>exact ⟨0,cE _,rfl⟩
 case round=>
  obtain ⟨k,hk,rfl⟩:=hrel;by_cases hlt:k<n
  ·have rF:(k:Int)<(n:Int):=(by omega);have hk0:(0:Int)<=(k:Int):=(by omega);obtain ⟨b,off,rfl,hck⟩:=hc k _ (by rw[List.getElem?_replicate,if_pos hlt]);exact abJ
  ·have rF:¬ (k:Int)<(n:Int):=(by omega);clear hc;exact aaG
set_option maxHeartbeats 4000000
structure PU (w:World) (base:Nat) (Xr:TypeId) (v:Value) (l:List lT) (aaC:Value->Prop):Prop where
 row:w.ownsRow base Xr 5 v l.length (iJ l)
 ok:∀ x∈l,x.ok w
 mark:∀ x∈l,aaC x.mark
theorem PU.grown {w w':World} {base:Nat} {Xr:TypeId} {v:Value} {l:List lT} {p:Value->Prop} (h:PU w base Xr v l p) (k:w.grownBy w' none):PU w' base Xr v l p:=
 ⟨h.row.kept k (eW _),fun x hx=>(h.ok x hx).keep (fun b hb=>k.block b ((h.ok x hx).lt hb) aft),h.mark⟩
theorem acy {p:Prop} (h:p:=by
 go_roundw
 case rel=>exact ⟨k+1,by omega,by go_num,rfl,aa hgr (K _)⟩
 case measure=>simp[intOf];omega):p:=h
theorem Xu (base wb:Nat) (v0 v1:Value) (vB vI vS:Value) (eB eI eS:List lT) (w:World) (hW:dX w wb #[v0,v1,vB,vI,vS,.slice none 0 0])
  (hB:PU w base 57 vB eB PS) (hI:PU w base 60 vI eI aaw) (hS:PU w base 64 vS eS adH) (lB:eB.length<=140737488355328) (lI:eI.length<=140737488355328) (lS:eS.length<=140737488355328) :
  Calls Tryz.prog 8 #[.pointer (some ⟨wb,2,none⟩)] w fun e w'=>e = .returned (.bool true)/\w.grownBy w' none:=by
 obtain ⟨aB,cB,hvB⟩:=cu hB.row
 obtain ⟨aI,cI,hvI⟩:=cu hI.row
 obtain ⟨aS,cS,hvS⟩:=cu hS.row
 subst hvB hvI hvS
 have G:w.grownBy w none:=bh _ _
 go_enter Tryz.func8,Tryz.ntmps8
 go_wp2
 go_loopw [3,4,5,6,7,8,9] (fun o i _ _ _ _ _ wr=>∃ k:Nat,k<=eB.length/\i = .int .i64 k/\o = .bool true/\w.grownBy wr none) (fun _ i _ _ _ _ _ _=>eB.length-(intOf i).toNat)
 case atStart=>exact ⟨0,cE _,rfl,rfl,G⟩
 case round=>
  obtain ⟨k,hk,rfl,rfl,hgr⟩:=hrel;have Mh:=hW.grown hgr aft;have II:=hB.grown hgr;have hc:wr.cell? ⟨wb,2,none⟩=some (.slice aB eB.length cB):=(Mh.cell 2).trans rfl;by_cases hlt:k<eB.length
  ·have rF:(k:Int)<(eB.length:Int):=(by omega);have hk0:(0:Int)<=(k:Int):=(by omega);have hx:=II.ok eB[k] (cJ hlt);obtain ⟨m,hm⟩:=II.mark eB[k] (cJ hlt);obtain ⟨g0,hab⟩:∃ g0,aB=some ⟨g0,0,none⟩:=by
    rcases II.row.2 with ⟨h,h2⟩ | ⟨g,cap,cur,h,_⟩
    ·omega
    ·simp at h;exact ⟨g,h.1⟩
   subst hab;have hcell:∀ j,j<5->wr.cell? ⟨g0,k*5+j,none⟩=(eB[k]).cells[j]?:=by
    intro j hj;rw[II.row.cellAt (k*5+j) afp];exact uP eB k j hlt hj
   obtain ⟨X,hX⟩:=ar (eB[k]);rw[<-hX] at hx hcell hm;clear hX;obtain ⟨⟨pl,nl,cl⟩,⟨p1,n1,c1⟩,⟨p2,n2,c2⟩,⟨p3,n3,c3⟩,mk⟩:=X;have hm':mk = .int .u8 (m.toNat:Int):=hm;subst hm';clear hm;have q0:wr.cell? ⟨g0,k*5,none⟩=some (.slice pl nl cl):=hcell 0 afp;have q1:wr.cell? ⟨g0,k*5+1,none⟩=some (.slice p1 n1 c1):=hcell 1 afp;have q2:wr.cell? ⟨g0,k*5+2,none⟩=some (.slice p2 n2 c2):=hcell 2 afp;have q3:wr.cell? ⟨g0,k*5+3,none⟩=some (.slice p3 n3 c3):=hcell 3 afp;have q4:wr.cell? ⟨g0,k*5+4,none⟩=some (.int .u8 (m.toNat:Int)):=hcell 4 afp;obtain ⟨⟨b0,t0⟩,⟨b1,t1⟩,⟨b2,t2⟩,⟨b3,t3⟩⟩:=hx;simp only at b0 t0 b1 t1 b2 t2 b3 t3;have K:∀ o,wr.grownBy (wr.alloc o) none:=fun o=>aE wr o none;clear hcell II Mh hB hI hS hW;go_wp2_with (first|(go_at_call_of 13 pl;refine (vQ nl pl cl m _ b0 (t0.below (K _))).mono ?_;rintro e w' ⟨rfl,rfl⟩)|(go_at_call_of 13 p1;refine (vQ n1 p1 c1 m _ b1 (t1.below (K _))).mono ?_;rintro e w' ⟨rfl,rfl⟩)|(go_at_call_of 13 p2;refine (vQ n2 p2 c2 m _ b2 (t2.below (K _))).mono ?_;rintro e w' ⟨rfl,rfl⟩)|(go_at_call_of 13 p3;refine (vQ n3 p3 c3 m _ b3 (t3.below (K _))).mono ?_;rintro e w' ⟨rfl,rfl⟩))
   exact acy
  ·have rF:¬ (k:Int)<(eB.length:Int):=(by omega);clear II Mh;go_wp2;clear hc rF hlt hk;obtain ⟨wzB,ahB⟩:∃ w',w'=wr:=⟨wr,rfl⟩
   subst ahB;go_loopw [3,10,11,12,13,14,15] (fun o i _ _ _ _ _ wr=>∃ k:Nat,k<=eI.length/\i = .int .i64 k/\o = .bool true/\w.grownBy wr none) (fun _ i _ _ _ _ _ _=>eI.length-(intOf i).toNat)
   case atStart=>exact ⟨0,cE _,rfl,rfl,hgr⟩
   case round=>
    clear hgr;obtain ⟨k,hk,rfl,rfl,hgr⟩:=hrel;have Mh:=hW.grown hgr aft;have hrI:=hI.grown hgr;have hc:wr.cell? ⟨wb,3,none⟩=some (.slice aI eI.length cI):=(Mh.cell 3).trans rfl;by_cases hlt:k<eI.length
    ·have rF:(k:Int)<(eI.length:Int):=(by omega);have hk0:(0:Int)<=(k:Int):=(by omega);have hx:=hrI.ok eI[k] (cJ hlt);obtain ⟨m,hm⟩:=hrI.mark eI[k] (cJ hlt);obtain ⟨g0,hab⟩:∃ g0,aI=some ⟨g0,0,none⟩:=by
      rcases hrI.row.2 with ⟨h,h2⟩ | ⟨g,cap,cur,h,_⟩
      ·omega
      ·simp at h;exact ⟨g,h.1⟩
     subst hab;have hcell:∀ j,j<5->wr.cell? ⟨g0,k*5+j,none⟩=(eI[k]).cells[j]?:=by
      intro j hj;rw[hrI.row.cellAt (k*5+j) afp];exact uP eI k j hlt hj
     obtain ⟨X,hX⟩:=ar (eI[k]);rw[<-hX] at hx hcell hm;clear hX;obtain ⟨⟨pl,nl,cl⟩,⟨p1,n1,c1⟩,⟨p2,n2,c2⟩,⟨p3,n3,c3⟩,mk⟩:=X;have hm':mk = .int .i64 m:=hm;subst hm';clear hm;have q0:wr.cell? ⟨g0,k*5,none⟩=some (.slice pl nl cl):=hcell 0 afp;have q1:wr.cell? ⟨g0,k*5+1,none⟩=some (.slice p1 n1 c1):=hcell 1 afp;have q2:wr.cell? ⟨g0,k*5+2,none⟩=some (.slice p2 n2 c2):=hcell 2 afp;have q3:wr.cell? ⟨g0,k*5+3,none⟩=some (.slice p3 n3 c3):=hcell 3 afp;have q4:wr.cell? ⟨g0,k*5+4,none⟩=some (.int .i64 m):=hcell 4 afp;obtain ⟨⟨b0,t0⟩,⟨b1,t1⟩,⟨b2,t2⟩,⟨b3,t3⟩⟩:=hx;simp only at b0 t0 b1 t1 b2 t2 b3 t3;have K:∀ o,wr.grownBy (wr.alloc o) none:=fun o=>aE wr o none;clear hcell hrI Mh hB hI hS hW;go_wp2_with (first|(go_at_call_of 14 pl;refine (yf nl pl cl m _ b0 (t0.below (K _))).mono ?_;rintro e w' ⟨rfl,rfl⟩)|(go_at_call_of 14 p1;refine (yf n1 p1 c1 m _ b1 (t1.below (K _))).mono ?_;rintro e w' ⟨rfl,rfl⟩)|(go_at_call_of 14 p2;refine (yf n2 p2 c2 m _ b2 (t2.below (K _))).mono ?_;rintro e w' ⟨rfl,rfl⟩)|(go_at_call_of 14 p3;refine (yf n3 p3 c3 m _ b3 (t3.below (K _))).mono ?_;rintro e w' ⟨rfl,rfl⟩))
     exact acy
    ·have rF:¬ (k:Int)<(eI.length:Int):=(by omega);clear hrI Mh;go_wp2;clear hc rF hlt hk;obtain ⟨wzI,ahC⟩:∃ w',w'=wr:=⟨wr,rfl⟩
     subst ahC;go_loopw [3,16,17,18,19,20,21] (fun o i _ _ _ _ _ wr=>∃ k:Nat,k<=eS.length/\i = .int .i64 k/\o = .bool true/\w.grownBy wr none) (fun _ i _ _ _ _ _ _=>eS.length-(intOf i).toNat)
     case atStart=>exact ⟨0,cE _,rfl,rfl,hgr⟩
     case round=>
      clear hgr;obtain ⟨k,hk,rfl,rfl,hgr⟩:=hrel;have Mh:=hW.grown hgr aft;have hrS:=hS.grown hgr;have hc:wr.cell? ⟨wb,4,none⟩=some (.slice aS eS.length cS):=(Mh.cell 4).trans rfl;by_cases hlt:k<eS.length
      ·have rF:(k:Int)<(eS.length:Int):=(by omega);have hk0:(0:Int)<=(k:Int):=(by omega);have hx:=hrS.ok eS[k] (cJ hlt);obtain ⟨m,hm⟩:=hrS.mark eS[k] (cJ hlt);obtain ⟨g0,hab⟩:∃ g0,aS=some ⟨g0,0,none⟩:=by
        rcases hrS.row.2 with ⟨h,h2⟩ | ⟨g,cap,cur,h,_⟩
        ·omega
        ·simp at h;exact ⟨g,h.1⟩
       subst hab;have hcell:∀ j,j<5->wr.cell? ⟨g0,k*5+j,none⟩=(eS[k]).cells[j]?:=by
        intro j hj;rw[hrS.row.cellAt (k*5+j) afp];exact uP eS k j hlt hj
       obtain ⟨X,hX⟩:=ar (eS[k]);rw[<-hX] at hx hcell hm;clear hX;obtain ⟨⟨pl,nl,cl⟩,⟨p1,n1,c1⟩,⟨p2,n2,c2⟩,⟨p3,n3,c3⟩,mk⟩:=X;have hm':mk = .string m:=hm;subst hm';clear hm;have q0:wr.cell? ⟨g0,k*5,none⟩=some (.slice pl nl cl):=hcell 0 afp;have q1:wr.cell? ⟨g0,k*5+1,none⟩=some (.slice p1 n1 c1):=hcell 1 afp;have q2:wr.cell? ⟨g0,k*5+2,none⟩=some (.slice p2 n2 c2):=hcell 2 afp;have q3:wr.cell? ⟨g0,k*5+3,none⟩=some (.slice p3 n3 c3):=hcell 3 afp;have q4:wr.cell? ⟨g0,k*5+4,none⟩=some (.string m):=hcell 4 afp;obtain ⟨⟨b0,t0⟩,⟨b1,t1⟩,⟨b2,t2⟩,⟨b3,t3⟩⟩:=hx;simp only at b0 t0 b1 t1 b2 t2 b3 t3;have K:∀ o,wr.grownBy (wr.alloc o) none:=fun o=>aE wr o none;clear hcell hrS Mh hB hI hS hW;go_wp2_with (first|(go_at_call_of 15 pl;refine (yg nl pl cl m _ b0 (t0.below (K _))).mono ?_;rintro e w' ⟨rfl,rfl⟩)|(go_at_call_of 15 p1;refine (yg n1 p1 c1 m _ b1 (t1.below (K _))).mono ?_;rintro e w' ⟨rfl,rfl⟩)|(go_at_call_of 15 p2;refine (yg n2 p2 c2 m _ b2 (t2.below (K _))).mono ?_;rintro e w' ⟨rfl,rfl⟩)|(go_at_call_of 15 p3;refine (yg n3 p3 c3 m _ b3 (t3.below (K _))).mono ?_;rintro e w' ⟨rfl,rfl⟩))
       exact acy
      ·have rF:¬ (k:Int)<(eS.length:Int):=(by omega);have PK:wr.cell? ⟨wb,5,none⟩=some (.slice none 0 0):=(Mh.cell 5).trans rfl;clear hrS Mh hB hI hS hW;go_wp2;refine wp_loop_rounds 1 ?_;rw[rounds_succ];go_wp2;go_ret;exact ⟨rfl,hgr⟩
section
variable {S:Type} {C:S->Nat->World->Prop} {pq:S->Nat->Nat->Prop}
theorem Sep.acts (L:Loc C pq) {B:Nat} {s s':S} {w w':World} (h:Sep C pq B s w) (K:Nat->Prop) (ex:Nat->Prop) (f:lN w w' ex) (hx:∀ b,ex b->(∃ k,K k/\pq s k b)\/∀ j,¬ pq s j b)
  (hc:∀ k,K k->C s' k w') (hf:∀ k b,K k->pq s' k b->B<=b/\b<w'.heap.size/\((∃ j,K j/\pq s j b)\/∀ j,¬ pq s j b)) (hd:∀ i j b,K i->K j->pq s' i b->pq s' j b->i=j)
  (ho:∀ j,¬ K j->(C s j w'->C s' j w')/\∀ b,pq s' j b->pq s j b):Sep C pq B s' w':=by
 have z:=f.size
 have hroom:=h.room
 have hkeep:∀ j,¬ K j->∀ b,pq s j b->w'.heap[b]?=w.heap[b]?:=fun j hj b hb=>f.block b (h.lt j b hb) (fun e=>by
  rcases hx b e with ⟨k,hk,e2⟩ | e2
  ·exact hj (by rw[h.one j k b hb e2];exact hk)
  ·exact e2 j hb)
 refine ⟨fun j=>?_,fun j b hb=>?_,fun j b hb=>?_,fun i j b hi hj=>?_,by omega⟩
 ·by_cases e:K j
  ·exact hc j e
  ·exact (ho j e).1 (L s j w w' (h.here j) (hkeep j e))
 ·by_cases e:K j
  ·exact (hf j b e hb).2.1
  ·have:=h.lt j b ((ho j e).2 b hb);omega
 ·by_cases e:K j
  ·exact (hf j b e hb).1
  ·exact h.base j b ((ho j e).2 b hb)
 ·by_cases e:K i
  ·by_cases e2:K j
   ·exact hd i j b e e2 hi hj
   ·have q:=(ho j e2).2 b hj;rcases (hf i b e hi).2.2 with ⟨k,hk,r⟩ | r
    ·exact absurd (by rw[h.one j k b q r];exact hk) e2
    ·exact absurd q (r j)
  ·have p:=(ho i e).2 b hi;by_cases e2:K j
   ·rcases (hf j b e2 hj).2.2 with ⟨k,hk,r⟩ | r
    ·exact absurd (by rw[h.one i k b p r];exact hk) e
    ·exact absurd p (r i)
   ·exact h.one i j b p ((ho j e2).2 b hj)
end
structure uF where
 P:World->Prop
 foot:Nat->Prop
 loc:∀ w w',P w->(∀ b,foot b->w'.heap[b]?=w.heap[b]?)->P w'
def uF.emp:uF:=⟨fun _=>True,fun _=>False,fun _ _ _ _=>trivial⟩
structure WD (PP QP:Type) where
 pv:Value
 qv:Value
 bv:Value
 iv:Value
 sv:Value
 dv:Value
 ps:List PP
 qs:List QP
 eb:List lT
 ei:List lT
 es:List lT
 ed:List lT
abbrev WD.cells {PP QP:Type} (d:WD PP QP):Array Value:=#[d.pv,d.qv,d.bv,d.iv,d.sv,d.dv]
structure uQ (PP QP:Type) where
 pas:PP->uF
 pb:PP->Nat
 jU:QP->uF
 qb:QP->Nat
def ptrTo (b:Nat):Value:=.pointer (some ⟨b,0,none⟩)
def tu (w:World) (m:Value) (s:Sl):Prop:=s.2.1<=9223372036854775807/\D5 w s.1 (List.replicate s.2.1 [.slice none 0 0,m]).flatten
def lT.okD (w:World) (x:lT):Prop:=tu w x.mark x.l/\tu w x.mark x.one/\tu w x.mark x.two/\tu w x.mark x.three
def PV.on (l:List lT) (b:Nat):Prop:=∃ x∈l,x.on b
variable {PP QP:Type} (D:uQ PP QP) (base wb:Nat)
def WD.C (d:WD PP QP) (k:Nat) (w:World):Prop:=
 match k with
 | 0=>dX w wb d.cells
 | 1=>w.ownsRow base 51 1 d.pv d.ps.length (d.ps.map fun p=>ptrTo (D.pb p))
 | 2=>w.ownsRow base 54 1 d.qv d.qs.length (d.qs.map fun q=>ptrTo (D.qb q))
 | 3=>w.ownsRow base 57 5 d.bv d.eb.length (iJ d.eb)
 | 4=>∀ x∈d.eb,x.ok w/\PS x.mark
 | 5=>w.ownsRow base 60 5 d.iv d.ei.length (iJ d.ei)
 | 6=>∀ x∈d.ei,x.ok w/\aaw x.mark
 | 7=>w.ownsRow base 64 5 d.sv d.es.length (iJ d.es)
 | 8=>∀ x∈d.es,x.ok w/\adH x.mark
 | 9=>w.ownsRow base 68 5 d.dv d.ed.length (iJ d.ed)
 | 10=>∀ x∈d.ed,x.okD w/\aaw x.mark
 | k+11=>if k % 2=0 then ∀ p,d.ps[k / 2]?=some p->(D.pas p).P w else ∀ q,d.qs[k / 2]?=some q->(D.jU q).P w
def WD.F (d:WD PP QP) (k b:Nat):Prop:=
 match k with
 | 0=>b=wb
 | 1=>d.pv.ownBlock=some b
 | 2=>d.qv.ownBlock=some b
 | 3=>d.bv.ownBlock=some b
 | 4=>PV.on d.eb b
 | 5=>d.iv.ownBlock=some b
 | 6=>PV.on d.ei b
 | 7=>d.sv.ownBlock=some b
 | 8=>PV.on d.es b
 | 9=>d.dv.ownBlock=some b
 | 10=>PV.on d.ed b
 | k+11=>if k % 2=0 then ∃ p,d.ps[k / 2]?=some p/\(D.pas p).foot b else ∃ q,d.qs[k / 2]?=some q/\(D.jU q).foot b
theorem tu.keep {w w':World} {m:Value} {s:Sl} (h:tu w m s) (k:∀ b,s.on b->w'.heap[b]?=w.heap[b]?):tu w' m s:=by
 refine ⟨h.1,fun j u hu=>?_⟩;obtain ⟨b,off,e1,e2⟩:=h.2 j u hu;have hp:0<s.2.1:=by
  rcases Nat.eq_zero_or_pos s.2.1 with e | e
  ·rw[e] at hu;simp at hu
  ·exact e
 refine ⟨b,off,e1,?_⟩;rw[World.cell?_of_block (w:=w) (w':=w') (a:=⟨b,off+j,none⟩) (k b ⟨off,e1,hp⟩)];exact e2
theorem WD.loc:Loc (WD.C D base wb) (WD.F D wb):=by
 intro d k w w' h hk;have row:∀ {e:TypeId} {size:Nat} {v:Value} {n:Nat} {xs:List Value},w.ownsRow base e size v n xs->(∀ b,v.ownBlock=some b->w'.heap[b]?=w.heap[b]?)->w'.ownsRow base e size v n xs:=fun a b=>eF a b;match k,h,hk with
 | 0,h,hk=>exact dX.kept h (hk wb rfl)
 | 1,h,hk=>exact row h hk
 | 2,h,hk=>exact row h hk
 | 3,h,hk=>exact row h hk
 | 4,h,hk=>exact fun x hx=>⟨(h x hx).1.keep (fun b hb=>hk b ⟨x,hx,hb⟩),(h x hx).2⟩
 | 5,h,hk=>exact row h hk
 | 6,h,hk=>exact fun x hx=>⟨(h x hx).1.keep (fun b hb=>hk b ⟨x,hx,hb⟩),(h x hx).2⟩
 | 7,h,hk=>exact row h hk
 | 8,h,hk=>exact fun x hx=>⟨(h x hx).1.keep (fun b hb=>hk b ⟨x,hx,hb⟩),(h x hx).2⟩
 | 9,h,hk=>exact row h hk
 | 10,h,hk=>exact fun x hx=>⟨⟨(h x hx).1.1.keep (fun b hb=>hk b ⟨x,hx,.inl hb⟩),(h x hx).1.2.1.keep (fun b hb=>hk b ⟨x,hx,.inr (.inl hb)⟩),(h x hx).1.2.2.1.keep (fun b hb=>hk b ⟨x,hx,.inr (.inr (.inl hb))⟩),(h x hx).1.2.2.2.keep (fun b hb=>hk b ⟨x,hx,.inr (.inr (.inr hb))⟩)⟩,(h x hx).2⟩
 | k+11,h,hk=>
  simp only[WD.C,WD.F] at h hk ⊢;by_cases e:k % 2=0
  ·rw[if_pos e] at h ⊢;simp only[e,ez] at hk;exact fun p hp=>(D.pas p).loc w w' (h p hp) (fun b hb=>hk b ⟨p,hp,hb⟩)
  ·rw[if_neg e] at h ⊢;simp only[e,eC] at hk;exact fun q hq=>(D.jU q).loc w w' (h q hq) (fun b hb=>hk b ⟨q,hq,hb⟩)
abbrev iK (d:WD PP QP) (w:World):Prop:=Sep (WD.C D base wb) (WD.F D wb) base d w
variable {D base wb}
theorem iK.grown {d:WD PP QP} {w w':World} (h:iK D base wb d w) (g:w.grownBy w' none):iK D base wb d w':=Sep.grown (WD.loc D base wb) h g
end Go.Proofs.YteknelimjfgmaaaGreatDoor
namespace Go.Proofs.YteknelimjfgmaaaGreatDoor
open Go.RowKit
set_option maxRecDepth 100000
variable {PP QP:Type} {D:uQ PP QP} {base wb:Nat}
theorem iK.byte {d:WD PP QP} {w w':World} {gB:Option Nat} (h:iK D base wb d w) (hg:∀ g,gB=some g->base<=g/\g<w.heap.size/\∀ j,¬ WD.F D wb d j g) (k:EU base wb 2 57 PS gB d.bv d.cells d.eb w w') :
  (∃ x v,iK D base wb {d with bv:=v,eb:=d.eb++[x]} w'/\∀ j b,WD.F D wb {d with bv:=v,eb:=d.eb++[x]} j b->WD.F D wb d j b\/gB=some b\/w.heap.size<=b)/\Below base w w':=by
 obtain ⟨x,v,hmk,h1,h2,h3,h4,h5,h6⟩:=k
 have z:=h4.size
 have hroom:=h.room
 have hnew:∀ b,w.heap.size<=b->∀ j,¬ WD.F D wb d j b:=fun b hb j hj=>by have:=h.lt j b hj;omega
 have hex:∀ b,(b=wb\/d.bv.ownBlock=some b\/gB=some b)->(∃ k,(k=0\/k=3\/k=4)/\WD.F D wb d k b)\/∀ j,¬ WD.F D wb d j b:=by
  rintro b (e | e | e)
  ·exact .inl ⟨0,.inl rfl,e⟩
  ·exact .inl ⟨3,.inr (.inl rfl),e⟩
  ·exact .inr (hg b e).2.2
 have hent:∀ y∈d.eb,∀ b,y.on b->WD.F D wb d 4 b:=fun y hy b hb=>⟨y,hy,hb⟩
 have Xv:∀ b,v.ownBlock=some b->WD.F D wb d 3 b\/w.heap.size<=b:=h5
 have hwb:WD.F D wb d 0 wb:=rfl
 have hxn:∀ b,x.on b->base<=b/\∀ j,¬ WD.F D wb d j b:=fun b hb=>by
  rcases (h6 b hb).2.2 with e | e
  ·exact ⟨(hg b e).1,(hg b e).2.2⟩
  ·exact ⟨by omega,hnew b e⟩
 refine ⟨⟨x,v,Sep.acts (WD.loc D base wb) h (fun k=>k=0\/k=3\/k=4) _ h4 hex ?_ ?_ ?_ ?_,?_⟩,h4.below hroom ?_⟩
 ·rintro k (rfl | rfl | rfl)
  ·exact h1
  ·show w'.ownsRow base 57 5 v (d.eb++[x]).length (iJ (d.eb++[x]));rw[bj];exact h2
  ·intro y hy;rcases eg.1 hy with hy | hy
   ·have hold:=h.here 4 y hy;refine ⟨hold.1.keep (fun b hb=>h4.block b (h.lt _ b (hent y hy b hb)) ?_),hold.2⟩;rintro (e | e | e)
    ·have:=h.one 4 0 b (hent y hy b hb) e;omega
    ·have:=h.one 4 3 b (hent y hy b hb) e;omega
    ·exact (hg b e).2.2 _ (hent y hy b hb)
   ·rw[da.1 hy];exact ⟨h3,hmk⟩
 ·rintro k b (rfl | rfl | rfl) hb
  ·have e:b=wb:=hb;subst e;exact ⟨h.base 0 b hwb,h1.lt,.inl ⟨0,.inl rfl,hwb⟩⟩
  ·have e:v.ownBlock=some b:=hb;refine ⟨(h2.lt b e).1,(h2.lt b e).2,?_⟩;rcases Xv b e with e2 | e2
   ·exact .inl ⟨3,.inr (.inl rfl),e2⟩
   ·exact .inr (hnew b e2)
  ·obtain ⟨y,hy,hb⟩:=hb;rcases eg.1 hy with hy | hy
   ·have e:=hent y hy b hb;exact ⟨h.base _ b e,by have:=h.lt _ b e;omega,.inl ⟨4,.inr (.inr rfl),e⟩⟩
   ·rw[da.1 hy] at hb;exact ⟨(hxn b hb).1,h3.lt hb,.inr (hxn b hb).2⟩
 ·have h03:v.ownBlock≠some wb:=fun e=>by
   rcases Xv wb e with e2 | e2
   ·have:=h.one 0 3 wb hwb e2;omega
   ·exact hnew wb e2 0 hwb
  have h04:¬ PV.on (d.eb++[x]) wb:=by
   rintro ⟨y,hy,hb⟩;rcases eg.1 hy with hy | hy
   ·have:=h.one 0 4 wb hwb (hent y hy wb hb);omega
   ·rw[da.1 hy] at hb;exact (h6 wb hb).1 rfl
  have h34:∀ b,v.ownBlock=some b->¬ PV.on (d.eb++[x]) b:=by
   rintro b e ⟨y,hy,hb⟩;rcases eg.1 hy with hy | hy
   ·rcases Xv b e with e2 | e2
    ·have:=h.one 3 4 b e2 (hent y hy b hb);omega
    ·exact hnew b e2 _ (hent y hy b hb)
   ·rw[da.1 hy] at hb;exact (h6 b hb).2.1 e
  rintro i j b (rfl | rfl | rfl) (rfl | rfl | rfl) hi hj
  ·rfl
  ·have e:b=wb:=hi;subst e;exact absurd hj h03
  ·have e:b=wb:=hi;subst e;exact absurd hj h04
  ·have e:b=wb:=hj;subst e;exact absurd hi h03
  ·rfl
  ·exact absurd hj (h34 b hi)
  ·have e:b=wb:=hj;subst e;exact absurd hi h04
  ·exact absurd hi (h34 b hj)
  ·rfl
 ·intro j hj;have n0:j≠0:=fun e=>hj (.inl e);have n1:j≠3:=fun e=>hj (.inr (.inl e));have n2:j≠4:=fun e=>hj (.inr (.inr e));match j,n0,n1,n2 with
  | 1,_,_,_=>exact ⟨fun q=>q,fun _ q=>q⟩
  | 2,_,_,_=>exact ⟨fun q=>q,fun _ q=>q⟩
  | 3,_,n1,_=>first | exact absurd rfl n1 | exact ⟨fun q=>q,fun _ q=>q⟩
  | 4,_,_,n2=>first | exact absurd rfl n2 | exact ⟨fun q=>q,fun _ q=>q⟩
  | 5,_,n1,_=>first | exact absurd rfl n1 | exact ⟨fun q=>q,fun _ q=>q⟩
  | 6,_,_,n2=>first | exact absurd rfl n2 | exact ⟨fun q=>q,fun _ q=>q⟩
  | 7,_,n1,_=>first | exact absurd rfl n1 | exact ⟨fun q=>q,fun _ q=>q⟩
  | 8,_,_,n2=>first | exact absurd rfl n2 | exact ⟨fun q=>q,fun _ q=>q⟩
  | 9,_,_,_=>exact ⟨fun q=>q,fun _ q=>q⟩
  | 10,_,_,_=>exact ⟨fun q=>q,fun _ q=>q⟩
  | k+11,_,_,_=>exact ⟨fun q=>q,fun _ q=>q⟩
 ·intro j b hb;by_cases e1:j=3
  ·subst e1;rcases Xv b hb with e | e
   ·exact .inl e
   ·exact .inr (.inr e)
  ·by_cases e2:j=4
   ·subst e2;obtain ⟨y,hy,hb⟩:=hb;rcases eg.1 hy with hy | hy
    ·exact .inl (hent y hy b hb)
    ·rw[da.1 hy] at hb;exact .inr (h6 b hb).2.2
   ·left;match j,e1,e2 with
    | 0,_,_=>exact hb
    | 1,_,_=>exact hb
    | 2,_,_=>exact hb
    | 3,n1,_=>first | exact absurd rfl n1 | exact hb
    | 4,_,n2=>first | exact absurd rfl n2 | exact hb
    | 5,n1,_=>first | exact absurd rfl n1 | exact hb
    | 6,_,n2=>first | exact absurd rfl n2 | exact hb
    | 7,n1,_=>first | exact absurd rfl n1 | exact hb
    | 8,_,n2=>first | exact absurd rfl n2 | exact hb
    | 9,_,_=>exact hb
    | 10,_,_=>exact hb
    | k+11,_,_=>exact hb
 ·rintro b (e | e | e)
  ·rw[e];exact h.base 0 wb hwb
  ·exact h.base 3 b e
  ·exact (hg b e).1
theorem uR {base:Nat} {w w':World} (h:w.grownBy w' none) (hb:base<=w.heap.size):Below base w w':=⟨h.os,h.tape,h.output,h.size,fun k hk=>h.block k afp aft⟩
structure More (D:uQ PP QP) (base wb c:Nat) (d:WD PP QP) (w w':World):Prop where
 sep:∃ d',iK D base wb d' w'/\d'.ps=d.ps/\d'.qs=d.qs/\d'.eb.length<=d.eb.length+c/\d'.ei.length<=d.ei.length+c/\d'.es.length<=d.es.length+c/\d'.dv=d.dv/\d'.ed=d.ed
 below:Below base w w'
theorem PW (d:WD PP QP) (v:Value) (p:Option Pl) (bs:List UInt8) (n:Nat) (w:World) (hS:iK D base wb d w) (hO:Out w v p bs) (hn:Hid (bs.length=n)) (hnl:n<=100000) (hfr:∀ q,p=some q->base<=q.g/\∀ j,¬ WD.F D wb d j q.g) (hll:(d.eb.length+1)*112<=140737488355328) :
  Calls Tryz.prog 23 #[.pointer (some ⟨wb,2,none⟩),v] w fun e w'=>e = .returned (.tuple #[])/\(∃ x v',iK D base wb {d with bv:=v',eb:=d.eb++[x]} w'/\∀ j b,WD.F D wb {d with bv:=v',eb:=d.eb++[x]} j b->WD.F D wb d j b\/Pl.blk p=some b\/w.heap.size<=b)/\Below base w w'/\lN w w' (fun b=>b=wb\/d.bv.ownBlock=some b\/Pl.blk p=some b):=by
 have h0:dX w wb d.cells:=hS.here 0
 have h3:w.ownsRow base 57 5 d.bv d.eb.length (iJ d.eb):=hS.here 3
 have hwb:WD.F D wb d 0 wb:=rfl
 have hbv:d.bv.ownBlock≠some wb:=fun e=>by have:=hS.one 0 3 wb hwb e;omega
 have hB:∀ g,Pl.blk p=some g->∃ q,p=some q/\q.g=g:=by
  intro g hg;cases p with
  | none=>cases hg
  | some q=>exact ⟨q,rfl,by injection hg⟩
 refine (Xt base wb n v p bs d.eb d.bv d.cells w h0 rfl h3 hbv hS.room hn hnl hO (fun g hg=>?_) hll).mono ?_
 ·obtain ⟨q,hq,rfl⟩:=hB g hg;exact ⟨fun e=>(hfr q hq).2 0 e,fun e=>(hfr q hq).2 3 e⟩
 ·rintro e w' ⟨rfl,hM⟩;have hM':=hM;obtain ⟨x,v',_,_,_,_,h4,_⟩:=hM';have R:=hS.byte (fun g hg=>by obtain ⟨q,hq,rfl⟩:=hB g hg;exact ⟨(hfr q hq).1,hO.Sa q hq,(hfr q hq).2⟩) hM;exact ⟨rfl,R.1,R.2,h4⟩
theorem Out.Tg {w w':World} {ex:Nat->Prop} {v:Value} {p:Option Pl} {bs:List UInt8} (h:Out w v p bs) (f:lN w w' ex) (hx:∀ q,p=some q->¬ ex q.g):Out w' v p bs:=by
 rcases h with h | ⟨q,hp,hv,h1,h2,h3,h4⟩
 ·exact .inl h
 ·have hb:w'.heap[q.g]?=w.heap[q.g]?:=f.block q.g h3.lt (hx q hp);obtain ⟨cur,e,k1,k2⟩:=h3;refine .inr ⟨q,hp,hv,h1,h2,⟨cur,e,hb.trans k1,k2⟩,fun j u hu=>?_⟩;rw[World.cell?_of_block (w:=w) (w':=w') (a:=⟨q.g,q.off+j,none⟩) hb];exact h4 j u hu
theorem Out.at' {w:World} {ao:Option Addr} {n cap:Nat} {p:Option Pl} {bs:List UInt8} (h:Out w (.slice ao n cap) p bs) (hn:Hid (bs.length=n)):At w ao bs:=by
 obtain ⟨a,c,e,_,_,h4,_⟩:=h.open hn;injection e with e1 e2 e3;subst e1;exact h4
theorem Tryz.Mi:(Tryz.prog.info? 48).map (·.size)=some 41:=by kernel_rfl
theorem BJ {P:Program} {ops:Array Oper} {rest:List Oper} {o:Oper} {a:Act} {w:World} {Q:Exit->Act->World->Prop} (hgd:o.guard=none) (ty:TypeId) (x:Operand) (ho:o.op = .load ty x)
  (ad:Addr) (hx:a.eval x = .pointer (some ad)) (cs:Array Value) (d:TypeDesc) (hc:∀ j v,cs.toList[j]?=some v->w.cell? (ad.add j)=some v)
  (hu:P.underlying ty=some d) (hd:(match d with | .struct _ | .array _ _=>true | _=>false)=true) (hi:(P.info? ty).map (·.size)=some cs.size)
  (h:wpList P ops Q rest (a.put o.dst (.agg cs)) w):wpList P ops Q (o::rest) a w:=by
 refine wpList_plain hgd fun K hK=>?_
 have hl:(loadCells ad cs.toList.length).run P w = .ok cs.toList.toArray w:=run_loadCells_list (P:=P) w ad cs.toList hc
 have hrun:(loadVar ty ad).run P w = .ok (.agg cs) w:=by
  cases hq:P.info? ty with
  | none=>simp[hq] at hi
  | some i=>
   have hs:i.size=cs.size:=(by simpa[hq] using hi);have hagg:(isAgg ty).run P w = .ok true w:=by
    unfold isAgg;rw[Sem.run_bind,run_underlying hu w];cases d <;> simp_all
   simp only[db,Array.toArray_toList] at hl;simp[loadVar,Sem.run_bind,hagg,sizeOf,typeInfo,hq,hs,hl]
 unfold Oper.wp execOp
 simp only[ho,hx,Instr.loadAt,Instr.sureAddr,Sem.run_bind,Sem.run_pure,Result.andThen_ok,hrun]
 exact hK _ _ h
def VT (D:uQ PP QP) (wb:Nat) (d:WD PP QP) (b:Nat):Prop:=∃ j,j≠1/\WD.F D wb d j b
structure Lc (D:uQ PP QP) (wb:Nat) (d:WD PP QP) (w w':World):Prop where
 pv:w'.cell? ⟨wb,0,none⟩=some d.pv
 blk:∀ b,b<w.heap.size->¬ VT D wb d b->w'.heap[b]?=w.heap[b]?
end Go.Proofs.YteknelimjfgmaaaGreatDoor
