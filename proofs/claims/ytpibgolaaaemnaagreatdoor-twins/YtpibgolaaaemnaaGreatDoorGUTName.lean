/-
  
  
-/
import Derived.Test.YtpibgolaaaemnaaGreatDoorGUTSame
import Derived.Test.YtpibgolaaaemnaaGreatDoorGUKCame
import Derived.Deep.RegionHeld3
import Derived.Deep.MidRow
import Derived.Laws.Tables
import Derived.Test.YtpibgolaaaemnaaGreatDoorGUTState
import Derived.Test.YtpibgolaaaemnaaGreatDoorGUPWriteB
namespace Go.Proofs.YtpibgolaaaemnaaGreatDoor
open Go.RowKit
theorem zJ:∀ k,k<7→∃ T:List UInt8,ru[k]?=some (.string ⟨T.toArray⟩)∧T.length≤6∧(T=zI→k=1)∧(k=1→T=zI)
 | 0,_=>⟨[116,103,115],rfl,by decide,by decide,by decide⟩
 | 1,_=>⟨[97,108],rfl,by decide,by decide,by decide⟩
 | 2,_=>⟨[119,101,98],rfl,by decide,by decide,by decide⟩
 | 3,_=>⟨[98,111],rfl,by decide,by decide,by decide⟩
 | 4,_=>⟨[100,98,47,49],rfl,by decide,by decide,by decide⟩
 | 5,_=>⟨[120],rfl,by decide,by decide,by decide⟩
 | 6,_=>⟨[110,111,98,111,100,121],rfl,by decide,by decide,by decide⟩
 | k+7,h=>absurd h (by omega)
theorem JE (W:World) (o:Obj) (vs:Array Value) (e:TypeId):bI ((W.alloc o).alloc (.cells vs e)) (W.heap.size+1) vs:=by
 have h:=bI.new (W.alloc o) vs e
 rw[World.size_alloc] at h
 exact h
section
variable {P:Program} {ops:Array Oper} {Q:Exit→Act→World→Prop} {md:Region.Mode} {S:World→Prop}
theorem take_at {i t:Nat} {oi:Oper} (v:Value) {fuel:Nat} {listed:Array Bool} {tmps:Array Value} {df:List Deferred} {w:World} (hi:ops.toList[i]?=some oi) (hd:oi.dst=some t)
  (hs:Region.noSelect ops=true) (hf:Region.free md ops listed i=true) (hr:(Region.ready md ops listed).contains i=true)
  (hQ:∀ c a w,Q (.panic c) (a.put oi.dst v) w→Q (.panic c) a w) (hy:YieldsIf P ops S oi v ⟨tmps,df⟩) (hS:S w)
  (h:wpAnyH P md ops Q S fuel (listed.setIfInBounds i true) ⟨tmps.setIfInBounds t v,df⟩ w):wpAnyH P md ops Q S (fuel+1) listed ⟨tmps,df⟩ w:=by
 refine wpAnyH_take (by rw[←Array.getElem?_toList];exact hi) hs hf hr hQ hy hS ?_
 rw[hd]
 exact h
theorem ready_one {i:Nat} {o:Oper} {fuel:Nat} {listed:Array Bool} {a:Act} {w:World} (hi:ops.toList[i]?=some o) (hr:Region.ready md ops listed=[i])
  (h:∀ K':Act→World→Prop,Shut (∀ a w,S w→(S w→wpAnyH P md ops Q S fuel (listed.setIfInBounds i true) a w)→K' a w)→if Region.wanted o (yielded ops a.tmps)=true then Oper.wp P o a w K' Q else K' (a.put o.dst undef) w) :
  wpAnyH P md ops Q S (fuel+1) listed a w:=
 wpAnyH_ready (rs:=[i]) hr (by simp) (AllReadyH.cons (by rw[←Array.getElem?_toList];exact hi) h AllReadyH.nil)
theorem mU {i j:Nat} {o o':Oper} {fuel:Nat} {listed:Array Bool} {a:Act} {w:World} (hi:ops.toList[i]?=some o) (hj:ops.toList[j]?=some o') (hr:Region.ready md ops listed=[i,j])
  (h:∀ K':Act→World→Prop,Shut (∀ a w,S w→(S w→wpAnyH P md ops Q S fuel (listed.setIfInBounds i true) a w)→K' a w)→if Region.wanted o (yielded ops a.tmps)=true then Oper.wp P o a w K' Q else K' (a.put o.dst undef) w)
  (h':∀ K':Act→World→Prop,Shut (∀ a w,S w→(S w→wpAnyH P md ops Q S fuel (listed.setIfInBounds j true) a w)→K' a w)→if Region.wanted o' (yielded ops a.tmps)=true then Oper.wp P o' a w K' Q else K' (a.put o'.dst undef) w) :
  wpAnyH P md ops Q S (fuel+1) listed a w:=
 wpAnyH_ready (rs:=[i,j]) hr (by simp) (AllReadyH.cons (by rw[←Array.getElem?_toList];exact hi) h (AllReadyH.cons (by rw[←Array.getElem?_toList];exact hj) h' AllReadyH.nil))
theorem iB {fuel:Nat} {listed:Array Bool} {a:Act} {W:World} (X:World→Prop) (hX:X W) (h:∀ V,X V→wpAnyH P md ops Q S fuel listed a V):wpAnyH P md ops Q S fuel listed a W:=h W hX
end
theorem JF (vs:List Value) (h1:∀ v∈vs,v.cells=#[v]):∀ (k:Nat) (cur:Array Value),k+vs.length≤cur.size→
  Instr.fill (fun i=>some (i*1,1)) cur ((vs.zipIdx k).map fun x=>(x.2,x.1))=some ((cur.toList.take k++vs++cur.toList.drop (k+vs.length)).toArray):=by
 induction vs with
 | nil=>
  intro k cur _
  simp[Instr.fill]
 | cons v vs ih=>
  intro k cur hk
  simp only[List.length_cons] at hk
  have hv:=h1 v (by simp)
  have ih':=ih (fun u hu=>h1 u (by simp[hu])) (k+1)
  simp only[List.zipIdx_cons,List.map_cons,Instr.fill,hv]
  have e0:(decide (#[v].size≠1) || decide (k*1 + #[v].size > cur.size))=false:=by
   have h2:¬ (k*1+1 > cur.size):=by omega
   simp
   omega
  have e1:Array.foldl (fun cs x=>cs.setIfInBounds (k*1+x.snd) x.fst) cur #[v].zipIdx=cur.setIfInBounds k v:=by
   show Array.foldl _ cur #[(v,0)]=_
   simp
  rw[e0,e1]
  simp only[Bool.false_eq_true,if_false]
  rw[ih' (cur.setIfInBounds k v) (by simp;omega)]
  congr 2
  have hk':k<cur.toList.length:=by simp;omega
  rw[Array.toList_setIfInBounds,List.length_cons]
  rw[show k+(vs.length+1)=k+1+vs.length from by omega]
  rw[List.drop_set_of_lt (by omega)]
  rw[List.take_succ_eq_append_getElem (by simpa using hk'),List.getElem_set_self,List.take_set_of_le (by omega)]
  simp
theorem Xf {P:Program} (w:World) (t e:TypeId) (i:TypeInfo) (z:Value) (ht:P.underlying t=some (.slice e)) (hi:P.info? e=some i) (hs:i.size=1) (hz:i.zero=some z) (vs:List Value) (n:Nat) (hn:vs.length=n) (h0:0<n) (h9:n≤1000) (h1:∀ v∈vs,v.cells=#[v]) :
  (Instr.buildSlice t n ((vs.zipIdx.map fun x=>(x.2,x.1)).toArray)).run P w = .ok (.slice (some ⟨w.heap.size,0,none⟩) n n) (w.alloc (.cells vs.toArray e)):=by
 subst hn
 have hf:Instr.fill (fun i=>some (i*1,1)) ((Array.range (vs.length*1)).map (z.cells[· % z.cells.size]!)) (vs.zipIdx.map fun x=>(x.2,x.1))=some vs.toArray:=by
  rw[JF vs h1 0 _ (by simp)]
  simp
 have hb:¬ (16777216<vs.length*1):=by omega
 have hne:¬ (vs.length*1=0):=by omega
 simp only[Nat.mul_one] at hb hne
 unfold Instr.buildSlice
 simp[run_underlying ht,sizeOf,typeInfo,hi,hs,zeroValue,hz,hb,hne]
 simp only[Nat.mul_one] at hf
 rw[hf]
 simp[newRow]
theorem vQ {P:Program} {o:Oper} {a:Act} {w:World} {K:Act→World→Prop} {Q:Exit→Act→World→Prop} (t:TypeId) (n:Nat) (parts:Array (Nat×Operand)) (hop:o.op = .buildSlice t n parts) (e:TypeId) (i:TypeInfo) (z:Value) (ht:P.underlying t=some (.slice e)) (hi:P.info? e=some i) (hs:i.size=1) (hz:i.zero=some z)
  (vs:List Value) (hev:(parts.toList.map fun x=>(x.1,a.eval x.2))=vs.zipIdx.map fun x=>(x.2,x.1)) (hn:vs.length=n) (h0:0<n) (h9:n≤1000) (h1:∀ v∈vs,v.cells=#[v]) (hK:K (a.put o.dst (.slice (some ⟨w.heap.size,0,none⟩) n n)) (w.alloc (.cells vs.toArray e))):Oper.wp P o a w K Q:=by
 have hr:=Xf (P:=P) w t e i z ht hi hs hz vs n hn h0 h9 h1
 unfold Oper.wp
 simp only[execOp,hop]
 have he:(parts.map fun (i,x)=>(i,a.eval x))=(vs.zipIdx.map fun x=>(x.2,x.1)).toArray:=by
  rw[←hev]
  apply Array.ext'
  simp
 rw[he]
 simp[hr]
 exact hK
theorem lK {P:Program} {o:Oper} {a:Act} (w:World) (t:TypeId) (parts:Array (Nat×Operand)) (hop:o.op = .build t parts) (vs:List (Nat×Value)) (hev:(parts.toList.map fun x=>(x.1,a.eval x.2))=vs) (cells:Array Value) (h:P.built t vs=some cells):(execOp a.eval o).run P w = .ok (.value (.agg cells)) w:=by
 have hr:=run_build (P:=P) w t vs.toArray cells (by simpa using h)
 simp only[execOp,hop]
 have he:(parts.map fun (i,x)=>(i,a.eval x))=vs.toArray:=by
  rw[←hev]
  apply Array.ext'
  simp
 rw[he]
 simp[hr]
end Go.Proofs.YtpibgolaaaemnaaGreatDoor
namespace Go.Proofs.YtpibgolaaaemnaaGreatDoor
open Go.RowKit
set_option maxRecDepth 100000
abbrev tF (now:Int) (v:Value):Array Value:=#[.int .i64 0,.string ⟨#[]⟩,.int .u64 0,.int .i64 0,.int .i64 0,.int .i64 0,.int .i64 0,.int .i64 now,v]
theorem dS {a w:World} (h:a.grownBy w none):a.grownBy w.drew none:=aO h 1
theorem aeY (n:Int):In64 (wrap64 n):=by unfold wrap64;exact ⟨by omega,by omega⟩
theorem JG (n:Int):In64 (IntKind.i64.wrap n):=by rw[IntKind.wrap_i64];exact ⟨by omega,by omega⟩
theorem El (af az:List UInt8) (aB eY dF bQ aJ:Int) (hc:af.length≤20) (hs:az.length≤20):(il af az aB eY dF bQ aJ).length≤300:=Nat.le_trans (tq 48 _) (Nat.le_trans (Nat.add_le_add_right (vH af az aB eY dF bQ aJ hc hs) 4) (by decide))
theorem rz:In64 0:=⟨by decide,by decide⟩
theorem ade:In64 32:=⟨by decide,by decide⟩
theorem Z0:In64 500:=⟨by decide,by decide⟩
theorem zK (x k:Int) (hk:0<k):-k<x.tmod k∧x.tmod k<k:=⟨Int.lt_tmod_of_pos x hk,Int.tmod_lt_of_pos x hk⟩
theorem Xg {W:World} {b:Nat} {nw:Int} {v:Value} (h:bI W b ((tF nw (.slice none 0 0)).setIfInBounds 8 v)):bI W b (bF uN nw v):=h
theorem Tryz.Qb:(Tryz.prog.info? 25).map (fun i=>(i.zero,i.size,i.bytes))=some (some (.slice none 0 0),1,24):=by kernel_rfl
theorem yg {P:Program} (w:World) {ops:Array Oper} {rest:List Oper} {o:Oper} {a:Act} {Q:Exit→Act→World→Prop}
  (hg:o.guard=none) (x:Operand) (src dst:TypeId) (hop:o.op=Op.convert src dst x)
  (e:TypeId) (hs:P.underlying src=some .string) (hd:P.underlying dst=some (.slice e)) (he:P.underlying e=some (.int .u8)) (zs:List UInt8) (hx:a.eval x = .string ⟨zs.toArray⟩) (hb:zs.length≤140737488355328)
  (hK:∀ cap w',KH w' (.slice (some ⟨w.heap.size,0,none⟩) zs.length cap) zs→w.grownBy w' none→w.heap.size<w'.heap.size→wpList P ops Q rest (a.put o.dst (.slice (some ⟨w.heap.size,0,none⟩) zs.length cap)) w') :
  wpList P ops Q (o::rest) a w:=by
 refine wpList_plain hg fun K hK'=>?_
 have hsz:(⟨zs.toArray⟩:ByteArray).size=zs.length:=by simp[ByteArray.size]
 have hr:=run_bytes_of_string (P:=P) w src dst e ⟨zs.toArray⟩ hs hd he
 rw[hsz] at hr
 have hge:=grownCap_ge w zs.length 0 e
 have hcm:=grownCap_le_maxLen w zs.length 0 e (by unfold maxLen;omega)
 unfold Oper.wp
 simp[execOp,hop,hx,hr,Result.andThen]
 refine hK' _ _ (hK _ _ ⟨_,_,rfl,hge,by unfold maxLen at hcm;exact hcm,(fun h=>by cases h),?_⟩ ⟨rfl,rfl,rfl,by simp,fun k hk _=>Below.heap_alloc w.drew _ k hk⟩ (by simp))
 refine At.some fun j hj=>?_
 have hh:∀ (C:Array Value) (fr:Nat×Nat),(w.drew.alloc (.cells C e fr)).heap[w.heap.size]?=some (.cells C e fr):=fun C fr=>heap_alloc_new w.drew _
 rw[Nat.zero_add,cell_of_row _ _ j _ e _ (hh _ _)]
 unfold bytesRow
 rw[Array.getElem?_append_left (by simpa using hj)]
 simp[hj]
def yh (n:Nat) (wc:World) (O:Nat→Prop) (nw:Int) (wx:World):Prop:=
 ∃ (a:jJ) (va:Option Addr) (vn vc:Nat) (aG:List UInt8),wc.grownBy wx none∧bI wx wc.heap.size (bF a nw (.slice va vn vc))∧gF.Ok (a,nw,aG)∧KI O wx (.slice va vn vc) aG∧aG.length≤140737488355328∧∀ b off,va=some ⟨b,off,none⟩→b<n∨wc.heap.size<b
theorem xy {n:Nat} {wc w2:World} {O:Nat→Prop} {nw:Int} {va:Option Addr} {vn vc:Nat} {aG:List UInt8} (hnw:In64 nw) (hG:wc.grownBy w2 none) (hJ:bI w2 wc.heap.size (tF nw (.slice none 0 0))) (hv:KI O w2 (.slice va vn vc) aG) (hl:aG.length≤140737488355328) (hn:n≤wc.heap.size) (hne:∀ b off,va=some ⟨b,off,none⟩→b<n∨wc.heap.size<b):yh n wc O nw (w2.setCell ⟨wc.heap.size,8,none⟩ (.slice va vn vc)):=by
 have k:CF w2 (w2.setCell ⟨wc.heap.size,8,none⟩ (.slice va vn vc)) (fun b _=>b=wc.heap.size):=(CF.refl w2 _).setCell _ _ _ (fun _=>rfl)
 refine ⟨uN,va,vn,vc,aG,aK hG (Nat.le_refl _),Xg (hJ.set 8 (.slice va vn vc)),⟨rz,rz,rz,by show (0:Nat)≤_;omega,hnw⟩,⟨hv.1.ZO k (fun b off e ⟨_,q⟩=>by have:=hne b off e;omega),fun b off m c e=>⟨Nat.lt_of_lt_of_le (hv.2 b off m c e).1 k.size,(hv.2 b off m c e).2⟩⟩,hl,hne⟩
theorem UA {n:Nat} {wc wx:World} {O:Nat→Prop} {nw:Int} (h:yh n wc O nw wx):yh n wc O nw wx.drew:=by
 obtain ⟨a,va,vn,vc,aG,h1,h2,h3,h4,h5⟩:=h
 exact ⟨a,va,vn,vc,aG,dS h1,h2.drew,h3,h4.step (Stp.gb (dS (World.grownBy.refl _ _))),h5⟩
theorem Xh {n:Nat} {wc w2:World} {O:Nat→Prop} {nw:Int} (hnw:In64 nw) (hG:wc.grownBy w2 none) (hJ:bI w2 wc.heap.size (tF nw (.slice none 0 0))):yh n wc O nw w2:=
 ⟨uN,none,0,0,[],hG,hJ,⟨rz,rz,rz,by show (0:Nat)≤_;omega,hnw⟩,KI.nil O w2,by show (0:Nat)≤_;omega,fun _ _ e=>by cases e⟩
theorem Tryz.JH:(Tryz.prog.info? 45).map (·.size)=some 9:=by kernel_rfl
theorem nine {w:World} {b:Nat} {c0 c1 c2 c3 c4 c5 c6 c7 c8:Value} (h:bI w b #[c0,c1,c2,c3,c4,c5,c6,c7,c8]):w.cell? ⟨b,0,none⟩=some c0∧w.cell? ⟨b,1,none⟩=some c1∧w.cell? ⟨b,2,none⟩=some c2∧w.cell? ⟨b,3,none⟩=some c3∧w.cell? ⟨b,4,none⟩=some c4∧w.cell? ⟨b,5,none⟩=some c5∧w.cell? ⟨b,6,none⟩=some c6∧w.cell? ⟨b,7,none⟩=some c7∧w.cell? ⟨b,8,none⟩=some c8∧w.frozen? ⟨b,0,none⟩=false∧w.frozen? ⟨b,1,none⟩=false∧w.frozen? ⟨b,2,none⟩=false∧w.frozen? ⟨b,3,none⟩=false∧w.frozen? ⟨b,4,none⟩=false∧w.frozen? ⟨b,5,none⟩=false∧w.frozen? ⟨b,6,none⟩=false∧w.frozen? ⟨b,7,none⟩=false∧w.frozen? ⟨b,8,none⟩=false:=⟨h.cell 0,h.cell 1,h.cell 2,h.cell 3,h.cell 4,h.cell 5,h.cell 6,h.cell 7,h.cell 8,h.frozen 0,h.frozen 1,h.frozen 2,h.frozen 3,h.frozen 4,h.frozen 5,h.frozen 6,h.frozen 7,h.frozen 8⟩
theorem Xi (a:jJ) (nw:Int) (va:Option Addr) (vn vc:Nat):∀ v∈(bF a nw (.slice va vn vc)).toList,v.oneCell'=true:=by
 intro v hv
 simp only[List.mem_cons,List.not_mem_nil,or_false] at hv
 rcases hv with rfl | rfl | rfl | rfl | rfl | rfl | rfl | rfl | rfl <;> rfl
theorem JI {w:World} {b:Nat} {nw:Int} {v:Value} (h:bI w b (tF nw v)):Live w b 9:=by
 obtain ⟨e,he⟩:=h
 exact ⟨_,e,he,Nat.le_refl 9⟩
def UB (w0:World) (L:TL) (Mp Mq:DM) (cs:List (List Value)) (ls:List (List UInt8)) (ms:List (Value×List UInt8)) (nw:Int) (ca la ma:Option Addr) (cc lc:Nat) (w U:World) (a:jJ) (va:Option Addr) (vn vc:Nat) (aG:List UInt8) (wx:World):Prop:=
 ∃ ms' rQ mc',TS w0 L Mp Mq cs ls ms' nw ca la rQ cc lc mc' wx∧Stp w (eU L.lo L.hi L.pb ca la ma) wx (eU L.lo L.hi L.pb ca la rQ)∧(∀ x∈ms',x∈ms∨x=(.slice va vn vc,aG))∧ms'.length≤ms.length+1∧¬ eU L.lo L.hi L.pb ca la rQ (w.heap.size+1)∧
  bI wx U.heap.size (bF a nw (.slice va vn vc))∧bI wx (w.heap.size+1) (tF 0 (.slice none 0 0))∧KI (eU L.lo L.hi L.pb ca la rQ) wx (.slice va vn vc) aG
theorem TS.re {w0:World} {L:TL} {Mp Mq Mp' ZQ:DM} {cs:List (List Value)} {ls:List (List UInt8)} {ms ms':List (Value×List UInt8)} {now nw:Int} {ca la ma rQ:Option Addr} {cc lc mc mc':Nat} {w wx w':World} {rb:Nat} (h:TS w0 L Mp' ZQ cs ls ms now ca la ma cc lc mc w) (s:Stp w (eU L.lo L.hi L.pb ca la ma) w' (eU L.lo L.hi L.pb ca la rQ)) (h':TS w0 L Mp Mq cs ls ms' nw ca la rQ cc lc mc' wx) (k:CF wx w' (fun b _=>b=rb)) (hrb:¬ eU L.lo L.hi L.pb ca la rQ rb) (hrl:L.hi≤rb)
  (uu:∀ x∈ms',x∈ms∨(KI (eU L.lo L.hi L.pb ca la rQ) w' x.1 x.2∧x.2.length≤140737488355328)):TS w0 L Mp Mq cs ls ms' nw ca la rQ cc lc mc' w':=by
 have ho:=h'.ord
 refine ⟨h'.plain.cf k (fun b _ e=>.inr (by omega)),h'.quick.cf k (fun b _ e=>.inr (by omega)),h'.pair.Uq k (fun o e=>hrb (.inr (.inl e.symm))),fC h'.came k (fun b e o q=>?_),fC h'.names k (fun b e o q=>?_),fC h'.made k (fun b e o q=>?_),h'.vL,h'.Cn,fun x hx=>(h.FL x hx).step s,h'.BU,fun x hx=>?_,h'.now,h.below s,ho⟩
 ·rw[bV] at e;subst q;exact hrb (.inr (.inr (.inl e)))
 ·rw[bV] at e;subst q;exact hrb (.inr (.inr (.inr (.inl e))))
 ·rw[bV] at e;subst q;exact hrb (.inr (.inr (.inr (.inr e))))
 ·rcases uu x hx with q | q
  ·exact ⟨(h.uu x q).1.step s,(h.uu x q).2⟩
  ·exact q
abbrev yS:Array Value:=#[.int .i64 0,.int .i64 0,.int .i64 0,.int .i64 1,.int .i64 4,.int .i64 16,.int .i64 32,.int .i64 64,.int .i64 128,.int .i64 5]
theorem Tryz.UC:(Tryz.prog.info? 3).map (fun i=>(i.zero,i.size,i.bytes))=some (some (.int .i64 0),1,8):=by kernel_rfl
theorem Em:∀ v∈yS.toList,v.cells=#[v]:=by
 intro v hv
 simp only[List.mem_cons,List.not_mem_nil,or_false] at hv
 rcases hv with rfl | rfl | rfl | rfl | rfl | rfl | rfl | rfl | rfl | rfl <;> rfl
theorem Tryz.UD:(Tryz.prog.info? 43).map (·.size)=some 7:=by kernel_rfl
theorem Xj (k kv l f:Int) (nm:List UInt8):(#[.int .i64 k,.string ⟨nm.toArray⟩,.int .u64 kv,.int .i64 l,.int .i64 500,.int .i64 0,.int .i64 f]:Array Value).all (·.oneCell')=true:=all_oneCell_toArray (by
 intro v hv
 simp only[List.mem_cons,List.not_mem_nil,or_false] at hv
 rcases hv with rfl | rfl | rfl | rfl | rfl | rfl | rfl <;> rfl)
theorem Z6:∀ d,d<10→∃ ov:Int,In64 ov∧yS[d]?=some (.int .i64 ov)
 | 0,_=>⟨0,⟨by decide,by decide⟩,rfl⟩
 | 1,_=>⟨0,⟨by decide,by decide⟩,rfl⟩
 | 2,_=>⟨0,⟨by decide,by decide⟩,rfl⟩
 | 3,_=>⟨1,⟨by decide,by decide⟩,rfl⟩
 | 4,_=>⟨4,⟨by decide,by decide⟩,rfl⟩
 | 5,_=>⟨16,⟨by decide,by decide⟩,rfl⟩
 | 6,_=>⟨32,⟨by decide,by decide⟩,rfl⟩
 | 7,_=>⟨64,⟨by decide,by decide⟩,rfl⟩
 | 8,_=>⟨128,⟨by decide,by decide⟩,rfl⟩
 | 9,_=>⟨5,⟨by decide,by decide⟩,rfl⟩
 | d+10,h=>absurd h (by omega)
theorem JJ (x:Int):∃ k:UInt64,IntKind.u64.wrap x=(k.toNat:Int):=by
 refine ⟨UInt64.ofNat (x % 18446744073709551616).toNat,?_⟩
 rw[IntKind.wrap_u64,Pure.jR _ (by omega)]
 omega
theorem UE:∀ (cs:List (List Value)) (p j:Nat) (_:∀ x∈cs,x.length=17) (hp:p<cs.length),j<17→cs.flatten[p*17+j]?=(cs[p])[j]?
 | [],p,_,_,hp,_=>by simp at hp
 | x::r,0,j,h,_,hj=>by
  have hx:=h x (List.mem_cons_self ..)
  rw[List.flatten_cons,Nat.zero_mul,Nat.zero_add,List.getElem?_append_left (by omega)]
  rfl
 | x::r,p+1,j,h,hp,hj=>by
  have hx:=h x (List.mem_cons_self ..)
  rw[List.flatten_cons,List.getElem?_append_right (by omega),show (p+1)*17+j-x.length=p*17+j by omega]
  exact UE r p j (fun y hy=>h y (List.mem_cons_of_mem _ hy)) (by simpa using hp) hj
def oV (U:World) (nw:Int) (wx:World):Prop:=∃ a:jJ,U.grownBy wx none∧bI wx U.heap.size (bF a nw (.slice none 0 0))∧gF.Ok (a,nw,[])
theorem oV.off {U wx:World} {nw:Int} (h:oV U nw wx):oV U nw (wx.setCell ⟨U.heap.size,6,none⟩ (.int .i64 32)):=by
 obtain ⟨a,h1,h2,h3⟩:=h
 exact ⟨{a with ay:=32},aK h1 (Nat.le_refl _),h2.set 6 (.int .i64 32),⟨h3.cO,h3.aF,ade,h3.name,h3.now⟩⟩
theorem oV.exp {U wx:World} {nw:Int} (h:oV U nw wx) (e:Int):oV U nw (wx.setCell ⟨U.heap.size,5,none⟩ (.int .i64 e)):=by
 obtain ⟨a,h1,h2,h3⟩:=h
 exact ⟨{a with bU:=e},aK h1 (Nat.le_refl _),h2.set 5 (.int .i64 e),⟨h3.cO,h3.aF,h3.ay,h3.name,h3.now⟩⟩
theorem oV.fin {U wx:World} {nw:Int} {n:Nat} {O:Nat→Prop} (h:oV U nw wx):yh n U O nw wx:=by
 obtain ⟨a,h1,h2,h3⟩:=h
 exact ⟨a,none,0,0,[],h1,h2,h3,KI.nil O wx,by show (0:Nat)≤_;omega,fun _ _ e=>by cases e⟩
theorem Xk {U V:World} {nw k kv l f:Int} {nm:List UInt8} {ky:UInt64} (hJ:bI V U.heap.size (tF nw (.slice none 0 0))) (G:U.grownBy V none) (Yg:kv=(ky.toNat:Int)) (hl:In64 l) (hf:In64 f) (hn:nm.length≤20) (hnw:In64 nw):oV U nw (((((((V.setCell ⟨U.heap.size,0,none⟩ (.int .i64 k)).setCell ⟨U.heap.size,1,none⟩ (.string ⟨nm.toArray⟩)).setCell ⟨U.heap.size,2,none⟩ (.int .u64 kv)).setCell ⟨U.heap.size,3,none⟩ (.int .i64 l)).setCell ⟨U.heap.size,4,none⟩ (.int .i64 500)).setCell ⟨U.heap.size,5,none⟩ (.int .i64 0)).setCell ⟨U.heap.size,6,none⟩ (.int .i64 f)):=by
 refine ⟨⟨k,nm,ky,l,500,0,f⟩,?_,?_,⟨hl,Z0,hf,by show nm.length≤_;omega,hnw⟩⟩
 ·iterate 7 refine aK ?_ (Nat.le_refl _)
  exact G
 ·rw[Yg]
  have:=((((((hJ.set 0 (.int .i64 k)).set 1 (.string ⟨nm.toArray⟩)).set 2 (.int .u64 (ky.toNat:Int))).set 3 (.int .i64 l)).set 4 (.int .i64 500)).set 5 (.int .i64 0)).set 6 (.int .i64 f)
  simpa using this
def NF (w0:World) (L:TL) (Mp Mq:DM) (nm C:Nat) (O:Nat→Prop) (w:World) (e:Ending) (w':World):Prop:=
 ∃ (a:jJ) (now:Int) (v:Value) (aG:List UInt8) (O':Nat→Prop),e = .returned (.tuple #[.agg (bF a now v),.bool true])∧gF.Ok (a,now,aG)∧KI O' w' v aG∧aG.length≤140737488355328∧TI w0 L Mp Mq (nm+1) C O' w'∧Stp w O w' O'
end Go.Proofs.YtpibgolaaaemnaaGreatDoor
