import Derived.Test.YteknelimjfgmaaaGreatDoorGJRFstA
namespace Go.Proofs.YteknelimjfgmaaaGreatDoor
open Go.RowKit
set_option maxRecDepth 100000
set_option linter.unusedSimpArgs false
theorem xL (k:Nat):Builtin.zeroCells #[.int .u8 0] k=((List.replicate k (0:UInt8)).map U8).toArray:=by
 unfold Builtin.zeroCells;apply Array.ext';simp only[List.map_replicate];refine List.ext_getElem aft (fun j h1 h2=>?_);simp[U8,Nat.mod_one]
theorem EE {P:Program} (w:World) (t tn ty e:TypeId) (i:TypeInfo) (kn:IntKind) (ht:P.underlying t=some (.slice e)) (htn:P.underlying tn=some (.int kn)) (hi:P.info? e=some i) (hz:i.zero=some (.int .u8 0)) (hs:i.size=1) (hb:i.bytes=1)
  (v:Value) (p:Option Pl) (bs:List UInt8) (hv:Out w v p bs) (k:Nat) (hk:k<=1000) (hl:bs.length<=1000000) :
  ∃ v' w',(Builtin.append_ #[t,tn] ty #[v,.int .i64 k]).run P w = .ok v' w'/\aU w w' v' p (bs++List.replicate k 0):=by
 have hw:IntKind.i64.wrap (k:Int)=k:=by rw[IntKind.wrap_i64];omega
 have hneg:¬ ((k:Int)<0):=by omega
 have hw0:IntKind.i64.wrap 0=0:=by decide
 have h48i:¬ (281474976710656<(k:Int)*(i.bytes:Int)):=by rw[hb];omega
 have hmax:bs.length+k<=maxLen:=by unfold maxLen;omega
 rcases hv with ⟨hp,rfl,rfl⟩ | ⟨q,hp,rfl,h1,h2,h3,h4⟩
 ·by_cases h0:k=0
  ·subst h0;refine ⟨.slice none 0 0,w,?_,⟨none,by simpa using Out.nil w,CF.refl _ _,.inl hp.symm,fun _ _ _=>hp.symm⟩⟩;simp[Builtin.append_,run_underlying ht,run_underlying htn,sizeOf,typeInfo,hi,asInt,asIntOf,hw0]
  ·have hr:=Lib.run_append_nil_zeros (P:=P) w t tn ty e i (.int .u8 0) .i64 kn ht htn hi hz k afp afp afp (by rw[hb];omega);have hge:=grownCap_ge w k 0 e;have hcm:grownCap w k 0 e<=maxLen:=grownCap_le_maxLen w _ 0 e (by simpa using hmax);obtain ⟨m,hm⟩:∃ m,grownCap w k 0 e=k+m:=⟨grownCap w k 0 e-k,by omega⟩
   rw[hm] at hr hcm;obtain ⟨g1,g2⟩:=vO w e (List.replicate k 0) k m aft (Pl.has p) hcm;refine ⟨_,_,hr,?_⟩;rw[show k+m-k=m from by omega];have e1:Builtin.zeroCells (Value.int IntKind.u8 0).cells k=((List.replicate k (0:UInt8)).map U8).toArray:=xL k;rw[e1];exact ⟨some ⟨w.heap.size,0,k+m⟩,g1,g2,.inr (fun q hq=>by injection hq with hq;subst hq;exact bd _),fun q hq=>by rw[hp] at hq;cases hq⟩
 ·by_cases hroom:bs.length+k<=q.cap
  ·have hst:=run_storeCells_cells (P:=P) q.g (q.off+bs.length) ((List.replicate k (0:UInt8)).map U8) 0 w (fun j hj=>h3.some _ (by simp at hj;omega)) (fun j _=>h3.frozen _) (nU _);simp only[eR] at hst;have hc:(Builtin.append_ #[t,tn] ty #[.slice (some ⟨q.g,q.off,none⟩) bs.length q.cap,.int .i64 k]).run P w = .ok (.slice (some ⟨q.g,q.off,none⟩) (bs.length+k) q.cap) (w.setCells q.g (q.off+bs.length) ((List.replicate k (0:UInt8)).map U8)):=by
    by_cases h0:k=0
    ·subst h0;simp[Builtin.append_,run_underlying ht,run_underlying htn,sizeOf,typeInfo,hi,asInt,asIntOf,hw0,hs,h1,storeCells,World.setCells]
    ·have hns:¬ (k*i.size=0):=(by rw[hs];omega);simp[Builtin.append_,run_underlying ht,run_underlying htn,sizeOf,typeInfo,zeroValue,hi,hz,asInt,asIntOf,hw,hneg,hns,h0,h48i,hroom,hs,Addr.add_lit,Value.cells,xL,hst];have abS:=hst;simp only[List.map_replicate] at abS;rw[abS];rfl
   have F:CF w (w.setCells q.g (q.off+bs.length) ((List.replicate k (0:UInt8)).map U8)) (Pl.has p):=by
    refine CF.setCells q.g _ _ w (CF.refl _ _) (fun j hj _=>⟨q,hp,rfl,?_,?_⟩)
    ·omega
    ·simp at hj;omega
   refine ⟨_,_,hc,⟨some q,?_,F,.inl hp.symm,fun _ _ _=>hp.symm⟩⟩;refine .inr ⟨q,rfl,by simp,by simpa using hroom,h2,h3.cf F,?_⟩;intro j u hu;rw[cW] at hu;by_cases hj:j<bs.length
   ·rw[cF afK] at hu;rw[World.cell?_setCells_out q.g _ _ w _ (fun _ _=>Or.inl (by show q.off+j<_;omega))];exact h4 j u hu
   ·rw[cM (by simpa using Nat.le_of_not_lt hj),cw] at hu;have hj2:=(cq.1 hu).1;have:=World.cell?_setCells_in q.g ((List.replicate k (0:UInt8)).map U8) (q.off+bs.length) w (fun m hm=>h3.some _ (by simp at hm;omega)) (j-bs.length) hj2;rw[show q.off+bs.length+(j-bs.length)=q.off+j from by omega] at this;rw[this,<-hu,cr hj2]
  ·have hold:(Builtin.firstCells i.size bs.length (.slice (some ⟨q.g,q.off,none⟩) bs.length q.cap)).run P w.drew = .ok (bs.map U8).toArray w.drew:=
    run_firstCells_some w.drew _ bs.length ⟨q.g,q.off,none⟩ bs.length q.cap (bs.map U8) (by simp[hs]) (fun j u hu=>by rw[Addr.add_lit];exact h4 j u hu)
   have hfit:=growslice_fits (need:=bs.length+k) (old:=q.cap) (bytes:=i.bytes) afp (by rw[hb];omega);have hr:=Lib.run_append_grow_zeros (P:=P) w t tn ty e i (.int .u8 0) .i64 kn ht htn hi hz (some ⟨q.g,q.off,none⟩) bs.length q.cap (bs.map U8) hold k afp afp afp afp (by rw[hb];omega) hfit;have hge:=grownCap_ge w (bs.length+k) q.cap e;have hcm:grownCap w (bs.length+k) q.cap e<=maxLen:=grownCap_le_maxLen w _ q.cap e hmax;obtain ⟨m,hm⟩:∃ m,grownCap w (bs.length+k) q.cap e=bs.length+k+m:=⟨grownCap w (bs.length+k) q.cap e-(bs.length+k),by omega⟩
   rw[hm] at hr hcm;obtain ⟨g1,g2⟩:=vO w e (bs++List.replicate k 0) (bs.length+k) m aft (Pl.has p) hcm;refine ⟨_,_,hr,?_⟩;rw[show bs.length+k+m-(bs.length+k)=m from by omega];have e1:(bs.map U8).toArray++Builtin.zeroCells (Value.int IntKind.u8 0).cells k=((bs++List.replicate k 0).map U8).toArray:=by
    rw[show (Value.int IntKind.u8 0).cells=#[.int .u8 0] from rfl,xL,cW];simp
   rw[e1];refine ⟨some ⟨w.heap.size,0,bs.length+k+m⟩,g1,g2,.inr (fun q hq=>by injection hq with hq;subst hq;exact bd _),fun q' hq' hle=>?_⟩;rw[hp] at hq';injection hq' with hq';subst hq';simp at hle;omega
variable {P:Program}
theorem KX (vs:List Value) (h1:∀ v∈vs,v.cells=#[v]):∀ (k:Nat) (cur:Array Value),k+vs.length<=cur.size->
  Instr.fill (fun i=>some (i*1,1)) cur ((vs.zipIdx k).map fun x=>(x.2,x.1))=some ((cur.toList.take k++vs++cur.toList.drop (k+vs.length)).toArray):=by
 induction vs with
 | nil=>
  intro k cur _;simp[Instr.fill]
 | cons v vs ih=>
  intro k cur hk;simp only[cN] at hk;have hv:=h1 v aft;have ih':=ih (fun u hu=>h1 u (by simp[hu])) (k+1);simp only[List.zipIdx_cons,dj,Instr.fill,hv];have e0:(decide (#[v].size≠1) || decide (k*1 + #[v].size > cur.size))=false:=by
   have h2:¬ (k*1+1 > cur.size):=(by omega);simp;omega
  have e1:Array.foldl (fun cs x=>cs.setIfInBounds (k*1+x.snd) x.fst) cur #[v].zipIdx=cur.setIfInBounds k v:=by
   show Array.foldl _ cur #[(v,0)]=_;simp
  rw[e0,e1];simp only[fh,eC];rw[ih' (cur.setIfInBounds k v) afz];congr 2;have hk':k<cur.toList.length:=by simp;omega
  rw[Array.toList_setIfInBounds,cN];rw[show k+(vs.length+1)=k+1+vs.length from by omega];rw[List.drop_set_of_lt afp];rw[ee (by simpa using hk'),List.getElem_set_self,List.take_set_of_le afp];simp
theorem YU (w:World) (t e:TypeId) (i:TypeInfo) (z:Value) (ht:P.underlying t=some (.slice e)) (hi:P.info? e=some i) (hs:i.size=1) (hz:i.zero=some z) (vs:List Value) (n:Nat) (hn:vs.length=n) (h0:0<n) (h9:n<=1000) (h1:∀ v∈vs,v.cells=#[v]) :
  (Instr.buildSlice t n ((vs.zipIdx.map fun x=>(x.2,x.1)).toArray)).run P w = .ok (.slice (some ⟨w.heap.size,0,none⟩) n n) (w.alloc (.cells vs.toArray e)):=by
 subst hn
 have hf:Instr.fill (fun i=>some (i*1,1)) ((Array.range (vs.length*1)).map (z.cells[· % z.cells.size]!)) (vs.zipIdx.map fun x=>(x.2,x.1))=some vs.toArray:=by
  rw[KX vs h1 0 _ aft];simp
 have hb:¬ (16777216<vs.length*1):=by omega
 have hne:¬ (vs.length*1=0):=by omega
 simp only[gC] at hb hne
 unfold Instr.buildSlice
 simp[run_underlying ht,sizeOf,typeInfo,hi,hs,zeroValue,hz,hb,hne]
 simp only[gC] at hf
 rw[hf]
 simp[newRow]
theorem abT {o:Oper} {a:Act} {w:World} {K:Act->World->Prop} {Q:Exit->Act->World->Prop} (t:TypeId) (n:Nat) (parts:Array (Nat×Operand)) (hop:o.op = .buildSlice t n parts) (e:TypeId) (i:TypeInfo) (z:Value) (ht:P.underlying t=some (.slice e)) (hi:P.info? e=some i) (hs:i.size=1) (hz:i.zero=some z)
  (vs:List Value) (hev:(parts.toList.map fun x=>(x.1,a.eval x.2))=vs.zipIdx.map fun x=>(x.2,x.1)) (hn:vs.length=n) (h0:0<n) (h9:n<=1000) (h1:∀ v∈vs,v.cells=#[v]) (hK:K (a.put o.dst (.slice (some ⟨w.heap.size,0,none⟩) n n)) (w.alloc (.cells vs.toArray e))):Oper.wp P o a w K Q:=by
 have hr:=YU (P:=P) w t e i z ht hi hs hz vs n hn h0 h9 h1
 unfold Oper.wp
 simp only[execOp,hop]
 have he:(parts.map fun (i,x)=>(i,a.eval x))=(vs.zipIdx.map fun x=>(x.2,x.1)).toArray:=by
  rw[<-hev];apply Array.ext';simp
 rw[he]
 simp[hr]
 exact hK
theorem Acc.bsl {W:World} {B:Nat} {L:List (Value×List UInt8)} (h:Acc W B L) {o:Oper} {a:Act} {K:Act->World->Prop} {Q:Exit->Act->World->Prop} (t:TypeId) (n:Nat) (parts:Array (Nat×Operand)) (hop:o.op = .buildSlice t n parts) (e:TypeId) (i:TypeInfo) (z:Value) (ht:P.underlying t=some (.slice e)) (hi:P.info? e=some i) (hs:i.size=1) (hz:i.zero=some z)
  (hev:(parts.toList.map fun x=>(x.1,a.eval x.2))=((L.reverse.map fun x=>x.1).zipIdx).map fun x=>(x.2,x.1)) (hn:(L.reverse.map fun x=>x.1).length=n) (h0:0<n) (h9:n<=1000) (hK:K (a.put o.dst (.slice (some ⟨W.heap.size,0,none⟩) n n)) (W.alloc (.cells (L.reverse.map fun x=>x.1).toArray e))):Oper.wp P o a W K Q:=
 abT t n parts hop e i z ht hi hs hz _ hev hn h0 h9 (fun v hv=>by
  obtain ⟨x,hx,rfl⟩:=List.mem_map.1 hv
  obtain ⟨a,c,h1⟩:=(h x (List.mem_reverse.1 hx)).1.shape
  rw[h1]
  rfl) hK
theorem Tryz.zS:(Tryz.prog.info? 37).map (fun i=>(i.zero,i.size,i.bytes))=some (some (.slice none 0 0),1,24):=by kernel_rfl
theorem afB {p:Prop} (h:p:=by first | exact jA _ _ (by decide) | exact fH _ _ (by omega) | exact fH _ _ (by rw[Pure.bX];decide) | exact fH _ _ (by rw[Pure.dz];omega) | exact fH _ _ (by decide)):p:=h
variable {p q r:Prop}
theorem bx0 {s:Prop} (C:r) (B:s) (k:q) (h:r->s->Hid q->p:=by intro C5 B5 hq;intro K hK;refine Calls.mono C5 ?_;rintro e V5 ⟨o5,rfl,q5,g5⟩;obtain ⟨a5,c5,rfl⟩:=q5.shape;have ui:=hid (HA.o.push g5 q5 afB);have Pn:=hid (aa eD.o g5);clear q5 g5;go_wp2_with fail;refine hK.out _ _ (.inr Pn.o) ?_;(try simp only[Act.put,List.getElem_toArray,ft,List.getElem_cons_succ,de,dy,eo]);revert ui Pn;revert V5 a5 c5;exact hq.o):p:=h C B (hid k)
theorem bx1 {s:Prop} (C:r) (B:s) (k:q) (h:r->s->Hid q->p:=by intro C5 B5 hq;intro K hK;refine Calls.mono C5 ?_;rintro e V5 ⟨o5,rfl,q5,g5⟩;obtain ⟨a5,c5,rfl⟩:=q5.shape;have ui:=hid (HA.o.push g5 q5 afB);have Pn:=hid (aa eD.o g5);have HZ5:=hid (HZ.o.grown g5);clear q5 g5;go_wp2_with fail;refine hK.out _ _ (.inr Pn.o) ?_;(try simp only[Act.put,List.getElem_toArray,ft,List.getElem_cons_succ,de,dy,eo]);revert ui Pn HZ5;revert V5 a5 c5;exact hq.o):p:=h C B (hid k)
theorem bx2 {s:Prop} (C:r) (B:s) (k:q) (h:r->s->Hid q->p:=by intro C5 B5 hq;intro K hK;refine Calls.mono C5 ?_;rintro e V5 ⟨o5,rfl,q5,g5⟩;obtain ⟨a5,c5,rfl⟩:=q5.shape;have ui:=hid (HA.o.push g5 q5 afB);have Pn:=hid (aa eD.o g5);have HZ5:=hid (HZ.o.grown g5);have HB5:=hid (HB.o.grown g5);clear q5 g5;go_wp2_with fail;refine hK.out _ _ (.inr Pn.o) ?_;(try simp only[Act.put,List.getElem_toArray,ft,List.getElem_cons_succ,de,dy,eo]);revert ui Pn HZ5 HB5;revert V5 a5 c5;exact hq.o):p:=h C B (hid k)
section
variable {M:DM} {now:Int} {q:NQ} {e:BE} {key:UInt64} {t:TK} {p:PF}
theorem zg (h:q.fo=[116,103,115]\/jc q=true) (hf:BE.find M.bg q.fo=some e) (hk:e.keyOf q.nD=some key):gL M now q=match (eH key 2 q.dQ).bind dU with
   | none=>.error 31
   | some t=>
    match (eH t.aM 4 q.proof).bind fE with
    | none=>.error 31
    | some p=>if p.ax≠t.ax then .error 36 else if M.aC<dM p.time now then .error 37 else .ok (t,p):=by
 unfold gL
 rw[if_neg (vZ h),hf]
 dsimp only
 rw[hk]
 rfl
theorem Po (h:q.fo=[116,103,115]\/jc q=true) (hf:BE.find M.bg q.fo=some e) (hk:e.keyOf q.nD=some key) (ho:(eH key 2 q.dQ).bind dU=none):iq M now q=(.error 31,M):=by
 unfold iq;rw[zg h hf hk,ho]
theorem KY (h:q.fo=[116,103,115]\/jc q=true) (hf:BE.find M.bg q.fo=some e) (hk:e.keyOf q.nD=some key) (ho:(eH key 2 q.dQ).bind dU=some t) (hp:(eH t.aM 4 q.proof).bind fE=none):iq M now q=(.error 31,M):=by
 unfold iq;rw[zg h hf hk,ho];dsimp only;rw[hp]
theorem Rm (h:q.fo=[116,103,115]\/jc q=true) (hf:BE.find M.bg q.fo=some e) (hk:e.keyOf q.nD=some key) (ho:(eH key 2 q.dQ).bind dU=some t) (hp:(eH t.aM 4 q.proof).bind fE=some p) (hc:p.ax≠t.ax):iq M now q=(.error 36,M):=by
 unfold iq;rw[zg h hf hk,ho];dsimp only;rw[hp];dsimp only;rw[if_pos hc]
theorem YW (h:q.fo=[116,103,115]\/jc q=true) (hf:BE.find M.bg q.fo=some e) (hk:e.keyOf q.nD=some key) (ho:(eH key 2 q.dQ).bind dU=some t) (hp:(eH t.aM 4 q.proof).bind fE=some p) (hc:p.ax=t.ax) (hs:M.aC<dM p.time now):iq M now q=(.error 37,M):=by
 unfold iq;rw[zg h hf hk,ho];dsimp only;rw[hp];dsimp only;rw[if_neg (fun k=>k hc),if_pos hs]
theorem YX (h:q.fo=[116,103,115]\/jc q=true) (hf:BE.find M.bg q.fo=some e) (hk:e.keyOf q.nD=some key) (ho:(eH key 2 q.dQ).bind dU=some t) (hp:(eH t.aM 4 q.proof).bind fE=some p) (hc:p.ax=t.ax) (hs:¬ M.aC<dM p.time now) :
  iq M now q=if bL M.aC now M.aN p≠0 then (.error (bL M.aC now M.aN p),{M with aN:=bM M.aC now M.aN p}) else (.ok t,{M with aN:=bM M.aC now M.aN p}):=by
 unfold iq
 rw[zg h hf hk,ho]
 dsimp only
 rw[hp]
 dsimp only
 rw[if_neg (fun k=>k hc),if_neg hs]
end
def mP (base yb:Nat) (g:RG) (A:Except Int TK×DM) (w w':World) (t:TK) (c:Int):Prop:=
 t.In/\(∀ c',A.1 = .error c'->c=c')/\(∀ t',A.1 = .ok t'->c=0/\t=t')/\(∃ v,RD w' base yb A.2 {g with pv:=v}/\(v=g.pv\/NewAt w.heap.size v))/\w.grownBy w' (some yb)
theorem jO {base yb:Nat} {M:DM} {g:RG} {w w':World} {t:TK} {c:Int} (ht:t.In) (hD:RD w base yb M g) (k:w.grownBy w' none):mP base yb g (.error c,M) w w' t c:=
 ⟨ht,fun c' h=>(by injection h),fun t' h=>(by cases h),⟨g.pv,hD.keep (fun b hb=>k.block b (hD.lt b hb).2 aft),.inl rfl⟩,lh k yb⟩
theorem kV {W:World} {b:Nat} {t:TK} (h:W.rangeAt b 0 t.cells):W.cell? ⟨b,0,none⟩=some (.int .i64 t.ay)/\W.cell? ⟨b,1,none⟩=some (.int .u64 (t.aM.toNat:Int))/\W.cell? ⟨b,2,none⟩=some (.string ⟨t.ax.toArray⟩)/\W.cell? ⟨b,3,none⟩=some (.int .i64 t.dY)/\W.cell? ⟨b,4,none⟩=some (.int .i64 t.start)/\W.cell? ⟨b,5,none⟩=some (.int .i64 t.fin)/\W.cell? ⟨b,6,none⟩=some (.int .i64 t.aD):=
 ⟨h 0 _ rfl,h 1 _ rfl,h 2 _ rfl,h 3 _ rfl,h 4 _ rfl,h 5 _ rfl,h 6 _ rfl⟩
theorem wz {W W':World} {b r:Nat} {cs:List Value} (h:W.rangeAt b 0 cs) (k:W.grownBy W' (some r)) (hn:b≠r):W'.rangeAt b 0 cs:=fun i v hv=>k.cell (h i v hv) (by simpa using hn)
theorem KZ {W W':World} {b n r:Nat} (h:Live W b n) (k:W.grownBy W' (some r)) (hn:b≠r):Live W' b n:=by
 have hl:=h.lt;obtain ⟨cur,e,h1,h2⟩:=h;exact ⟨cur,e,(k.block b hl (by simpa using hn)).trans h1,h2⟩
theorem gT {a b:World} {r g j:Nat} {u:Value} (h:a.grownBy b (some r)) (hg:a.heap.size<=g):a.grownBy (b.setCell ⟨g,j,none⟩ u) (some r):=
 ⟨h.os,h.tape,h.output,by rw[World.size_setCell];exact h.size,fun k hk hr=>(Below.heap_setCell b _ u k (by show k≠g;omega)).trans (h.block k hk hr)⟩
theorem RD.mQ {V:World} {base yb:Nat} {M:DM} {g:RG} (h:RD V base yb M g) {c k:Nat} {u:Value} (hn:∀ b,g.foot yb b->b≠c):RD (V.setCell ⟨c,k,none⟩ u) base yb M g:=h.keep (fun b hb=>Below.heap_setCell V _ u b (hn b hb))
theorem K7 {base yb:Nat} {g:RG} {M':DM} {w w':World} {t:TK} {pc:Int} {A:Except Int TK×DM} (hA:A=if pc≠0 then (.error pc,M') else (.ok t,M')) (ht:t.In) (hD:∃ v,RD w' base yb M' {g with pv:=v}/\(v=g.pv\/NewAt w.heap.size v)) (k:w.grownBy w' (some yb)):mP base yb g A w w' t pc:=by
 by_cases hz:pc=0
 ·rw[if_neg (fun h=>h hz)] at hA;subst hA;exact ⟨ht,fun c' h=>(by cases h),fun t' h=>⟨hz,(by injection h)⟩,hD,k⟩
 ·rw[if_pos hz] at hA;subst hA;exact ⟨ht,fun c' h=>(by injection h),fun t' h=>(by cases h),hD,k⟩
structure OW (w W:World) (base yb:Nat) (M:DM) (g:RG) (q:NQ) (z pv:Value) (t:TK):Prop where
 d:RD W base yb M g
 c:W.rangeAt w.heap.size 0 [.string ⟨q.fo.toArray⟩,.int .i64 q.nD,z]
 r:Live W (w.heap.size+1) 7
 t:W.rangeAt (w.heap.size+2) 0 t.cells
 lt:Live W (w.heap.size+2) 7
 z:vg W z q.dQ
 p:vg W pv q.proof
 g:w.grownBy W none
section
variable {w W:World} {base yb:Nat} {M:DM} {g:RG} {q:NQ} {z pv:Value} {t:TK}
theorem OW.grown {W':World} (h:OW w W base yb M g q z pv t) (k:W.grownBy W' none):OW w W' base yb M g q z pv t:=
 ⟨h.d.keep (fun b hb=>k.block b (h.d.lt b hb).2 aft),aA h.c k,h.r.grown k,aA h.t k,h.lt.grown k,h.z.grown k,h.p.grown k,aa h.g k⟩
theorem OW.drew (h:OW w W base yb M g q z pv t):OW w W.drew base yb M g q z pv t:=h.grown (bD (bh _ _))
theorem OW.tc (h:OW w W base yb M g q z pv t):W.cell? ⟨w.heap.size+2,0,none⟩=some (.int .i64 t.ay)/\W.cell? ⟨w.heap.size+2,1,none⟩=some (.int .u64 (t.aM.toNat:Int))/\W.cell? ⟨w.heap.size+2,2,none⟩=some (.string ⟨t.ax.toArray⟩)/\W.cell? ⟨w.heap.size+2,3,none⟩=some (.int .i64 t.dY)/\W.cell? ⟨w.heap.size+2,4,none⟩=some (.int .i64 t.start)/\W.cell? ⟨w.heap.size+2,5,none⟩=some (.int .i64 t.fin)/\W.cell? ⟨w.heap.size+2,6,none⟩=some (.int .i64 t.aD):=
 ⟨h.t 0 _ rfl,h.t 1 _ rfl,h.t 2 _ rfl,h.t 3 _ rfl,h.t 4 _ rfl,h.t 5 _ rfl,h.t 6 _ rfl⟩
theorem OW.big (h:OW w W base yb M g q z pv t):w.heap.size+3<=W.heap.size:=h.lt.lt
theorem OW.ajk (h:OW w W base yb M g q z pv t) (hD:RD w base yb M g) (hz:vg w z q.dQ) (hp:vg w pv q.proof) (t':TK):OW w (((((((W.setCell ⟨w.heap.size+2,0,none⟩ (.int .i64 t'.ay)).setCell ⟨w.heap.size+2,1,none⟩ (.int .u64 (t'.aM.toNat:Int))).setCell ⟨w.heap.size+2,2,none⟩ (.string ⟨t'.ax.toArray⟩)).setCell ⟨w.heap.size+2,3,none⟩ (.int .i64 t'.dY)).setCell ⟨w.heap.size+2,4,none⟩ (.int .i64 t'.start)).setCell ⟨w.heap.size+2,5,none⟩ (.int .i64 t'.fin)).setCell ⟨w.heap.size+2,6,none⟩ (.int .i64 t'.aD)) base yb M g q z pv t':=by
 have f:∀ {V:World} {g:Nat} {cs:List Value} (k:Nat) (v:Value),w.heap.size+2≠g->V.rangeAt g 0 cs->(V.setCell ⟨w.heap.size+2,k,none⟩ v).rangeAt g 0 cs:=fun k v hn hr=>eT hr hn v;have G:=az (j:=6) (u:=.int .i64 t'.aD) (az (j:=5) (u:=.int .i64 t'.fin) (az (j:=4) (u:=.int .i64 t'.start) (az (j:=3) (u:=.int .i64 t'.dY) (az (j:=2) (u:=.string ⟨t'.ax.toArray⟩) (az (j:=1) (u:=.int .u64 (t'.aM.toNat:Int)) (az (j:=0) (u:=.int .i64 t'.ay) h.g (cX _ 2)) (cX _ 2)) (cX _ 2)) (cX _ 2)) (cX _ 2)) (cX _ 2)) (cX _ 2);refine ⟨hD.keep (fun b hb=>G.block b (hD.lt b hb).2 aft),?_,?_,eZ h.lt _ _ _ _ _ _ _,?_,hz.grown G,hp.grown G,G⟩
 ·exact f _ _ afp (f _ _ afp (f _ _ afp (f _ _ afp (f _ _ afp (f _ _ afp (f _ _ afp h.c))))))
 ·exact bP (bP (bP (bP (bP (bP (bP h.r _) _) _) _) _) _) _
 ·exact bP (bP (bP (bP (bP (bP (bP h.lt _) _) _) _) _) _) _
end
end Go.Proofs.YteknelimjfgmaaaGreatDoor
namespace Go.Proofs.YteknelimjfgmaaaGreatDoor
set_option maxHeartbeats 16000000
open Proofs.Tryz Go.RowKit
set_option maxRecDepth 100000
set_option linter.unusedSimpArgs false
theorem jP {P:Program} {c:Code} {Q:Exit->Act->World->Prop} {a:Act} {W:World} (X:World->Prop) (hX:X W) (h:∀ V,X V->Code.wp P c Q a V):Code.wp P c Q a W:=h W hX
theorem Ib {p q:Prop} (k:q) (h:q->p:=by
  intro hq
  obtain ⟨t0,t1,t2,t3,t4,t5,t6⟩:=HW.o.tc
  obtain ⟨⟨d0,k0⟩,⟨d1,k1⟩,⟨d2,k2⟩,⟨d3,k3⟩,⟨d4,k4⟩,⟨d5,k5⟩,⟨d6,k6⟩,f0,f1,f2,f3,f4,f5,f6⟩:=oK HW.o.r
  go_wp2
  refine bodyPost_ret (aJ results111 _ _ _ (w.heap.size+1) rfl _ (gY (eZ HW.o.r _ _ _ _ _ _ _))) rfl ?_
  exact hq):p:=h k
theorem acT {p:Prop} (h:p:=by
 refine Ib ?_
 exact ⟨t,31,rfl,by rw[HS.o];exact jO Rp.o HD.o (Rf HW.o.g (cX _ 1))⟩):p:=h
theorem Rn (base yb:Nat) (M:DM) (g:RG) (now:Int) (q:NQ) (z pv:Value) (w:World) (hD:RD w base yb M g) (hok:gU 4611686018427387904 M.bg) (hbase:base<=w.heap.size) (hz:vg w z q.dQ) (hzl:q.dQ.length<=900) (hp:vg w pv q.proof) (hpl:q.proof.length<=900) (dm:In64 now) (hpr:M.aN.length<=1000) (zo:∀ y∈M.aN,In64 y.time) :
  Calls prog 111 #[.pointer (some ⟨yb,0,none⟩),.int .i64 now,.agg #[.string ⟨q.fo.toArray⟩,.int .i64 q.nD,z],pv,.string ⟨q.aV.toArray⟩,.int .i64 q.aL] w fun e w'=>∃ t c,e = .returned (.tuple #[.agg t.cells.toArray,.int .i64 c])/\mP base yb g (iq M now q) w w' t c:=by
 obtain ⟨A,hA⟩:=aq (iq M now q)
 rw[hA]
 have HA:=hid hA
 clear hA
 obtain ⟨T0,hT0⟩:∃ t:TK,t=⟨0,0,[],0,0,0,0⟩:=⟨_,rfl⟩
 have Pf:Hid T0.In:=by rw[hT0];exact qp
 obtain ⟨za,zc,rfl,hz2,hz3,QC⟩:=hz
 have hW0:OW w (((w.alloc (.cells #[.string ⟨q.fo.toArray⟩,.int .i64 q.nD,.slice za q.dQ.length zc] 233)).alloc (.cells #[.int .i64 0,.int .u64 0,.string ⟨#[]⟩,.int .i64 0,.int .i64 0,.int .i64 0,.int .i64 0] 43)).alloc (.cells #[.int .i64 0,.int .u64 0,.string ⟨#[]⟩,.int .i64 0,.int .i64 0,.int .i64 0,.int .i64 0] 43)) base yb M g q (.slice za q.dQ.length zc) pv T0:=by
  have k:∀ (a:World) (o:Obj),a.grownBy (a.alloc o) none:=fun a o=>aE a o none;have G:=aR (aR (aE w (.cells #[.string ⟨q.fo.toArray⟩,.int .i64 q.nD,.slice za q.dQ.length zc] 233) none) (.cells #[.int .i64 0,.int .u64 0,.string ⟨#[]⟩,.int .i64 0,.int .i64 0,.int .i64 0,.int .i64 0] 43)) (.cells #[.int .i64 0,.int .u64 0,.string ⟨#[]⟩,.int .i64 0,.int .i64 0,.int .i64 0,.int .i64 0] 43);refine ⟨hD.keep (fun b hb=>G.block b (hD.lt b hb).2 aft),?_,?_,?_,?_,vg.grown ⟨za,zc,rfl,hz2,hz3,QC⟩ G,hp.grown G,G⟩
  ·exact Hz
  ·exact Hz
  ·rw[hT0];exact Hz
  ·exact Hz
 have HW0:=hid hW0
 have HZ:Hid (vg w (.slice za q.dQ.length zc) q.dQ):=⟨za,zc,rfl,hz2,hz3,QC⟩
 have HP:=hid hp
 have HD:=hid hD
 obtain ⟨nz,hnz⟩:=aq q.dQ.length
 rw[hnz] at HW0 HZ ⊢
 clear hW0 hz2 hz3 QC hp hD hT0
 have Sv:=hid (fun W=>eQ q.aL 16 4 W afq afq)
 have VK:=hid (fun W=>eQ q.aL 32 5 W afq afq)
 obtain ⟨b4,h4⟩:=aq (aG q.aL 16)
 obtain ⟨b5,h5⟩:=aq (aG q.aL 32)
 rw[h4] at Sv
 rw[h5] at VK
 obtain ⟨ag,hag⟩:=aq ((b4 || b5))
 have HSB:Hid (jc q=(ag && decide (q.fo=q.aV))):=by show _=_;rw[<-hag,<-h4,<-h5];rfl
 have HAG:=hid hag
 clear h4 h5 hag
 go_enter func111,ntmps111
 go_upto_region 2 with fail
 refine jP (fun V=>OW w V base yb M g q (.slice za nz zc) pv T0) HW0.o ?_
 clear HW0
 intro W hW
 have HW:=hid hW
 clear hW
 go_cut [15] (fun x wx=>x = .bool ag/\W=wx)
 case first=>
  have HX:=hid HAG.o;clear HAG HSB HA;cases b4 with
  | true=>
   go_wp2_with (go_at_call 104;(with_reducible refine Calls.mono (Sv.o _) ?_);rintro e w' ⟨rfl,rfl⟩)
   go_meet
   case rel=>exact ⟨by rw[<-HX.o];rfl,rfl⟩
  | false=>
   go_wp2_with (go_at_call 104;(first|(with_reducible refine Calls.mono (Sv.o _) ?_)|(with_reducible refine Calls.mono (VK.o _) ?_));rintro e w' ⟨rfl,rfl⟩)
   go_meet
   case rel=>exact ⟨by rw[<-HX.o];rfl,rfl⟩
 case rest=>
  obtain ⟨rfl,rfl⟩:=hcut;clear Sv VK HAG;have c0:W.cell? ⟨w.heap.size,0,none⟩=some (.string ⟨q.fo.toArray⟩):=HW.o.c 0 _ rfl;have c1:W.cell? ⟨w.heap.size,1,none⟩=some (.int .i64 q.nD):=HW.o.c 1 _ rfl;have c2:W.cell? ⟨w.heap.size,2,none⟩=some (.slice za nz zc):=HW.o.c 2 _ rfl;obtain ⟨bad,x91⟩:=aq ((!decide (q.fo=[116,103,115]) && !(ag && decide (q.fo=q.aV))));have kY:=hid x91;clear x91;go_upto_region 3 with fail
  go_cut [41] (fun x wx=>x = .bool bad/\W=wx)
  case first=>
   clear HSB HA;by_cases hts:q.fo=[116,103,115]
   ·have htb:(q.fo==[116,103,115])=true:=cL.2 hts;have Hts:=hid hts;clear hts;go_wp2_with fail;go_meet
    case rel=>exact ⟨by rw[<-kY.o,cH Hts.o];rfl,rfl⟩
   ·have htb:(q.fo==[116,103,115])=false:=cg.2 hts;have Hts:=hid hts;clear hts;cases ag with
    | false=>
     go_wp2_with fail;go_meet
     case rel=>exact ⟨by rw[<-kY.o,cA Hts.o];rfl,rfl⟩
    | true=>
     by_cases hsv:q.fo=q.aV
     ·have hsb:(q.fo==q.aV)=true:=cL.2 hsv;have Hsv:=hid hsv;clear hsv;go_wp2_with fail;go_meet
      case rel=>exact ⟨by rw[<-kY.o,cA Hts.o,cH Hsv.o];rfl,rfl⟩
     ·have hsb:(q.fo==q.aV)=false:=cg.2 hsv;have Hsv:=hid hsv;clear hsv;go_wp2_with fail;go_meet
      case rel=>exact ⟨by rw[<-kY.o,cA Hts.o,cA Hsv.o];rfl,rfl⟩
  case rest=>
   obtain ⟨rfl,rfl⟩:=hcut;cases bad with
   | true=>
    have hne:q.fo≠[116,103,115]/\jc q=false:=by
     have h:=kY.o;rw[HSB.o];simp only[ej,Bool.not_eq_true',gd] at h;exact ⟨h.1,h.2⟩
    have MN:=hid hne;clear hne;have HS:Hid (A=(.error 36,M)):=(by show _=_;rw[<-HA.o];exact Kw MN.o.1 MN.o.2);clear HA;refine Ib ?_;exact ⟨T0,36,rfl,by rw[HS.o];exact jO Pf.o HD.o (Rf HW.o.g (cX _ 1))⟩
   | false=>
    have oW:Hid (q.fo=[116,103,115]\/jc q=true):=by
     show _\/_;have h:=kY.o;rw[HSB.o];by_cases e:q.fo=[116,103,115]
     ·exact .inl e
     ·rw[cA e] at h;simp only[en,gj,Bool.not_eq_false'] at h;exact .inr h
    clear kY HSB;have CF:=hid (fun W (hW:RD W base yb M g)=>wm base yb M g q.fo W hW hok.len);have hfa:=sN g.es q.fo;rw[HD.o.bg] at hfa;obtain ⟨fa,Dz⟩:=aq (fP g.es q.fo);rw[Dz] at CF hfa;have HFA:=hid hfa;clear hfa Dz;go_wp2_with fail;refine (CF.o _ HW.o.d).mono ?_;rintro e W1 ⟨rfl,g1⟩;have HW1:=hid (HW.o.grown g1);clear HW g1 CF c0 c1 c2;rcases HFA.o with ⟨hm,hno⟩ | ⟨i,hi,hie,hx0⟩
    ·have VI:=hid hno;subst hm;clear HFA hno;have HS:Hid (A=(.error 7,M)):=(by show _=_;rw[<-HA.o];exact Ky oW.o VI.o);clear HA;have HW:=HW1;refine Ib ?_;exact ⟨T0,7,rfl,by rw[HS.o];exact jO Pf.o HD.o (Rf HW.o.g (cX _ 1))⟩
    ·have hi0:¬ (i:Int)<0:=(by omega);have hi1:(0:Int)<=(i:Int):=(by omega);obtain ⟨gb,cb,hbv,hrow⟩:=sO HW1.o.d afp;obtain ⟨m,hm⟩:=aq g.es.length;have LG:(i:Int)<(m:Int):=(by omega);have Z0:=hid hbv;have HM:=hid hm;have HHi:=hid hi;obtain ⟨x,hxe⟩:=aq (g.es[i]'hi);have HXE:=hid hxe;have hmx:x.be∈M.bg:=(by rw[<-HD.o.bg,<-hxe];exact ev (cJ hi));have hx:BE.find M.bg q.fo=some x.be:=(by rw[<-hxe];exact hx0);have iL:1<=x.aH/\x.aH<=4611686018427387904:=hok.num x.be hmx;have HX:=hid hx;subst hie;clear HFA hx hx0 hbv hrow hm hxe hmx;have CK:=hid (fun W=>Dr x q.nD W iL.1 (by have:=iL.2;omega));obtain ⟨ko,hko⟩:=aq (x.be.keyOf q.nD);rw[hko] at CK;have HKO:=hid hko;clear hko iL;obtain ⟨kv,WZ⟩:∃ k:Int,((ko.getD 0).toNat:Int)=k:=⟨_,rfl⟩
     obtain ⟨kb,hkb⟩:∃ k:Bool,ko.isSome=k:=⟨_,rfl⟩
     rw[WZ,hkb] at CK;have Xa:=hid WZ;have HKB:=hid hkb;clear WZ hkb;have vJ:Hid (∀ V,OW w V base yb M g q (.slice za nz zc) pv T0->V.cell? ⟨yb,1,none⟩=some (.slice (some ⟨gb,0,none⟩) m cb)/\V.rangeAt gb 0 (bK g.es)):=by
      intro V hV;obtain ⟨gb',cb',YT,hrow'⟩:=sO hV.d (by have:=HHi.o;omega);have e:=Z0.o.symm.trans YT;injection e with e1 e2 e3;injection e1 with e1;injection e1 with e1;subst e1;refine ⟨?_,hrow'⟩;have:=hV.d.dF.blk.cell 1;rw[Z0.o,HM.o] at this;simpa using this
     go_wp2_with fail;refine aF.start (S:=fun V=>OW w V base yb M g q (.slice za nz zc) pv T0) 9 afv ?_;have eD:=hid HW1.o.drew;clear HW1;refine aF.tk 0 [6,5,3,2,1,0] ?_;refine aF.tk 1 [6,5,3,2,1] ?_;refine aF.tk 2 [6,5,3,2] ?_;refine aF.tk 3 [6,5,3] ?_ (hy:=by intro W hW;have y1:=(vJ.o W hW).1;exact jS);refine aF.tk 4 [6,5,4] ?_;refine aF.tk 5 [6,5] ?_;refine aF.tk 6 [6] ?_ (hy:=by intro W hW;have hr:=(vJ.o W hW).2;obtain ⟨x0,x1,x2,x3,x4,x5,x6,x7,x8,x9⟩:=um hr i hi;rw[HXE.o] at x0 x1 x2 x3 x4 x5 x6 x7 x8 x9;clear hr;exact jS);refine aF.tk 7 [8,7] ?_;refine aF.tk 8 [8] ?_ (hy:=by intro W hW;have c1:W.cell? ⟨w.heap.size,1,none⟩=some (.int .i64 q.nD):=hW.c 1 _ rfl;exact jS);refine aF.on 9 ?_;intro K hK;refine Calls.mono (CK.o _) ?_;rintro e W2 ⟨rfl,g2⟩;have HW:=hid (eD.o.grown g2);clear g2;go_wp2_with fail;refine hkl ?_;clear hK K CK eD;refine aF.fr 10 ?_;refine aF.fr 11 ?_;refine aF.fr 12 ?_;refine aF.fr 13 ?_;refine aF.fr 14 ?_;refine aF.done afv ?_;clear vJ Z0 HM hi0 hi1 LG;cases kb with
     | false=>
      have HKn:Hid (x.be.keyOf q.nD=none):=(by show _=_;rw[HKO.o];have:=HKB.o;cases ko with | none=>rfl | some k=>cases this);clear HKO Xa HKB;have HS:Hid (A=(.error 44,M)):=(by show _=_;rw[<-HA.o];exact Pe oW.o HX.o HKn.o);clear HA;refine Ib ?_;exact ⟨T0,44,rfl,by rw[HS.o];exact jO Pf.o HD.o (Rf HW.o.g (cX _ 1))⟩
     | true=>
      obtain ⟨key,hkey⟩:∃ k,ko=some k:=by have:=HKB.o;cases ko with | none=>cases this | some k=>exact ⟨k,rfl⟩
      have Z4:Hid (x.be.keyOf q.nD=some key):=(by show _=_;rw[HKO.o];exact hkey);have ajn:kv=(key.toNat:Int):=(by rw[<-Xa.o,hkey];rfl);subst ajn;clear HKO Xa HKB hkey;have c2:W2.cell? ⟨w.heap.size,2,none⟩=some (.slice za nz zc):=HW.o.c 2 _ rfl;have CO:=hid (fun W (hW:vg W (.slice za nz zc) q.dQ)=>wh key 2 2 q.dQ (.slice za nz zc) W afq afq rfl hzl hW);obtain ⟨ol,hol⟩:=aq (eH key 2 q.dQ);rw[hol] at CO;have Ro:=hid hol;clear hol;go_wp2_with fail;refine (CO.o _ HW.o.z).mono ?_;rintro e W3 ⟨o,rfl,x91,hon,g3⟩;have Xb:=hid x91;clear x91;have HW3:=hid (HW.o.grown g3);clear HW g3 c2  hon CO;cases ol with
      | none=>
       have HSe:Hid ((eH key 2 q.dQ).bind dU=none):=(by show _=_;rw[Ro.o];rfl);clear Ro Xb;simp only[Option.isSome_none];have HS:Hid (A=(.error 31,M)):=(by show _=_;rw[<-HA.o];exact Po oW.o HX.o Z4.o HSe.o);clear HA;have HW:=HW3;refine Ib ?_;exact ⟨T0,31,rfl,by rw[HS.o];exact jO Pf.o HD.o (Rf HW.o.g (cX _ 1))⟩
      | some l=>
       obtain ⟨hl1,hl2⟩:=Xb.o l rfl;have CT:=hid (yZ l o W3 hl1 afp);obtain ⟨oa,oc,ho⟩:=hl1.shape;subst ho;clear hl1 hl2 Xb;simp only[cY];obtain ⟨tb,htb⟩:=aq ((dU l).isSome);rw[htb] at CT;have Sr:=hid htb;clear htb;obtain ⟨ln,hln⟩:=aq l.length;rw[hln] at CT ⊢;clear hln;obtain ⟨⟨d0,k0⟩,⟨d1,k1⟩,⟨d2,k2⟩,⟨d3,k3⟩,⟨d4,k4⟩,⟨d5,k5⟩,⟨d6,k6⟩,f0,f1,f2,f3,f4,f5,f6⟩:=oK HW3.o.lt;go_wp2_with fail;refine CT.o.mono ?_;rintro e W4 ⟨t,rfl,x91,x92,g4⟩;have Rp:=hid x92;clear x92;have HTQ:=hid x91;clear x91;rw[TK.nQ t];have HW4:=hid (HW3.o.grown g4);have HW5:=hid (HW4.o.ajk HD.o HZ.o HP.o t);clear d0 k0 f0 d1 k1 f1 d2 k2 f2 d3 k3 f3 d4 k4 f4 d5 k5 f5 d6 k6 f6;obtain ⟨⟨d0,k0⟩,⟨d1,k1⟩,⟨d2,k2⟩,⟨d3,k3⟩,⟨d4,k4⟩,⟨d5,k5⟩,⟨d6,k6⟩,f0,f1,f2,f3,f4,f5,f6⟩:=oK HW4.o.lt;clear  g4 HW3 CT Pf;go_upto_region 15 with fail
       refine jP (fun V=>OW w V base yb M g q (.slice za nz zc) pv t) HW5.o ?_;clear d0 k0 f0 d1 k1 f1 d2 k2 f2 d3 k3 f3 d4 k4 f4 d5 k5 f5 d6 k6 f6 HW4 HW5;intro W5 hW5;have HW:=hid hW5;clear hW5;cases tb with
       | false=>
        have HSe:Hid ((eH key 2 q.dQ).bind dU=none):=(by show _=_;rw[Ro.o];have:=Sr.o;show dU l=none;cases h:dU l with | none=>rfl | some y=>rw[h] at this;cases this);clear Ro Sr HTQ;have HS:Hid (A=(.error 31,M)):=(by show _=_;rw[<-HA.o];exact Po oW.o HX.o Z4.o HSe.o);clear HA;exact acT
       | true=>
        have YE:Hid ((eH key 2 q.dQ).bind dU=some t):=(by show _=_;rw[Ro.o];have:=Sr.o;show dU l=some t;cases h:dU l with | none=>rw[h] at this;cases this | some y=>rw[HTQ.o y h]);clear Ro Sr HTQ;obtain ⟨t0,t1,t2,t3,t4,t5,t6⟩:=HW.o.tc;have CO:=hid (fun W (hW:vg W pv q.proof)=>wh t.aM 4 4 q.proof pv W afq afq rfl hpl hW);obtain ⟨ol,hol⟩:=aq (eH t.aM 4 q.proof);rw[hol] at CO;have Ro:=hid hol;clear hol;go_wp2_with fail;refine (CO.o _ HW.o.p).mono ?_;rintro e W6 ⟨o,rfl,x91,hon,g6⟩;have Xb:=hid x91;clear x91;have HW6:=hid (HW.o.grown g6);clear HW g6  hon CO t0 t1 t2 t3 t4 t5 t6;cases ol with
        | none=>
         have HPe:Hid ((eH t.aM 4 q.proof).bind fE=none):=(by show _=_;rw[Ro.o];rfl);clear Ro Xb;simp only[Option.isSome_none];have HS:Hid (A=(.error 31,M)):=(by show _=_;rw[<-HA.o];exact KY oW.o HX.o Z4.o YE.o HPe.o);clear HA;have HW:=HW6;exact acT
        | some l2=>
         obtain ⟨hl1,hl2⟩:=Xb.o l2 rfl;have CT:=hid (KJ l2 o W6 hl1 afp);obtain ⟨oa2,oc2,ho⟩:=hl1.shape;subst ho;clear hl1 hl2 Xb;simp only[cY];obtain ⟨tb,htb⟩:=aq ((fE l2).isSome);rw[htb] at CT;have Sr:=hid htb;clear htb;obtain ⟨ln2,hln⟩:=aq l2.length;rw[hln] at CT ⊢;clear hln;go_wp2_with fail;refine CT.o.mono ?_;rintro e W7 ⟨p,rfl,x91,x92,g7⟩;have HPI:=hid x92;clear x92;have HPQ:=hid x91;clear x91;have hcells:p.cells.toArray=#[.string ⟨p.ax.toArray⟩,.int .i64 p.time,.int .i64 p.count]:=rfl;rw[hcells];clear hcells;have HW7:=hid (HW6.o.grown g7);clear  g7 HW6 CT;go_upto_region 21 with fail
         refine jP (fun V=>OW w V base yb M g q (.slice za nz zc) pv t/\V.rangeAt W7.heap.size 0 p.cells) ⟨HW7.o.grown (aE W7 _ none),aW W7 p.cells.toArray _⟩ ?_;have hbp:w.heap.size+3<=W7.heap.size:=HW7.o.big;obtain ⟨bp,afi⟩:=aq W7.heap.size;rw[afi] at hbp ⊢;have HBP:=hid hbp;clear HW7 hbp afi;rintro W8 ⟨x91,x92⟩;have Yz:=hid x92;clear x92;have HW:=hid x91;clear x91;cases tb with
         | false=>
          have HPe:Hid ((eH t.aM 4 q.proof).bind fE=none):=(by show _=_;rw[Ro.o];have:=Sr.o;show fE l2=none;cases h:fE l2 with | none=>rfl | some y=>rw[h] at this;cases this);clear Ro Sr HPQ;have HS:Hid (A=(.error 31,M)):=(by show _=_;rw[<-HA.o];exact KY oW.o HX.o Z4.o YE.o HPe.o);clear HA;exact acT
         | true=>
          have HPk:Hid ((eH t.aM 4 q.proof).bind fE=some p):=(by show _=_;rw[Ro.o];have:=Sr.o;show fE l2=some p;cases h:fE l2 with | none=>rw[h] at this;cases this | some y=>rw[HPQ.o y h]);clear Ro Sr HPQ;have p0:W8.cell? ⟨bp,0,none⟩=some (.string ⟨p.ax.toArray⟩):=Yz.o 0 _ rfl;have p1:W8.cell? ⟨bp,1,none⟩=some (.int .i64 p.time):=Yz.o 1 _ rfl;by_cases hcl:p.ax=t.ax;rotate_left
          ·have hcb:(p.ax==t.ax)=false:=cg.2 hcl;have GL:=hid hcl;clear hcl;have HS:Hid (A=(.error 36,M)):=(by show _=_;rw[<-HA.o];exact Rm oW.o HX.o Z4.o YE.o HPk.o GL.o);clear HA;refine Ib ?_;exact ⟨t,36,rfl,by rw[HS.o];exact jO Rp.o HD.o (Rf HW.o.g (cX _ 1))⟩
          have hcb:(p.ax==t.ax)=true:=cL.2 hcl;have GL:=hid hcl;clear hcl;have CA:=hid (fun W=>xI p.time now W HPI.o.1 dm);obtain ⟨ap,hap⟩:=aq (dM p.time now);rw[hap] at CA;have HAp:=hid hap;clear hap;have VL:W8.cell? ⟨yb,0,none⟩=some (.int .i64 M.aC):=by
           have:=HW.o.d.dF.blk.cell 0;simpa using this
          obtain ⟨t0,t1,t2,t3,t4,t5,t6⟩:=HW.o.tc;have JX:Hid (OW w W8.drew base yb M g q (.slice za nz zc) pv t/\W8.drew.rangeAt bp 0 p.cells):=⟨HW.o.drew,aA Yz.o (bD (bh _ _))⟩
          by_cases hsw:M.aC<ap
          ·have HSw:Hid (M.aC<dM p.time now):=(by show _<_;rw[HAp.o];exact hsw);go_wp2_with fail;clear t0 t1 t2 t3 t4 t5 t6 p0 p1 VL;refine aF.start (S:=fun V=>OW w V base yb M g q (.slice za nz zc) pv t/\V.rangeAt bp 0 p.cells) 8 afv ?_;have eD:=JX;refine aF.tk 0 [3,1,0] ?_;refine aF.tk 1 [3,1] ?_ (hy:=by intro W hW;have p1:W.cell? ⟨bp,1,none⟩=some (.int .i64 p.time):=hW.2 1 _ rfl;exact jS);refine aF.tk 2 [3,2] ?_;refine aF.tk 4 [7,6,5,4] ?_;refine aF.tk 5 [7,6,5] ?_;refine aF.tk 6 [7,6] ?_;refine aF.tk 7 [7] ?_ (hy:=by intro W hW;have y0:W.cell? ⟨yb,0,none⟩=some (.int .i64 M.aC):=(by have:=hW.1.d.dF.blk.cell 0;simpa using this);exact jS);refine aF.on 3 ?_;intro K hK;refine Calls.mono (CA.o _) ?_;rintro e w' ⟨rfl,rfl⟩;go_wp2_with fail;refine hkr ?_;clear hK K;refine aF.on 8 ?_;intro K hK;refine hkl ?_;clear hK K;refine aF.fr 9 ?_;refine aF.Dw (fun V=>OW w V base yb M g q (.slice za nz zc) pv t/\V.rangeAt bp 0 p.cells) afv eD.o ?_;clear eD JX HW Yz;rintro W9 ⟨x91,x92⟩;have Yz:=hid x92;clear x92;have HW:=hid x91;clear x91;have HS:Hid (A=(.error 37,M)):=(by show _=_;rw[<-HA.o];exact YW oW.o HX.o Z4.o YE.o HPk.o GL.o HSw.o);clear HA;refine Ib ?_;exact ⟨t,37,rfl,by rw[HS.o];exact jO Rp.o HD.o (Rf HW.o.g (cX _ 1))⟩
          ·have HSw:Hid (dM p.time now<=M.aC):=(by show _<=_;rw[HAp.o];exact eK.1 hsw);go_wp2_with fail;clear t0 t1 t2 t3 t4 t5 t6 p0 p1 VL;refine aF.start (S:=fun V=>OW w V base yb M g q (.slice za nz zc) pv t/\V.rangeAt bp 0 p.cells) 8 afv ?_;have eD:=JX;refine aF.tk 0 [3,1,0] ?_;refine aF.tk 1 [3,1] ?_ (hy:=by intro W hW;have p1:W.cell? ⟨bp,1,none⟩=some (.int .i64 p.time):=hW.2 1 _ rfl;exact jS);refine aF.tk 2 [3,2] ?_;refine aF.tk 4 [7,6,5,4] ?_;refine aF.tk 5 [7,6,5] ?_;refine aF.tk 6 [7,6] ?_;refine aF.tk 7 [7] ?_ (hy:=by intro W hW;have y0:W.cell? ⟨yb,0,none⟩=some (.int .i64 M.aC):=(by have:=hW.1.d.dF.blk.cell 0;simpa using this);exact jS);refine aF.on 3 ?_;intro K hK;refine Calls.mono (CA.o _) ?_;rintro e w' ⟨rfl,rfl⟩;go_wp2_with fail;refine hkr ?_;clear hK K;refine aF.on 8 ?_;intro K hK;refine hkl ?_;clear hK K;refine aF.fr 9 ?_;refine aF.Dw (fun V=>OW w V base yb M g q (.slice za nz zc) pv t/\V.rangeAt bp 0 p.cells) afv eD.o ?_;clear eD JX HW Yz;rintro W9 ⟨x91,x92⟩;have Yz:=hid x92;clear x92;have HW:=hid x91;clear x91;have hyb:yb<w.heap.size:=(HD.o.lt yb (.inl rfl)).2;have CR:=hid (fun W (hW:RD W base yb M g) (hb:base<=W.heap.size)=>Ia base yb M g p now W hW hpr zo dm hb);have hcells:p.cells.toArray=#[.string ⟨p.ax.toArray⟩,.int .i64 p.time,.int .i64 p.count]:=rfl;rw[hcells] at CR;clear hcells;have HA2:Hid (A=if bL M.aC now M.aN p≠0 then (.error (bL M.aC now M.aN p),{M with aN:=bM M.aC now M.aN p}) else (.ok t,{M with aN:=bM M.aC now M.aN p})):=by
            rw[<-HA.o];exact YX oW.o HX.o Z4.o YE.o HPk.o GL.o (eK.2 HSw.o)
           obtain ⟨pc,hpc⟩:=aq (bL M.aC now M.aN p);obtain ⟨M',hM'⟩:∃ m:DM,{M with aN:=bM M.aC now M.aN p}=m:=⟨_,rfl⟩
           rw[hpc,hM'] at CR HA2;clear hpc hM' HA oW HX Z4 YE HPk GL HSw HAp CA;have HSZ:Hid (base<=W9.drew.heap.size):=br hbase (by have:=HW.o.drew.big;omega);go_wp2_with fail;refine aF.start (S:=fun V=>V.rangeAt (w.heap.size+2) 0 t.cells/\V.rangeAt bp 0 p.cells) 5 afv ?_;have eD:Hid (W9.drew.rangeAt (w.heap.size+2) 0 t.cells/\W9.drew.rangeAt bp 0 p.cells):=⟨HW.o.drew.t,aA Yz.o (bD (bh _ _))⟩
           refine aF.tk 0 [0] ?_ (hy:=by intro W hW;have h7:=hW.1;obtain ⟨t0,t1,t2,t3,t4,t5,t6⟩:=kV h7;clear h7;exact jS);refine aF.tk 1 [4,1] ?_;refine aF.tk 2 [4,2] ?_ (hy:=by intro W hW;have p0:W.cell? ⟨bp,0,none⟩=some (.string ⟨p.ax.toArray⟩):=hW.2 0 _ rfl;have p1:W.cell? ⟨bp,1,none⟩=some (.int .i64 p.time):=hW.2 1 _ rfl;have p2:W.cell? ⟨bp,2,none⟩=some (.int .i64 p.count):=hW.2 2 _ rfl;exact jS);refine aF.tk 3 [4,3] ?_;refine aF.on 4 ?_;intro K hK;refine Calls.mono (CR.o _ HW.o.drew.d HSZ.o) ?_;rintro e Wr ⟨rfl,v,hR1,gR,K9⟩;have HRR:=hid (And.intro hR1 (And.intro gR K9));have HS2:Hid (Wr.rangeAt (w.heap.size+2) 0 t.cells/\Wr.rangeAt bp 0 p.cells):=⟨wz eD.o.1 gR afp,wz eD.o.2 gR (by have:=HBP.o;omega)⟩
           have JP:=hid (KZ HW.o.drew.r gR afp);clear hR1 gR K9;go_wp2_with fail;refine hkx HS2.o ?_;clear hK K CR eD;have eD:=HS2;clear HS2;obtain ⟨⟨d0,k0⟩,⟨d1,k1⟩,⟨d2,k2⟩,⟨d3,k3⟩,⟨d4,k4⟩,⟨d5,k5⟩,⟨d6,k6⟩,f0,f1,f2,f3,f4,f5,f6⟩:=oK JP.o;refine aF.on 5 ?_;intro K hK;refine hkl ?_;clear hK K;refine aF.fr 6 ?_;refine aF.done afv ?_;go_wp2;refine bodyPost_ret (aJ results111 _ _ _ (w.heap.size+1) rfl _ (gY (eZ JP.o _ _ _ _ _ _ _))) rfl ?_;refine ⟨t,pc,rfl,K7 HA2.o Rp.o ?_ ?_⟩
           ·obtain ⟨h1,h2,h3⟩:=HRR.o;have hbig:=HW.o.drew.big;have hn:∀ b,({g with pv:=v}:RG).foot yb b->b≠w.heap.size+1:=by
             intro b hb;rcases hb with e | e | e | e
             ·omega
             ·have:=(HD.o.lt b (.inr (.inl e))).2;omega
             ·have:=h3 b e;omega
             ·have:=(HD.o.lt b (.inr (.inr (.inr e)))).2;omega
            exact ⟨v,((((((h1.mQ hn).mQ hn).mQ hn).mQ hn).mQ hn).mQ hn).mQ hn,.inr (fun b hb=>br afp (h3 b hb))⟩
           ·obtain ⟨h1,h2,h3⟩:=HRR.o;have h4:=gQ (lh HW.o.drew.g yb) h2;exact gT (gT (gT (gT (gT (gT (gT h4 (cX _ 1)) (cX _ 1)) (cX _ 1)) (cX _ 1)) (cX _ 1)) (cX _ 1)) (cX _ 1)
end Go.Proofs.YteknelimjfgmaaaGreatDoor
