import Derived.Test.YteknelimjfgmaaaGreatDoorGJRGivB
import Derived.Test.YteknelimjfgmaaaGreatDoorGJRHeld
namespace Go.Proofs.YteknelimjfgmaaaGreatDoor
open Go.RowKit
set_option maxRecDepth 100000
theorem Rk (p0 p1 p2 p3 p4 p5 p6 p7 p8:Pc) (v3 v4 v5 v6 v7:Int) (h0:bF p0.pair=some 10) (h3:ik p3 v3) (h4:ik p4 v4) (h5:ik p5 v5) (h6:ik p6 v6) (h7:ik p7 v7) :
  (kH ([p0,p1,p2,p3,p4,p5,p6,p7,p8].map Pc.pair)).isSome=((di p1.pair).isSome && ((di p2.pair).isSome && (jv [p3,p4,p5,p6,p7] && (lu p8.pair).isSome)))/\∀ q,kH ([p0,p1,p2,p3,p4,p5,p6,p7,p8].map Pc.pair)=some q->∃ o,lu p8.pair=some o/\q=⟨p1.ins,p2.ins,v3,v4,v5,v6,v7,o⟩:=by
 have e:kH ([p0,p1,p2,p3,p4,p5,p6,p7,p8].map Pc.pair)=(di p1.pair).bind fun c=>(di p2.pair).bind fun s=>(bF p3.pair).bind fun n=>(bF p4.pair).bind fun f=>(bF p5.pair).bind fun t=>(bF p6.pair).bind fun r=>(bF p7.pair).bind fun o=>(lu p8.pair).bind fun p=>some ⟨c,s,n,f,t,r,o,p⟩:=by
  show (bF p0.pair).bind _=_;rw[h0];rfl
 have n1:∀ y,di p1.pair=some y->y=p1.ins:=fun y hy=>vF hy
 have n2:∀ y,di p2.pair=some y->y=p2.ins:=fun y hy=>vF hy
 rw[e]
 unfold ik at *
 simp only[jv,List.all_cons,List.all_nil,fR]
 cases c1:di p1.pair with
 | none=>exact ⟨rfl,fun t ht=>by cases ht⟩
 | some a1=>
  have z1:=n1 a1 c1;cases c2:di p2.pair with
  | none=>exact ⟨by simp,fun t ht=>by cases ht⟩
  | some a2=>
   have z2:=n2 a2 c2;cases c3:bF p3.pair with
   | none=>exact ⟨by simp,fun t ht=>by cases ht⟩
   | some a3=>
    have z3:=h3.2 a3 c3;cases c4:bF p4.pair with
    | none=>exact ⟨by simp,fun t ht=>by cases ht⟩
    | some a4=>
     have z4:=h4.2 a4 c4;cases c5:bF p5.pair with
     | none=>exact ⟨by simp,fun t ht=>by cases ht⟩
     | some a5=>
      have z5:=h5.2 a5 c5;cases c6:bF p6.pair with
      | none=>exact ⟨by simp,fun t ht=>by cases ht⟩
      | some a6=>
       have z6:=h6.2 a6 c6;cases c7:bF p7.pair with
       | none=>exact ⟨by simp,fun t ht=>by cases ht⟩
       | some a7=>
        have z7:=h7.2 a7 c7;cases c8:lu p8.pair with
        | none=>exact ⟨by simp,fun t ht=>by cases ht⟩
        | some o=>
         refine ⟨by simp,fun t ht=>⟨o,rfl,?_⟩⟩;injection ht with ht;subst z1 z2 z3 z4 z5 z6 z7;exact ht.symm
theorem Rl {p:mW} {x:Int×List UInt8} (h:lu p=some (some x)):x.2.length<=p.2.length:=by
 unfold lu at h;cases hp:yA p with
 | none=>rw[hp] at h;cases h
 | some ps=>
  rw[hp] at h;have hc:Box.dH p.2=some ps:=by
   unfold yA at hp;split at hp
   ·exact hp
   ·cases hp
  cases ps with
  | nil=>cases h
  | cons a r=>
   have h':(pF (a::r)).map some=some (some x):=h;cases hs:pF (a::r) with
   | none=>rw[hs] at h';cases h'
   | some y=>
    rw[hs] at h';injection h' with h';injection h' with h';subst h';by_cases h2:(a::r).length=2
    ·obtain ⟨u,v,e⟩:=JF h2;rw[e] at hs hc;rw[GV] at hs;cases hn:bF u with
     | none=>rw[hn] at hs;cases hs
     | some n=>
      rw[hn] at hs;cases ht:iX v with
      | none=>rw[ht] at hs;cases hs
      | some z=>
       rw[ht] at hs;injection hs with hs;subst hs;have hz:z=v.2:=by
        unfold iX at ht;split at ht
        ·injection ht with ht;exact ht.symm
        ·cases ht
       rw[hz];exact Box.kS hc v aft
    ·rw[Ac _ h2] at hs;cases hs
def codeOf (M:DM):Except Int GR->Int
 | .error c=>c
 | .ok _=>if M.aO.length<24 then 60 else 0
def Bl (base yb:Nat) (M:DM) (g:RG) (R:Except Int GR) (w w':World) (o:Value) (c:Int):Prop:=
 c=codeOf M R/\(c≠0->o = .slice none 0 0/\RD w' base yb M g/\w.grownBy w' none)/\(c=0->∃ gr v,R = .ok gr/\Made w.heap.size w' o (gr.box M.aO)/\RD w' base yb {M with aO:=M.aO.drop 24} {g with dv:=v}/\NewAt w.heap.size v/\w.grownBy w' (some yb))
theorem gZ {base yb:Nat} {M:DM} {g:RG} {c:Int} {w w':World} (hc:c≠0) (hD:RD w base yb M g) (k:w.grownBy w' none):Bl base yb M g (.error c) w w' (.slice none 0 0) c:=
 ⟨rfl,fun _=>⟨rfl,hD.keep (fun b hb=>k.block b (hD.lt b hb).2 aft),k⟩,fun h=>absurd h hc⟩
def mO (M:DM) (now:Int) (ps:List mW):Except Int GR:=
 match kH ps with
 | none=>.error 60
 | some q=>firstM M now q
structure FS (w W:World) (base yb:Nat) (M:DM) (g:RG) (gv:Nat) (v0 v1 v2 v3 v4:Int) (z:Value) (o:Option (Int×List UInt8)):Prop where
 d:RD W base yb M g
 v:W.rangeAt gv 0 [.int .i64 v0,.int .i64 v1,.int .i64 v2,.int .i64 v3,.int .i64 v4]
 z:∀ x,o=some x->vg W z x.2/\x.2.length<=900
 g:w.grownBy W none
theorem FS.grown {w W W':World} {base yb:Nat} {M:DM} {g:RG} {gv:Nat} {v0 v1 v2 v3 v4:Int} {z:Value} {o:Option (Int×List UInt8)} (h:FS w W base yb M g gv v0 v1 v2 v3 v4 z o) (k:W.grownBy W' none):FS w W' base yb M g gv v0 v1 v2 v3 v4 z o:=
 ⟨h.d.keep (fun b hb=>k.block b (h.d.lt b hb).2 aft),aA h.v k,fun x hx=>⟨(h.z x hx).1.grown k,(h.z x hx).2⟩,aa h.g k⟩
theorem sN (es:List RE) (l:List UInt8):(fP es l=-1/\BE.find (es.map RE.be) l=none)\/∃ (i:Nat) (h:i<es.length),fP es l=(i:Int)/\BE.find (es.map RE.be) l=some es[i].be:=by
 have hf:=Pm (es.map RE.be) l;have hb:=OG es l;cases hi:es.findIdx? (fun e=>e.name==l) with
 | none=>
  refine .inl ⟨BZ es l hi,hf.1 ?_⟩;rw[hb,hi];rfl
 | some i=>
  have hlt:i<es.length:=by
   have:=List.findIdx?_eq_some_iff_findIdx_eq.1 hi;exact this.1
  refine .inr ⟨i,hlt,yz es l i hi,?_⟩;rw[hf.2 i (by simpa using hlt) (by rw[hb,hi])];simp
theorem sO {w:World} {base yb:Nat} {M:DM} {g:RG} (h:RD w base yb M g) (hn:0<g.es.length):∃ gb cb,g.bv = .slice (some ⟨gb,0,none⟩) g.es.length cb/\w.rangeAt gb 0 (bK g.es):=by
 obtain ⟨gb,cb,e,r,_⟩:=jh h.dF.bg hn;exact ⟨gb,cb,e,r⟩
theorem um {w:World} {gb:Nat} {es:List RE} (h:w.rangeAt gb 0 (bK es)) (i:Nat) (hi:i<es.length):w.cell? ⟨gb,i*10,none⟩=some (.int .i64 es[i].k)/\w.cell? ⟨gb,i*10+1,none⟩=some (.string ⟨es[i].name.toArray⟩)/\w.cell? ⟨gb,i*10+2,none⟩=some (.int .u64 (es[i].yo.toNat:Int))/\w.cell? ⟨gb,i*10+3,none⟩=some (.int .i64 es[i].bI)/\w.cell? ⟨gb,i*10+4,none⟩=some (.int .i64 es[i].aD)/\w.cell? ⟨gb,i*10+5,none⟩=some (.int .i64 es[i].bC)/\w.cell? ⟨gb,i*10+6,none⟩=some (.int .i64 es[i].ay)/\w.cell? ⟨gb,i*10+7,none⟩=some (.int .i64 es[i].aH)/\w.cell? ⟨gb,i*10+8,none⟩=some (.int .u64 (es[i].key.toNat:Int))/\w.cell? ⟨gb,i*10+9,none⟩=some (.int .u64 (es[i].before.toNat:Int)):=by
 have f:∀ j v,(es[i]).cells[j]?=some v->j<10->w.cell? ⟨gb,i*10+j,none⟩=some v:=fun j v hv hj=>by
  have:=h (i*10+j) v (by rw[iV es i j hi hj];exact hv);rwa [cC] at this
 exact ⟨f 0 _ rfl afq,f 1 _ rfl afq,f 2 _ rfl afq,f 3 _ rfl afq,f 4 _ rfl afq,f 5 _ rfl afq,f 6 _ rfl afq,f 7 _ rfl afq,f 8 _ rfl afq,f 9 _ rfl afq⟩
theorem wm (base yb:Nat) (M:DM) (g:RG) (l:List UInt8) (w:World) (h:RD w base yb M g) (hl:M.bg.length<=20) :
  Calls Tryz.prog 56 #[.pointer (some ⟨yb,0,none⟩),.string ⟨l.toArray⟩] w fun e w'=>e = .returned (.int .i64 (fP g.es l))/\w.grownBy w' none:=by
 have hn:g.es.length<=20:=by
  have:=eh List.length h.bg;rw[cw] at this;omega
 exact nA base yb M.aC g.bv g.pv g.dv g.es M.aO l g.es.length _ w h.dF (hid rfl) afp (hid rfl)
set_option maxHeartbeats 2000000
structure oL where
 kind:Int
 ax:List UInt8
 aV:List UInt8
 bS:Int
 kX:Int
 dJ:Int
 bV:Int
 options:Int
 pre:Int
 kU:Int
 ticket:Int
 hand:TK
 nS:Int
 wu:Int
 jE:List UInt8
 nT:Int
 jN:Int
 sP:Int
 o9:Int
def oL.cells (a:oL):List Value:=[.int .i64 a.kind,.string ⟨a.ax.toArray⟩,.string ⟨a.aV.toArray⟩,.int .i64 a.bS,.int .i64 a.kX,.int .i64 a.dJ,.int .i64 a.bV,.int .i64 a.options,.int .i64 a.pre,.int .i64 a.kU,.int .i64 a.ticket,.int .i64 a.hand.ay,.int .u64 (a.hand.aM.toNat:Int),.string ⟨a.hand.ax.toArray⟩,.int .i64 a.hand.dY,.int .i64 a.hand.start,.int .i64 a.hand.fin,.int .i64 a.hand.aD,.int .i64 a.nS,.int .i64 a.wu,.string ⟨a.jE.toArray⟩,.int .i64 a.nT,.int .i64 a.jN,.int .i64 a.sP,.int .i64 a.o9]
def oL.arr (a:oL):Array Value:=a.cells.toArray
theorem oL.nQ (a:oL):a.arr=#[.int .i64 a.kind,.string ⟨a.ax.toArray⟩,.string ⟨a.aV.toArray⟩,.int .i64 a.bS,.int .i64 a.kX,.int .i64 a.dJ,.int .i64 a.bV,.int .i64 a.options,.int .i64 a.pre,.int .i64 a.kU,.int .i64 a.ticket,.int .i64 a.hand.ay,.int .u64 (a.hand.aM.toNat:Int),.string ⟨a.hand.ax.toArray⟩,.int .i64 a.hand.dY,.int .i64 a.hand.start,.int .i64 a.hand.fin,.int .i64 a.hand.aD,.int .i64 a.nS,.int .i64 a.wu,.string ⟨a.jE.toArray⟩,.int .i64 a.nT,.int .i64 a.jN,.int .i64 a.sP,.int .i64 a.o9]:=rfl
structure oL.Ok (a:oL):Prop where
 kind:In64 a.kind
 ax:a.ax.length<=1048576
 aV:a.aV.length<=1048576
 bS:In64 a.bS
 kX:In64 a.kX
 dJ:In64 a.dJ
 bV:In64 a.bV
 options:In64 a.options
 pre:In64 a.pre
 kU:In64 a.kU
 ticket:In64 a.ticket
 hand:a.hand.In
 xK:a.hand.ax.length<=1048576
 nS:In64 a.nS
 wu:In64 a.wu
 jE:a.jE.length<=1048576
 nT:In64 a.nT
 jN:In64 a.jN
 sP:In64 a.sP
 o9:In64 a.o9
def YS (w w':World) (e:Ending):Prop:=∃ (key:UInt64) (n:Int),e = .returned (.tuple #[.int .u64 (key.toNat:Int),.int .i64 n])/\0<=n/\n<=4611686018427387904/\w.grownBy w' none
theorem Du (base yb:Nat) (M:DM) (g:RG) (l:List UInt8) (w:World) (hD:RD w base yb M g) (hok:gU 4611686018427387904 M.bg) :
  Calls Tryz.prog 95 #[.pointer (some ⟨yb,0,none⟩),.string ⟨l.toArray⟩] w fun e w'=>YS w w' e:=by
 obtain ⟨ab,cb,hbv⟩:=cu hD.dF.bg
 obtain ⟨m,hm⟩:=aq g.es.length
 have zm:m<=20:=by have:=hok.len;rw[<-hD.bg,cw] at this;omega
 have c1:=hD.dF.blk.cell 1
 rw[hbv,hm] at c1
 simp only[cx,ct,cD] at c1
 have HD:=hid hD
 have HM:=hid hm
 have Z0:=hid hbv
 clear hD hm hbv
 obtain ⟨S,hS⟩:∃ S:ByteArray,S=⟨l.toArray⟩:=⟨_,rfl⟩
 rw[<-hS]
 clear hS
 go_enter Tryz.func95,Tryz.ntmps95
 go_wp2
 go_loopw [6] (fun i wr=>∃ k:Nat,k<=m/\i = .int .i64 k/\w.grownBy wr none) (fun i _=>m-(intOf i).toNat)
 case atStart=>exact ⟨0,cE _,rfl,bh _ _⟩
 case round=>
  obtain ⟨k,hk,rfl,hgr⟩:=hrel;have c1r:=hgr.cell c1 aft;by_cases hlt:k<m
  ·have hlt':k<g.es.length:=(by rw[HM.o];exact hlt);have rF:(k:Int)<(m:Int):=(by omega);have hk0:(0:Int)<=(k:Int):=(by omega);obtain ⟨gb,cb',YT,hrow⟩:=sO HD.o afp;have hab:ab=some ⟨gb,0,none⟩:=by
    have e:=Z0.o.symm.trans YT;injection e
   subst hab;obtain ⟨x0,x1,x2,x3,x4,x5,x6,x7,x8,x9⟩:=um (aA hrow hgr) k hlt';have hmx:(g.es[k]'hlt').be∈M.bg:=(by rw[<-HD.o.bg];exact ev (cJ hlt'));have iL:1<=(g.es[k]'hlt').aH/\(g.es[k]'hlt').aH<=4611686018427387904:=hok.num _ hmx;have Eg:=hid iL;obtain ⟨T,hT⟩:∃ T:ByteArray,T=⟨(g.es[k]'hlt').name.toArray⟩:=⟨_,rfl⟩
   rw[<-hT] at x1;have HG:=hid hgr;clear x0 x2 x3 x4 x5 x6 x9 hrow hmx iL YT hT hgr;by_cases he:(T.toList==S.toList)=true
   ·go_wp2_with fail;go_quiet (fail)
    go_wp2;go_ret2;exact ⟨_,_,rfl,by have:=Eg.o;omega,Eg.o.2,aY HG.o _⟩
   ·have he2:(T.toList==S.toList)=false:=(by simpa using he);clear he;go_wp2;go_roundw
    case rel=>exact ⟨k+1,by omega,by go_num,HG.o⟩
    case measure=>simp[intOf];omega
  ·have Sb:k=m:=(by omega);subst Sb;have rF:¬ (k:Int)<(k:Int):=(by omega);go_wp2;go_ret2;exact ⟨0,1,rfl,by decide,by decide,hgr⟩
set_option maxHeartbeats 4000000
open Proofs.Tryz
theorem agc {p:Prop} (h:p:=by intro u hu;simp at hu;rcases hu with rfl | rfl | rfl <;> rfl):p:=h
variable {M:DM} {yb:Nat} {g:RG} {w:World}
theorem Tryz.abW:(prog.info? 283).map (fun i=>(i.zero,i.size,i.bytes))=some (some (.agg #[.string ⟨#[]⟩,.int .i64 0,.int .i64 0]),3,32):=by kernel_rfl
theorem wy (l:List PF):∀ (k j:Nat) (hk:k<l.length),j<3->(fI l)[k*3+j]?=(l[k]).cells[j]?:=by
 unfold fI;induction l with
 | nil=>intro k j hk;simp at hk
 | cons x l ih=>
  intro k j hk hj;rw[dj,dk];cases k with
  | zero=>rw[gi,cC,cF (by show j<3;exact hj)];rfl
  | succ k=>
   rw[cM (by show 3<=(k+1)*3+j;omega),show (k+1)*3+j-x.cells.length=k*3+j from by show (k+1)*3+j-3=k*3+j;omega];exact ih k j afD hj
theorem Dx (l:List PF) (p:PF):fI (l++[p])=fI l++p.cells:=by simp[fI]
theorem NU (aC now:Int) (l:List PF) (k:Nat) (hk:k<l.length):ig aC now (l.take (k+1))=ig aC now (l.take k)++(if dM l[k].time now<=aC then [l[k]] else []):=by
 unfold ig;rw[ee hk,List.filter_append];congr 1;by_cases h:dM l[k].time now<=aC
 ·rw[if_pos h];simp[h]
 ·rw[if_neg h];simp[h]
theorem afh {p:Prop} (h:p:=by
 cases hv:v.ownBlock with
 | none=>exact .inl rfl
 | some b=>exact .inr aft):p:=h
theorem RD.xM {base:Nat} (hD:RD w base yb M g) {W:World} {v x:Value} {ps:List PF} (hg:w.grownBy W (some yb)) (hB:dX W yb #[.int .i64 M.aC,g.bv,x,g.dv]) (hown:W.ownsRow w.heap.size 283 3 v ps.length (fI ps)) (hb:base<=w.heap.size) :
  RD (W.setCell ⟨yb,2,none⟩ v) base yb {M with aN:=ps} {g with pv:=v}/\w.grownBy (W.setCell ⟨yb,2,none⟩ v) (some yb)/\NewAt w.heap.size v:=by
 have hnew:NewAt w.heap.size v:=fun b hb=>(hown.lt b hb).1
 have hnb:∀ b,g.foot yb b->v.ownBlock≠some b:=fun b hb e=>by have:=hnew b e;have:=(hD.lt b hb).2;omega
 have hkeep:∀ b,b≠yb->(W.setCell ⟨yb,2,none⟩ v).heap[b]?=W.heap[b]?:=fun b hne=>by
  simp[World.setCell,Array.getElem?_modify,Ne.symm hne]
 have hk2:∀ b,b≠yb->g.foot yb b->(W.setCell ⟨yb,2,none⟩ v).heap[b]?=w.heap[b]?:=fun b hne hf=>(hkeep b hne).trans (hg.block b (hD.lt b hf).2 (fun e=>hne afI))
 have hg':w.grownBy (W.setCell ⟨yb,2,none⟩ v) (some yb):=by
  refine ⟨hg.os,hg.tape,hg.output,?_,fun b hb hx=>?_⟩
  ·rw[show (W.setCell ⟨yb,2,none⟩ v).heap.size=W.heap.size from by simp[World.setCell]];exact hg.size
  ·rw[hkeep b (fun e=>hx af4)];exact hg.block b hb hx
 refine ⟨⟨⟨?_,eF hD.dF.bg (fun b hb=>hk2 b (fun e=>hD.dF.bne afR) (.inr (.inl hb))),eF hD.dF.aO (fun b hb=>hk2 b (fun e=>hD.dF.Qd afR) (.inr (.inr (.inr hb)))),hD.dF.here,hD.dF.bne,hD.dF.Qd,hD.dF.apart⟩,hD.bg,fT (eF hown (fun b hb=>hkeep b (fun e=>hnb yb (.inl rfl) afR))) hb,hnb yb (.inl rfl),?_,?_⟩,hg',hnew⟩
 ·have:=hB.set 2 v;simpa using this
 ·cases hq:g.bv.ownBlock with
  | none=>
   exact afh
  | some b=>exact .inr (hnb b (.inr (.inl hq)))
 ·cases hq:g.dv.ownBlock with
  | none=>
   exact afh
  | some b=>exact .inr (hnb b (.inr (.inr (.inr hq))))
theorem RD.F8 {base:Nat} (hD:RD w base yb M g) {W:World} {v:Value} {ps:List PF} (hg:w.grownBy W none) (hown:W.ownsRow w.heap.size 283 3 v ps.length (fI ps)) (hb:base<=w.heap.size) :
  RD (W.setCell ⟨yb,2,none⟩ v) base yb {M with aN:=ps} {g with pv:=v}/\w.grownBy (W.setCell ⟨yb,2,none⟩ v) (some yb)/\NewAt w.heap.size v:=hD.xM (lh hg yb) (hD.dF.blk.grown hg aft) hown hb
theorem RD.drewN {base:Nat} (hD:RD w base yb M g) (m:Nat):RD (w.drewN m) base yb M g:=hD.keep (fun _ _=>rfl)
theorem F9 {a b:World} {o:Obj} {r:Option Nat} (h:(a.alloc o).grownBy b r):a.grownBy b r:=by
 have hs:(a.alloc o).heap.size=a.heap.size+1:=ch _ _;have g:=aE a o none;exact ⟨h.os.trans g.os,h.tape.trans g.tape,h.output.trans g.output,by have:=h.size;omega,fun i hi hx=>(h.block i afp hx).trans (g.block i hi aft)⟩
theorem afe {a b:PF}:a=b↔a.ax=b.ax/\a.time=b.time/\a.count=b.count:=by
 constructor
 ·intro h;subst h;exact ⟨rfl,rfl,rfl⟩
 ·intro ⟨h1,h2,h3⟩;cases a;cases b;simp_all
theorem aaV {p:Prop} (h:p:=by
 have h8I:(8:Int)<=(j:Int):=by omega
 have HC:Hid (bL sk now M.aN p=60/\bM sk now M.aN p=L):=by
  have h60:bL sk now M.aN p=60:=by unfold bL;rw[HL.o,if_neg NV.o,if_pos (by rw[YV.o];exact h8)]
  refine ⟨h60,?_⟩
  unfold bM
  rw[h60,if_neg afq,HL.o]
 clear VI XE
 go_wp2
 go_ret
 exact ⟨bE HC.o.1.symm,_,by rw[HC.o.2,<-HSk.o];exact HRD.o,⟨lH.o.2.1.os,lH.o.2.1.tape,lH.o.2.1.output,lH.o.2.1.size,lH.o.2.1.block⟩,lH.o.2.2⟩):p:=h
theorem aa4 {p:Prop} (h:p:=by
 have gw:w.grownBy w6 (some yb):=by
  have g2:=lH.o.2.1
  refine ⟨g6.os.trans g2.os,g6.tape.trans g2.tape,g6.output.trans g2.output,br g2.size g6.size,fun b hb hx=>(g6.block b (fW hb g2.size) (fun e=>?_)).trans (g2.block b hb hx)⟩
  have:=hrow b e.symm
  omega
 have hB:=lH.o.1.dF.blk.grown g6 (fun e=>by have:=hrow yb e.symm;omega)
 refine HD.o.xM gw hB ?_ hbase
 rw[Dx,bj,YV.o]
 exact fT h6 (gn _)):p:=h
theorem abf {p:Prop} (h:p:=by
 go_wp2_with fail
 go_quiet (fail)
 go_wp2
 go_roundw
 case rel=>exact ⟨j+1,q+nq,by omega,by go_num,IJ,by first | rfl | rw[World.drewN_drewN]⟩
 case measure=>simp[intOf];omega):p:=h
theorem acm {p:Prop} (h:p:=by
 all_goals
  go_wp2
  go_ret
  exact ⟨bE HC.o.1.symm,_,by rw[HC.o.2,<-HSk.o];exact HFin.o.1.keep (fun _ _=>rfl),⟨HFin.o.2.1.os,HFin.o.2.1.tape,HFin.o.2.1.output,HFin.o.2.1.size,HFin.o.2.1.block⟩,HFin.o.2.2⟩):p:=h
theorem acX {p:Prop} (h:p:=by
 have h0:bL sk now M.aN p=0:=by unfold bL;rw[HL.o,if_neg NV.o,if_neg (by rw[YV.o];exact h8)]
 refine ⟨h0,?_⟩
 unfold bM
 rw[h0,if_pos rfl,HL.o]):p:=h
theorem aet {p:Prop} (h:p:=by
 intro hp
 obtain ⟨a,ha,e⟩:=List.getElem_of_mem hp
 exact VI.o a ha (by have:=YV.o;omega) e):p:=h
theorem Ia (base yb:Nat) (M:DM) (g:RG) (p:PF) (now:Int) (w:World) (hD:RD w base yb M g) (hpl:M.aN.length<=1000) (zo:∀ y∈M.aN,In64 y.time) (dm:In64 now) (hbase:base<=w.heap.size) :
  Calls prog 148 #[.pointer (some ⟨yb,0,none⟩),.agg p.cells.toArray,.int .i64 now] w fun e w'=>e = .returned (.int .i64 (bL M.aC now M.aN p))/\∃ v,RD w' base yb {M with aN:=bM M.aC now M.aN p} {g with pv:=v}/\w.grownBy w' (some yb)/\NewAt w.heap.size v:=by
 obtain ⟨i0,hif,hz0,hz1,hz2⟩:=info_parts Tryz.abW
 have hcells:p.cells.toArray=#[.string ⟨p.ax.toArray⟩,.int .i64 p.time,.int .i64 p.count]:=rfl
 rw[hcells]
 clear hcells
 have G0:=aE w (.cells #[.string ⟨p.ax.toArray⟩,.int .i64 p.time,.int .i64 p.count] 283) none
 have HB0:=hid (aW w #[.string ⟨p.ax.toArray⟩,.int .i64 p.time,.int .i64 p.count] 283)
 have hyb:=hD.dF.blk.lt
 have HD:=hid hD
 have c0:(w.alloc (.cells #[.string ⟨p.ax.toArray⟩,.int .i64 p.time,.int .i64 p.count] 283)).cell? ⟨yb,0,none⟩=some (.int .i64 M.aC):=by
  have:=(hD.dF.blk.grown G0 aft).cell 0;simpa using this
 obtain ⟨pa,pc,hpv⟩:=cu hD.aN
 obtain ⟨n,hn⟩:=aq M.aN.length
 have c2:(w.alloc (.cells #[.string ⟨p.ax.toArray⟩,.int .i64 p.time,.int .i64 p.count] 283)).cell? ⟨yb,2,none⟩=some (.slice pa n pc):=by
  have:=(hD.dF.blk.grown G0 aft).cell 2;rw[hpv,hn] at this;simpa using this
 have EC:Hid (0<n->∃ gp,pa=some ⟨gp,0,none⟩/\(w.alloc (.cells #[.string ⟨p.ax.toArray⟩,.int .i64 p.time,.int .i64 p.count] 283)).rangeAt gp 0 (fI M.aN)):=by
  intro h0;obtain ⟨gp,c,e1,e2,_⟩:=jh hD.aN (by rw[hn];exact h0);rw[hpv] at e1;injection e1 with e1;exact ⟨gp,e1,aA e2 G0⟩
 have HN:=hid hn
 rw[hn] at hpl
 have HTm:=hid zo
 obtain ⟨sk,hsk⟩:=aq M.aC
 rw[hsk] at c0 ⊢
 have HSk:=hid hsk
 obtain ⟨W0,hW0⟩:=aq (w.alloc (.cells #[.string ⟨p.ax.toArray⟩,.int .i64 p.time,.int .i64 p.count] 283))
 have s0:W0.heap.size=w.heap.size+1:=by rw[<-hW0];exact ch _ _
 rw[hW0] at G0 HB0 c0 c2 EC
 have HW0:=hid hW0
 have uH:=hid G0
 clear hW0 hD hpv hn zo hsk G0
 go_enter func148,ntmps148
 go_wp2
 rw[HW0.o]
 clear HW0
 go_loopw [7,8] (fun lv i wr=>∃ k:Nat,k<=n/\i = .int .i64 k/\wr.ownsRow (w.heap.size+1) 283 3 lv (ig sk now (M.aN.take k)).length (fI (ig sk now (M.aN.take k)))/\W0.grownBy wr none) (fun _ i _=>n-(intOf i).toNat)
 case atStart=>exact ⟨0,cE _,rfl,by simpa[ig,fI] using World.ownsRow_nil _ _ _ _,bh _ _⟩
 case round=>
  obtain ⟨k,hk,rfl,hown,hgr⟩:=hrel;have d0:=hgr.cell c0 aft;have d2:=hgr.cell c2 aft;have hsz:=hgr.size;by_cases hlt:k<n
  ·have rF:(k:Int)<(n:Int):=(by omega);have hk0:(0:Int)<=(k:Int):=(by omega);obtain ⟨gp,rfl,hrow⟩:=EC.o afp;have hkl:k<M.aN.length:=(by rw[HN.o];exact hlt);have hrow2:=aA hrow hgr;have VH:Hid (∀ W,wr.grownBy W none->W.cell? ⟨gp,k*3+0,none⟩=some (.string ⟨M.aN[k].ax.toArray⟩)/\W.cell? ⟨gp,k*3+1,none⟩=some (.int .i64 M.aN[k].time)/\W.cell? ⟨gp,k*3+2,none⟩=some (.int .i64 M.aN[k].count)):=by
    intro W hW;have h:=aA hrow2 hW;have h0:=h (k*3+0) _ (by rw[wy _ k 0 hkl afq];rfl);have h1:=h (k*3+1) _ (by rw[wy _ k 1 hkl afq];rfl);have h2:=h (k*3+2) _ (by rw[wy _ k 2 hkl afq];rfl);rw[cC] at h0 h1 h2;exact ⟨h0,h1,h2⟩
   have HS:=hid (NU sk now M.aN k hkl);have hti:=HTm.o M.aN[k] (cJ hkl);obtain ⟨y,hy⟩:=aq (M.aN[k]);rw[hy] at VH HS hti;have C1:=hid (fun m=>xI y.time now (wr.drewN m) hti dm);obtain ⟨e0,e1,e2⟩:=VH.o wr (bh _ _);rw[eR] at e0;obtain ⟨ap,hap⟩:=aq (dM y.time now);rw[hap] at C1 HS;clear hrow hrow2 hy hti hap VH;by_cases hnear:ap<=sk
   ·have HS2:Hid (ig sk now (M.aN.take (k+1))=ig sk now (M.aN.take k)++[y]):=(by show _=_;rw[HS.o,if_pos hnear]);have hlv:(ig sk now (M.aN.take k)).length<=1000:=by
     have h1:=List.length_filter_le (fun p:PF=>decide (dM p.time now<=sk)) (M.aN.take k);have h2:(ig sk now (M.aN.take k)).length<=(M.aN.take k).length:=h1;rw[cG] at h2;omega
    have AA:(ig sk now (M.aN.take k)).length+1<=maxLen:=(by unfold maxLen;omega);have hll:((ig sk now (M.aN.take k)).length+1)*32<=140737488355328:=(by omega);clear HS;go_wp2_with fail;go_quiet (first|(go_at_call 145;refine (C1.o _).mono ?_;rintro e w' ⟨rfl,rfl⟩;exact ⟨rfl,_,rfl⟩))
    have D6:Hid (∀ m,(wr.drewN m).ownsRow (w.heap.size+1) 283 3 u7 (ig sk now (M.aN.take k)).length (fI (ig sk now (M.aN.take k)))/\W0.grownBy (wr.drewN m) none):=fun m=>⟨hown.kept (aY (bh wr none) m) (eW _),aY hgr m⟩
    clear hown hgr;go_wp2_with (at_builtin;refine gN _ rfl _ _ 142 rfl (w.heap.size+1) 283 i0 _ 3 32 underlying142 hif hz0 hz1 hz2 rfl afq _ _ _ rfl ((D6.o _).1.alloc _) ⟨wr.heap.size,0,none⟩ 1 1 [.string ⟨y.ax.toArray⟩,.int .i64 y.time,.int .i64 y.count] rfl rfl ?q1 agc afp AA hll afz ?_)
    case q1=>exact lY (wr.drewN _) 283 [.string ⟨y.ax.toArray⟩,.int .i64 y.time,.int .i64 y.count]
    intro v2 w2 hown2 hg2 _;have HG2:Hid (W0.grownBy w2 none):=iw (aR (D6.o _).2 _) hg2 (fun j hj=>by have:=((D6.o 0).1.lt j hj).1;omega);have Ee:Hid (w2.ownsRow (w.heap.size+1) 283 3 v2 (ig sk now (M.aN.take (k+1))).length (fI (ig sk now (M.aN.take (k+1))))):=(by rw[HS2.o,Dx,bj];exact hown2);clear hown2 hg2 D6 HS2 e0 e1 e2 d0 d2;go_wp2;go_roundw
    case rel=>exact ⟨k+1,by omega,by go_num,Ee.o,HG2.o⟩
    case measure=>simp[intOf];omega
   ·have HS2:Hid (ig sk now (M.aN.take (k+1))=ig sk now (M.aN.take k)):=(by show _=_;rw[HS.o,if_neg hnear,fg]);have D6:Hid (∀ m,(wr.drewN m).ownsRow (w.heap.size+1) 283 3 u7 (ig sk now (M.aN.take (k+1))).length (fI (ig sk now (M.aN.take (k+1))))/\W0.grownBy (wr.drewN m) none):=fun m=>⟨by rw[HS2.o];exact hown.kept (aY (bh wr none) m) (eW _),aY hgr m⟩
    clear hown hgr HS HS2;go_wp2_with fail;go_quiet (first|(go_at_call 145;refine (C1.o _).mono ?_;rintro e w' ⟨rfl,rfl⟩;exact ⟨rfl,_,rfl⟩))
    go_wp2;go_roundw
    case rel=>exact ⟨k+1,by omega,by go_num,(D6.o _).1,(D6.o _).2⟩
    case measure=>simp[intOf];omega
  ·have hkn:k=n:=(by omega);have rF:¬ (k:Int)<(n:Int):=(by omega);subst hkn;have htk:M.aN.take k=M.aN:=cV (by rw[HN.o];exact bd _);rw[htk] at hown;obtain ⟨L,hL⟩:=aq (ig sk now M.aN);rw[hL] at hown;have HL:=hid hL;have hLl:L.length<=1000:=by
    have h1:(ig sk now M.aN).length<=M.aN.length:=List.length_filter_le _ _;have:=HN.o;rw[hL] at h1;omega
   obtain ⟨la,lc,rfl⟩:=cu hown;obtain ⟨m,hm⟩:=aq L.length;have YV:=hid hm;rw[hm] at hown hLl ⊢;have hcase:(la=none/\Hid (m=0))\/∃ gl,la=some ⟨gl,0,none⟩:=by
    rcases hown.2 with ⟨hv,_⟩ | ⟨gl,cp,cur,hv,_⟩
    ·injection hv with e1 e2 _;exact .inl ⟨e1,hid e2⟩
    ·injection hv with e1 _ _;exact .inr ⟨gl,e1⟩
   rcases hcase with ⟨rfl,Eb⟩ | ⟨gl,rfl⟩
   ·have HB1:=hid (aA HB0.o hgr);have jC:=hid (aa uH.o hgr);have hyw:yb<wr.heap.size:=(by omega);have lH:=hid (HD.o.F8 jC.o (fT (by rw[hm];exact hown) (gn _)) hbase);clear htk hL hm rF d0;have fz:=(HD.o.dF.blk.grown jC.o aft).frozen 2;obtain ⟨W2,hW2⟩:=aq (wr.setCell ⟨yb,2,none⟩ (.slice none m lc));have D6:Hid (W2.ownsRow (w.heap.size+1) 283 3 (.slice none m lc) m (fI L)):=(by rw[<-hW2];exact ownsRow_setCell_below hown (by show yb<w.heap.size+1;omega) _);have HP:Hid (W2.rangeAt w.heap.size 0 [.string ⟨p.ax.toArray⟩,.int .i64 p.time,.int .i64 p.count]):=(by rw[<-hW2];exact fun j u hu=>by rw[World.cell?_setCell_far _ _ _ _ (show yb≠w.heap.size by omega)];exact HB1.o j u hu);rw[hW2] at lH;have HW2:=hid hW2;clear hW2 hown HB1 jC hgr hsz;go_wp2;rw[HW2.o];clear HW2 d2 fz;go_loopw [9] (fun i wx=>∃ j q:Nat,j<=m/\i = .int .i64 j/\Hid (∀ a (ha:a<L.length),a<j->L[a]≠p)/\wx=W2.drewN q) (fun i _=>m-(intOf i).toNat)
    case atStart=>exact ⟨0,0,cE _,rfl,hid (fun a _ ha=>by omega),rfl⟩
    case round=>
     obtain ⟨j,q,hj,rfl,VI,rfl⟩:=hrel;have HRD:=hid (lH.o.1.drewN q);by_cases hjm:j<m
     ·exact absurd hjm (by have:=Eb.o;omega)
     ·have hje:j=m:=(by omega);have XE:¬ (j:Int)<(m:Int):=(by omega);have NV:Hid (p∉L):=by
       exact aet
      subst hje;by_cases h8:8<=j
      ·exact aaV
      ·have h8I:¬ (8:Int)<=(j:Int):=(by omega);have HC:Hid (bL sk now M.aN p=0/\bM sk now M.aN p=L++[p]):=by
        exact acX
       clear VI XE NV;have y2:W2.cell? ⟨yb,2,none⟩=some (.slice none j lc):=by
        have:=lH.o.1.dF.blk.cell 2;simpa using this
       have p0:W2.cell? ⟨w.heap.size,0,none⟩=some (.string ⟨p.ax.toArray⟩):=HP.o 0 _ rfl;have p1:W2.cell? ⟨w.heap.size,1,none⟩=some (.int .i64 p.time):=HP.o 1 _ rfl;have p2:W2.cell? ⟨w.heap.size,2,none⟩=some (.int .i64 p.count):=HP.o 2 _ rfl;have y2a:((W2.drewN (q+1)).alloc (.cells #[.string ⟨p.ax.toArray⟩,.int .i64 p.time,.int .i64 p.count] 283)).cell? ⟨yb,2,none⟩=some (.slice none j lc):=(aE (W2.drewN (q+1)) (.cells #[.string ⟨p.ax.toArray⟩,.int .i64 p.time,.int .i64 p.count] 283) none).cell y2 aft;have hsz2:w.heap.size+1<=W2.heap.size:=(by have:=je p0;omega);have AA:j+1<=maxLen:=(by unfold maxLen;omega);have hll:(j+1)*32<=140737488355328:=(by omega);have HOd:Hid (∀ q',(W2.drewN q').ownsRow (w.heap.size+1) 283 3 (.slice none j lc) j (fI L)):=fun q'=>D6.o.kept (aY (bh W2 none) q') (eW _);have HRR:Hid (∀ (v6:Value) (w6:World),w6.ownsRow (w.heap.size+1) 283 3 v6 (j+1) (fI L++p.cells)->W2.grownBy w6 (Value.slice none j lc).ownBlock->RD (w6.setCell ⟨yb,2,none⟩ v6) base yb {M with aN:=L++[p]} {g with pv:=v6}/\w.grownBy (w6.setCell ⟨yb,2,none⟩ v6) (some yb)/\NewAt w.heap.size v6):=by
        intro v6 w6 h6 g6;have hrow:∀ b,(Value.slice none j lc).ownBlock=some b->w.heap.size+1<=b:=fun b hb=>(D6.o.lt b hb).1;exact aa4
       go_wp2_with fail;go_region_law (first|(refine uu rfl _ _ 142 rfl (w.heap.size+1) 283 i0 _ 3 32 underlying142 hif hz0 hz1 hz2 rfl afq (.slice none j lc) j _ ?s1 (D6.o.alloc _) ⟨W2.heap.size,0,none⟩ 1 1 [.string ⟨p.ax.toArray⟩,.int .i64 p.time,.int .i64 p.count] ?s2 rfl ?s3 ?s4 afp AA hll ?s5 ?_;(case s1=>first | rfl | simp[Act.eval,Act.put]);(case s2=>first | rfl | simp[Act.eval,Act.put]);(case s3=>exact lY W2 _ _);(case s4=>intro u hu;simp at hu;rcases hu with rfl | rfl | rfl <;> rfl);(case s5=>simp;omega);intro v6 w6 hown6 wY hblk6;obtain ⟨a6,c6,hv6⟩:=cu hown6;subst hv6;have VJ:(W2.alloc (.cells #[.string ⟨p.ax.toArray⟩,.int .i64 p.time,.int .i64 p.count] 283)).grownBy w6 (Value.slice none j lc).ownBlock:=⟨wY.os,wY.tape,wY.output,wY.size,wY.block⟩;have hgW:W2.grownBy w6 (Value.slice none j lc).ownBlock:=F9 VJ;have HFin:=hid (HRR.o _ _ hown6 hgW);have y6:=hgW.cell y2 (fun e=>by have:=(D6.o.lt yb e.symm).1;omega);have fy6:w6.frozen? ⟨yb,2,none⟩=false:=(lH.o.1.dF.blk.grown hgW (fun e=>by have:=(D6.o.lt yb e.symm).1;omega)).frozen 2;clear hown6 wY VJ hgW hblk6))
       all_goals exact acm
   ·have HB1:=hid (aA HB0.o hgr);have jC:=hid (aa uH.o hgr);have hyw:yb<wr.heap.size:=(by omega);have lH:=hid (HD.o.F8 jC.o (fT (by rw[hm];exact hown) (gn _)) hbase);clear htk hL hm rF d0;have fz:=(HD.o.dF.blk.grown jC.o aft).frozen 2;obtain ⟨W2,hW2⟩:=aq (wr.setCell ⟨yb,2,none⟩ (.slice (some ⟨gl,0,none⟩) m lc));have D6:Hid (W2.ownsRow (w.heap.size+1) 283 3 (.slice (some ⟨gl,0,none⟩) m lc) m (fI L)):=(by rw[<-hW2];exact ownsRow_setCell_below hown (by show yb<w.heap.size+1;omega) _);have HP:Hid (W2.rangeAt w.heap.size 0 [.string ⟨p.ax.toArray⟩,.int .i64 p.time,.int .i64 p.count]):=(by rw[<-hW2];exact fun j u hu=>by rw[World.cell?_setCell_far _ _ _ _ (show yb≠w.heap.size by omega)];exact HB1.o j u hu);rw[hW2] at lH;have HW2:=hid hW2;clear hW2 hown HB1 jC hgr hsz;go_wp2;rw[HW2.o];clear HW2 d2 fz;go_loopw [9] (fun i wx=>∃ j q:Nat,j<=m/\i = .int .i64 j/\Hid (∀ a (ha:a<L.length),a<j->L[a]≠p)/\wx=W2.drewN q) (fun i _=>m-(intOf i).toNat)
    case atStart=>exact ⟨0,0,cE _,rfl,hid (fun a _ ha=>by omega),rfl⟩
    case round=>
     obtain ⟨j,q,hj,rfl,VI,rfl⟩:=hrel;have HRD:=hid (lH.o.1.drewN q);by_cases hjm:j<m
     ·have XE:(j:Int)<(m:Int):=(by omega);have hj0:(0:Int)<=(j:Int):=(by omega);have hjl:j<L.length:=(by rw[YV.o];exact hjm);have hrow:W2.rangeAt gl 0 (fI L):=by
       obtain ⟨gl',cl,el,hrow,_⟩:=jh D6.o afp;injection el with el;injection el with el;injection el with el;rw[el];exact hrow
      obtain ⟨y,hy⟩:=aq (L[j]);have e0:W2.cell? ⟨gl,j*3,none⟩=some (.string ⟨y.ax.toArray⟩):=by
       have h:=hrow (j*3+0) _ (by rw[wy _ j 0 hjl afq];rfl);rw[cC,eR,hy] at h;exact h
      have e1:W2.cell? ⟨gl,j*3+1,none⟩=some (.int .i64 y.time):=by
       have h:=hrow (j*3+1) _ (by rw[wy _ j 1 hjl afq];rfl);rw[cC,hy] at h;exact h
      have e2:W2.cell? ⟨gl,j*3+2,none⟩=some (.int .i64 y.count):=by
       have h:=hrow (j*3+2) _ (by rw[wy _ j 2 hjl afq];rfl);rw[cC,hy] at h;exact h
      have p0:W2.cell? ⟨w.heap.size,0,none⟩=some (.string ⟨p.ax.toArray⟩):=HP.o 0 _ rfl;have p1:W2.cell? ⟨w.heap.size,1,none⟩=some (.int .i64 p.time):=HP.o 1 _ rfl;have p2:W2.cell? ⟨w.heap.size,2,none⟩=some (.int .i64 p.count):=HP.o 2 _ rfl;obtain ⟨S,hS⟩:∃ S:ByteArray,S=⟨p.ax.toArray⟩:=⟨_,rfl⟩
      obtain ⟨Y,hY⟩:∃ S:ByteArray,S=⟨y.ax.toArray⟩:=⟨_,rfl⟩
      rw[<-hY] at e0;rw[<-hS] at p0;have hq:=str_eq hY hS;have Dy:Hid (¬ y=p->∀ a (ha:a<L.length),a<j+1->L[a]≠p):=by
       intro hne a ha haj;by_cases h:a<j
       ·exact VI.o a ha h
       ·have:a=j:=by omega
        subst this;rw[hy];exact hne
      have IP:Hid (y=p->p∈L):=fun e=>by rw[<-e,<-hy];exact cJ hjl
      clear hrow hy VI;by_cases q0:y.ax=p.ax
      ·have b0:(Y.toList==S.toList)=true:=(by rw[hq,q0];simp);by_cases q1:y.time=p.time
       ·have b1:(y.time==p.time)=true:=(by rw[cL];exact q1);by_cases q2:y.count=p.count
        ·have b2:(y.count==p.count)=true:=(by rw[cL];exact q2);have MX:=hid (IP.o (afe.2 ⟨q0,q1,q2⟩));have HC:Hid (bL sk now M.aN p=34/\bM sk now M.aN p=L):=by
          have h34:bL sk now M.aN p=34:=(by unfold bL;rw[HL.o,if_pos MX.o]);refine ⟨h34,?_⟩;unfold bM;rw[h34,if_neg afq,HL.o]
         clear q0 q1 q2 hq hS hY IP Dy MX;go_wp2_with fail;go_quiet (fail)
         go_wp2;go_ret;exact ⟨bE HC.o.1.symm,_,by rw[HC.o.2,<-HSk.o];exact (lH.o.1.drewN q).drewN _,⟨lH.o.2.1.os,lH.o.2.1.tape,lH.o.2.1.output,lH.o.2.1.size,lH.o.2.1.block⟩,lH.o.2.2⟩
        ·have b2:(y.count==p.count)=false:=(by rw[cg];exact q2);have IJ:=hid (Dy.o (fun e=>q2 af4));clear q0 q1 q2 hq hS hY IP Dy;exact abf
       ·have b1:(y.time==p.time)=false:=(by rw[cg];exact q1);have IJ:=hid (Dy.o (fun e=>q1 af4));clear q0 q1 hq hS hY IP Dy;exact abf
      ·have b0:(Y.toList==S.toList)=false:=(by rw[hq];simpa using q0);have IJ:=hid (Dy.o (fun e=>q0 af4));clear q0 hq hS hY IP Dy;exact abf
     ·have hje:j=m:=(by omega);have XE:¬ (j:Int)<(m:Int):=(by omega);have NV:Hid (p∉L):=by
       exact aet
      subst hje;by_cases h8:8<=j
      ·exact aaV
      ·have h8I:¬ (8:Int)<=(j:Int):=(by omega);have HC:Hid (bL sk now M.aN p=0/\bM sk now M.aN p=L++[p]):=by
        exact acX
       clear VI XE NV;have y2:W2.cell? ⟨yb,2,none⟩=some (.slice (some ⟨gl,0,none⟩) j lc):=by
        have:=lH.o.1.dF.blk.cell 2;simpa using this
       have p0:W2.cell? ⟨w.heap.size,0,none⟩=some (.string ⟨p.ax.toArray⟩):=HP.o 0 _ rfl;have p1:W2.cell? ⟨w.heap.size,1,none⟩=some (.int .i64 p.time):=HP.o 1 _ rfl;have p2:W2.cell? ⟨w.heap.size,2,none⟩=some (.int .i64 p.count):=HP.o 2 _ rfl;have y2a:((W2.drewN (q+1)).alloc (.cells #[.string ⟨p.ax.toArray⟩,.int .i64 p.time,.int .i64 p.count] 283)).cell? ⟨yb,2,none⟩=some (.slice (some ⟨gl,0,none⟩) j lc):=(aE (W2.drewN (q+1)) (.cells #[.string ⟨p.ax.toArray⟩,.int .i64 p.time,.int .i64 p.count] 283) none).cell y2 aft;have hsz2:w.heap.size+1<=W2.heap.size:=(by have:=je p0;omega);have AA:j+1<=maxLen:=(by unfold maxLen;omega);have hll:(j+1)*32<=140737488355328:=(by omega);have HOd:Hid (∀ q',(W2.drewN q').ownsRow (w.heap.size+1) 283 3 (.slice (some ⟨gl,0,none⟩) j lc) j (fI L)):=fun q'=>D6.o.kept (aY (bh W2 none) q') (eW _);have HRR:Hid (∀ (v6:Value) (w6:World),w6.ownsRow (w.heap.size+1) 283 3 v6 (j+1) (fI L++p.cells)->W2.grownBy w6 (Value.slice (some ⟨gl,0,none⟩) j lc).ownBlock->RD (w6.setCell ⟨yb,2,none⟩ v6) base yb {M with aN:=L++[p]} {g with pv:=v6}/\w.grownBy (w6.setCell ⟨yb,2,none⟩ v6) (some yb)/\NewAt w.heap.size v6):=by
        intro v6 w6 h6 g6;have hrow:∀ b,(Value.slice (some ⟨gl,0,none⟩) j lc).ownBlock=some b->w.heap.size+1<=b:=fun b hb=>(D6.o.lt b hb).1;exact aa4
       go_wp2_with fail;go_region_law (first|(refine uu rfl _ _ 142 rfl (w.heap.size+1) 283 i0 _ 3 32 underlying142 hif hz0 hz1 hz2 rfl afq (.slice (some ⟨gl,0,none⟩) j lc) j _ ?s1 (D6.o.alloc _) ⟨W2.heap.size,0,none⟩ 1 1 [.string ⟨p.ax.toArray⟩,.int .i64 p.time,.int .i64 p.count] ?s2 rfl ?s3 ?s4 afp AA hll ?s5 ?_;(case s1=>first | rfl | simp[Act.eval,Act.put]);(case s2=>first | rfl | simp[Act.eval,Act.put]);(case s3=>exact lY W2 _ _);(case s4=>intro u hu;simp at hu;rcases hu with rfl | rfl | rfl <;> rfl);(case s5=>simp;omega);intro v6 w6 hown6 wY hblk6;obtain ⟨a6,c6,hv6⟩:=cu hown6;subst hv6;have VJ:(W2.alloc (.cells #[.string ⟨p.ax.toArray⟩,.int .i64 p.time,.int .i64 p.count] 283)).grownBy w6 (Value.slice (some ⟨gl,0,none⟩) j lc).ownBlock:=⟨wY.os,wY.tape,wY.output,wY.size,wY.block⟩;have hgW:W2.grownBy w6 (Value.slice (some ⟨gl,0,none⟩) j lc).ownBlock:=F9 VJ;have HFin:=hid (HRR.o _ _ hown6 hgW);have y6:=hgW.cell y2 (fun e=>by have:=(D6.o.lt yb e.symm).1;omega);have fy6:w6.frozen? ⟨yb,2,none⟩=false:=(lH.o.1.dF.blk.grown hgW (fun e=>by have:=(D6.o.lt yb e.symm).1;omega)).frozen 2;clear hown6 wY VJ hgW hblk6))
       all_goals exact acm
set_option maxHeartbeats 8000000
set_option linter.unusedSimpArgs false
variable {x:BE} {aL bV dJ now:Int} {W:World}
def Bo (r:Except Int TK) (t:TK) (c:Int):Prop:=(∀ c',r = .error c'->c=c')/\∀ t',r = .ok t'->c=0/\t=t'
theorem vL {c:Int} {t:TK}:Bo (.error c) t c:=⟨fun c' h=>by injection h,fun t' h=>by cases h⟩
theorem DL {t:TK}:Bo (.ok t) t 0:=⟨fun c' h=>(by cases h),fun t' h=>⟨rfl,by injection h⟩⟩
def uE (a b c:Bool):Int:=(if a=true then 64 else 0)+(if b=true then 128 else 0)+(if c=true then 256 else 0)
theorem Y4 (n:Int):bits .and .i64 n 448=uE (aG n 64) (aG n 128) (aG n 256):=Ul n
theorem V7 (a b c:Bool):bits .or .i64 (uE a b c) 128=uE a true c:=by cases a <;> cases b <;> cases c <;> decide +kernel
theorem V8 (a b c:Bool):bits .or .i64 (uE a b c) 256=uE a b true:=by cases a <;> cases b <;> cases c <;> decide +kernel
theorem Y5 (a b c:Bool):0<=uE a b c/\uE a b c<4096:=by cases a <;> cases b <;> cases c <;> decide
theorem V9 {old:TK} {s:BE} (h:aG aL 32=true) (hs:now<old.start):fresh now old x s dJ bV aL = .error 33:=by unfold fresh;rw[if_pos h,if_pos hs]
theorem Wd {old:TK} {s:BE} (h:aG aL 32=true) (hs:¬ now<old.start):fresh now old x s dJ bV aL = .ok {old with ay:=if aG old.ay 16=true then old.ay-16 else old.ay}:=by unfold fresh;rw[if_pos h,if_neg hs]
theorem We {old:TK} {s:BE} (h:aG aL 32=false) (h2:aG aL 16=true) (hs:old.aD<=now):fresh now old x s dJ bV aL = .error 32:=by unfold fresh;rw[if_neg (by rw[h];decide),if_pos h2,if_pos hs]
theorem Wh {old:TK} {s:BE} (h:aG aL 32=false) (h2:aG aL 16=true) (hs:¬ old.aD<=now):fresh now old x s dJ bV aL = .ok {old with start:=now,fin:=lesser old.aD (aX now (fO old.fin old.start))}:=by unfold fresh;rw[if_neg (by rw[h];decide),if_pos h2,if_neg hs]
theorem Wi {old:TK} {s:BE} (h:aG aL 32=false) (h2:aG aL 16=false) (hs:gX now dJ old x s<=now):fresh now old x s dJ bV aL = .error 11:=by unfold fresh;rw[if_neg (by rw[h];decide),if_neg (by rw[h2];decide),if_pos hs]
theorem Wj {old:TK} {s:BE} (h:aG aL 32=false) (h2:aG aL 16=false) (hs:¬ gX now dJ old x s<=now):fresh now old x s dJ bV aL = .ok {old with start:=now,fin:=gX now dJ old x s,ay:=iC aL old x s,aD:=fu aL old.ay x s now (lesser (asked bV) old.aD)}:=by unfold fresh;rw[if_neg (by rw[h];decide),if_neg (by rw[h2];decide),if_neg hs]
theorem Oa (aL:Int) (old:TK) (x s:BE):iC aL old x s=uE (aG old.ay 64) (aG old.ay 128 || aG aL 64) (aG old.ay 256 || aG aL 128)+gI aL old.ay x s:=by
 unfold iC uE;simp only[Bool.or_eq_true]
theorem acb {P:Program} {c:Code} {Q:Exit->Act->World->Prop} {a:Act} (X:World->Prop) (hX:X W) (h:∀ V,X V->Code.wp P c Q a V):Code.wp P c Q a W:=h W hX
theorem FW.sc {w:World} {old:TK} {x s:RE} {fl st fi rn:Int} (h:FW w W old x s fl st fi rn):W.cell? ⟨w.heap.size,5,none⟩=some (.int .i64 old.fin)/\W.cell? ⟨w.heap.size+1,3,none⟩=some (.int .i64 x.bI)/\W.cell? ⟨w.heap.size+2,3,none⟩=some (.int .i64 s.bI):=⟨h.o 5 _ rfl,h.x 3 _ rfl,h.s 3 _ rfl⟩
theorem FW.Ob {w:World} {old:TK} {x s:RE} {fl st fi rn:Int} (h:FW w W old x s fl st fi rn) (a b c d:Int):FW w (((((((W.setCell ⟨w.heap.size+4,0,none⟩ (.int .i64 a)).setCell ⟨w.heap.size+4,1,none⟩ (.int .u64 (old.aM.toNat:Int))).setCell ⟨w.heap.size+4,2,none⟩ (.string ⟨old.ax.toArray⟩)).setCell ⟨w.heap.size+4,3,none⟩ (.int .i64 old.dY)).setCell ⟨w.heap.size+4,4,none⟩ (.int .i64 b)).setCell ⟨w.heap.size+4,5,none⟩ (.int .i64 c)).setCell ⟨w.heap.size+4,6,none⟩ (.int .i64 d)) old x s a b c d:=by
 have f:∀ {V:World} {g:Nat} {cs:List Value} (k:Nat) (v:Value),w.heap.size+4≠g->V.rangeAt g 0 cs->(V.setCell ⟨w.heap.size+4,k,none⟩ v).rangeAt g 0 cs:=fun k v hn hr=>eT hr hn v;refine ⟨?_,?_,?_,?_,eZ h.lt _ _ _ _ _ _ _,?_,?_⟩
 ·exact f _ _ afp (f _ _ afp (f _ _ afp (f _ _ afp (f _ _ afp (f _ _ afp (f _ _ afp h.o))))))
 ·exact f _ _ afp (f _ _ afp (f _ _ afp (f _ _ afp (f _ _ afp (f _ _ afp (f _ _ afp h.x))))))
 ·exact f _ _ afp (f _ _ afp (f _ _ afp (f _ _ afp (f _ _ afp (f _ _ afp (f _ _ afp h.s))))))
 ·exact bP (bP (bP (bP (bP (bP (bP h.r _) _) _) _) _) _) _
 ·exact bP (bP (bP (bP (bP (bP (bP h.lt _) _) _) _) _) _) _
 ·exact az (az (az (az (az (az (az h.g afp) afp) afp) afp) afp) afp) afp
theorem Im (aL old:Int) (x s:BE) (start upto:Int):(if zf aL old x s 4 2=true then fu aL old x s start upto else 0)=fu aL old x s start upto:=by
 rw[uk];cases zf aL old x s 4 2 <;> rfl
theorem acd {p q:Prop} (k:q) (h:q->p:=by
  intro hq
  obtain ⟨t0,t1,t2,t3,t4,t5,t6⟩:=HF.o.tc
  obtain ⟨⟨dd0,kk0⟩,⟨dd1,kk1⟩,⟨dd2,kk2⟩,⟨dd3,kk3⟩,⟨dd4,kk4⟩,⟨dd5,kk5⟩,⟨dd6,kk6⟩,ff0,ff1,ff2,ff3,ff4,ff5,ff6⟩:=oK HF.o.r
  go_wp2
  refine bodyPost_ret (aJ results113 _ _ _ (w.heap.size+3) rfl _ (gY (eZ HF.o.r _ _ _ _ _ _ _))) rfl ?_
  exact hq):p:=h k
theorem ace {p:Prop} (h:p:=by
  refine acd ?_
  exact ⟨⟨_,_,_,_,_,_,_⟩,_,rfl,by rw[HS.o];first | exact vL | exact DL,Rf HF.o.g afp⟩):p:=h
theorem Rw (d:Value) (now:Int) (old:TK) (x s:RE) (dJ bV aL:Int) (w:World) (hx:0<=x.ay/\x.ay<64) (hs:0<=s.ay/\s.ay<64) (UF:In64 x.aD) (UG:In64 s.aD) (hxl:In64 x.bI) (hsl:In64 s.bI) (dm:In64 now) (hold:old.In) :
  Calls prog 113 #[d,.int .i64 now,.agg old.cells.toArray,.agg x.arr,.agg s.arr,.int .i64 dJ,.int .i64 bV,.int .i64 aL] w fun e w'=>∃ t c,e = .returned (.tuple #[.agg t.cells.toArray,.int .i64 c])/\Bo (fresh now old x.be s.be dJ bV aL) t c/\w.grownBy w' none:=by
 obtain ⟨R,hR⟩:=aq (fresh now old x.be s.be dJ bV aL)
 rw[hR]
 have HR:=hid hR
 clear hR
 have Bd:FW w (((((w.alloc (.cells old.cells.toArray 43)).alloc (.cells x.arr 166)).alloc (.cells s.arr 166)).alloc (.cells #[.int .i64 0,.int .u64 0,.string ⟨#[]⟩,.int .i64 0,.int .i64 0,.int .i64 0,.int .i64 0] 43)).alloc (.cells old.cells.toArray 43)) old x s old.ay old.start old.fin old.aD:=by
  exact ⟨Hz,Hz,Hz,Hz,Hz,Hz,Hz⟩
 rw[TK.nQ old] at Bd ⊢
 obtain ⟨W0,hW0⟩:=ar (((((w.alloc (.cells #[.int .i64 old.ay,.int .u64 (old.aM.toNat:Int),.string ⟨old.ax.toArray⟩,.int .i64 old.dY,.int .i64 old.start,.int .i64 old.fin,.int .i64 old.aD] 43)).alloc (.cells x.arr 166)).alloc (.cells s.arr 166)).alloc (.cells #[.int .i64 0,.int .u64 0,.string ⟨#[]⟩,.int .i64 0,.int .i64 0,.int .i64 0,.int .i64 0] 43)).alloc (.cells #[.int .i64 old.ay,.int .u64 (old.aM.toNat:Int),.string ⟨old.ax.toArray⟩,.int .i64 old.dY,.int .i64 old.start,.int .i64 old.fin,.int .i64 old.aD] 43))
 rw[<-hW0] at Bd
 have HW0:=hid hW0
 have HF:=hid Bd
 obtain ⟨n0,n1,n2,n3,n4⟩:=hold
 clear Bd hW0
 have VK:=hid (fun W=>eQ aL 32 5 W afq afq)
 have Sv:=hid (fun W=>eQ aL 16 4 W afq afq)
 obtain ⟨b5,h5⟩:=aq (aG aL 32)
 obtain ⟨b4,h4⟩:=aq (aG aL 16)
 have H5:=hid h5
 have H4:=hid h4
 rw[h5] at VK
 rw[h4] at Sv
 clear h5 h4
 obtain ⟨o0,o4,o5,o6⟩:=HF.o.oc
 go_enter func113,ntmps113
 go_wp2_with (first|(rw[<-HW0.o];fail_if_success done) | fail)
 refine (VK.o _).mono ?_
 rintro e w' ⟨rfl,rfl⟩
 clear HW0 VK
 cases b5 with
 | true=>
  by_cases hst:now<old.start
  ·have HS:Hid (R = .error 33):=(by show _=_;rw[<-HR.o,V9 H5.o hst]);clear HR;exact ace
  ·have HS:Hid (R = .ok {old with ay:=if aG old.ay 16=true then old.ay-16 else old.ay}):=(by show _=_;rw[<-HR.o,Wd H5.o hst]);have HA:=hid (yM old.ay n0);rw[<-HA.o] at HS;clear HR HA;obtain ⟨nf,hnf⟩:=aq (bits .andNot .i64 old.ay 16);rw[hnf] at HS;have Su:=HF.o.lt.frozen 0;have mg:=hid (HF.o.Am nf);obtain ⟨t0,t1,t2,t3,t4,t5,t6⟩:=HF.o.tc;obtain ⟨⟨dd0,kk0⟩,⟨dd1,kk1⟩,⟨dd2,kk2⟩,⟨dd3,kk3⟩,⟨dd4,kk4⟩,⟨dd5,kk5⟩,⟨dd6,kk6⟩,ff0,ff1,ff2,ff3,ff4,ff5,ff6⟩:=oK HF.o.r;go_wp2;refine bodyPost_ret (aJ results113 _ _ _ (w.heap.size+3) rfl _ (gY (eZ mg.o.r _ _ _ _ _ _ _))) rfl ?_;exact ⟨⟨nf,old.aM,old.ax,old.dY,old.start,old.fin,old.aD⟩,0,rfl,by rw[HS.o];exact DL,az (az (az (az (az (az (az (mg.o.g) afp) afp) afp) afp) afp) afp) afp⟩
 | false=>
  have z4:=HF.o.tc.2.2.2.2.1;have ft4:=HF.o.lt.frozen 4;have mg:=hid (HF.o.setSt now);obtain ⟨W2,hW2⟩:=ar (w'.setCell ⟨w.heap.size+4,4,none⟩ (.int .i64 now));rw[<-hW2] at mg;have HW2:=hid hW2;clear hW2 HF o0 o4 o5 o6;have HF:=mg;clear mg;go_wp2_with (first|(rw[<-HW2.o];fail_if_success done) | fail)
  refine (Sv.o _).mono ?_;rintro e w'' ⟨rfl,rfl⟩;clear HW2 Sv z4 ft4;obtain ⟨o0,o4,o5,o6⟩:=HF.o.oc;cases b4 with
  | true=>
   by_cases hrn:old.aD<=now
   ·have HS:Hid (R = .error 32):=(by show _=_;rw[<-HR.o,We H5.o H4.o hrn]);clear HR;refine acd ?_;exact ⟨⟨old.ay,old.aM,old.ax,old.dY,now,old.fin,old.aD⟩,32,rfl,by rw[HS.o];exact vL,Rf HF.o.g afp⟩
   ·have C1:=hid (fun W=>zO old.fin old.start W n3 n2);obtain ⟨A,hA⟩:=aq (fO old.fin old.start);have iA:In64 A:=(by rw[<-hA];exact zK _);rw[hA] at C1;have C2:=hid (fun W=>lG now A W dm iA);obtain ⟨B,hB⟩:=aq (aX now A);rw[hB] at C2;have C3:=hid (fun W=>jM old.aD B W);obtain ⟨D,hD⟩:=aq (lesser old.aD B);rw[hD] at C3;have HS:Hid (R = .ok {old with start:=now,fin:=D}):=(by show _=_;rw[<-HR.o,Wh H5.o H4.o hrn,hA,hB,hD]);clear HR hA hB hD iA;have z5:=HF.o.tc.2.2.2.2.2.1;have ft5:=HF.o.lt.frozen 5;go_wp2_with fail;go_region_held3 (fun w'=>w'.cell? ⟨w.heap.size,0,none⟩=some (.int .i64 old.ay)/\w'.cell? ⟨w.heap.size,4,none⟩=some (.int .i64 old.start)/\w'.cell? ⟨w.heap.size,5,none⟩=some (.int .i64 old.fin)/\w'.cell? ⟨w.heap.size,6,none⟩=some (.int .i64 old.aD)) (first|(with_reducible exact FW.oc HF.o)|(with_reducible exact FW.oc HF.o.drew)|(with_reducible exact FW.oc (HF.o.wU _))|(with_reducible exact FW.oc (HF.o.wU _).drew) | go_keep) (first|(go_at_call 149;(with_reducible refine Calls.mono (C1.o _) ?_);rintro e w' ⟨rfl,rfl⟩)|(go_at_call 105;(with_reducible refine Calls.mono (C2.o _) ?_);rintro e w' ⟨rfl,rfl⟩)|(go_at_call 106;(with_reducible refine Calls.mono (C3.o _) ?_);rintro e w' ⟨rfl,rfl⟩));have mg:=hid (HF.o.wU D).drew;obtain ⟨W3,hW3⟩:=aq ((w''.setCell ⟨w.heap.size+4,5,none⟩ (.int .i64 D)).drew);rw[hW3] at mg ⊢;clear hW3 HF o0 o4 o5 o6 z5 ft5 C1 C2 C3;have HF:=mg;clear mg;exact ace
  | false=>
   have C1:=hid (fun W=>uj dJ W);obtain ⟨A,hA⟩:=aq (asked dJ);rw[hA] at C1;have C2:=hid (fun W=>jM A old.fin W);obtain ⟨B,hB⟩:=aq (lesser A old.fin);rw[hB] at C2;have C3:=hid (fun W=>lG now x.bI W dm hxl);obtain ⟨X1,hX⟩:=aq (aX now x.bI);rw[hX] at C3;have C4:=hid (fun W=>lG now s.bI W dm hsl);obtain ⟨S1,hS⟩:=aq (aX now s.bI);rw[hS] at C4;have C5:=hid (fun W=>jM X1 S1 W);obtain ⟨E1,hE⟩:=aq (lesser X1 S1);rw[hE] at C5;have C6:=hid (fun W=>jM B E1 W);obtain ⟨D,hD⟩:=aq (lesser B E1);rw[hD] at C6;have HDe:Hid (gX now dJ old x.be s.be=D):=by
    show _=_;rw[<-hD,<-hE,<-hB,<-hA,<-hX,<-hS];rfl
   clear hA hB hX hS hE hD;have z5:=HF.o.tc.2.2.2.2.2.1;have ft5:=HF.o.lt.frozen 5;obtain ⟨y0,y1,y2⟩:=HF.o.sc;go_wp2_with fail;go_region_held3 (fun w'=>w'.cell? ⟨w.heap.size,5,none⟩=some (.int .i64 old.fin)/\w'.cell? ⟨w.heap.size+1,3,none⟩=some (.int .i64 x.bI)/\w'.cell? ⟨w.heap.size+2,3,none⟩=some (.int .i64 s.bI)) (first|(with_reducible exact FW.sc HF.o)|(with_reducible exact FW.sc HF.o.drew)|(with_reducible exact FW.sc (HF.o.wU _))|(with_reducible exact FW.sc (HF.o.wU _).drew) | go_keep) (first|(go_at_call 107;(with_reducible refine Calls.mono (C1.o _) ?_);rintro e w' ⟨rfl,rfl⟩)|(go_at_call 105;(first|(with_reducible refine Calls.mono (C3.o _) ?_)|(with_reducible refine Calls.mono (C4.o _) ?_));rintro e w' ⟨rfl,rfl⟩)|(go_at_call 106;(first|(with_reducible refine Calls.mono (C2.o _) ?_)|(with_reducible refine Calls.mono (C5.o _) ?_)|(with_reducible refine Calls.mono (C6.o _) ?_));rintro e w' ⟨rfl,rfl⟩));have mg:=hid (HF.o.wU D).drew;obtain ⟨W3,hW3⟩:=aq ((w''.setCell ⟨w.heap.size+4,5,none⟩ (.int .i64 D)).drew);rw[hW3] at mg ⊢;clear hW3 HF o0 o4 o5 o6 z5 ft5 y0 y1 y2 C1 C2 C3 C4 C5 C6;have HF:=mg;clear mg;by_cases hD:D<=now
   ·have HS:Hid (R = .error 11):=(by show _=_;rw[<-HR.o,Wi H5.o H4.o (by rw[HDe.o];exact hD)]);clear HR;refine acd ?_;exact ⟨⟨old.ay,old.aM,old.ax,old.dY,now,D,old.aD⟩,11,rfl,by rw[HS.o];exact vL,Rf HF.o.g afp⟩
   ·have HS:=hid (Wj (bV:=bV) H5.o H4.o (show ¬ gX now dJ old x.be s.be<=now by rw[HDe.o];exact hD));rw[HDe.o,Oa] at HS;have Z8:=hid (fun W=>eQ aL 64 6 W afq afq);have Le:=hid (fun W=>eQ aL 128 7 W afq afq);obtain ⟨b6,h6⟩:=aq (aG aL 64);obtain ⟨b7,h7⟩:=aq (aG aL 128);rw[h6] at Z8;rw[h7] at Le;rw[h6,h7] at HS;obtain ⟨fa,hfa⟩:=aq (aG old.ay 64);obtain ⟨fb,Qt⟩:=aq (aG old.ay 128);obtain ⟨fc,hfc⟩:=aq (aG old.ay 256);have hk:=Y4 old.ay;rw[hfa,Qt,hfc] at hk HS;have acf:=hid (Y5 fa (fb || b6) (fc || b7));obtain ⟨kf,hkf⟩:=aq (uE fa fb fc);obtain ⟨kq,hkq⟩:=aq (uE fa (fb || b6) fc);obtain ⟨kk,hkk⟩:=aq (uE fa (fb || b6) (fc || b7));rw[hkf] at hk;rw[hkk] at HS acf;have HQ0:Hid (b6=false->kq=kf):=fun h=>by rw[<-hkq,<-hkf,h,Bool.or_false]
    have Ew:Hid (b6=true->bits .or .i64 kf 128=kq):=fun h=>by rw[<-hkf,<-hkq,h,Bool.or_true];exact V7 fa fb fc
    have VH:Hid (b7=false->kk=kq):=fun h=>by rw[<-hkq,<-hkk,h,Bool.or_false]
    have HP1:Hid (b7=true->bits .or .i64 kq 256=kk):=fun h=>by rw[<-hkq,<-hkk,h,Bool.or_true];exact V8 fa (fb || b6) fc
    clear h6 h7 hfa Qt hfc HDe hkf hkq hkk;have C1:=hid (fun W=>uj bV W);obtain ⟨A2,hA2⟩:=aq (asked bV);rw[hA2] at C1 HS;have C2:=hid (fun W=>jM A2 old.aD W);obtain ⟨U,hU⟩:=aq (lesser A2 old.aD);rw[hU] at C2 HS;obtain ⟨MF,hMF⟩:=aq (gI aL old.ay x.be s.be);obtain ⟨MR,hMR⟩:=aq (fu aL old.ay x.be s.be now U);have C3:Hid (∀ W,Calls prog 108 #[.agg #[.int .i64 kk,.int .u64 (old.aM.toNat:Int),.string ⟨old.ax.toArray⟩,.int .i64 old.dY,.int .i64 now,.int .i64 D,.int .i64 0],.int .i64 aL,.int .i64 old.ay,.agg x.arr,.agg s.arr,.int .i64 U] W fun e w'=>e = .returned (.agg #[.int .i64 (kk+MF),.int .u64 (old.aM.toNat:Int),.string ⟨old.ax.toArray⟩,.int .i64 old.dY,.int .i64 now,.int .i64 D,.int .i64 MR])/\W.grownBy w' none):=by
     intro W;have h:=KT ⟨kk,old.aM,old.ax,old.dY,now,D,0⟩ aL old.ay U x s W hx hs UF UG dm acf.o.1 acf.o.2;dsimp only at h;rw[Im,hMF,hMR] at h;exact h
    rw[hMF,hMR] at HS;clear hA2 hU hMF hMR;obtain ⟨o0,o4,o5,o6⟩:=HF.o.oc;obtain ⟨t0,t1,t2,t3,t4,t5,t6⟩:=HF.o.tc;have Su:=HF.o.lt.frozen 0;go_upto_if 81 with (go_at_call 104;(first|(with_reducible refine Calls.mono (Z8.o _) ?_)|(with_reducible refine Calls.mono (Le.o _) ?_));rintro e w' ⟨rfl,rfl⟩)
    go_cut [] (fun wx=>FW w wx old x s kq now D old.aD)
    case first=>
     cases b6 with
     | false=>
      go_wp2;go_meet
      case rel=>rw[HQ0.o trivial];exact HF.o.Am kf
     | true=>
      have e1:=Ew.o rfl;go_wp2;go_meet
      case rel=>exact (HF.o.Am kf).Am kq
    case rest=>
     have mg:=hid hcut;clear hcut HF o0 o4 o5 o6 t0 t1 t2 t3 t4 t5 t6 Su hk HQ0 Ew;have t0:=mg.o.tc.1;have Su:=mg.o.lt.frozen 0;go_upto_if 87 with (go_at_call 104;(first|(with_reducible refine Calls.mono (Z8.o _) ?_)|(with_reducible refine Calls.mono (Le.o _) ?_));rintro e w' ⟨rfl,rfl⟩)
     go_cut [] (fun wx=>FW w wx old x s kk now D old.aD)
     case first=>
      cases b7 with
      | false=>
       go_wp2;go_meet
       case rel=>rw[VH.o trivial];exact mg.o
      | true=>
       have e1:=HP1.o rfl;go_wp2;go_meet
       case rel=>exact mg.o.Am kk
     case rest=>
      have GZ:=hid hcut;clear hcut mg t0 Su VH HP1;have t6:=GZ.o.tc.2.2.2.2.2.2;have ft6:=GZ.o.lt.frozen 6;go_upto_region 22 with fail
      refine acb (fun V=>FW w V old x s kk now D 0) (GZ.o.afb 0) ?_;intro W4 hF4;have HF4:=hid hF4;clear hF4 GZ t6 ft6;go_wp2_with fail;refine aF.start (S:=fun V=>FW w V old x s kk now D 0) 12 afv ?_;have eD:=hid HF4.o.drew;refine aF.tk 0 [11,0] ?_ (hy:=by intro W hW;obtain ⟨t0,t1,t2,t3,t4,t5,t6⟩:=hW.tc;exact jS);refine aF.tk 1 [11,1] ?_;refine aF.tk 2 [11,3,2] ?_;refine aF.tk 3 [11,3] ?_ (hy:=by intro W hW;obtain ⟨o0,o4,o5,o6⟩:=hW.oc;exact jS);refine aF.tk 4 [11,4] ?_ (hy:=by intro W hW;obtain ⟨e0,e1,e2,e3,e4,e5,e6,e7,e8,e9⟩:=eu hW.x;exact jS);refine aF.tk 5 [11,5] ?_ (hy:=by intro W hW;obtain ⟨e0,e1,e2,e3,e4,e5,e6,e7,e8,e9⟩:=eu hW.s;exact jS);refine aF.tk 6 [11,10,7,6] ?_;refine aF.tk 8 [11,10,9,8] ?_;refine aF.tk 9 [11,10,9] ?_ (hy:=by intro W hW;obtain ⟨o0,o4,o5,o6⟩:=hW.oc;exact jS);refine aF.on 7 ?_;intro K hK;refine Calls.mono (C1.o _) ?_;rintro e w' ⟨rfl,rfl⟩;go_wp2_with fail;refine hkr ?_;clear hK K C1;refine aF.on 10 ?_;intro K hK;refine Calls.mono (C2.o _) ?_;rintro e w' ⟨rfl,rfl⟩;go_wp2_with fail;refine hkr ?_;clear hK K C2;refine aF.on 11 ?_;intro K hK;refine Calls.mono (C3.o _) ?_;rintro e w5 ⟨rfl,g5⟩;have Z9:=hid (eD.o.grown g5);clear g5;go_wp2_with fail;refine hkx Z9.o ?_;clear hK K C3;obtain ⟨⟨e0,j0⟩,⟨e1,j1⟩,⟨e2,j2⟩,⟨e3,j3⟩,⟨e4,j4⟩,⟨e5,j5⟩,⟨e6,j6⟩,l0,l1,l2,l3,l4,l5,l6⟩:=oK Z9.o.lt;refine aF.on 12 ?_;intro K hK;refine hK.out _ _ (.inl afv) ?_;clear hK K;refine aF.Dw (fun V=>FW w V old x s (kk+MF) now D MR) afv (Z9.o.Ob (kk+MF) now D MR) ?_;clear e0 e1 e2 e3 e4 e5 e6 j0 j1 j2 j3 j4 j5 j6 l0 l1 l2 l3 l4 l5 l6 Z9 eD HF4 Z8 Le;intro W6 hF6;have HF:=hid hF6;clear hF6;have HS2:=HS;clear HS;have HS:Hid (R=_):=HR.o.symm.trans HS2.o;exact ace
theorem Io {P:Program} {c:Code} {Q:Exit->Act->World->Prop} {a:Act} {W:World} (X:World->Prop) (hX:X W) (h:∀ V,X V->Code.wp P c Q a V):Code.wp P c Q a W:=h W hX
theorem Gb {K:Act->World->Prop} {a:Act} {W:World} (X:World->Prop) (hX:X W) (h:∀ V,X V->K a V):K a W:=h W hX
structure F2 (w W:World) (base yb:Nat) (M:DM) (g:RG) (gv:Nat) (v0 v1 v2 v3 v4:Int) (z:Value) (o:Option (Int×List UInt8)) (x s:RE) (bx bs:Nat):Prop where
 f:FS w W base yb M g gv v0 v1 v2 v3 v4 z o
 x:W.rangeAt bx 0 x.cells
 s:W.rangeAt bs 0 s.cells
theorem F2.grown {w W W':World} {base yb:Nat} {M:DM} {g:RG} {gv:Nat} {v0 v1 v2 v3 v4:Int} {z:Value} {o:Option (Int×List UInt8)} {x s:RE} {bx bs:Nat} (h:F2 w W base yb M g gv v0 v1 v2 v3 v4 z o x s bx bs) (k:W.grownBy W' none):F2 w W' base yb M g gv v0 v1 v2 v3 v4 z o x s bx bs:=
 ⟨h.f.grown k,aA h.x k,aA h.s k⟩
structure FT (U W:World) (fl se:Int) (cl:List UInt8) (au st fi rn:Int):Prop where
 g:U.grownBy W none
 t:W.rangeAt U.heap.size 0 [.int .i64 fl,.int .u64 se,.string ⟨cl.toArray⟩,.int .i64 au,.int .i64 st,.int .i64 fi,.int .i64 rn]
 l:Live W U.heap.size 7
section
variable {U:World} {fl se:Int} {cl:List UInt8} {au st fi rn:Int}
theorem FT.new (U:World) (fl se:Int) (cl:List UInt8) (au st fi rn:Int):FT U (U.alloc (.cells #[.int .i64 fl,.int .u64 se,.string ⟨cl.toArray⟩,.int .i64 au,.int .i64 st,.int .i64 fi,.int .i64 rn] 43)) fl se cl au st fi rn:=
 ⟨aE U _ none,aW U #[.int .i64 fl,.int .u64 se,.string ⟨cl.toArray⟩,.int .i64 au,.int .i64 st,.int .i64 fi,.int .i64 rn] _,Live.new U #[.int .i64 fl,.int .u64 se,.string ⟨cl.toArray⟩,.int .i64 au,.int .i64 st,.int .i64 fi,.int .i64 rn] _⟩
theorem FT.grown {W':World} (h:FT U W fl se cl au st fi rn) (k:W.grownBy W' none):FT U W' fl se cl au st fi rn:=
 ⟨aa h.g k,aA h.t k,h.l.grown k⟩
theorem FT.drew (h:FT U W fl se cl au st fi rn):FT U W.drew fl se cl au st fi rn:=h.grown (bD (bh _ _))
theorem FT.Am (h:FT U W fl se cl au st fi rn) (v:Int):FT U (W.setCell ⟨U.heap.size,0,none⟩ (.int .i64 v)) v se cl au st fi rn:=
 ⟨az h.g (bd _),range_one h.t aft _,bP h.l _⟩
theorem FT.setSt (h:FT U W fl se cl au st fi rn) (v:Int):FT U (W.setCell ⟨U.heap.size,4,none⟩ (.int .i64 v)) fl se cl au v fi rn:=
 ⟨az h.g (bd _),range_one h.t aft _,bP h.l _⟩
theorem FT.wU (h:FT U W fl se cl au st fi rn) (v:Int):FT U (W.setCell ⟨U.heap.size,5,none⟩ (.int .i64 v)) fl se cl au st v rn:=
 ⟨az h.g (bd _),range_one h.t aft _,bP h.l _⟩
theorem FT.Ob (h:FT U W fl se cl au st fi rn) (a se':Int) (cl':List UInt8) (au' b c d:Int):FT U (((((((W.setCell ⟨U.heap.size,0,none⟩ (.int .i64 a)).setCell ⟨U.heap.size,1,none⟩ (.int .u64 se')).setCell ⟨U.heap.size,2,none⟩ (.string ⟨cl'.toArray⟩)).setCell ⟨U.heap.size,3,none⟩ (.int .i64 au')).setCell ⟨U.heap.size,4,none⟩ (.int .i64 b)).setCell ⟨U.heap.size,5,none⟩ (.int .i64 c)).setCell ⟨U.heap.size,6,none⟩ (.int .i64 d)) a se' cl' au' b c d:=
 ⟨az (az (az (az (az (az (az h.g (bd _)) (bd _)) (bd _)) (bd _)) (bd _)) (bd _)) (bd _),eZ h.l _ _ _ _ _ _ _,bP (bP (bP (bP (bP (bP (bP h.l _) _) _) _) _) _) _⟩
theorem FT.tc (h:FT U W fl se cl au st fi rn):W.cell? ⟨U.heap.size,0,none⟩=some (.int .i64 fl)/\W.cell? ⟨U.heap.size,1,none⟩=some (.int .u64 se)/\W.cell? ⟨U.heap.size,2,none⟩=some (.string ⟨cl.toArray⟩)/\W.cell? ⟨U.heap.size,3,none⟩=some (.int .i64 au)/\W.cell? ⟨U.heap.size,4,none⟩=some (.int .i64 st)/\W.cell? ⟨U.heap.size,5,none⟩=some (.int .i64 fi)/\W.cell? ⟨U.heap.size,6,none⟩=some (.int .i64 rn):=
 ⟨h.t 0 _ rfl,h.t 1 _ rfl,h.t 2 _ rfl,h.t 3 _ rfl,h.t 4 _ rfl,h.t 5 _ rfl,h.t 6 _ rfl⟩
end
theorem FT.c41 {w U W:World} {base yb:Nat} {M:DM} {g:RG} {gv:Nat} {v0 v1 v2 v3 v4:Int} {z:Value} {o:Option (Int×List UInt8)} {x s:RE} {bx bs:Nat} {fl se:Int} {cl:List UInt8} {au st fi rn:Int} (hU:F2 w U base yb M g gv v0 v1 v2 v3 v4 z o x s bx bs) (h:FT U W fl se cl au st fi rn):W.cell? ⟨gv,2,none⟩=some (.int .i64 v2)/\W.cell? ⟨U.heap.size,4,none⟩=some (.int .i64 st)/\W.cell? ⟨bx,3,none⟩=some (.int .i64 x.bI)/\W.cell? ⟨bs,3,none⟩=some (.int .i64 s.bI):=
 ⟨(aA hU.f.v h.g) 2 _ rfl,h.t 4 _ rfl,(aA hU.x h.g) 3 _ rfl,(aA hU.s h.g) 3 _ rfl⟩
theorem Ip (aL old:Int) (x s:BE) (start upto:Int):(if zf aL old x s 4 2=true then fu aL old x s start upto else 0)=fu aL old x s start upto:=by
 rw[uk];cases zf aL old x s 4 2 <;> rfl
theorem Oc {now:Int} {q:FQ} {x s:BE} (dm:In64 now) (hf:In64 q.kX) (ht:In64 q.dJ) (hr:In64 q.bV):(lJ now q x s).In:=by
 refine ⟨?_,dm,?_,Ak now q x s ht,?_⟩
 ·show In64 (32+(if q.pre.isSome then 64 else 0)+(if aG q.aL 8=true then 24 else 0)+gI q.aL 7 x s);unfold gI In64;(repeat' split) <;> omega
 ·show In64 (bH now q);unfold bH;split
  ·exact hf
  ·exact dm
 ·show In64 (fu q.aL 7 x s (bH now q) (asked q.bV));unfold fu;split
  ·exact kJ hr
  ·exact fM
theorem wB {l:List UInt8} (h:cO l=true):l.length<=90:=by
 unfold cO at h;simp only[ej,eL] at h;omega
theorem DN {n:Int} (h:1<=n/\n<=((4611686018427387904:Nat):Int)):In64 n:=by
 unfold In64;omega
theorem Lf {base yb:Nat} {M:DM} {g:RG} {gr:GR} {w w':World} (hc:M.aO.length<24) (hD:RD w base yb M g) (k:w.grownBy w' none):Bl base yb M g (.ok gr) w w' (.slice none 0 0) 60:=
 ⟨(if_pos hc).symm,fun _=>⟨rfl,hD.keep (fun b hb=>k.block b (hD.lt b hb).2 aft),k⟩,fun h=>absurd h afq⟩
section
variable {aC:Int} {q:FQ} {s:BE}
theorem Wl (h:eX aC now x q.pre≠0):dh aC now q x s=eX aC now x q.pre:=by unfold dh;rw[if_pos h]
theorem Wm (h:eX aC now x q.pre=0) (h1:q.aL<0\/15<q.aL):dh aC now q x s=13:=by
 unfold dh;rw[if_neg (fun k=>k h),if_pos h1]
theorem Pt (h:eX aC now x q.pre=0) (h1:¬ (q.aL<0\/15<q.aL)) (h2:aG q.aL 8=true) (h3:¬ (x.has 16=true/\s.has 16=true)):dh aC now q x s=10:=by
 unfold dh;rw[if_neg (fun k=>k h),if_neg h1,if_pos ⟨h2,h3⟩]
theorem Y6 (h:eX aC now x q.pre=0) (h1:¬ (q.aL<0\/15<q.aL)) (h2:aG q.aL 8=false) (h3:aX now aC<q.kX):dh aC now q x s=10:=by
 unfold dh;rw[if_neg (fun k=>k h),if_neg h1,if_neg (by rw[h2];simp),if_pos ⟨h2,h3⟩]
def Pv (aC now:Int) (q:FQ) (x s:BE):Prop:=(aG q.aL 8=true->x.has 16=true/\s.has 16=true)/\(aG q.aL 8=false->¬ aX now aC<q.kX)
theorem ach (h:eX aC now x q.pre=0) (h1:¬ (q.aL<0\/15<q.aL)) (h2:Pv aC now q x s):dh aC now q x s=if fJ now q x s<=bH now q then 11 else 0:=by
 unfold dh;rw[if_neg (fun k=>k h),if_neg h1,if_neg (fun k=>k.2 (h2.1 k.1)),if_neg (fun k=>h2.2 k.1 k.2)]
end
end Go.Proofs.YteknelimjfgmaaaGreatDoor
