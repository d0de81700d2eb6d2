import Derived.Test.YteknelimjfgmaaaGreatDoorGJRBoxH
import Derived.Test.YteknelimjfgmaaaGreatDoorGJPBookA
namespace Go.Proofs.YteknelimjfgmaaaGreatDoor
set_option maxHeartbeats 1000000
open Go.RowKit
set_option maxRecDepth 100000
structure RE where
 k:Int
 name:List UInt8
 yo:UInt64
 bI:Int
 aD:Int
 bC:Int
 ay:Int
 aH:Int
 key:UInt64
 before:UInt64
def RE.cells (e:RE):List Value:=[.int .i64 e.k,.string ⟨e.name.toArray⟩,.int .u64 (e.yo.toNat:Int),.int .i64 e.bI,.int .i64 e.aD,.int .i64 e.bC,.int .i64 e.ay,.int .i64 e.aH,.int .u64 (e.key.toNat:Int),.int .u64 (e.before.toNat:Int)]
def bK (l:List RE):List Value:=(l.map RE.cells).flatten
theorem iV (l:List RE):∀ (k j:Nat) (hk:k<l.length),j<10->(bK l)[k*10+j]?=(l[k]).cells[j]?:=by
 induction l with
 | nil=>intro k j hk;simp at hk
 | cons x l ih=>
  intro k j hk hj;have e:bK (x::l)=x.cells++bK l:=by simp[bK]
  rw[e];cases k with
  | zero=>rw[gi,cC,cF (by show j<10;exact hj)];rfl
  | succ k=>
   rw[cM (by show 10<=(k+1)*10+j;omega),show (k+1)*10+j-x.cells.length=k*10+j from by show (k+1)*10+j-10=k*10+j;omega];exact ih k j afD hj
structure iG (w:World) (base pb:Nat) (aC:Int) (bv pv dv:Value) (es:List RE) (ds:List UInt8):Prop where
 blk:dX w pb #[.int .i64 aC,bv,pv,dv]
 bg:w.ownsRow base 166 10 bv es.length (bK es)
 aO:w.ownsRow base 5 1 dv ds.length (ds.map U8)
 here:base<=pb
 bne:bv.ownBlock≠some pb
 Qd:dv.ownBlock≠some pb
 apart:bv.ownBlock=none\/bv.ownBlock≠dv.ownBlock
theorem iG.grown {w w':World} {base pb:Nat} {aC:Int} {bv pv dv:Value} {es:List RE} {ds:List UInt8} (h:iG w base pb aC bv pv dv es ds) (k:w.grownBy w' none):iG w' base pb aC bv pv dv es ds:=
 ⟨h.blk.grown k aft,h.bg.kept k (eW _),h.aO.kept k (eW _),h.here,h.bne,h.Qd,h.apart⟩
def fP (es:List RE) (l:List UInt8):Int:=
 match es.findIdx? (fun e=>e.name==l) with
 | some i=>(i:Int)
 | none=>-1
theorem Mq {es:List RE} {l:List UInt8} {k:Nat} (hk:k<es.length) (h:es[k].name=l) (hb:∀ j (hj:j<k),(es[j]'afp).name≠l):fP es l=(k:Int):=by
 have:es.findIdx? (fun e=>e.name==l)=some k:=by
  rw[List.findIdx?_eq_some_iff_getElem];exact ⟨hk,by simp[h],fun j hj=>by simpa using hb j hj⟩
 rw[fP,this]
theorem Mr {es:List RE} {l:List UInt8} (hb:∀ j (hj:j<es.length),es[j].name≠l):fP es l=-1:=by
 have:es.findIdx? (fun e=>e.name==l)=none:=by
  rw[List.findIdx?_eq_none_iff];intro x hx;obtain ⟨j,hj,rfl⟩:=List.mem_iff_getElem.1 hx;simpa using hb j hj
 rw[fP,this]
theorem str_eq {a b:List UInt8} {S T:ByteArray} (hS:S=⟨a.toArray⟩) (hT:T=⟨b.toArray⟩):(S.toList==T.toList)=(a==b):=by
 subst hS hT;rw[ByteArray.toList_mk,ByteArray.toList_mk]
theorem aew {p:Prop} (h:p:=by
 rcases hD.bg.2 with ⟨h,h2⟩ | ⟨g,cap,cur,h,_⟩
 ·omega
 ·simp at h;exact ⟨g,h.1⟩):p:=h
theorem aeZ {p:Prop} (h:p:=by
 rw[hm.o] at hbk
 rw[hbk.cellAt (k*10+1) afp,iV es k 1 hlt' afp]
 rfl):p:=h
theorem nA (base pb:Nat) (aC:Int) (bv pv dv:Value) (es:List RE) (ds l:List UInt8) (m:Nat) (S:ByteArray) (w:World) (hD:iG w base pb aC bv pv dv es ds) (hm:Hid (es.length=m)) (zm:m<=1000) (hS:Hid (S=⟨l.toArray⟩)) :
  Calls Tryz.prog 56 #[.pointer (some ⟨pb,0,none⟩),.string S] w fun e w'=>e = .returned (.int .i64 (fP es l))/\w.grownBy w' none:=by
 obtain ⟨ab,cb,hbv⟩:=cu hD.bg
 rw[hm.o] at hbv
 subst hbv
 have c1:=hD.blk.cell 1
 simp only[cx,ct,cD] at c1
 go_enter Tryz.func56,Tryz.ntmps56
 go_wp2
 go_loopw [5] (fun i wr=>∃ k:Nat,k<=m/\i = .int .i64 k/\Hid (∀ j (hj:j<es.length),j<k->es[j].name≠l)/\w.grownBy wr none) (fun i _=>m-(intOf i).toNat)
 case atStart=>exact ⟨0,cE _,rfl,hid (fun j _ hj=>by omega),bh _ _⟩
 case round=>
  obtain ⟨k,hk,rfl,HN,hgr⟩:=hrel;have c1r:=hgr.cell c1 aft;by_cases hlt:k<m
  ·have hlt':k<es.length:=(by rw[hm.o];exact hlt);have rF:(k:Int)<(m:Int):=(by omega);have hk0:(0:Int)<=(k:Int):=(by omega);obtain ⟨g0,hab⟩:∃ g0,ab=some ⟨g0,0,none⟩:=by
    exact aew
   subst hab;have hcell:wr.cell? ⟨g0,k*10+1,none⟩=some (.string ⟨es[k].name.toArray⟩):=by
    have hbk:=(hD.grown hgr).bg;exact aeZ
   obtain ⟨T,hT⟩:∃ T:ByteArray,T=⟨es[k].name.toArray⟩:=⟨_,rfl⟩
   rw[<-hT] at hcell;have hq:=str_eq hT hS.o;by_cases he:es[k].name=l
   ·have hq1:(T.toList==S.toList)=true:=(by rw[hq,he];simp);have HF:Hid (fP es l=(k:Int)):=Mq hlt' he (fun j hj=>HN.o j afp hj);clear he hq hT hD;go_wp2;go_ret;exact ⟨bE (by rw[HF.o]),hgr⟩
   ·have hq1:(T.toList==S.toList)=false:=(by rw[hq];simpa using he);have IJ:Hid (∀ j (hj:j<es.length),j<k+1->es[j].name≠l):=by
     intro j hj hj2;by_cases hjk:j<k
     ·exact HN.o j hj hjk
     ·have:j=k:=by omega
      subst this;exact he
    clear he hq hT hD;go_wp2;go_roundw
    case rel=>exact ⟨k+1,by omega,by go_num,IJ,hgr⟩
    case measure=>simp[intOf];omega
  ·have Sb:k=m:=(by omega);subst Sb;have rF:¬ (k:Int)<(k:Int):=(by omega);have HF:Hid (fP es l=-1):=Mr (fun j hj=>HN.o j hj (by rw[<-hm.o];exact hj));clear hD;go_wp2;go_ret;exact ⟨bE (by rw[HF.o]),hgr⟩
open Proofs.Tryz
theorem uu {P:Program} {ops:Array Oper} {o:Oper} {a:Act} {w:World} {K:Act->World->Prop} {Q:Exit->Act->World->Prop} {E:Prop}
  (hg:o.guard=none) (s x:Operand) (t:TypeId) (hop:o.op=Op.call {callee:=Callee.builtin Builtin.append,args:=#[s,x],argTypes:=#[t,t]})
  (base:Nat) (e:TypeId) (i:TypeInfo) (z:Value) (size bytes:Nat) (ht:P.underlying t=some (.slice e)) (hi:P.info? e=some i) (hz:i.zero=some z) (hsize:i.size=size) (hby:i.bytes=bytes) (hzs:z.cells.size=size) (hsz:0<size)
  (v:Value) (n:Nat) (xs:List Value) (hs:a.eval s=v) (hown:w.ownsRow base e size v n xs) (ad:Addr) (m c:Nat) (news:List Value) (hx:a.eval x = .slice (some ad) m c) (hl:news.length=m*size) (hnews:∀ j u,news[j]?=some u->w.cell? (ad.add j)=some u) (h1:∀ u∈news,u.oneCell'=true) (hm:0<m)
  (h63:n+m<=maxLen) (hbytes:(n+m)*bytes<=140737488355328) (hbase:base<=w.heap.size)
  (hK:∀ v' w',w'.ownsRow base e size v' (n+m) (xs++news)->w.grownBy w' v.ownBlock->Hid (v'.ownBlock=v.ownBlock\/v'.ownBlock=some w.heap.size)->K (a.put o.dst v') w') :
  if Region.wanted o (yielded ops a.tmps)=true then Oper.wp P o a w K Q else E:=by
 have hw:Region.wanted o (yielded ops a.tmps)=true:=by simp[Region.wanted,hg]
 rw[if_pos hw]
 obtain ⟨v',w',hrun,r1,r2,r3⟩:=pW (P:=P) w base t o.type e i z size bytes ht hi hz hsize hby hzs hsz v n xs hown ad m c news hl hnews h1 hm h63 hbytes hbase
 exact adE
theorem Tx (aC:Int) (v:Value) (w:World) (h:aC<0\/300<aC) :
  Calls prog 29 #[.int .i64 aC,v] w fun e w'=>e = .returned (.tuple #[.pointer none,.int .i64 1])/\w=w':=by
 by_cases h1:aC<0
 ·go_enter func29,ntmps29;go_wp2;exact acP
 ·have h2:300<aC:=by omega
  go_enter func29,ntmps29;go_wp2;exact acP
theorem XF (base:Nat) (aC:Int) (zs:List UInt8) (n:Nat) (ao:Option Addr) (cap:Nat) (w:World) (h0:0<=aC) (h1:aC<=300) (hn:Hid (zs.length=n)) (hl:n<=140737488355328) (hnc:Hid (ao=none->cap=0)) (hat:At w ao zs) (hbase:base<=w.heap.size) :
  Calls prog 29 #[.int .i64 aC,.slice ao n cap] w fun e w'=>∃ dv,e = .returned (.tuple #[.pointer (some ⟨w.heap.size,0,none⟩),.int .i64 0])/\iG w' base w.heap.size aC (.slice none 0 0) (.slice none 0 0) dv [] zs/\w.grownBy w' none:=by
 obtain ⟨i0,hif,hz0,hz1,hz2⟩:=info_parts Tryz.info5
 have G0:w.grownBy (w.alloc (.cells #[.int .i64 aC,.slice none 0 0,.slice none 0 0,.slice none 0 0] 144)) none:=aE w _ none
 have hB0:=dX.new w #[.int .i64 aC,.slice none 0 0,.slice none 0 0,.slice none 0 0] 144
 have Eh:=hat.below G0
 go_enter func29,ntmps29
 go_wp2_with (at_builtin;refine bU _ rfl _ _ 37 rfl (w.heap.size+1) 5 i0 underlying37 hif hz0 hz1 hz2 _ 0 [] rfl (World.ownsRow_nil _ _ _ _) ao n cap zs rfl hn.o hnc.o Eh afp aft ?_)
 intro v1 w1 hown1 hg1 _
 have hB1:=hB0.grown hg1 (by simp[Value.ownBlock])
 have G1:=aa G0 (row:=none) (by simpa[Value.ownBlock] using hg1)
 have rG:w1.ownsRow (w.heap.size+1) 5 1 v1 n (zs.map U8):=by simpa using hown1
 obtain ⟨a1,c1,rfl,_,_,_,_⟩:=iI rG
 have p3:=hB1.cell 3
 have p3f:=hB1.frozen 3
 simp only[cx,ct,cD] at p3
 have hne:(Value.slice a1 n c1).ownBlock≠some w.heap.size:=fun e=>by have:=(rG.lt _ e).1;omega
 clear hown1 hg1 hB0 G0 Eh hat
 go_wp2
 go_ret2
 refine ⟨.slice a1 n c1,rfl,⟨?_,World.ownsRow_nil _ _ _ _,?_,hbase,by simp[Value.ownBlock],hne,.inl rfl⟩,az G1 (bd _)⟩
 ·have:=hB1.set 3 (.slice a1 n c1);simpa using this
 ·rw[hn.o];exact pY (ownsRow_setCell_below rG (by show w.heap.size<w.heap.size+1;omega) _) afp
theorem jW {fn:Func} {a:Tmp} {ty:TypeId} (h:fn.results=#[.cell a ty]) (tmps:Array Value) (P:Program) (w:World) (b:Nat) (hp:tmps.getD a undef = .pointer (some ⟨b,0,none⟩)) (x:Value) (hl:(loadVar ty ⟨b,0,none⟩).run P w = .ok x w) :
  (results fn tmps).run P w = .ok x w:=by
 have hp':tmps[a]?.getD undef = .pointer (some ⟨b,0,none⟩):=by simpa using hp
 exact ac1
variable {f:Bool} {l:List UInt8} {g:Nat} {w w':World}
abbrev Source:Type:=Option Addr×List UInt8
def Rd (w:World) (S:Source) (g:Nat) (l:List UInt8) (f:Bool):Prop:=
 ∃ ao cap,dX w g #[.slice ao l.length cap,.bool f]/\l.length<=cap/\cap<=9223372036854775807/\l.length<=140737488355328/\(∀ w0,At w0 S.1 S.2->At w0 ao l)/\(f=true->l=[])
def Bs (S:Source) (v:Value) (l:List UInt8):Prop:=∃ ao cap,v = .slice ao l.length cap/\l.length<=cap/\cap<=9223372036854775807/\l.length<=140737488355328/\∀ w0,At w0 S.1 S.2->At w0 ao l
theorem Bs.nil (S:Source):Bs S (.slice none 0 0) []:=⟨none,0,rfl,by simp,by decide,by simp,fun w0 _=>At.nil w0 none⟩
theorem Rd.keep {S:Source} (h:Rd w S g l f) (hb:w'.heap[g]?=w.heap[g]?):Rd w' S g l f:=by
 obtain ⟨ao,cap,h1,h2⟩:=h;exact ⟨ao,cap,h1.kept hb,h2⟩
theorem Rd.lt {S:Source} (h:Rd w S g l f):g<w.heap.size:=by
 obtain ⟨_,_,hb,_⟩:=h;exact hb.lt
theorem Rd.bad {S:Source} (h:Rd w S g l f):f=true->l=[]:=by
 obtain ⟨_,_,_,_,_,_,_,h⟩:=h;exact h
theorem Rd.Tg {ex:Nat->Prop} {S:Source} (h:Rd w S g l f) (k:lN w w' ex) (hg:¬ ex g):Rd w' S g l f:=h.keep (k.block g h.lt hg)
def iF (S:Source) (g:Nat):Prop:=0<S.2.length->∀ b off,S.1=some ⟨b,off,none⟩->b≠g
theorem iF.new {S:Source} (h:At w S.1 S.2) (hg:w.heap.size<=g):iF S g:=by
 intro hp b off e q;obtain ⟨b',off',e',hb⟩:=h.addr hp;rw[e] at e';injection e' with e';injection e' with e1 _ _;omega
theorem iF.at {S:Source} {ex:Nat->Prop} (h:At w S.1 S.2) (f:lN w w' ex) (n:∀ g,ex g->iF S g):At w' S.1 S.2:=by
 intro j hj;obtain ⟨b,off,e1,e2⟩:=h j hj;refine ⟨b,off,e1,?_⟩;rw[World.cell?_of_block (w:=w) (w':=w') (a:=⟨b,off+j,none⟩) (f.block b (World.block_lt_of_cell? w _ e2) (fun e=>n b e afp b off e1 rfl))];exact e2
def Fz (g b _j:Nat):Prop:=b=g
theorem CF.xx (h:CF w w' (Fz g)):lN w w' (fun b=>b=g):=⟨h.os,h.tape,h.output,h.size,fun b hb hx=>h.block b hb (fun _ e=>hx e)⟩
def bB (due:Nat) (l:List UInt8) (f:Bool):List UInt8×List UInt8×Bool:=
 match Box.cut l with
 | some (t,i,r)=>if t.toNat=due then (i,r,f) else ([],[],true)
 | none=>([],[],true)
theorem sI (S:Source) (g:Nat) (l:List UInt8) (f ok:Bool) (w:World) (h:Rd w S g l f) :
  Calls prog 207 #[.pointer (some ⟨g,0,none⟩),.bool ok] w fun e w'=>e = .returned (.tuple #[])/\Rd w' S g (if ok=true then l else []) (if ok=true then f else true)/\CF w w' (Fz g):=by
 cases ok
 ·obtain ⟨ao,cap,hb,h2,h3,h4,h5,h7⟩:=h;have c0:=hb.cell 0;have c1:=hb.cell 1;simp only[cx,ct,cD] at c0 c1;have f0:=hb.frozen 0;have f1:=hb.frozen 1;have HR:Hid (Rd ((w.setCell ⟨g,0,none⟩ (.slice none 0 0)).setCell ⟨g,1,none⟩ (.bool true)) S g [] true):=by
   exact ⟨none,0,(hb.set 0 _).set 1 _,by simp,by decide,by simp,fun w0 _=>At.nil w0 none,fun _=>rfl⟩
  have HF:Hid (CF w ((w.setCell ⟨g,0,none⟩ (.slice none 0 0)).setCell ⟨g,1,none⟩ (.bool true)) (Fz g)):=((CF.refl w (Fz g)).setCell g 0 _ (fun _=>rfl)).setCell g 1 _ (fun _=>rfl);clear hb h2 h3 h4 h5 h7;go_enter func207,ntmps207;go_wp2;go_end0;exact ⟨rfl,HR.o,HF.o⟩
 ·have HR:=hid h;clear h;go_enter func207,ntmps207;go_wp2;go_end0;exact ⟨rfl,HR.o,CF.refl _ _⟩
theorem Rd.drewN {S:Source} (h:Rd w S g l f) (n:Nat):Rd (w.drewN n) S g l f:=h.keep rfl
theorem Cz (due:Nat) (S:Source) (g:Nat) (l:List UInt8) (f:Bool) (w:World) (hs:At w S.1 S.2) (h:Rd w S g l f) :
  Calls prog 208 #[.pointer (some ⟨g,0,none⟩),.int .u8 (due:Int)] w fun e w'=>∃ v,e = .returned v/\Bs S v (bB due l f).1/\Rd w' S g (bB due l f).2.1 (bB due l f).2.2/\CF w w' (Fz g):=by
 have HN:=hid (fun m=>sI S g l f false (w.drewN m) (h.drewN m))
 obtain ⟨ao,cap,hb,h2,h3,h4,h5,h7⟩:=h
 have c0:=hb.cell 0
 simp only[cx,ct] at c0
 have f0:=hb.frozen 0
 have hcut:=hid (Xz l l.length ao cap w (hid rfl) h4 h2 h3 (h5 w hs))
 cases hcu:Box.cut l with
 | none=>
  have HM:Hid (bB due l f=([],[],true)):=by show _=_;rw[bB,hcu]
  have HQ:=hid hcu;clear hb h2 h3 h4 h5 h7 hcu hs;go_enter func208,ntmps208;go_wp2_with (first|(go_at_call 128;refine hcut.o.mono ?_;rintro e w' ⟨_,r2,m,rfl⟩;obtain rfl:=r2 HQ.o)|(go_at_call 207;refine (HN.o m).mono ?_;rintro e w2 ⟨rfl,rd2,fr2⟩))
  go_ret;rw[HM.o];exact ⟨_,rfl,Bs.nil _,rd2,fr2.mh⟩
 | some q=>
  obtain ⟨t,i,r⟩:=q;by_cases e:t.toNat=due
  ·have hq:((t.toNat:Int)==(due:Int))=true:=(by rw[e];exact beq_self_eq_true _);have HM:Hid (bB due l f=(i,r,f)):=(by show _=_;rw[bB,hcu];simp only[e,ez]);have HQ:=hid hcu;have HB:=hid hb;have HX:=hid (And.intro h3 (And.intro h4 (And.intro h5 h7)));have HL:Hid (i.length<=l.length/\r.length<=l.length/\(l=[]->False)):=by
    have:=Box.jF hcu;exact ⟨by omega,by omega,fun e=>by rw[e] at this;simp at this⟩
   clear hb h2 h3 h4 h5 h7 hcu hs e;go_enter func208,ntmps208;go_wp2_with (first|(go_at_call 128;refine hcut.o.mono ?_;rintro e w' ⟨r1,_,m,rfl⟩;obtain ⟨a1,c1,a2,c2,rfl,p1,p2,p3,p4,p5,p6⟩:=r1 _ _ _ HQ.o))
   go_ret;rw[HM.o];have fr:CF w ((w.drewN m).setCell ⟨g,0,none⟩ (.slice a2 r.length c2)) (Fz g):=((CF.refl w (Fz g)).drewN m).setCell g 0 _ (fun _=>rfl);refine ⟨_,rfl,⟨a1,c1,rfl,p2,by have:=HX.o.1;omega,by have:=HX.o.2.1;have:=HL.o.1;show i.length<=_;omega,fun w0 q=>p1 w0 (HX.o.2.2.1 w0 q)⟩,⟨a2,c2,(HB.o.drewN m).set 0 _,p5,by have:=HX.o.1;omega,by have:=HX.o.2.1;have:=HL.o.2.1;show r.length<=_;omega,fun w0 q=>p4 w0 (HX.o.2.2.1 w0 q),fun e=>absurd (HX.o.2.2.2 e) HL.o.2.2⟩,fr⟩
  ·have hq:((t.toNat:Int)==(due:Int))=false:=(by rw[cg];omega);have HM:Hid (bB due l f=([],[],true)):=(by show _=_;rw[bB,hcu];simp only[e,eC]);have HQ:=hid hcu;clear hb h2 h3 h4 h5 h7 hcu hs e;go_enter func208,ntmps208;go_wp2_with (first|(go_at_call 128;refine hcut.o.mono ?_;rintro e w' ⟨r1,_,m,rfl⟩;obtain ⟨a1,c1,a2,c2,rfl,p1,p2,p3,p4,p5,p6⟩:=r1 _ _ _ HQ.o)|(go_at_call 207;refine (HN.o m).mono ?_;rintro e w2 ⟨rfl,rd2,fr2⟩))
   go_ret;rw[HM.o];exact ⟨_,rfl,Bs.nil _,rd2,fr2.mh⟩
theorem yN (S:Source) (g:Nat) (l:List UInt8) (f:Bool) (w:World) (hs:At w S.1 S.2) (h:Rd w S g l f) :
  Calls prog 184 #[.pointer (some ⟨g,0,none⟩)] w fun e w'=>∃ v,e = .returned v/\Bs S v (bB 4 l f).1/\Rd w' S g (bB 4 l f).2.1 (bB 4 l f).2.2/\CF w w' (Fz g):=by
 have HT:=hid (Cz 4 S g l f w hs h)
 clear h hs
 go_enter func184,ntmps184
 go_wp2_with (first|(go_at_call 208;refine HT.o.mono ?_;rintro e w2 ⟨v,rfl,b2,r2,f2⟩;obtain ⟨ao,cap,rfl,q⟩:=b2))
 go_ret
 exact ⟨_,rfl,⟨ao,cap,rfl,q⟩,r2,f2⟩
theorem Tryz.MZ:(prog.info? 314).map (·.size)=some 2:=by kernel_rfl
theorem dX.two {a b:Value} (h:dX w g #[a,b]):w.cell? ⟨g,0,none⟩=some a/\w.cell? ⟨g,1,none⟩=some b:=⟨h.cell 0,h.cell 1⟩
theorem yO {x y:Value} (h:dX w g #[x,y]):(loadVar 314 ⟨g,0,none⟩).run prog w = .ok (.agg #[x,y]) w:=h.load 314 _ underlying314 rfl Tryz.MZ
theorem JV (ao:Option Addr) (n cap:Nat) (w:World) :
  Calls prog 236 #[.slice ao n cap] w fun e w'=>e = .returned (.agg #[.slice ao n cap,.bool false])/\w.grownBy w' none:=by
 have G0:=hid (aE w (.cells #[.slice ao n cap,.bool false] 314) none)
 have HB:=hid (dX.new w #[.slice ao n cap,.bool false] 314)
 go_enter func236,ntmps236
 go_wp2
 exact bodyPost_ret (jW results236 _ _ _ w.heap.size rfl _ (yO HB.o)) rfl ⟨rfl,G0.o⟩
theorem FB (S:Source) (g:Nat) (l:List UInt8) (f:Bool) (w:World) (h:Rd w S g l f) :
  Calls prog 170 #[.pointer (some ⟨g,0,none⟩)] w fun e w'=>e = .returned (.bool (decide (l=[])))/\w'=w:=by
 obtain ⟨ao,cap,hb,_⟩:=h
 obtain ⟨c0,c1⟩:=hb.two
 clear hb
 cases l with
 | nil=>
  go_enter func170,ntmps170;exact aaG
 | cons x l=>
  have hl:(((x::l).length:Int)==0)=false:=by rw[cg];simp;omega
  obtain ⟨n,hn⟩:=aq ((x::l).length);rw[hn] at hl c0;clear hn;go_enter func170,ntmps170;go_wp2;go_ret;exact ⟨by simp,rfl⟩
theorem jw (S:Source) (g:Nat) (l:List UInt8) (f:Bool) (w:World) (h:Rd w S g l f) :
  Calls prog 172 #[.pointer (some ⟨g,0,none⟩)] w fun e w'=>e = .returned (.bool (!f && decide (l=[])))/\w'=w:=by
 have HE:=hid (FB S g l f w h)
 obtain ⟨ao,cap,hb,_⟩:=h
 obtain ⟨c0,c1⟩:=hb.two
 clear hb
 cases f
 ·go_enter func172,ntmps172;go_wp2_with (first|(go_at_call 170;refine HE.o.mono ?_;rintro e w2 ⟨rfl,rfl⟩))
  go_ret;exact ⟨by simp,rfl⟩
 ·go_enter func172,ntmps172;go_wp2;go_ret;exact ⟨by simp,rfl⟩
theorem CE (S:Source) (g:Nat) (l:List UInt8) (f:Bool) (w:World) (hs:At w S.1 S.2) (h:Rd w S g l f) :
  Calls prog 169 #[.pointer (some ⟨g,0,none⟩)] w fun e w'=>∃ v,e = .returned (.agg #[v,.bool (bB 48 l f).2.2])/\Bs S v (bB 48 l f).1/\Rd w' S g (bB 48 l f).2.1 (bB 48 l f).2.2/\CF w w' (Fz g):=by
 have G0:=hid (aE w (.cells #[.slice none 0 0,.bool false] 314) none)
 have hgl:=h.lt
 have HB0:=hid (dX.new w #[.slice none 0 0,.bool false] 314)
 have h0:Rd (w.alloc (.cells #[.slice none 0 0,.bool false] 314)) S g l f:=h.keep (G0.o.block g hgl aft)
 have HT:=hid (Cz 48 S g l f _ (hs.below G0.o) h0)
 have hne:w.heap.size≠g:=by omega
 clear h h0 hs
 go_enter func169,ntmps169
 go_wp2_with fail
 refine HT.o.mono ?_
 rintro e w2 ⟨v,rfl,b2,r2,f2⟩
 have r2':=r2
 have b2':=b2
 obtain ⟨ao,cap,rfl,q⟩:=b2'
 obtain ⟨ao2,cap2,hb2,q2⟩:=r2'
 obtain ⟨c0,c1⟩:=hb2.two
 have hB2:dX w2 w.heap.size #[.slice none 0 0,.bool false]:=HB0.o.kept (f2.xx.block _ HB0.o.lt hne)
 obtain ⟨d0,d1⟩:=hB2.two
 have g0:=hB2.frozen 0
 have g1:=hB2.frozen 1
 have HS:=hid hB2
 clear hb2 hB2 q q2
 have FX:lN w2 ((w2.setCell ⟨w.heap.size,0,none⟩ (.slice ao (bB 48 l f).1.length cap)).setCell ⟨w.heap.size,1,none⟩ (.bool (bB 48 l f).2.2)) (fun b=>b=w.heap.size):=((lN.refl w2 (fun b=>b=w.heap.size)).set (g:=w.heap.size) rfl 0 _).set (g:=w.heap.size) rfl 1 _
 have HRX:=hid (r2.Tg FX (fun e=>hne e.symm))
 have HBX:=hid b2
 have HFX:Hid (CF w ((w2.setCell ⟨w.heap.size,0,none⟩ (.slice ao (bB 48 l f).1.length cap)).setCell ⟨w.heap.size,1,none⟩ (.bool (bB 48 l f).2.2)) (Fz g)):=((CF.before G0.o f2).setCell w.heap.size 0 _ (fun q=>absurd q (fS _))).setCell w.heap.size 1 _ (fun q=>absurd q (fS _))
 have HL:=hid (yO ((HS.o.set 0 (.slice ao (bB 48 l f).1.length cap)).set 1 (.bool (bB 48 l f).2.2)))
 clear FX r2 b2 f2
 go_wp2
 exact bodyPost_ret (jW results169 _ _ _ w.heap.size rfl _ HL.o) rfl ⟨_,rfl,HBX.o,HRX.o,HFX.o⟩
def bJ (zs:List UInt8):List UInt8×Bool:=
 if (bB 48 zs false).2.2=false/\(bB 48 zs false).2.1=[] then ((bB 48 zs false).1,false) else ([],true)
theorem Rd.new {w:World} {S:Source} {ao:Option Addr} {l:List UInt8} {cap:Nat} {f:Bool} (h:Bs S (.slice ao l.length cap) l) (hf:f=true->l=[]) (t:TypeId):Rd (w.alloc (.cells #[.slice ao l.length cap,.bool f] t)) S w.heap.size l f:=by
 obtain ⟨a,c,e,h1,h2,h3,h4⟩:=h;injection e with e1 _ e3;subst e1 e3;exact ⟨ao,cap,dX.new w _ t,h1,h2,h3,h4,hf⟩
theorem nJ (due:Nat) (l:List UInt8) (f:Bool) (hf:f=true->l=[]):(bB due l f).2.2=true->(bB due l f).1=[]/\(bB due l f).2.1=[]:=by
 unfold bB;cases h:Box.cut l with
 | none=>exact fun _=>⟨rfl,rfl⟩
 | some q=>
  obtain ⟨t,i,r⟩:=q;simp only;split
  ·intro e;have:=hf e;subst this;have:=Box.jF h;simp at this
  ·exact fun _=>⟨rfl,rfl⟩
theorem tT {w0 w w':World} {g:Nat} (h:w0.grownBy w none) (f:lN w w' (fun b=>b=g)) (hg:w0.heap.size<=g):w0.grownBy w' none:=
 ⟨f.os.trans h.os,f.tape.trans h.tape,f.output.trans h.output,br h.size f.size,fun b hb _=>by
  have:=h.size
  rw[f.block b afp (fun e=>by omega),h.block b hb aft]⟩
theorem tX (S:Source) (zs:List UInt8) (n:Nat) (ao:Option Addr) (cap:Nat) (w:World) (hn:Hid (zs.length=n)) (hs:At w S.1 S.2) (h:Bs S (.slice ao n cap) zs) :
  Calls Tryz.prog 206 #[.slice ao n cap] w fun e w'=>∃ v,e = .returned (.agg #[v,.bool (bJ zs).2])/\Bs S v (bJ zs).1/\w.grownBy w' none:=by
 obtain rfl:=hn.o
 have G0:=aE w (.cells #[.slice none 0 0,.bool false] 314) none
 have HB0:=hid (dX.new w #[.slice none 0 0,.bool false] 314)
 have s0:(w.alloc (.cells #[.slice none 0 0,.bool false] 314)).heap.size=w.heap.size+1:=ch _ _
 have HH:=hid h
 have uH:=hid G0
 have eD:=hid (hs.below G0)
 clear h G0 hs
 go_enter Tryz.func206,Tryz.ntmps206
 go_wp2_with fail
 refine (JV ao zs.length cap _).mono ?_
 rintro e w1 ⟨rfl,g1⟩
 have s1:=g1.size
 have r1:=Rd.new (w:=w1) HH.o (f:=false) (fun e=>by cases e) 314
 have ga:=aE w1 (.cells #[.slice ao zs.length cap,.bool false] 314) none
 have sa:(w1.alloc (.cells #[.slice ao zs.length cap,.bool false] 314)).heap.size=w1.heap.size+1:=ch _ _
 have HBa:Hid (dX (w1.alloc (.cells #[.slice ao zs.length cap,.bool false] 314)) w.heap.size #[.slice none 0 0,.bool false]):=(HB0.o.grown g1 aft).grown ga aft
 have HGa:=hid (aa uH.o (aa g1 ga))
 have hsa:=(eD.o.below g1).below ga
 have HL:=hid (CE S w1.heap.size zs false _ hsa r1)
 clear r1 g1 ga HH HB0 uH hsa eD
 go_wp2_with fail
 refine HL.o.mono ?_
 rintro e w2 ⟨v,rfl,b2,r2,f2⟩
 obtain ⟨a2,c2,rfl,_⟩:=id b2
 have s2:=f2.size
 have f2s:=nJ 48 zs false (fun e=>by cases e)
 have hgb:=aE w2 (.cells #[.slice a2 (bB 48 zs false).1.length c2,.bool (bB 48 zs false).2.2] 314) none
 have sb:(w2.alloc (.cells #[.slice a2 (bB 48 zs false).1.length c2,.bool (bB 48 zs false).2.2] 314)).heap.size=w2.heap.size+1:=ch _ _
 have rb:=Rd.new (w:=w2) b2 (fun e=>(f2s e).1) 314
 have r2b:=r2.keep (hgb.block _ afp aft)
 have HD:=hid (jw S w1.heap.size _ _ _ r2b)
 have HN:=hid (sI S w2.heap.size _ _ (!(bB 48 zs false).2.2 && decide ((bB 48 zs false).2.1=[])) _ rb)
 have HBb:Hid (dX (w2.alloc (.cells #[.slice a2 (bB 48 zs false).1.length c2,.bool (bB 48 zs false).2.2] 314)) w.heap.size #[.slice none 0 0,.bool false]):=(HBa.o.kept (f2.xx.block _ HBa.o.lt afp)).grown hgb aft
 have HGb:=hid (aa (tT HGa.o f2.xx afp) hgb)
 have hne:w.heap.size≠w2.heap.size:=by omega
 have HRM:Hid ((if (!(bB 48 zs false).2.2 && decide ((bB 48 zs false).2.1=[]))=true then (bB 48 zs false).1 else [])=(bJ zs).1/\(if (!(bB 48 zs false).2.2 && decide ((bB 48 zs false).2.1=[]))=true then (bB 48 zs false).2.2 else true)=(bJ zs).2):=by
  unfold bJ;by_cases e:(bB 48 zs false).2.2=false/\(bB 48 zs false).2.1=[]
  ·rw[if_pos e,if_pos (by simp[e.1,e.2]),if_pos (by simp[e.1,e.2])];exact ⟨rfl,e.1⟩
  ·rw[if_neg e,if_neg (fun q=>e (by simpa using q)),if_neg (fun q=>e (by simpa using q))];exact ⟨rfl,rfl⟩
 rw[HRM.o.1,HRM.o.2] at HN
 clear b2 r2 f2 f2s hgb rb r2b HL HBa HGa
 go_wp2_with fail
 refine HD.o.mono ?_
 rintro e w3 ⟨rfl,rfl⟩
 go_wp2_with fail
 refine HN.o.mono ?_
 rintro e w4 ⟨rfl,r4,f4⟩
 obtain ⟨a4,c4,hb4,p1,p2,p3,p4,p6⟩:=r4
 obtain ⟨c0,c1⟩:=hb4.two
 have hB4:dX w4 w.heap.size #[.slice none 0 0,.bool false]:=HBb.o.kept (f4.xx.block _ HBb.o.lt hne)
 obtain ⟨d0,d1⟩:=hB4.two
 have g0:=hB4.frozen 0
 have g1:=hB4.frozen 1
 have HS:=hid (yO ((hB4.set 0 (.slice a4 (bJ zs).1.length c4)).set 1 (.bool (bJ zs).2)))
 have FX:lN w4 ((w4.setCell ⟨w.heap.size,0,none⟩ (.slice a4 (bJ zs).1.length c4)).setCell ⟨w.heap.size,1,none⟩ (.bool (bJ zs).2)) (fun b=>b=w.heap.size):=((lN.refl w4 (fun b=>b=w.heap.size)).set (g:=w.heap.size) rfl 0 _).set (g:=w.heap.size) rfl 1 _
 have xu:=hid (tT (tT HGb.o f4.xx afp) FX (bd _))
 have HBs:Hid (Bs S (.slice a4 (bJ zs).1.length c4) (bJ zs).1):=⟨a4,c4,rfl,p1,p2,p3,p4⟩
 clear hb4 hB4 p1 p2 p3 p4 p6 FX f4 HN HD HRM s0 s1 s2 sa sb
 go_wp2
 exact bodyPost_ret (jW Tryz.results206 _ _ _ w.heap.size rfl _ HS.o) rfl ⟨_,rfl,HBs.o,xu.o⟩
def bO (s:List UInt8×Bool):Int×(List UInt8×Bool):=
 match Box.num (bB 2 s.1 s.2).1 with
 | some v=>(v,(bB 2 s.1 s.2).2)
 | none=>(0,([],true))
def gM (s:List UInt8×Bool):Nat->List UInt8×Bool
 | 0=>s
 | k+1=>(bO (gM s k)).2
structure CJ (w:World) (g pb:Nat) (ps:List (Nat×Nat)):Prop where
 ptrs:dX w pb (ps.map fun p=>Value.pointer (some ⟨p.1,p.2,none⟩)).toArray
 live:∀ p∈ps,Live w p.1 (p.2+1)
 ne:∀ p∈ps,p.1≠g/\p.1≠pb
 gpb:g≠pb
 nd:ps.Nodup
def exN (g:Nat) (ps:List (Nat×Nat)) (b j:Nat):Prop:=b=g\/(b,j)∈ps
set_option maxHeartbeats 2000000
theorem Bs.at {S:Source} {ao:Option Addr} {n cap:Nat} {l:List UInt8} (h:Bs S (.slice ao n cap) l) (hs:At w S.1 S.2):l.length=n/\n<=cap/\cap<=9223372036854775807/\n<=140737488355328/\At w ao l:=by
 obtain ⟨a,c,e,h1,h2,h3,h4⟩:=h;injection e with e1 e2 e3;subst e1 e2 e3;exact ⟨rfl,h1,h2,h3,h4 w hs⟩
def wQ (w:World) (S:Source) (g:Nat) (ps:List (Nat×Nat)):Prop:=∀ w',CF w w' (exN g ps)->At w' S.1 S.2
theorem wQ.of {S:Source} {g:Nat} {ps:List (Nat×Nat)} (h:At w S.1 S.2) (h1:iF S g) (h2:∀ p∈ps,iF S p.1):wQ w S g ps:=by
 intro w' c;refine h.cf c (fun b off e j hj q=>?_);rcases q with q | q
 ·exact h1 afp b off e q
 ·exact h2 _ q afp b off e rfl
theorem JW (s:List UInt8×Bool):bO s=((Box.num (bB 2 s.1 s.2).1).getD 0,if (Box.num (bB 2 s.1 s.2).1).isSome=true then (bB 2 s.1 s.2).2 else ([],true)):=by
 unfold bO;cases Box.num (bB 2 s.1 s.2).1 <;> rfl
theorem CQ (zs:List UInt8) (n:Nat) (ao:Option Addr) (cap:Nat) (w:World) (hn:Hid (zs.length=n)) (hl:n<=140737488355328) (hcap:n<=cap) (hc:At w ao zs) :
  Calls Tryz.prog 156 #[.slice ao n cap] w fun e w'=>e = .returned (.tuple #[.int .i64 ((Box.num zs).getD 0),.bool (Box.num zs).isSome])/\∃ m,w'=w.drewN m:=by
 refine (BN zs n ao cap w hn hl hcap hc).mono ?_
 rintro e w' ⟨h1,h2,h3⟩
 cases h:Box.num zs with
 | none=>exact ⟨h2 h,h3⟩
 | some v=>exact ⟨h1 v h,h3⟩
theorem Qz {b o:Nat} (h:Live w b (o+1)):∃ v,w.cell? ⟨b,o,none⟩=some v:=bw.1 (h.some o afp)
theorem oV (S:Source) (g pb:Nat) (ps:List (Nat×Nat)) (n:Nat) (l:List UInt8) (f:Bool) (w:World) (hn:Hid (ps.length=n)) (hnl:n<=100) (hs:wQ w S g ps) (h:Rd w S g l f) (hp:CJ w g pb ps) :
  Calls Tryz.prog 168 #[.pointer (some ⟨g,0,none⟩),.slice (some ⟨pb,0,none⟩) n n] w fun e w'=>e = .returned (.tuple #[])/\Rd w' S g (gM (l,f) n).1 (gM (l,f) n).2/\(∀ j p,ps[j]?=some p->w'.cell? ⟨p.1,p.2,none⟩=some (.int .i64 (bO (gM (l,f) j)).1))/\CF w w' (exN g ps):=by
 have HH:=hid h
 have HP:=hid hp
 have HST:=hid hs
 clear h hp hs
 go_enter Tryz.func168,Tryz.ntmps168
 go_wp2
 go_loopw [10] (fun i wr=>∃ k:Nat,k<=n/\i = .int .i64 k/\Rd wr S g (gM (l,f) k).1 (gM (l,f) k).2/\(∀ j p,j<k->ps[j]?=some p->wr.cell? ⟨p.1,p.2,none⟩=some (.int .i64 (bO (gM (l,f) j)).1))/\CF w wr (exN g ps)) (fun i _=>n-(intOf i).toNat)
 case atStart=>exact ⟨0,cE _,rfl,HH.o,fun j p hj=>by omega,CF.refl _ _⟩
 case round=>
  obtain ⟨k,hk,rfl,hrd,hdone,hcf⟩:=hrel;by_cases hlt:k<n
  ·have rF:(k:Int)<(n:Int):=(by omega);have hk0:(0:Int)<=(k:Int):=(by omega);have hkl:k<ps.length:=(by rw[hn.o];exact hlt);obtain ⟨p,hpk⟩:∃ p,ps[k]?=some p:=⟨_,cr hkl⟩
   have hmem:p∈ps:=fk hpk;have hne:=HP.o.ne p hmem;have hpc:wr.cell? ⟨pb,k,none⟩=some (.pointer (some ⟨p.1,p.2,none⟩)):=by
    refine hcf.cell ?_ (fun e=>?_)
    ·rw[HP.o.ptrs.cell k,cx,List.getElem?_map,hpk];rfl
    ·rcases e with e | e
     ·exact HP.o.gpb e.symm
     ·exact (HP.o.ne _ e).2 rfl
   have hlv:Live wr p.1 (p.2+1):=(HP.o.live p hmem).cf hcf;have HT:=hid (Cz 2 S g _ _ wr (HST.o _ hcf) hrd);obtain ⟨s,HS⟩:∃ s,Hid (gM (l,f) k=s):=⟨_,hid rfl⟩
   rw[HS.o] at HT;have HD:=hid hdone;have HC:=hid hcf;clear hrd hdone hcf;go_wp2_with (go_at_call 208;refine HT.o.mono ?_;rintro e w2 ⟨v,rfl,b2,r2,f2⟩;obtain ⟨a2,c2,rfl,_⟩:=id b2)
   have ba:=b2.at (w:=w2) (HST.o _ (HC.o.trans (f2.mono (fun b o _ e=>.inl e)) (fun _ _ _ e=>e)));have Yd:=hid (CQ (bB 2 s.1 s.2).1 (bB 2 s.1 s.2).1.length a2 c2 w2 (hid rfl) ba.2.2.2.1 ba.2.1 ba.2.2.2.2);have ku:=hid (JW s);obtain ⟨vv,HV⟩:∃ vv,Hid ((Box.num (bB 2 s.1 s.2).1).getD 0=vv):=⟨_,hid rfl⟩
   obtain ⟨ok,HK⟩:∃ ok,Hid ((Box.num (bB 2 s.1 s.2).1).isSome=ok):=⟨_,hid rfl⟩
   rw[HV.o,HK.o] at Yd ku;have HN:=hid (fun m=>sI S g _ _ ok (w2.drewN m) (r2.drewN m));have mg:=hid f2;clear ba b2 r2 f2;refine Yd.o.mono ?_;rintro e w3 ⟨rfl,m,rfl⟩;go_wp2_with fail;refine (HN.o m).mono ?_;rintro e w4 ⟨rfl,r4,f4⟩;have F4:CF wr w4 (Fz g):=mg.o.trans f4.mh (fun _ _ _ e=>e);have hl4:=hlv.cf F4;obtain ⟨x0,hx0⟩:=Qz hl4;have fz:=hl4.frozen p.2;have FW:CF wr (w4.setCell ⟨p.1,p.2,none⟩ (.int .i64 vv)) (exN g ps):=(F4.mono (fun b o _ e=>.inl e)).setCell p.1 p.2 _ (fun _=>.inr hmem);have HFW:=hid (HC.o.trans FW (fun _ _ _ e=>e));have fx:lN w4 (w4.setCell ⟨p.1,p.2,none⟩ (.int .i64 vv)) (fun b=>b=p.1):=(lN.refl w4 (fun b=>b=p.1)).set (g:=p.1) rfl p.2 _;have HRW:=hid (r4.Tg fx (fun e=>hne.1 e.symm));have HDn:Hid (∀ j q,j<k+1->ps[j]?=some q->(w4.setCell ⟨p.1,p.2,none⟩ (.int .i64 vv)).cell? ⟨q.1,q.2,none⟩=some (.int .i64 (bO (gM (l,f) j)).1)):=by
    intro j q hj hq;by_cases e:j=k
    ·subst e;rw[hpk] at hq;injection hq with hq;subst hq;rw[HS.o,ku.o];exact dB _ hx0
    ·have hqp:q≠p:=fun e2=>by
      subst e2;have:=(List.getElem?_inj hkl HP.o.nd).1 (hpk.trans hq.symm);omega
     have hold:=HD.o j q afp hq;have Ur:=F4.cell hold (fun e2=>(HP.o.ne q (fk hq)).1 e2);by_cases e3:q.1=p.1
     ·rw[e3] at Ur ⊢;exact ae _ Ur (fun e4=>hqp (Prod.ext e3 e4.symm))
     ·rw[World.cell?_of_block (w:=w4) (a:=⟨q.1,q.2,none⟩) (Below.heap_setCell w4 _ _ _ e3)];exact Ur
   have JX:Hid (gM (l,f) (k+1)=(bO s).2):=(by show _=_;rw[gM,HS.o]);rw[ku.o] at JX;clear F4 FW fx r4 f4 hl4 hlv HN Yd;go_wp2;go_roundw
   case rel=>
    refine ⟨k+1,by omega,by go_num,?_,HDn.o,HFW.o⟩;rw[JX.o];have:=HRW.o;cases ok
    ·exact this
    ·exact this
   case measure=>simp[intOf];omega
  ·obtain rfl:k=n:=by omega
   have HR:=hid (And.intro hrd (And.intro hdone hcf));have hnn:¬ (k:Int)<(k:Int):=(by omega);clear hrd hdone hcf;go_wp2;go_end0;exact ⟨rfl,HR.o.1,by first | exact (fun j p hj=>HR.o.2.1 j p (by rw[<-hn.o];exact (cq.1 hj).1) hj) | exact (fun j a b hj=>HR.o.2.1 j (a,b) (by rw[<-hn.o];exact (cq.1 hj).1) hj),HR.o.2.2⟩
def fF (s:List UInt8×Bool):List UInt8×(List UInt8×Bool):=
 ((bB 4 s.1 s.2).1,if cO (bB 4 s.1 s.2).1=true then (bB 4 s.1 s.2).2 else ([],true))
theorem G9 (S:Source) (g:Nat) (l:List UInt8) (f:Bool) (w:World) (hs:At w S.1 S.2) (ng:iF S g) (h:Rd w S g l f) :
  Calls prog 167 #[.pointer (some ⟨g,0,none⟩)] w fun e w'=>e = .returned (.string ⟨(fF (l,f)).1.toArray⟩)/\Rd w' S g (fF (l,f)).2.1 (fF (l,f)).2.2/\CF w w' (Fz g):=by
 have HT:=hid (yN S g l f w hs h)
 have HS:=hid (And.intro hs ng)
 clear h hs ng
 go_enter func167,ntmps167
 go_wp2_with fail
 refine HT.o.mono ?_
 rintro e w2 ⟨v,rfl,b2,r2,f2⟩
 obtain ⟨a2,c2,rfl,_⟩:=id b2
 have ba:=b2.at (w:=w2) (iF.at HS.o.1 f2.xx (fun _ e=>e ▸ HS.o.2))
 have hcv:=iE (P:=prog) w2 37 9 5 underlying37 underlying5 underlying9 a2 c2 (bB 4 l f).1 ba.2.2.2.2
 have HI:=hid (Cb (bB 4 l f).1 (bB 4 l f).1.length ⟨(bB 4 l f).1.toArray⟩ w2 (hid rfl) (hid rfl) (by have:=ba.2.2.2.1;omega))
 have HN:=hid (sI S g _ _ (cO (bB 4 l f).1) w2 r2)
 have HF:=hid f2
 clear HT b2 r2 f2 ba
 go_wp2_with fail
 refine HI.o.mono ?_
 rintro e w3 ⟨rfl,rfl⟩
 go_wp2_with fail
 refine HN.o.mono ?_
 rintro e w4 ⟨rfl,r4,f4⟩
 have F4:=hid (HF.o.trans f4 (fun _ _ _ e=>e))
 have HR:Hid (Rd w4 S g (fF (l,f)).2.1 (fF (l,f)).2.2):=by
  unfold fF;cases hb:cO (bB 4 l f).1
  ·rw[hb] at r4;simp only[fh,eC] at r4 ⊢;exact r4
  ·rw[hb] at r4;simp only[ez] at r4 ⊢;exact r4
 clear r4 f4 HN HI
 go_wp2
 go_ret
 exact ⟨rfl,HR.o,F4.o⟩
def ja (s:List UInt8×Bool):(Int×List UInt8)×(List UInt8×Bool):=
 (((bO s).1,(bB 4 (bO s).2.1 (bO s).2.2).1),(bB 4 (bO s).2.1 (bO s).2.2).2)
theorem Tryz.M0:(prog.info? 267).map (·.size)=some 2:=by kernel_rfl
theorem aa8 {w:World} {g a:Nat} {c0 c1:Value} (h0:w.cell? ⟨g,a,none⟩=some c0) (h1:w.cell? ⟨g,a+1,none⟩=some c1):w.rangeAt g a [c0,c1]:=by
 intro j u hu;match j,hu with
 | 0,hu=>injection hu with hu;subst hu;exact h0
 | 1,hu=>injection hu with hu;subst hu;exact h1
 | j+2,hu=>simp at hu
theorem JY {w:World} {g:Nat} {x y:Value} (h0:w.cell? ⟨g,0,none⟩=some x) (h1:w.cell? ⟨g,1,none⟩=some y):(loadVar 267 ⟨g,0,none⟩).run prog w = .ok (.agg #[x,y]) w:=ji (aa8 h0 h1) 267 _ underlying267 rfl Tryz.M0
theorem CU (S:Source) (g:Nat) (l:List UInt8) (f:Bool) (w:World) (hs:At w S.1 S.2) (ng:iF S g) (h:Rd w S g l f) :
  Calls prog 171 #[.pointer (some ⟨g,0,none⟩)] w fun e w'=>∃ v,e = .returned (.agg #[.int .i64 (ja (l,f)).1.1,v])/\Bs S v (ja (l,f)).1.2/\Rd w' S g (ja (l,f)).2.1 (ja (l,f)).2.2/\CF w w' (Fz g):=by
 have hgl:=h.lt
 have G1:w.grownBy ((w.alloc (.cells #[.int .i64 0,.slice none 0 0] 267)).alloc (.cells #[.pointer (some ⟨w.heap.size,0,none⟩)] 319)) none:=aR (aE w _ none) _
 have r1:Rd ((w.alloc (.cells #[.int .i64 0,.slice none 0 0] 267)).alloc (.cells #[.pointer (some ⟨w.heap.size,0,none⟩)] 319)) S g l f:=h.keep (G1.block g hgl aft)
 have sz:(w.alloc (.cells #[.int .i64 0,.slice none 0 0] 267)).heap.size=w.heap.size+1:=ch _ _
 have hB1:=(dX.new w #[.int .i64 0,.slice none 0 0] 267).alloc (.cells #[.pointer (some ⟨w.heap.size,0,none⟩)] 319)
 have hP1:=dX.new (w.alloc (.cells #[.int .i64 0,.slice none 0 0] 267)) #[.pointer (some ⟨w.heap.size,0,none⟩)] 319
 rw[sz] at hP1
 have L1:Live ((w.alloc (.cells #[.int .i64 0,.slice none 0 0] 267)).alloc (.cells #[.pointer (some ⟨w.heap.size,0,none⟩)] 319)) w.heap.size 2:=(Live.new w _ _).alloc _
 have pl:CJ ((w.alloc (.cells #[.int .i64 0,.slice none 0 0] 267)).alloc (.cells #[.pointer (some ⟨w.heap.size,0,none⟩)] 319)) g (w.heap.size+1) [(w.heap.size,0)]:=⟨hP1,fun p hp=>by rw[da.1 hp];exact L1.mono afp,fun p hp=>by rw[da.1 hp];exact ⟨by show w.heap.size≠g;omega,by show w.heap.size≠w.heap.size+1;omega⟩,by omega,by simp⟩
 have stay:wQ ((w.alloc (.cells #[.int .i64 0,.slice none 0 0] 267)).alloc (.cells #[.pointer (some ⟨w.heap.size,0,none⟩)] 319)) S g [(w.heap.size,0)]:=wQ.of (hs.below G1) ng (fun p hp=>by rw[da.1 hp];exact iF.new hs (bd _))
 have HT:=hid (oV S g (w.heap.size+1) [(w.heap.size,0)] 1 l f _ (hid rfl) afp stay r1 pl)
 have HST:=hid stay
 have EL:=hid (And.intro L1 hB1)
 have jC:=hid G1
 clear h r1 pl hP1 hB1 L1 G1 sz stay hs ng
 go_enter func171,ntmps171
 go_wp2_with fail
 refine HT.o.mono ?_
 rintro e w2 ⟨rfl,r2,c2,f2⟩
 have d0:w2.cell? ⟨w.heap.size,0,none⟩=some (.int .i64 (bO (l,f)).1):=c2 0 (w.heap.size,0) rfl
 have d1:w2.cell? ⟨w.heap.size,1,none⟩=some (.slice none 0 0):=f2.cell (EL.o.2.cell 1) (fun e=>by
  rcases e with e | e
  ·omega
  ·simp at e)
 have HX:=hid (yN S g _ _ w2 (HST.o _ f2) r2)
 have mg:=hid (CF.before jC.o f2)
 have L2:=hid (EL.o.1.cf f2)
 clear r2 c2 f2 HT
 go_wp2_with fail
 refine HX.o.mono ?_
 rintro e w3 ⟨v,rfl,b3,r3,f3⟩
 obtain ⟨a3,k3,rfl,_⟩:=id b3
 have hne:w.heap.size≠g:=by omega
 have e0:=f3.cell d0 hne
 have e1:=f3.cell d1 hne
 have L3:=L2.o.cf f3
 have z0:=L3.frozen 0
 have z1:=L3.frozen 1
 have c1:CF w w2 (Fz g):=mg.o.mono (fun b o hb e=>by
  rcases e with e | e
  ·exact e
  ·have e2:=da.1 e;have e3:b=w.heap.size:=eh Prod.fst e2
   omega)
 have HCF:Hid (CF w (((w3.setCell ⟨w.heap.size,1,none⟩ (.slice a3 (bB 4 (gM (l,f) 1).1 (gM (l,f) 1).2).1.length k3)).setCell ⟨w.heap.size,0,none⟩ (.int .i64 (bO (l,f)).1)).setCell ⟨w.heap.size,1,none⟩ (.slice a3 (bB 4 (gM (l,f) 1).1 (gM (l,f) 1).2).1.length k3)) (Fz g)):=(((c1.trans f3 (fun _ _ _ e=>e)).setCell w.heap.size 1 _ (fun q=>absurd q (fS _))).setCell w.heap.size 0 _ (fun q=>absurd q (fS _))).setCell w.heap.size 1 _ (fun q=>absurd q (fS _))
 have fx:lN w3 (((w3.setCell ⟨w.heap.size,1,none⟩ (.slice a3 (bB 4 (gM (l,f) 1).1 (gM (l,f) 1).2).1.length k3)).setCell ⟨w.heap.size,0,none⟩ (.int .i64 (bO (l,f)).1)).setCell ⟨w.heap.size,1,none⟩ (.slice a3 (bB 4 (gM (l,f) 1).1 (gM (l,f) 1).2).1.length k3)) (fun b=>b=w.heap.size):=(((lN.refl w3 (fun b=>b=w.heap.size)).set (g:=w.heap.size) rfl 1 _).set (g:=w.heap.size) rfl 0 _).set (g:=w.heap.size) rfl 1 _
 have HR:=hid (r3.Tg fx (fun e=>hne e.symm))
 have HBs:=hid b3
 have HLd:=hid (JY (ae (.slice a3 (bB 4 (gM (l,f) 1).1 (gM (l,f) 1).2).1.length k3) (dB (.int .i64 (bO (l,f)).1) (ae (.slice a3 (bB 4 (gM (l,f) 1).1 (gM (l,f) 1).2).1.length k3) e0 afq)) afq) (dB (.slice a3 (bB 4 (gM (l,f) 1).1 (gM (l,f) 1).2).1.length k3) (ae (.int .i64 (bO (l,f)).1) (dB (.slice a3 (bB 4 (gM (l,f) 1).1 (gM (l,f) 1).2).1.length k3) e1) afq)))
 clear fx c1 r3 b3 f3 L3 HX
 go_wp2
 exact bodyPost_ret (jW results171 _ _ _ w.heap.size rfl _ HLd.o) rfl ⟨_,rfl,HBs.o,HR.o,HCF.o⟩
def iM (bA:List UInt8) (due:Int):List UInt8×Bool:=
 if (bO (bJ bA)).1=due/\bA.length<=300 then (bO (bJ bA)).2 else ([],true)
theorem lD (zs:List UInt8):(bJ zs).2=true->(bJ zs).1=[]:=by
 unfold bJ;split
 ·intro e;cases e
 ·exact fun _=>rfl
theorem FD (S:Source) (bA:List UInt8) (n:Nat) (ao:Option Addr) (cap:Nat) (due:Int) (w:World) (hn:Hid (bA.length=n)) (hs:At w S.1 S.2) (h:Bs S (.slice ao n cap) bA) :
  Calls Tryz.prog 166 #[.slice ao n cap,.int .i64 due] w fun e w'=>∃ v,e = .returned (.agg #[v,.bool (iM bA due).2])/\Bs S v (iM bA due).1/\w.grownBy w' none:=by
 have G0:=aE w (.cells #[.slice none 0 0,.bool false] 314) none
 have HB0:=hid (dX.new w #[.slice none 0 0,.bool false] 314)
 have s0:(w.alloc (.cells #[.slice none 0 0,.bool false] 314)).heap.size=w.heap.size+1:=ch _ _
 have HL:=hid (tX S bA n ao cap _ hn (hs.below G0) h)
 have uH:=hid G0
 obtain ⟨kk,HK⟩:∃ kk,Hid ((bO (bJ bA)).1=kk):=⟨_,hid rfl⟩
 obtain ⟨ok,hok1,hok2⟩:∃ ok:Bool,(ok=true↔kk=due/\n<=300)/\True:=⟨decide (kk=due/\n<=300),by simp,trivial⟩
 have HM:Hid (iM bA due=if ok=true then (bO (bJ bA)).2 else ([],true)):=by
  show _=_;unfold iM;rw[HK.o,hn.o];by_cases e:kk=due/\n<=300
  ·rw[if_pos e,if_pos (hok1.2 e)]
  ·rw[if_neg e,if_neg (fun q=>e (hok1.1 q))]
 have eD:=hid (hs.below G0)
 clear h G0 hok2 hs
 go_enter Tryz.func166,Tryz.ntmps166
 go_wp2_with fail
 refine HL.o.mono ?_
 rintro e w1 ⟨v,rfl,b1,g1⟩
 obtain ⟨a1,c1,rfl,_⟩:=id b1
 have s1:=g1.size
 obtain ⟨ll,HLL⟩:∃ ll,Hid (bJ bA=ll):=⟨_,hid rfl⟩
 rw[HLL.o] at b1 HK HM
 have hbad:=lD bA
 rw[HLL.o] at hbad ⊢
 have za:(w1.alloc (.cells #[.slice a1 ll.1.length c1,.bool ll.2] 314)).heap.size=w1.heap.size+1:=ch _ _
 have zb:((w1.alloc (.cells #[.slice a1 ll.1.length c1,.bool ll.2] 314)).alloc (.cells #[.int .i64 0] 2)).heap.size=w1.heap.size+1+1:=by rw[ch,za]
 have ga:=aE w1 (.cells #[.slice a1 ll.1.length c1,.bool ll.2] 314) none
 have gx:(w1.alloc (.cells #[.slice a1 ll.1.length c1,.bool ll.2] 314)).grownBy (((w1.alloc (.cells #[.slice a1 ll.1.length c1,.bool ll.2] 314)).alloc (.cells #[.int .i64 0] 2)).alloc (.cells #[.pointer (some ⟨w1.heap.size+1,0,none⟩)] 319)) none:=aR (aE _ _ none) _
 have r1:=Rd.new (w:=w1) b1 hbad 314
 have R1:Rd (((w1.alloc (.cells #[.slice a1 ll.1.length c1,.bool ll.2] 314)).alloc (.cells #[.int .i64 0] 2)).alloc (.cells #[.pointer (some ⟨w1.heap.size+1,0,none⟩)] 319)) S w1.heap.size ll.1 ll.2:=r1.keep (gx.block _ afp aft)
 have hI:=(dX.new (w1.alloc (.cells #[.slice a1 ll.1.length c1,.bool ll.2] 314)) #[.int .i64 0] 2).alloc (.cells #[.pointer (some ⟨w1.heap.size+1,0,none⟩)] 319)
 rw[za] at hI
 have hP:=dX.new ((w1.alloc (.cells #[.slice a1 ll.1.length c1,.bool ll.2] 314)).alloc (.cells #[.int .i64 0] 2)) #[.pointer (some ⟨w1.heap.size+1,0,none⟩)] 319
 rw[zb] at hP
 have LI:Live (((w1.alloc (.cells #[.slice a1 ll.1.length c1,.bool ll.2] 314)).alloc (.cells #[.int .i64 0] 2)).alloc (.cells #[.pointer (some ⟨w1.heap.size+1,0,none⟩)] 319)) (w1.heap.size+1) 1:=by
  have:=(Live.new (w1.alloc (.cells #[.slice a1 ll.1.length c1,.bool ll.2] 314)) #[.int .i64 0] 2).alloc (.cells #[.pointer (some ⟨w1.heap.size+1,0,none⟩)] 319);rw[za] at this;exact this
 have pl:CJ (((w1.alloc (.cells #[.slice a1 ll.1.length c1,.bool ll.2] 314)).alloc (.cells #[.int .i64 0] 2)).alloc (.cells #[.pointer (some ⟨w1.heap.size+1,0,none⟩)] 319)) w1.heap.size (w1.heap.size+1+1) [(w1.heap.size+1,0)]:=⟨hP,fun p hp=>by rw[da.1 hp];exact LI,fun p hp=>by rw[da.1 hp];exact ⟨by show w1.heap.size+1≠w1.heap.size;omega,by show w1.heap.size+1≠w1.heap.size+1+1;omega⟩,by omega,by simp⟩
 have hs1:=eD.o.below g1
 have stay:=wQ.of (ps:=[(w1.heap.size+1,0)]) ((hs1.below ga).below gx) (iF.new hs1 (bd w1.heap.size)) (fun p hp=>by rw[da.1 hp];exact iF.new hs1 (gn _))
 have HT:=hid (oV S w1.heap.size (w1.heap.size+1+1) [(w1.heap.size+1,0)] 1 ll.1 ll.2 _ (hid rfl) afp stay R1 pl)
 have HBx:Hid (dX (((w1.alloc (.cells #[.slice a1 ll.1.length c1,.bool ll.2] 314)).alloc (.cells #[.int .i64 0] 2)).alloc (.cells #[.pointer (some ⟨w1.heap.size+1,0,none⟩)] 319)) w.heap.size #[.slice none 0 0,.bool false]):=((HB0.o.grown g1 aft).grown ga aft).grown gx aft
 have HGx:=hid (aa uH.o (aa g1 (aa ga gx)))
 have zw:(((w1.alloc (.cells #[.slice a1 ll.1.length c1,.bool ll.2] 314)).alloc (.cells #[.int .i64 0] 2)).alloc (.cells #[.pointer (some ⟨w1.heap.size+1,0,none⟩)] 319)).heap.size=w1.heap.size+1+1+1:=by rw[ch,zb]
 clear ga gx r1 R1 hI hP LI pl uH HB0 g1 b1 HL hs1 stay eD
 go_wp2_with fail
 refine HT.o.mono ?_
 rintro e w2 ⟨rfl,r2,c2,f2⟩
 have d0:w2.cell? ⟨w1.heap.size+1,0,none⟩=some (.int .i64 kk):=by rw[<-HK.o];exact c2 0 (w1.heap.size+1,0) rfl
 have hB2:dX w2 w.heap.size #[.slice none 0 0,.bool false]:=HBx.o.kept (f2.block _ HBx.o.lt (fun o e=>by
  rcases e with e | e
  ·omega
  ·have e2:=eh Prod.fst (da.1 e);have e3:w.heap.size=w1.heap.size+1:=e2;omega))
 have hG2:w.grownBy w2 none:=⟨f2.os.trans HGx.o.os,f2.tape.trans HGx.o.tape,f2.output.trans HGx.o.output,br HGx.o.size f2.size,fun b hb _=>by
  rw[f2.block b afp (fun o e=>by
   rcases e with e | e
   ·omega
   ·have e2:=eh Prod.fst (da.1 e);have e3:b=w1.heap.size+1:=e2;omega),HGx.o.block b hb aft]⟩
 have s2:=f2.size
 have HN:=hid (sI S w1.heap.size _ _ ok w2 r2)
 have H2:=hid (And.intro hB2 hG2)
 clear r2 c2 f2 hB2 hG2 HT
 have hcase:(ok=true/\(kk==due)=true/\(n:Int)<=300)\/(ok=false/\(kk==due)=true/\decide ((n:Int)<=300)=false)\/(ok=false/\(kk==due)=false/\True):=by
  by_cases e1:kk=due
  ·by_cases e2:n<=300
   ·exact .inl ⟨hok1.2 ⟨e1,e2⟩,by rw[e1];exact beq_self_eq_true _,by omega⟩
   ·refine .inr (.inl ⟨?_,by rw[e1];exact beq_self_eq_true _,cA afp⟩);cases ok
    ·rfl
    ·exact absurd (hok1.1 rfl).2 e2
  ·refine .inr (.inr ⟨?_,by rw[cg];exact e1,trivial⟩);cases ok
   ·rfl
   ·exact absurd (hok1.1 rfl).1 e1
 have hne:w.heap.size≠w1.heap.size:=by omega
 have hw1:w.heap.size<=w1.heap.size/\w1.heap.size<w2.heap.size:=by omega
 clear hok1 hbad s0 s1 za zb zw s2 HBx HGx HLL
 have hst:gM (ll.1,ll.2) 1=(bO ll).2:=rfl
 rw[hst] at HN
 clear hst
 rcases hcase with ⟨rfl,hq,hle⟩ | ⟨rfl,hq,hle⟩ | ⟨rfl,hq,_⟩
 all_goals
  go_wp2_with fail
  refine HN.o.mono ?_
  rintro e w4 ⟨rfl,r4,f4⟩
  simp only[fh,eC,ez] at r4 HM
  obtain ⟨a4,c4,hb4,p1,p2,p3,p4,p6⟩:=r4
  obtain ⟨c0,c1⟩:=hb4.two
  have hB4:dX w4 w.heap.size #[.slice none 0 0,.bool false]:=H2.o.1.kept (f4.xx.block _ H2.o.1.lt hne)
  obtain ⟨d2,d1⟩:=hB4.two
  have g0:=hB4.frozen 0
  have g1:=hB4.frozen 1
  have xu:=hid (tT H2.o.2 f4.xx hw1.1)
  have D7:=hid (And.intro hb4 (And.intro hB4 (And.intro p1 (And.intro p2 (And.intro p3 p4)))))
  clear hb4 hB4 p1 p2 p3 p4 p6 f4 HN H2 d0
  go_wp2
  refine bodyPost_ret (jW Tryz.results166 _ _ _ w.heap.size rfl _ (yO ((D7.o.2.1.set 0 _).set 1 _))) rfl ⟨_,by rw[HM.o],?_,?_⟩
  ·rw[HM.o];exact ⟨a4,c4,rfl,D7.o.2.2.1,D7.o.2.2.2.1,D7.o.2.2.2.2.1,D7.o.2.2.2.2.2⟩
  ·exact az (az xu.o (bd _)) (bd _)
end Go.Proofs.YteknelimjfgmaaaGreatDoor
