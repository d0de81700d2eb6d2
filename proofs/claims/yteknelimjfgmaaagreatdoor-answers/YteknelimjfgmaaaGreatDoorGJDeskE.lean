import Derived.Test.YteknelimjfgmaaaGreatDoorGJDeskB
import Derived.Deep.CutBlock
namespace Go.Proofs.YteknelimjfgmaaaGreatDoor
set_option maxHeartbeats 4000000
open Proofs.Tryz Go.RowKit
set_option maxRecDepth 100000
abbrev RE.arr (e:RE):Array Value:=#[.int .i64 e.k,.string ⟨e.name.toArray⟩,.int .u64 (e.yo.toNat:Int),.int .i64 e.bI,.int .i64 e.aD,.int .i64 e.bC,.int .i64 e.ay,.int .i64 e.aH,.int .u64 (e.key.toNat:Int),.int .u64 (e.before.toNat:Int)]
theorem Tryz.Ty:(prog.info? 166).map (fun i=>(i.zero,i.size,i.bytes))=some (some (.agg #[.int .i64 0,.string ⟨#[]⟩,.int .u64 0,.int .i64 0,.int .i64 0,.int .i64 0,.int .i64 0,.int .i64 0,.int .u64 0,.int .u64 0]),10,88):=by kernel_rfl
def qY:List RE->List UInt8->Nat
 | [],_=>0
 | x::es,l=>if Op.bytesLess x.name l=true then qY es l+1 else 0
def Ms (es:List RE) (e:RE):List RE:=es.take (qY es e.name)++[e]++es.drop (qY es e.name)
theorem Tz (es:List RE) (l:List UInt8):qY es l<=es.length:=by
 induction es with
 | nil=>exact bd _
 | cons x es ih=>simp only[qY,cN];split <;> omega
theorem Mt {l:List UInt8}:∀ {es:List RE} {k:Nat} (hk:k<es.length),(∀ j (hj:j<es.length),j<k->Op.bytesLess es[j].name l=true)->Op.bytesLess es[k].name l=false->qY es l=k:=by
 intro es;induction es with
 | nil=>intro k hk;simp at hk
 | cons x es ih=>
  intro k hk hb h;cases k with
  | zero=>
   have h0:Op.bytesLess x.name l=false:=h;rw[qY,if_neg (by rw[h0];simp)]
  | succ k=>
   have h0:Op.bytesLess x.name l=true:=hb 0 aft afp;have:=ih (k:=k) afD (fun j hj hjk=>hb (j+1) afK afp) h;rw[qY,if_pos h0,this]
theorem Qe {l:List UInt8}:∀ {es:List RE},(∀ j (hj:j<es.length),Op.bytesLess es[j].name l=true)->qY es l=es.length:=by
 intro es;induction es with
 | nil=>intro _;rfl
 | cons x es ih=>
  intro hb;have h0:Op.bytesLess x.name l=true:=hb 0 aft;rw[qY,if_pos h0,ih (fun j hj=>hb (j+1) afK),cN]
theorem eY (l:List RE):(bK l).length=l.length*10:=by
 induction l with
 | nil=>rfl
 | cons x l ih=>simp only[bK,dj,dk,bj,cN] at *;rw[ih];show 10+_=_;omega
theorem kE (a b:List RE):bK (a++b)=bK a++bK b:=by simp[bK]
theorem yu (l:List RE) (k:Nat) (h:k<=l.length):(bK l).take (k*10)=bK (l.take k):=by
 have:bK l=bK (l.take k)++bK (l.drop k):=by rw[<-kE,ey]
 rw[this,List.take_append_of_le_length (by rw[eY,cG];omega),cV (by rw[eY,cG];omega)]
theorem yw (l:List RE) (k:Nat) (h:k<=l.length):(bK l).drop (k*10)=bK (l.drop k):=by
 have:bK l=bK (l.take k)++bK (l.drop k):=by rw[<-kE,ey]
 rw[this,List.drop_append_of_le_length (by rw[eY,cG];omega),List.drop_of_length_le (by rw[eY,cG];omega),List.nil_append]
theorem oC (l:List RE):∀ u∈bK l,u.oneCell'=true:=by
 intro u hu;simp only[bK,List.mem_flatten,List.mem_map] at hu;obtain ⟨_,⟨x,_,rfl⟩,hu⟩:=hu;simp only[RE.cells,List.mem_cons,List.not_mem_nil,or_false] at hu;rcases hu with rfl | rfl | rfl | rfl | rfl | rfl | rfl | rfl | rfl | rfl <;> rfl
theorem D5.take {w:World} {ao:Option Addr} {cs:List Value} (h:D5 w ao cs) (k:Nat):D5 w ao (cs.take k):=fun j u hu=>h j u (by
 have hj:=(cq.1 hu).1
 rw[cG] at hj
 rw[List.getElem?_take_of_lt afp] at hu
 exact hu)
def NewAt (n:Nat) (v:Value):Prop:=∀ g,v.ownBlock=some g->n<=g
theorem ac3 {p:Prop} (h:p:=by
 subst hke
 clear hD Eh
 go_wp2_with fail
 go_quiet (fail)
 go_wp2
 go_meet
 case rel=>exact ⟨rfl,q+nq,by rw[World.drewN_drewN]⟩):p:=h
theorem aeE {p:Prop} (h:p:=by
 refine .inr (fun e=>?_)
 have h1:=(hrow.lt g hx).1
 have h2:=(hD.aO.lt g e.symm).2
 omega):p:=h
theorem aeL {p:Prop} (h:p:=by
 exact pY (ownsRow_setCell_below hrow (by show pb<w.heap.size+1;omega) _) afp):p:=h
theorem TA (base pb:Nat) (aC:Int) (bv pv dv:Value) (es:List RE) (ds:List UInt8) (m:Nat) (e:RE) (w:World) (hD:iG w base pb aC bv pv dv es ds) (hm:Hid (es.length=m)) (zm:m<=1000) (hbase:base<=w.heap.size) :
  Calls prog 59 #[.pointer (some ⟨pb,0,none⟩),.agg e.arr] w fun r w'=>r = .returned (.tuple #[])/\∃ LH,iG w' base pb aC LH pv dv (Ms es e) ds/\w.grownBy w' (some pb)/\NewAt w.heap.size LH:=by
 obtain ⟨ie,hie,he0,he1,he2⟩:=info_parts Tryz.Ty
 obtain ⟨ab,cb,hbv⟩:=cu hD.bg
 rw[hm.o] at hbv
 subst hbv
 have G0:w.grownBy (w.alloc (.cells e.arr 166)) none:=aE w _ none
 have c1:=(hD.grown G0).blk.cell 1
 simp only[cx,ct,cD] at c1
 obtain ⟨lq,Eh⟩:=ar (qY es e.name)
 have aaL:lq<=m:=by rw[Eh,<-hm.o];exact Tz _ _
 go_enter func59,ntmps59
 go_upto_block 0 with fail
 go_cut [4] (fun i wx=>i = .int .i64 lq/\∃ q,wx=(w.alloc (.cells e.arr 166)).drewN q)
 case first=>
  go_wp2_with fail;go_loopw [4] (fun i wr=>∃ (k q:Nat),k<=m/\i = .int .i64 k/\Hid (∀ j (hj:j<es.length),j<k->Op.bytesLess es[j].name e.name=true)/\wr=(w.alloc (.cells e.arr 166)).drewN q) (fun i _=>m-(intOf i).toNat)
  case atStart=>exact ⟨0,0,cE _,rfl,hid (fun j _ hj=>by omega),rfl⟩
  case round=>
   obtain ⟨k,q,hk,rfl,HL,rfl⟩:=hrel;by_cases hlt:k<m
   ·have hlt':k<es.length:=(by rw[hm.o];exact hlt);have rF:(k:Int)<(m:Int):=(by omega);have hk0:(0:Int)<=(k:Int):=(by omega);obtain ⟨g0,hab⟩:∃ g0,ab=some ⟨g0,0,none⟩:=by
     exact aew
    subst hab;have hcell:(w.alloc (.cells e.arr 166)).cell? ⟨g0,k*10+1,none⟩=some (.string ⟨es[k].name.toArray⟩):=by
     have hbk:=(hD.grown G0).bg;exact aeZ
    cases hls:Op.bytesLess es[k].name e.name with
    | true=>
     have HL2:Hid (∀ j (hj:j<es.length),j<k+1->Op.bytesLess es[j].name e.name=true):=by
      intro j hj hj2;by_cases hjk:j<k
      ·exact HL.o j hj hjk
      ·have:j=k:=by omega
       subst this;exact hls
     clear hD;go_wp2_with fail;go_quiet (fail)
     go_wp2;go_roundw
     case rel=>exact ⟨k+1,_,by omega,by go_num,HL2,rfl⟩
     case measure=>simp[intOf];omega
    | false=>
     have hke:lq=k:=(by rw[Eh];exact Mt hlt' (fun j hj hjk=>HL.o j hj hjk) hls);exact ac3
   ·have Sb:k=m:=(by omega);subst Sb;have rF:¬ (k:Int)<(k:Int):=(by omega);have hke:lq=k:=(by rw[Eh,Qe (fun j hj=>HL.o j hj (by rw[<-hm.o];exact hj)),hm.o]);exact ac3
 case rest=>
  obtain ⟨rfl,q,rfl⟩:=hcut;have HAt:Hid (lq=qY es e.name):=Eh;clear Eh c1;have Gq:=aY G0 q;have hDq:=hD.grown Gq;have hpb:=hD.blk.lt;have hbl:=fun g h=>(hD.bg.lt g h).2;have XG:=hDq.bg;rw[hm.o] at XG;have Zv:=xZ XG;have hcap:=OA XG;have Qf:Hid ((bK es).length=m*10):=by show _=_;rw[eY,hm.o]
  have hto:=fun w=>OB (P:=prog) 141 166 ie 10 underlying141 hie he1 ab m cb lq (lq:Int) rfl afp w;obtain ⟨af,adV,Jl,TC⟩:=ET (P:=prog) 141 166 ie 10 underlying141 hie he1 ab m cb lq (lq:Int) rfl aaL hcap.1 Qf.o;have hsrc1:D5 ((w.alloc (.cells e.arr 166)).drewN q) ab (bK (es.take lq)):=by
   rw[<-yu es lq (by rw[hm.o];exact aaL)];exact Zv.take _
  have hl1:(bK (es.take lq)).length=lq*10:=by rw[eY,cG,hm.o];congr 1;omega
  have hEq:=(dX.new w e.arr 166).drewN q;have c1q:=hDq.blk.cell 1;simp only[cx,ct,cD] at c1q;have hx1:ab=none->cb=0/\lq=0:=fun h=>⟨hcap.2 h,by have:=hcap.2 h;omega⟩
  have hx2:0+lq<=maxLen:=by unfold maxLen;omega
  have hx3:(0+lq)*88<=140737488355328:=by omega
  go_wp2_with (at_builtin;refine iT _ rfl _ _ 141 rfl (w.heap.size+1) 166 ie _ 10 88 underlying141 hie he0 he1 he2 rfl afq (.slice none 0 0) 0 [] rfl (World.ownsRow_nil _ _ _ _) ab lq cb (bK (es.take lq)) rfl hl1 hsrc1 hx1 (oC _) hx2 hx3 ?b1 ?_)
  case b1=>show _<=(w.alloc _).heap.size;simp
  intro v1 w1 hown1 hg1;have hg1':((w.alloc (.cells e.arr 166)).drewN q).grownBy w1 none:=by simpa[Value.ownBlock] using hg1
  have G1:=aa Gq hg1';have rG:w1.ownsRow (w.heap.size+1) 166 10 v1 lq (bK (es.take lq)):=by simpa using hown1
  obtain ⟨a1,k1,rfl⟩:=cu rG;have hs1:w.heap.size+1<=w1.heap.size:=by have:=hg1'.size;have h2:((w.alloc (.cells e.arr 166)).drewN q).heap.size=w.heap.size+1:=(by show (w.alloc _).heap.size=_;simp);omega
  have hE1:=hEq.grown hg1' aft;have hD1:=hDq.grown hg1';have f0:=hE1.cell 0;have f1:=hE1.cell 1;have f2:=hE1.cell 2;have f3:=hE1.cell 3;have f4:=hE1.cell 4;have f5:=hE1.cell 5;have f6:=hE1.cell 6;have f7:=hE1.cell 7;have f8:=hE1.cell 8;have f9:=hE1.cell 9;simp only[RE.arr,cx,ct,cD] at f0 f1 f2 f3 f4 f5 f6 f7 f8 f9;have hnews:D5 (w1.alloc (.cells e.arr 166)) (some ⟨w1.heap.size,0,none⟩) e.cells:=by
   intro j u hu;refine ⟨w1.heap.size,0,rfl,?_⟩;rw[cC,World.cell?_alloc_at (hn:=rfl)];simpa[RE.cells] using hu
  have hy1:(some (⟨w1.heap.size,0,none⟩:Addr))=none->(1:Nat)=0/\(1:Nat)=0:=fun h=>by cases h
  have hy2:lq+1<=maxLen:=by unfold maxLen;omega
  have hy3:(lq+1)*88<=140737488355328:=by omega
  have hone:∀ u∈e.cells,u.oneCell'=true:=fun u hu=>oC [e] u (by simpa[bK] using hu);clear hown1 hg1 hsrc1 hx1 hto c1q Zv XG;go_wp2_with (at_builtin;refine iT _ rfl _ _ 141 rfl (w.heap.size+1) 166 ie _ 10 88 underlying141 hie he0 he1 he2 rfl afq (.slice a1 lq k1) lq (bK (es.take lq)) rfl (rG.alloc _) (some ⟨w1.heap.size,0,none⟩) 1 1 e.cells rfl rfl hnews hy1 hone hy2 hy3 ?b2 ?_)
  case b2=>simp;omega
  intro v2 w2 hown2 hg2;have hne1:∀ g,g<w.heap.size+1->some g≠(Value.slice a1 lq k1).ownBlock:=fun g hg e=>by have:=(rG.lt g e.symm).1;omega
  have hB2:=(hD1.blk.alloc (.cells e.arr 166)).grown hg2 (hne1 _ afp);have c12:=hB2.cell 1;simp only[cx,ct,cD] at c12;have TD:∀ g,g<w.heap.size->w2.heap[g]?=w.heap[g]?:=fun g hg=>by
   rw[hg2.block g afz (hne1 g afp),Below.heap_alloc w1 _ g afp,G1.block g hg aft]
  have hbk0:=hD.bg;rw[hm.o] at hbk0
  have Zw:D5 w2 ab (bK es):=(xZ hbk0).keep (fun b off h=>TD b (by
   subst h;rcases hbk0.2 with ⟨h,_⟩ | ⟨g,cap,cur,h,_⟩
   ·simp at h
   ·simp at h;exact hbl b (by rw[h.1.1];simp[Value.ownBlock])))
  have BS:=Jl w2 Zw;rw[yw es lq (by rw[hm.o];exact aaL)] at BS;have hl3:(bK (es.drop lq)).length=(m-lq)*10:=by rw[eY,cy,hm.o]
  have hs2:w.heap.size+1<=w2.heap.size:=by have:=hg2.size;simp at this;omega
  obtain ⟨a2,k2,rfl⟩:=cu hown2;have hz1':af=none->cb-lq=0/\m-lq=0:=fun h=>⟨TC hcap.2 h,by have:=TC hcap.2 h;omega⟩
  have hz2':lq+1+(m-lq)<=maxLen:=by unfold maxLen;omega
  have aaM:(lq+1+(m-lq))*88<=140737488355328:=by omega
  have hne2:∀ g,g<w.heap.size+1->some g≠(Value.slice a2 (lq+1) k2).ownBlock:=fun g hg e=>by have:=(hown2.lt g e.symm).1;omega
  clear f0 f1 f2 f3 f4 f5 f6 f7 f8 f9 hE1 hnews hone Jl Zw;go_wp2_with (at_builtin;refine iT _ rfl _ _ 141 rfl (w.heap.size+1) 166 ie _ 10 88 underlying141 hie he0 he1 he2 rfl afq (.slice a2 (lq+1) k2) (lq+1) _ rfl hown2 af (m-lq) (cb-lq) (bK (es.drop lq)) rfl hl3 BS hz1' (oC _) hz2' aaM hs2 ?_)
  intro v3 w3 hown3 hg3;obtain ⟨a3,k3,rfl⟩:=cu hown3;have hB3:=hB2.grown hg3 (hne2 _ afp);have c13:=hB3.cell 1;have an7:=hB3.frozen 1;simp only[cx,ct,cD] at c13;have Zx:∀ g,g<w.heap.size->w3.heap[g]?=w.heap[g]?:=fun g hg=>by
   have:=hg2.size;simp at this;rw[hg3.block g afp (hne2 g afp),TD g hg]
  have hs3:=hg3.size;have Bc:Hid (Ms es e=es.take lq++[e]++es.drop lq):=by show _=_;rw[Ms,<-HAt.o]
  have hlen:(es.take lq++[e]++es.drop lq).length=lq+1+(m-lq):=by simp[hm.o];omega
  have hrow:w3.ownsRow (w.heap.size+1) 166 10 (.slice a3 (lq+1+(m-lq)) k3) (lq+1+(m-lq)) (bK (es.take lq++[e]++es.drop lq)):=by
   rw[kE,kE];have e1:bK [e]=e.cells:=(by simp[bK]);rw[e1,cR];exact hown3
  have ahR:w3.os=w.os:=(hg3.os.trans hg2.os).trans (G1.os);have ahS:w3.tape=w.tape:=(hg3.tape.trans hg2.tape).trans (G1.tape);have ahT:w3.output=w.output:=(hg3.output.trans hg2.output).trans (G1.output);clear hg1' hg2 hg3 rG hown2 hown3 c12 BS TD hB2 hD1 hDq Gq G1 hEq hbk0
  have GB:w.grownBy (w3.setCell ⟨pb,1,none⟩ (.slice a3 (lq+1+(m-lq)) k3)) (some pb):=
   ⟨ahR,ahS,ahT,by rw[World.size_setCell];omega,fun g hg hr=>(Below.heap_setCell w3 _ _ g (by show g≠pb;intro e;exact hr af4)).trans (Zx g hg)⟩
  have RD:iG (w3.setCell ⟨pb,1,none⟩ (.slice a3 (lq+1+(m-lq)) k3)) base pb aC (.slice a3 (lq+1+(m-lq)) k3) pv dv (Ms es e) ds:=by
   refine ⟨by simpa using hB3.set 1 (.slice a3 (lq+1+(m-lq)) k3),?_,hD.aO.kept GB (.inr hD.Qd),hD.here,fun h=>by have:=(hrow.lt _ h).1;omega,hD.Qd,?_⟩
   ·rw[Bc.o,hlen];exact aeL
   ·cases hx:(Value.slice a3 (lq+1+(m-lq)) k3).ownBlock with
    | none=>exact .inl rfl
    | some g=>
     exact aeE
  have NA:NewAt w.heap.size (.slice a3 (lq+1+(m-lq)) k3):=fun g h=>by have:=(hrow.lt g h).1;omega
  clear hD hrow hB3 Zx hbl;go_wp2;go_end0;exact ⟨rfl,_,RD,GB,NA⟩
def qf (es:List RE) (a:jV):Int:=
 if a.kind=1 then (if cO a.name=false then 4 else if a.oN=false then 1 else if 0<=fP es a.name then 5 else if 20<=es.length then 7 else 0)
 else if a.kind=2\/a.kind=3\/a.kind=4 then (if fP es a.name<0 then 6 else if a.kind=4/\a.oN=false then 1 else 0)
 else 1
def TF (a:jV):RE:=⟨a.kind,a.name,a.key,a.bI,a.aD,a.bC,a.ay,1,a.key,0⟩
theorem Gy (es:List RE) (l:List UInt8):-1<=fP es l/\fP es l<es.length\/(fP es l=-1):=by
 unfold fP;split
 ·rename_i i h;have:=(List.findIdx?_eq_some_iff_getElem.1 h).1;left;omega
 ·exact .inr rfl
def Mv (es:List RE) (a:jV) (m:Nat) (fi:Int) (pl:Bool):Prop:=es.length=m/\qf es a≠0/\(a.kind=4->fP es a.name<0)/\fi=fP es a.name/\pl=a.oN
theorem Mv.err {es:List RE} {ak:Int} {an:List UInt8} {key:UInt64} {bI aD bC ay:Int} {m:Nat} {fi:Int} {pl:Bool} (h:Mv es ⟨ak,an,key,bI,aD,bC,ay⟩ m fi pl) :
  qf es ⟨ak,an,key,bI,aD,bC,ay⟩=(if ak=1 then (if cO an=false then 4 else if pl=false then 1 else if 0<=fi then 5 else if 20<=m then 7 else 0)
  else if ak=2\/ak=3\/ak=4 then (if fi<0 then 6 else if ak=4/\pl=false then 1 else 0) else 1):=by
 obtain ⟨rfl,_,_,rfl,rfl⟩:=h
 rfl
theorem acg {p:Prop} (h:p:=by
 have HE:=hid hE1
 clear hE1 hin
 go_wp2
 go_ret
 exact ⟨bE (by rw[HE.o]),G2⟩):p:=h
theorem Mw (base pb:Nat) (aC:Int) (bv pv dv:Value) (es:List RE) (ds:List UInt8) (m:Nat) (a:jV) (w:World) (hD:iG w base pb aC bv pv dv es ds) (hm:Hid (es.length=m)) (zm:m<=1000) (hna:a.name.length<=9223372036854775807) (Mx:Hid (qf es a≠0)) (hk:Hid (a.kind=4->fP es a.name<0)) :
  Calls Tryz.prog 32 #[.pointer (some ⟨pb,0,none⟩),.agg a.cells] w fun r w'=>r = .returned (.int .i64 (qf es a))/\w.grownBy w' none:=by
 obtain ⟨ab,cb,hbv⟩:=cu hD.bg
 rw[hm.o] at hbv
 subst hbv
 obtain ⟨fi,hfi⟩:=ar (fP es a.name)
 obtain ⟨pl,hpl⟩:=ar a.oN
 have hbad:Mv es a m fi pl:=⟨hm.o,Mx.o,hk.o,hfi,hpl⟩
 have pM:=fun w=>lZ a w
 rw[<-hpl] at pM
 obtain ⟨ak,an,key,bI,aD,bC,ay⟩:=a
 obtain ⟨T,hT⟩:∃ T:ByteArray,T=⟨an.toArray⟩:=⟨_,rfl⟩
 simp only[jV.cells] at pM ⊢
 simp only at hfi hna
 rw[<-hT] at pM ⊢
 have G0:w.grownBy (w.alloc (.cells #[.int .i64 ak,.string T,.int .u64 (key.toNat:Int),.int .i64 bI,.int .i64 aD,.int .i64 bC,.int .i64 ay] 41)) none:=aE w _ none
 have hB0:=dX.new w #[.int .i64 ak,.string T,.int .u64 (key.toNat:Int),.int .i64 bI,.int .i64 aD,.int .i64 bC,.int .i64 ay] 41
 have hF:=nA base pb aC _ pv dv es ds an m T _ (hD.grown G0) hm zm (hid hT)
 rw[<-hfi] at hF
 have XH:=fun w=>uV an an.length T w (hid hT) (hid rfl) hna
 clear hfi hpl Mx hk hT
 go_enter Tryz.func32,Tryz.ntmps32
 go_wp2_with fail
 refine hF.mono ?_
 rintro e w1 ⟨rfl,hg1⟩
 have hB1:=hB0.grown hg1 aft
 have G1:=aa G0 hg1
 have f0:=hB1.cell 0
 have f1:=hB1.cell 1
 have f2:=hB1.cell 2
 have f3:=hB1.cell 3
 have f4:=hB1.cell 4
 have f5:=hB1.cell 5
 have f6:=hB1.cell 6
 simp only[cx,ct,cD] at f0 f1 f2 f3 f4 f5 f6
 clear hF hg1
 go_wp2_with fail
 refine (pM _).mono ?_
 rintro e w2 ⟨rfl,hg2⟩
 have hB2:=hB1.grown hg2 aft
 have G2:=aa G1 hg2
 have hD2:=hD.grown G2
 clear f0 f1 f2 f3 f4 f5 f6 pM hg2 hB1
 have f0:=hB2.cell 0
 have f1:=hB2.cell 1
 have c1:=hD2.blk.cell 1
 simp only[cx,ct,cD] at f0 f1 c1
 by_cases k1:ak=1
 ·have b1:(ak==1)=true:=by rw[cL];exact k1
  have hE1:=hbad.err;rw[if_pos k1] at hE1;have HE1:=hid hE1;clear k1 hE1;go_wp2_with fail;refine (XH _).mono ?_;rintro e w3 ⟨rfl,rfl⟩;clear XH;have hE1:=HE1.o;clear HE1;cases hin:cO an with
  | false=>
   rw[if_pos hin] at hE1;exact acg
  | true=>
   rw[if_neg (by rw[hin];simp)] at hE1;cases pl with
   | false=>
    rw[if_pos rfl] at hE1;exact acg
   | true=>
    rw[if_neg aft] at hE1;by_cases hf:0<=fi
    ·rw[if_pos hf] at hE1;exact acg
    ·rw[if_neg hf] at hE1;by_cases h20:20<=m
     ·have an8:(20:Int)<=(m:Int):=(by omega);rw[if_pos h20] at hE1;exact acg
     ·rw[if_neg h20] at hE1;exact absurd hE1 hbad.2.1
 ·have b1:(ak==1)=false:=by rw[cg];exact k1
  have hE1:=hbad.err;rw[if_neg k1] at hE1;by_cases k2:ak=2\/ak=3\/ak=4
  ·rw[if_pos k2] at hE1;by_cases hf:fi<0
   ·rw[if_pos hf] at hE1;have HE:=hid hE1;clear hE1 XH;rcases k2 with k2 | k2 | k2
    all_goals
     subst k2
     go_wp2
     go_ret
     exact ⟨bE (by rw[HE.o]),G2⟩
   ·rw[if_neg hf] at hE1;have h4:¬ ak=4:=fun h=>hf (by rw[hbad.2.2.2.1];exact hbad.2.2.1 h);rw[if_neg (fun h=>h4 h.1)] at hE1;exact absurd hE1 hbad.2.1
  ·rw[if_neg k2] at hE1;have HE:=hid hE1;have b2:(ak==2)=false:=(by rw[cg];omega);have b3:(ak==3)=false:=(by rw[cg];omega);have b4:(ak==4)=false:=(by rw[cg];omega);clear hE1 XH;go_wp2;go_ret;exact ⟨bE (by rw[HE.o]),G2⟩
def aaN (es:List RE) (a:jV):Prop:=a.kind=1/\cO a.name=true/\a.oN=true/\fP es a.name=-1
theorem MB (base pb:Nat) (aC:Int) (bv pv dv:Value) (es:List RE) (ds:List UInt8) (m:Nat) (a:jV) (w:World) (hD:iG w base pb aC bv pv dv es ds) (hm:Hid (es.length=m)) (zm:m<20) (hna:a.name.length<=9223372036854775807) (hok:aaN es a) (hbase:base<=w.heap.size) :
  Calls Tryz.prog 32 #[.pointer (some ⟨pb,0,none⟩),.agg a.cells] w fun r w'=>r = .returned (.int .i64 0)/\∃ LH,iG w' base pb aC LH pv dv (Ms es (TF a)) ds/\w.grownBy w' (some pb)/\NewAt w.heap.size LH:=by
 obtain ⟨ab,cb,hbv⟩:=cu hD.bg
 rw[hm.o] at hbv
 subst hbv
 have pM:=fun w=>lZ a w
 rw[hok.2.2.1] at pM
 have hF:=fun w hx=>nA base pb aC (.slice ab m cb) pv dv es ds a.name m ⟨a.name.toArray⟩ w hx hm afp (hid rfl)
 rw[hok.2.2.2] at hF
 have XH:=fun w=>uV a.name a.name.length ⟨a.name.toArray⟩ w (hid rfl) (hid rfl) hna
 rw[hok.2.1] at XH
 have Zy:=fun w hx hb=>TA base pb aC (.slice ab m cb) pv dv es ds m (TF a) w hx hm afp hb
 obtain ⟨ak,an,key,bI,aD,bC,ay⟩:=a
 obtain rfl:ak=1:=hok.1
 simp only[jV.cells,TF,RE.arr] at pM hF XH Zy ⊢
 have G0:w.grownBy (w.alloc (.cells #[.int .i64 1,.string ⟨an.toArray⟩,.int .u64 (key.toNat:Int),.int .i64 bI,.int .i64 aD,.int .i64 bC,.int .i64 ay] 41)) none:=aE w _ none
 have hB0:=dX.new w #[.int .i64 1,.string ⟨an.toArray⟩,.int .u64 (key.toNat:Int),.int .i64 bI,.int .i64 aD,.int .i64 bC,.int .i64 ay] 41
 have Bd:=hF _ (hD.grown G0)
 clear hF hok
 go_enter Tryz.func32,Tryz.ntmps32
 go_wp2_with fail
 refine Bd.mono ?_
 rintro e w1 ⟨rfl,hg1⟩
 have hB1:=hB0.grown hg1 aft
 have G1:=aa G0 hg1
 have f0:=hB1.cell 0
 have f1:=hB1.cell 1
 have f2:=hB1.cell 2
 have f3:=hB1.cell 3
 have f4:=hB1.cell 4
 have f5:=hB1.cell 5
 have f6:=hB1.cell 6
 simp only[cx,ct,cD] at f0 f1 f2 f3 f4 f5 f6
 clear Bd hg1
 go_wp2_with fail
 refine (pM _).mono ?_
 rintro e w2 ⟨rfl,hg2⟩
 have hB2:=hB1.grown hg2 aft
 have G2:=aa G1 hg2
 have hD2:=hD.grown G2
 clear f0 f1 f2 f3 f4 f5 f6 pM hg2 hB1
 have f0:=hB2.cell 0
 have f1:=hB2.cell 1
 have f2:=hB2.cell 2
 have f3:=hB2.cell 3
 have f4:=hB2.cell 4
 have f5:=hB2.cell 5
 have f6:=hB2.cell 6
 have c1:=hD2.blk.cell 1
 simp only[cx,ct,cD] at f0 f1 f2 f3 f4 f5 f6 c1
 go_wp2_with fail
 refine (XH _).mono ?_
 rintro e w3 ⟨rfl,rfl⟩
 clear XH
 have hs2:=G2.size
 have hA2:=Zy _ hD2 afp
 clear Zy
 go_wp2_with fail
 refine hA2.mono ?_
 rintro e w4 ⟨rfl,LH,hD4,hg4,hn4⟩
 have G4:w.grownBy w4 (some pb):=aa (Xk G2) hg4
 clear hA2 hD hD2 c1 f0 f1 f2 f3 f4 f5 f6 hB2 hB0
 go_wp2
 go_ret
 exact ⟨rfl,LH,hD4,G4,fun g h=>br hs2 (hn4 g h)⟩
def uw (c:Int) (n:Nat):Nat:=((if c<0 then -(c+1) else c) % (n:Int)).toNat
theorem yx (c:Int) {n:Nat} (h:0<n):uw c n<n:=by
 unfold uw;have h0:(0:Int)<(n:Int):=by omega
 have h1:=Int.emod_nonneg (if c<0 then -(c+1) else c) (show (n:Int)≠0 by omega);have h2:=Int.emod_lt_of_pos (if c<0 then -(c+1) else c) h0;omega
theorem BU (c:Int) (n:Nat) (w:World) (hc0:-9223372036854775808<=c) (hc1:c<=9223372036854775807) (hn:0<n) (hn2:n<=9223372036854775807) :
  Calls prog 11 #[.int .i64 c,.int .i64 (n:Int)] w fun e w'=>e = .returned (.int .i64 (uw c n:Int))/\w=w':=by
 have adW:¬ (n:Int)=0:=by omega
 by_cases h:c<0
 ·have HP:Hid ((uw c n:Int)=(-(c+1)) % (n:Int)):=by
   show _=_;have:=Int.emod_nonneg (-(c+1)) adW;rw[uw,if_pos h,Int.toNat_of_nonneg this]
  have ht:Hid (Int.tmod (-(c+1)) (n:Int)=(-(c+1)) % (n:Int)):=fp afp;go_enter func11,ntmps11;go_wp2;go_ret;exact ⟨bE (by rw[HP.o,<-ht.o,Int.neg_tmod]),rfl⟩
 ·have HP:Hid ((uw c n:Int)=c % (n:Int)):=by
   show _=_;have:=Int.emod_nonneg c adW;rw[uw,if_neg h,Int.toNat_of_nonneg this]
  have ht:Hid (Int.tmod c (n:Int)=c % (n:Int)):=fp afp;go_enter func11,ntmps11;go_wp2;go_ret;exact ⟨bE (by rw[HP.o]),rfl⟩
end Go.Proofs.YteknelimjfgmaaaGreatDoor
