/-
  
  
  
  
  
  
  
  
-/
import Derived.Test.YtpibgolaaaemnaaGreatDoorGUBoxM
namespace Go.Proofs.YtpibgolaaaemnaaGreatDoor.Box
theorem ME (tag:UInt8) (l r:List UInt8) (h:l.length≤65535):cut (box tag l++r)=some (tag,l,r):=by
 rw[box,head]
 by_cases h1:l.length<128
 ·rw[if_pos h1]
  have e:(UInt8.ofNat l.length).toNat=l.length:=by rw[UInt8.toNat_ofNat',Nat.mod_eq_of_lt (by omega)]
  simp[cut,iw,e,h1]
 ·rw[if_neg h1]
  by_cases h2:l.length<256
  ·rw[if_pos h2]
   have e:(UInt8.ofNat l.length).toNat=l.length:=by rw[UInt8.toNat_ofNat',Nat.mod_eq_of_lt (by omega)]
   have h3:128≤l.length:=by omega
   simp[cut,iw,e,h3]
  ·rw[if_neg h2]
   have e1:(UInt8.ofNat (l.length / 256)).toNat=l.length / 256:=by rw[UInt8.toNat_ofNat',Nat.mod_eq_of_lt (by omega)]
   have e2:(UInt8.ofNat (l.length % 256)).toNat=l.length % 256:=by rw[UInt8.toNat_ofNat',Nat.mod_eq_of_lt (by omega)]
   have h3:256≤l.length / 256*256+l.length % 256:=by omega
   have h4:l.length / 256*256+l.length % 256=l.length:=by omega
   rw[h4] at h3
   simp[cut,iw,e1,e2,h4,h3]
theorem NU (tag:UInt8) (l r:List UInt8) (h:l.length≤65535):eX (box tag l++r)=(eX r).map ((tag,l)::·):=kV (ME tag l r h)
theorem xH (v:Int):v=v / 256*256+((iC v 0).toNat:Int):=by
 unfold iC
 rw[Nat.mul_zero,Int.pow_zero,Int.ediv_one,UInt8.toNat_ofNat',Nat.mod_eq_of_lt (by omega)]
 omega
theorem QR (v:Int) (k:Nat):low v (k+1)=low (v / 256) k++[iC v 0]:=by
 have:=QN (v / 256) (iC v 0) k
 rw[←xH] at this
 exact this
theorem QS {l:List UInt8} (h:1≤l.length) (b:UInt8):val (l++[b])=val l*256+(b.toNat:Int):=by
 cases l with
 | nil=>simp at h
 | cons a l=>simp only[val,List.cons_append,List.getD_cons_zero,List.drop_succ_cons,List.drop_zero];rw[Ev]
theorem Vt:∀ (k:Nat) (v M:Int),M=128*256 ^ k→-M≤v→v<M→val (low v (k+1))=v:=by
 intro k
 induction k with
 | zero=>
  intro v M hM h0 h1
  rw[Int.pow_zero] at hM
  have e:low v 1=[iC v 0]:=rfl
  rw[e]
  simp only[val,List.getD_cons_zero,List.drop_succ_cons,List.drop_zero,Gm]
  have hb:=xH v
  have hl:=(iC v 0).toNat_lt
  unfold sign
  split <;> omega
 | succ k ih=>
  intro v M hM h0 h1
  rw[QR,QS (by rw[je];omega)]
  have hM':M=128*256 ^ k*256:=by rw[hM,Int.pow_succ,Int.mul_assoc]
  rw[ih (v / 256) (128*256 ^ k) rfl (by omega) (by omega),←xH]
theorem EC (v:Int) (h0:-9223372036854775808≤v) (h1:v≤9223372036854775807):num (low v (size v))=some v:=by
 have hs:=iJ v
 have hv:val (low v (size v))=v:=by
  obtain ⟨k,hk⟩:∃ k,size v=k+1:=⟨size v-1,by omega⟩
  rw[hk]
  have hk8:k=0∨k=1∨k=2∨k=3∨k=4∨k=5∨k=6∨k=7:=by omega
  rcases hk8 with rfl | rfl | rfl | rfl | rfl | rfl | rfl | rfl
  all_goals
   refine Vt _ v _ rfl ?_ ?_ <;> simp only[Int.reducePow,Int.reduceMul] <;> unfold size at hk <;> (repeat' split at hk) <;> omega
 rw[num,hv,je,if_pos ⟨hs.1,hs.2,rfl⟩]
end Go.Proofs.YtpibgolaaaemnaaGreatDoor.Box
namespace Go.Proofs.YtpibgolaaaemnaaGreatDoor
open Go.RowKit
def aN (v:Int):List UInt8:=Box.box 2 (Box.low v (Box.size v))
def fT (l:List Int):List UInt8:=(l.map aN).flatten
theorem eZ (v:Int):3≤(aN v).length∧(aN v).length≤10:=by
 have:=iJ v
 rw[aN,Box.jf,Box.je,if_pos (by omega)]
 omega
theorem jg (l:List Int):(fT l).length≤10*l.length:=by
 induction l with
 | nil=>simp[fT]
 | cons v l ih=>
  have:=(eZ v).2
  simp only[fT,List.map_cons,List.flatten_cons,List.length_append,List.length_cons] at *
  omega
def afl (v:Int):Prop:=-9223372036854775808≤v∧v≤9223372036854775807
end Go.Proofs.YtpibgolaaaemnaaGreatDoor
namespace Go.Proofs.YtpibgolaaaemnaaGreatDoor
open Go.RowKit
set_option maxRecDepth 100000
def sat (x:Int):Int:=if x < -9223372036854775808 then -9223372036854775808 else if 9223372036854775807<x then 9223372036854775807 else x
def aX (a b:Int):Int:=sat (a+b)
def iN (a b:Int):Int:=sat (a-b)
def fE (a b:Int):Int:=if a<b then iN b a else iN a b
def lesser (a b:Int):Int:=if a<b then a else b
def asked (t:Int):Int:=if t=0 then 9223372036854775807 else t
def aA (n b:Int):Bool:=decide (n / b % 2=1)
def BE.has (e:BE) (f:Int):Bool:=aA e.ay f
def BE.gone (e:BE) (now:Int):Bool:=decide (e.bU≠0∧e.bU≤now)
def BE.find (es:List BE) (l:List UInt8):Option BE:=es.find? (fun e=>e.name==l)
def BE.keyOf (e:BE) (n:Int):Option UInt64:=if n=e.ag then some e.key else if n=e.ag-1∧1<e.ag then some e.before else none
structure TK where
 ay:Int
 aU:UInt64
 af:List UInt8
 eH:Int
 start:Int
 fin:Int
 aF:Int
def bD (l:List UInt8):List UInt8:=Box.box 4 l
def iX (l:List (List UInt8)):List UInt8:=Box.box 48 l.flatten
def kY (k:UInt64):List UInt8:=bD (Pure.be k 8)
def TK.plain (t:TK):List UInt8:=iX [aN t.ay,kY t.aU,bD t.af,aN t.eH,aN t.start,aN t.fin,aN t.aF]
def tN (t:TK) (s:BE) (draw:UInt64):List UInt8:=iX [bD s.name,aN s.ag,bD (Pure.dK s.key 2 draw t.plain)]
def dR (t:TK) (aB:Int) (s:BE):List UInt8:=iX [kY t.aU,aN aB,aN t.ay,aN t.eH,aN t.start,aN t.fin,aN t.aF,bD s.name]
def gM (kind:Int) (t:TK) (s:BE) (aB ag:Int) (key use a b:UInt64):List UInt8:=
 iX [aN kind,bD t.af,tN t s a,iX [aN ag,bD (Pure.dK key use b (dR t aB s))]]
def aL (now code:Int):List UInt8:=iX [aN 30,aN now,aN code]
abbrev jX:Type:=UInt8×List UInt8
def eG (p:jX):Option Int:=if p.1.toNat=2 then Box.num p.2 else none
def pG (p:jX):Option (List UInt8):=if p.1.toNat=4 then some p.2 else none
def jT (p:jX):Option (List UInt8):=if p.1.toNat=4∧dH p.2=true then some p.2 else none
def QT (p:jX):Option UInt64:=if p.1.toNat=4∧p.2.length=8 then some (Pure.joinL 0 p.2) else none
def Dl (p:jX):Option (List jX):=if p.1.toNat=48 then Box.eX p.2 else none
def dO {α β:Type} (f:jX→Option α) (k:α→List jX→Option β):List jX→Option β
 | []=>none
 | p::ps=>(f p).bind fun a=>k a ps
def Ab {β:Type} (b:β) (ps:List jX):Option β:=if ps=[] then some b else none
def dh {α β:Type} (f:jX→Option α) (k:α→List UInt8→Option β) (l:List UInt8):Option β:=
 match Box.cut l with
 | none=>none
 | some (t,i,r)=>(f (t,i)).bind fun a=>k a r
def rP {β:Type} (b:β) (l:List UInt8):Option β:=if l=[] then some b else none
theorem tO {β:Type} (b:β) (l:List UInt8):rP b l=(Box.eX l).bind (Ab b):=by
 unfold rP
 cases l with
 | nil=>rfl
 | cons x l=>
  rw[if_neg (by simp)]
  cases h:Box.cut (x::l) with
  | none=>rw[Box.nA (by simp) h];rfl
  | some p=>
   obtain ⟨t,i,r⟩:=p
   rw[Box.kV h]
   cases Box.eX r <;> simp[Ab]
theorem dm {α β:Type} (f:jX→Option α) (k:α→List jX→Option β) (k':α→List UInt8→Option β) (h:∀ a l,k' a l=(Box.eX l).bind (k a)) (l:List UInt8):dh f k' l=(Box.eX l).bind (dO f k):=by
 unfold dh
 cases hc:Box.cut l with
 | none=>
  cases l with
  | nil=>rfl
  | cons x l=>rw[Box.nA (by simp) hc];rfl
 | some p=>
  obtain ⟨t,i,r⟩:=p
  rw[Box.kV hc]
  simp only[h]
  cases Box.eX r <;> cases hf:f (t,i) <;> simp[dO,hf]
theorem QU {β:Type} (l:List UInt8):(none:Option β)=(Box.eX l).bind (fun _=>none):=by cases Box.eX l <;> rfl
def oF (l:List UInt8):Option (List jX):=
 match Box.cut l with
 | some (t,i,[])=>if t.toNat=48 then Box.eX i else none
 | _=>none
structure FQ where
 af:List UInt8
 az:List UInt8
 aB:Int
 eY:Int
 dF:Int
 bQ:Int
 aJ:Int
 pre:Option (Int×List UInt8)
structure NQ where
 iT:List UInt8
 yY:Int
 iO:List UInt8
 proof:List UInt8
 az:List UInt8
 aB:Int
 dF:Int
 bQ:Int
 aJ:Int
def MF:List jX→Option (Int×List UInt8):=dO eG fun n=>dO pG fun z=>Ab (n,z)
def yB (p:jX):Option (Option (Int×List UInt8)):=
 match Dl p with
 | none=>none
 | some []=>some none
 | some ps=>(MF ps).map some
def QV:List jX→Option FQ:=dO eG fun k=>if k=10 then dO jT fun c=>dO jT fun s=>dO eG fun n=>dO eG fun f=>dO eG fun t=>dO eG fun r=>dO eG fun o=>dO yB fun p=>Ab ⟨c,s,n,f,t,r,o,p⟩ else fun _=>none
def MG:List jX→Option (List UInt8×Int×List UInt8):=dO jT fun s=>dO eG fun n=>dO pG fun z=>Ab (s,n,z)
def tQ (p:jX):Option (List UInt8×Int×List UInt8):=(Dl p).bind MG
def Yw:List jX→Option NQ:=dO eG fun k=>if k=12 then dO tQ fun c=>dO pG fun p=>dO jT fun s=>dO eG fun n=>dO eG fun t=>dO eG fun r=>dO eG fun o=>Ab ⟨c.1,c.2.1,c.2.2,p,s,n,t,r,o⟩ else fun _=>none
def wm (aG:List UInt8):Option FQ:=if aG.length≤300 then (oF aG).bind QV else none
def Km (aG:List UInt8):Option NQ:=if aG.length≤300 then (oF aG).bind Yw else none
def pI (key use:UInt64) (z:List UInt8):Option (List UInt8):=if 16≤z.length∧Pure.opens key use z=true then some (Pure.gy key use z) else none
def uS (l:List UInt8):Option Int:=
 match Box.cut l with
 | some (t,i,[])=>eG (t,i)
 | _=>none
def Dm:List jX→Option TK:=dO eG fun f=>dO QT fun k=>dO jT fun c=>dO eG fun a=>dO eG fun s=>dO eG fun e=>dO eG fun r=>Ab ⟨f,k,c,a,s,e,r⟩
def lU (l:List UInt8):Option TK:=(oF l).bind Dm
def Gt:List jX→Option PF:=dO jT fun c=>dO eG fun t=>dO eG fun n=>Ab ⟨c,t,n⟩
def nX (l:List UInt8):Option PF:=(oF l).bind Gt
structure GR where
 kind:Int
 t:TK
 s:BE
 aB:Int
 ag:Int
 key:UInt64
 use:UInt64
def dw (x y:Option BE) (now a b c d:Int):Int:=
 match x,y with
 | none,_=>a
 | some _,none=>b
 | some x,some y=>if x.gone now=true then c else if y.gone now=true then d else if x.has 32=true∨y.has 32=true then 12 else 0
def gP (ax now:Int) (x:BE):Option (Int×List UInt8)→Int
 | none=>if x.has 1=true then 25 else 0
 | some (n,z)=>
  match (pI x.key 1 z).bind uS with
  | none=>24
  | some t=>if n≠x.ag then 24 else if ax<fE t now then 37 else 0
def kZ (aJ old:Int) (x s:BE):Int:=
 (if aA aJ 1=true∧aA old 1=true∧x.has 4=true∧s.has 4=true then 1 else 0)+(if aA aJ 2=true∧aA old 2=true∧x.has 8=true∧s.has 8=true then 2 else 0)
  + (if aA aJ 4=true∧aA old 4=true∧x.has 2=true∧s.has 2=true then 4 else 0)
def lg (aJ old:Int) (x s:BE) (start upto:Int):Int:=
 if aA aJ 4=true∧aA old 4=true∧x.has 2=true∧s.has 2=true then lesser upto (lesser (aX start x.aF) (aX start s.aF)) else 0
def bB (now:Int) (q:FQ):Int:=if aA q.aJ 8=true then q.eY else now
def fG (now:Int) (q:FQ) (x s:BE):Int:=lesser (asked q.dF) (lesser (aX (bB now q) x.cO) (aX (bB now q) s.cO))
def lL (now:Int) (q:FQ) (x s:BE):TK:=
 ⟨32+(if q.pre.isSome then 64 else 0)+(if aA q.aJ 8=true then 24 else 0)+kZ q.aJ 7 x s,0,q.af,now,bB now q,fG now q x s,lg q.aJ 7 x s (bB now q) (asked q.bQ)⟩
def fD (ax now:Int) (q:FQ) (x s:BE):Int:=
 if gP ax now x q.pre≠0 then gP ax now x q.pre
 else if q.aJ<0∨15<q.aJ then 13
 else if aA q.aJ 8=true∧¬ (x.has 16=true∧s.has 16=true) then 10
 else if aA q.aJ 8=false∧aX now ax<q.eY then 10
 else if fG now q x s≤bB now q then 11 else 0
def firstM (M:DM) (now:Int) (q:FQ):Except Int GR:=
 match BE.find M.aH q.af,BE.find M.aH q.az with
 | none,_=>.error 6
 | some _,none=>.error 7
 | some x,some s=>
  if dw (some x) (some s) now 6 7 1 2≠0 then .error (dw (some x) (some s) now 6 7 1 2)
  else if fD M.ax now q x s≠0 then .error (fD M.ax now q x s)
  else .ok ⟨11,lL now q x s,s,q.aB,x.ag,x.key,3⟩
def gZ (M:DM) (now:Int) (q:NQ):Except Int (TK×PF):=
 if q.iT≠[116,103,115]∧¬ ((aA q.aJ 16=true∨aA q.aJ 32=true)∧q.iT=q.az) then .error 36
 else match BE.find M.aH q.iT with
 | none=>.error 7
 | some e=>
  match e.keyOf q.yY with
  | none=>.error 44
  | some key=>
   match (pI key 2 q.iO).bind lU with
   | none=>.error 31
   | some t=>
    match (pI t.aU 4 q.proof).bind nX with
    | none=>.error 31
    | some p=>if p.af≠t.af then .error 36 else if M.ax<fE p.time now then .error 37 else .ok (t,p)
def su (ax now:Int) (l:List PF):List PF:=l.filter fun p=>decide (fE p.time now≤ax)
def dG (ax now:Int) (l:List PF) (p:PF):Int:=if p∈su ax now l then 34 else if 8≤(su ax now l).length then 60 else 0
def dx (ax now:Int) (l:List PF) (p:PF):List PF:=if dG ax now l p=0 then su ax now l++[p] else su ax now l
def oG (aJ:Int):Int:=(if aA aJ 16=true then 1 else 0)+(if aA aJ 32=true then 1 else 0)+(if aA aJ 64=true then 1 else 0)+(if aA aJ 128=true then 1 else 0)
def ko (aJ ay:Int):Bool:=
 if aJ<0∨255<aJ∨aA aJ 8=true then false
 else if 1<oG aJ∨aA aJ 32=true∧aJ≠32 then false
 else if aA aJ 16=true∧aA ay 4=false∨aA aJ 64=true∧aA ay 1=false∨aA aJ 128=true∧aA ay 2=false then false
 else !aA aJ 32 || aA ay 16
def Dn (ay:Int):Int:=(if aA ay 64=true then 64 else 0)+(if aA ay 128=true then 128 else 0)+(if aA ay 256=true then 256 else 0)
def nC (now dF:Int) (old:TK) (x s:BE):Int:=lesser (lesser (asked dF) old.fin) (lesser (aX now x.cO) (aX now s.cO))
def mq (aJ:Int) (old:TK) (x s:BE):Int:=
 (if aA old.ay 64=true then 64 else 0)+(if aA old.ay 128=true∨aA aJ 64=true then 128 else 0)+(if aA old.ay 256=true∨aA aJ 128=true then 256 else 0)+kZ aJ old.ay x s
def fresh (now:Int) (old:TK) (x s:BE) (dF bQ aJ:Int):Except Int TK:=
 if aA aJ 32=true then (if now<old.start then .error 33 else .ok {old with ay:=if aA old.ay 16=true then old.ay-16 else old.ay})
 else if aA aJ 16=true then (if old.aF≤now then .error 32 else .ok {old with start:=now,fin:=lesser old.aF (aX now (iN old.fin old.start))})
 else if nC now dF old x s≤now then .error 11
 else .ok {old with start:=now,fin:=nC now dF old x s,ay:=mq aJ old x s,aF:=lg aJ old.ay x s now (lesser (asked bQ) old.aF)}
def fV (M:DM) (now:Int) (q:NQ) (old:TK):Except Int GR:=
 if aA old.ay 16=true∧aA q.aJ 32=false∨aX now M.ax<old.start then .error 33
 else if old.fin<now then .error 32
 else match BE.find M.aH q.az,BE.find M.aH old.af with
 | none,_=>.error 7
 | some _,none=>.error 6
 | some s,some x=>
  if dw (some s) (some x) now 7 6 2 1≠0 then .error (dw (some s) (some x) now 7 6 2 1)
  else if ko q.aJ old.ay=false then .error 13
  else match fresh now old x s q.dF q.bQ q.aJ with
  | .error c=>.error c
  | .ok t=>.ok ⟨13,t,s,q.aB,0,old.aU,5⟩
def dU (ds:List UInt8) (k:Nat):UInt64:=Pure.joinL 0 ((ds.drop (8*k)).take 8)
def GR.box (g:GR) (ds:List UInt8):List UInt8:=gM g.kind {g.t with aU:=dU ds 0} g.s g.aB g.ag g.key g.use (dU ds 1) (dU ds 2)
def dJ (M:DM) (now:Int):Except Int GR→List UInt8×DM
 | .error c=>(aL now c,M)
 | .ok g=>if M.aV.length<24 then (aL now 60,M) else (g.box M.aV,{M with aV:=M.aV.drop 24})
def pJ (M:DM) (now:Int) (q:NQ):List UInt8×DM:=
 match gZ M now q with
 | .error c=>(aL now c,M)
 | .ok (t,p)=>
  let M':={M with bK:=dx M.ax now M.bK p}
  if dG M.ax now M.bK p≠0 then (aL now (dG M.ax now M.bK p),M')
  else dJ M' now (fV M' now q t)
def cB (M:DM) (now:Int) (aG:List UInt8):List UInt8×DM:=
 match wm aG with
 | some q=>dJ M now (firstM M now q)
 | none=>
  match Km aG with
  | some q=>pJ M now q
  | none=>(aL now 60,M)
end Go.Proofs.YtpibgolaaaemnaaGreatDoor
namespace Go.Proofs.YtpibgolaaaemnaaGreatDoor
open Go.RowKit
set_option maxRecDepth 100000
theorem abr {S:ByteArray} {l:List UInt8} (hS:S=⟨l.toArray⟩) (j:Nat) (h:j<S.size):S[j]'h=l.getD j 0:=by
 subst hS
 have hj:j<l.length:=by simpa[ByteArray.size] using h
 simp only[List.getD,List.getElem?_eq_getElem hj,Option.getD_some]
 rfl
set_option maxHeartbeats 1000000 in
theorem Ai (z:UInt8) (w:World):Calls Tryz.prog 116 #[.int .u8 (z.toNat:Int)] w fun e w'=>e = .returned (.bool (kX z))∧w=w':=by
 have hz:=z.toNat_lt
 have HP:Hid (kX z=decide ((97≤z.toNat∧z.toNat≤122)∨(48≤z.toNat∧z.toNat≤57)∨z.toNat=47)):=rfl
 have key:∀ b,kX z=b→(b=true↔((97≤z.toNat∧z.toNat≤122)∨(48≤z.toNat∧z.toNat≤57)∨z.toNat=47)):=by
  intro b hb
  rw[←hb,HP.out,decide_eq_true_iff]
 cases hp:kX z
 ·have hn:¬ ((97≤z.toNat∧z.toNat≤122)∨(48≤z.toNat∧z.toNat≤57)∨z.toNat=47):=fun h=>by have:=(key _ hp).2 h;cases this
  have d47:((z.toNat:Int)==47)=false:=by rw[beq_eq_false_iff_ne];omega
  clear key HP hp
  by_cases h1:97≤z.toNat
  ·have h1':(97:Int)≤(z.toNat:Int):=by omega
   have h2:¬ (z.toNat:Int)≤122:=by omega
   have h3:¬ (z.toNat:Int)≤57:=by omega
   clear hn
   go_enter Tryz.func116,Tryz.ntmps116
   go_wp2
   go_ret
   exact ⟨rfl,rfl⟩
  ·have h1':¬ (97:Int)≤(z.toNat:Int):=by omega
   by_cases h4:48≤z.toNat
   ·have h4':(48:Int)≤(z.toNat:Int):=by omega
    have h3:¬ (z.toNat:Int)≤57:=by omega
    clear hn
    go_enter Tryz.func116,Tryz.ntmps116
    go_wp2
    go_ret
    exact ⟨rfl,rfl⟩
   ·have h4':¬ (48:Int)≤(z.toNat:Int):=by omega
    clear hn
    go_enter Tryz.func116,Tryz.ntmps116
    go_wp2
    go_ret
    exact ⟨rfl,rfl⟩
 ·have hy:=(key _ hp).1 rfl
  clear key HP hp
  by_cases h1:97≤z.toNat∧z.toNat≤122
  ·have h1':(97:Int)≤(z.toNat:Int):=by omega
   have h2:(z.toNat:Int)≤122:=by omega
   clear hy h1
   go_enter Tryz.func116,Tryz.ntmps116
   go_wp2
   go_ret
   exact ⟨rfl,rfl⟩
  ·by_cases h4:48≤z.toNat∧z.toNat≤57
   ·have h1':¬ (97:Int)≤(z.toNat:Int):=by omega
    have h4':(48:Int)≤(z.toNat:Int):=by omega
    have h3:(z.toNat:Int)≤57:=by omega
    clear hy h1 h4
    go_enter Tryz.func116,Tryz.ntmps116
    go_wp2
    go_ret
    exact ⟨rfl,rfl⟩
   ·have h1':¬ (97:Int)≤(z.toNat:Int):=by omega
    have h4':¬ (48:Int)≤(z.toNat:Int):=by omega
    have d47:((z.toNat:Int)==47)=true:=by rw[beq_iff_eq];omega
    clear hy h1 h4
    go_enter Tryz.func116,Tryz.ntmps116
    go_wp2
    go_ret
    exact ⟨rfl,rfl⟩
set_option maxHeartbeats 1000000 in
theorem Aj (l:List UInt8) (n:Nat) (S:ByteArray) (w:World) (hS:Hid (S=⟨l.toArray⟩)) (hn:Hid (l.length=n)) (hl:n≤9223372036854775807) :
  Calls Tryz.prog 77 #[.string S] w fun e w'=>e = .returned (.bool (dH l))∧w=w':=by
 have hsz:S.size=n:=by rw[hS.out,←hn.out];simp[ByteArray.size]
 have HE:Hid (dH l=(decide (1≤n∧n≤16) && l.all kX)):=by show _=_;rw[dH,hn.out]
 by_cases h1:1≤n
 ·by_cases h16:n≤16
  ·have h1':¬ (n:Int)<1:=by omega
   have afu:¬ (16:Int)<(n:Int):=by omega
   have HE2:Hid (dH l=l.all kX):=by show _=_;rw[HE.out,decide_eq_true ⟨h1,h16⟩,Bool.true_and]
   clear HE
   go_enter Tryz.func77,Tryz.ntmps77
   go_wp2
   go_loop [3,14] (fun _ i=>∃ k:Nat,k≤n∧i = .int .i64 k∧Hid ((l.take k).all kX=true)) (fun _ i=>n-(intOf i).toNat)
   case atStart=>exact ⟨0,Nat.zero_le _,rfl,hid (by simp)⟩
   case round=>
    obtain ⟨k,hk,rfl,HA⟩:=hrel
    by_cases hlt:k<n
    ·have hlt':k<l.length:=by rw[hn.out];exact hlt
     have hgk:=abr hS.out k
     have XH:=hid (Cq hlt')
     rw[HA.out,Bool.true_and] at XH
     have VD:Hid (kX (l.getD k 0)=false→dH l=false):=by
      intro h
      rw[HE2.out]
      have hm:l.getD k 0∈l:=by
       rw[show l.getD k 0=l[k] from by simp[List.getD,List.getElem?_eq_getElem hlt']]
       exact List.getElem_mem hlt'
      rw[List.all_eq_false]
      exact ⟨_,hm,by rw[h];simp⟩
     generalize l.getD k 0=z at hgk XH VD
     have rT:(k:Int)<(n:Int):=by omega
     have hk0:(0:Int)≤(k:Int):=by omega
     cases hp:kX z
     ·have HF:=hid (VD.out hp)
      clear VD XH
      go_wp2_with (go_at_call 116;refine (Ai z _).mono ?_;rintro e w' ⟨rfl,rfl⟩)
      go_ret
      exact ⟨by rw[HF.out];rfl,rfl⟩
     ·have HY:=hid (XH.out.trans hp)
      clear VD XH
      go_wp2_with (go_at_call 116;refine (Ai z _).mono ?_;rintro e w' ⟨rfl,rfl⟩)
      go_round
      case rel=>exact ⟨k+1,by omega,by go_num,HY⟩
      case measure=>simp[intOf];omega
    ·have hkn:k=n:=by omega
     subst hkn
     have HR:Hid (dH l=true):=by show _=_;rw[HE2.out,←HA.out,List.take_of_length_le (by rw[hn.out];exact Nat.le_refl _)]
     have rT:¬ (k:Int)<(k:Int):=by omega
     go_wp2
     go_ret
     exact ⟨by rw[HR.out];rfl,rfl⟩
  ·have h1':¬ (n:Int)<1:=by omega
   have afu:(16:Int)<(n:Int):=by omega
   have HR:Hid (dH l=false):=by show _=_;rw[HE.out,decide_eq_false (fun h=>h16 h.2),Bool.false_and]
   go_enter Tryz.func77,Tryz.ntmps77
   go_wp2
   go_ret
   exact ⟨by rw[HR.out];rfl,rfl⟩
 ·have h1':(n:Int)<1:=by omega
  have HR:Hid (dH l=false):=by show _=_;rw[HE.out,decide_eq_false (fun h=>h1 h.1),Bool.false_and]
  go_enter Tryz.func77,Tryz.ntmps77
  go_wp2
  go_ret
  exact ⟨by rw[HR.out];rfl,rfl⟩
end Go.Proofs.YtpibgolaaaemnaaGreatDoor
namespace Go.Proofs.YtpibgolaaaemnaaGreatDoor
open Go.RowKit
theorem tT (n:Int):(BitVec.ofInt 64 n).toNat=(n % 18446744073709551616).toNat:=by
 rw[BitVec.toNat_ofInt];rfl
theorem iQ (n:Int) (k:Nat) (hk:k<64):(BitVec.ofInt 64 n).getLsbD k=aA n (2 ^ k):=by
 rw[aA,←BitVec.testBit_toNat,tT,Nat.testBit_eq_decide_div_mod_eq]
 congr 1
 have hp:(0:Int)<2 ^ k:=Int.pow_pos (by decide)
 have e:((n % 18446744073709551616).toNat / 2 ^ k % 2:Nat)=1↔n / 2 ^ k % 2=1:=by
  have h0:0≤n % 18446744073709551616:=Int.emod_nonneg _ (by decide)
  have h1:(((n % 18446744073709551616).toNat / 2 ^ k % 2:Nat):Int)=n % 18446744073709551616 / 2 ^ k % 2:=by
   rw[Int.natCast_emod,Int.natCast_ediv,Int.toNat_of_nonneg h0]
   simp
  have h2:n % 18446744073709551616 / 2 ^ k % 2=n / 2 ^ k % 2:=by
   have h64:(18446744073709551616:Int)=2 ^ k*2 ^ (64-k):=by
    rw[←Int.pow_add,show k+(64-k)=64 from by omega];rfl
   have hd:n / 2 ^ k=n % 18446744073709551616 / 2 ^ k+2 ^ (64-k)*(n / 18446744073709551616):=by
    have:=Int.emod_add_mul_ediv n 18446744073709551616
    conv=>lhs;rw[←this,h64,Int.mul_assoc]
    rw[Int.add_mul_ediv_left _ _ (by omega),←h64]
   rw[hd,show (64-k)=(64-k-1)+1 from by omega,Int.pow_succ,Int.mul_comm (2 ^ (64-k-1)) 2,Int.mul_assoc,Int.add_mul_emod_self_left]
  omega
 simp only[e]
theorem GD (v:BitVec 64):(IntKind.i64.wrap (v.toNat:Int))=v.toInt:=by
 rw[IntKind.wrap_i64,BitVec.toInt_eq_toNat_cond]
 have:=v.isLt
 split <;> omega
theorem EK (a b:Int):bits .and .i64 a b=(BitVec.ofInt 64 a &&& BitVec.ofInt 64 b).toInt:=GD _
theorem qz (a b:Int):bits .andNot .i64 a b=(BitVec.ofInt 64 a &&& ~~~ BitVec.ofInt 64 b).toInt:=GD _
theorem qD (v:BitVec 64):BitVec.ofInt 64 v.toInt=v:=BitVec.ofInt_toInt
theorem N7 (n:Int) (h0:-9223372036854775808≤n) (h1:n≤9223372036854775807) (v:BitVec 64) (k:Nat) (hk:k<63) (hv:∀ j,j<64→v.getLsbD j=(aA n (2 ^ j) && decide (k≤j))):(v.toInt=0)↔(0≤n∧n<2 ^ k):=by
 have hn:(BitVec.ofInt 64 n).toInt=n:=by rw[BitVec.toInt_ofInt,Int.bmod_def];split <;> omega
 have hval:v=(BitVec.ofInt 64 n >>> k) <<< k:=by
  apply BitVec.eq_of_getLsbD_eq
  intro j hj
  rw[hv j hj,BitVec.getLsbD_shiftLeft,BitVec.getLsbD_ushiftRight]
  by_cases h:k≤j
  ·have:¬ j<k:=by omega
   simp[h,this,hj,←iQ n j hj,show k+(j-k)=j from by omega]
  ·have:j<k:=by omega
   simp[h,this]
 have hlt:=(BitVec.ofInt 64 n).isLt
 have hz:v.toInt=0↔(BitVec.ofInt 64 n).toNat / 2 ^ k=0:=by
  have h3:v.toInt=0↔v=0#64:=by
   constructor
   ·intro h;have:=congrArg (BitVec.ofInt 64) h;rw[qD] at this;exact this
   ·intro h;rw[h];rfl
  rw[h3,hval]
  constructor
  ·intro h
   have h4:=congrArg BitVec.toNat h
   rw[BitVec.toNat_shiftLeft,BitVec.toNat_ushiftRight,Nat.shiftLeft_eq,Nat.shiftRight_eq_div_pow] at h4
   have h5:(BitVec.ofInt 64 n).toNat / 2 ^ k*2 ^ k≤(BitVec.ofInt 64 n).toNat:=Nat.div_mul_le_self _ _
   rw[Nat.mod_eq_of_lt (by omega)] at h4
   have h6:0<2 ^ k:=Nat.two_pow_pos k
   have h7:(BitVec.ofInt 64 n).toNat / 2 ^ k*2 ^ k=0:=h4
   rcases Nat.mul_eq_zero.1 h7 with h8 | h8
   ·exact h8
   ·omega
  ·intro h
   apply BitVec.eq_of_toNat_eq
   rw[BitVec.toNat_shiftLeft,BitVec.toNat_ushiftRight,Nat.shiftRight_eq_div_pow,h]
   simp
 rw[hz,Nat.div_eq_zero_iff_lt (Nat.two_pow_pos k),tT]
 have hp:(2:Nat) ^ k≤2 ^ 62:=Nat.pow_le_pow_right (by decide) (by omega)
 have hc:((2 ^ k:Nat):Int)=2 ^ k:=by simp
 constructor
 ·intro h
  have:(2:Nat) ^ 62=4611686018427387904:=by decide
  omega
 ·intro h
  omega
theorem uV (n:Int) (h0:-9223372036854775808≤n) (h1:n≤9223372036854775807) (k:Nat) (hk:k<63) (m:Int) (hm:∀ j,j<64→aA m (2 ^ j)=decide (j<k)):(bits .andNot .i64 n m=0)↔(0≤n∧n<2 ^ k):=by
 rw[qz]
 refine N7 n h0 h1 _ k hk (fun j hj=>?_)
 rw[BitVec.getLsbD_and,BitVec.getLsbD_not,iQ n j hj,iQ m j hj,hm j hj]
 by_cases h:j<k
 ·have:¬ k≤j:=by omega
  simp[h,this]
 ·have:k≤j:=by omega
  simp[h,this,hj]
theorem abu:∀ j,j<64→aA 63 (2 ^ j)=decide (j<6):=by decide
theorem abv:∀ j,j<64→aA 15 (2 ^ j)=decide (j<4):=by decide
theorem Rc (n:Int) (h0:-9223372036854775808≤n) (h1:n≤9223372036854775807):(bits .andNot .i64 n 63==0)=decide (0≤n∧n<64):=by
 have:=uV n h0 h1 6 (by decide) 63 abu
 rw[Bool.eq_iff_iff,beq_iff_eq,decide_eq_true_iff]
 exact this
end Go.Proofs.YtpibgolaaaemnaaGreatDoor
namespace Go.Proofs.YtpibgolaaaemnaaGreatDoor
open Go.RowKit
set_option maxRecDepth 100000
theorem ic (a b:Int) (k:Nat) (hk:k<64):aA (bits .and .i64 a b) (2 ^ k)=(aA a (2 ^ k) && aA b (2 ^ k)):=by
 rw[EK,←iQ _ k hk,qD,BitVec.getLsbD_and,iQ a k hk,iQ b k hk]
theorem lC (a b:Int) (k:Nat) (hk:k<64):aA (bits .andNot .i64 a b) (2 ^ k)=(aA a (2 ^ k) && !aA b (2 ^ k)):=by
 rw[qz,←iQ _ k hk,qD,BitVec.getLsbD_and,BitVec.getLsbD_not,iQ a k hk,iQ b k hk]
 simp[hk]
theorem AY (a b:Int):-9223372036854775808≤bits .and .i64 a b∧bits .and .i64 a b≤9223372036854775807:=by
 rw[EK]
 have h1:=BitVec.toInt_lt (x:=BitVec.ofInt 64 a &&& BitVec.ofInt 64 b)
 have h2:=BitVec.le_toInt (x:=BitVec.ofInt 64 a &&& BitVec.ofInt 64 b)
 omega
theorem mJ (a b:Int):-9223372036854775808≤bits .andNot .i64 a b∧bits .andNot .i64 a b≤9223372036854775807:=by
 rw[qz]
 have h1:=BitVec.toInt_lt (x:=BitVec.ofInt 64 a &&& ~~~ BitVec.ofInt 64 b)
 have h2:=BitVec.le_toInt (x:=BitVec.ofInt 64 a &&& ~~~ BitVec.ofInt 64 b)
 omega
theorem yJ {a b:Int} (ha:-9223372036854775808≤a∧a≤9223372036854775807) (hb:-9223372036854775808≤b∧b≤9223372036854775807) (h:∀ k,k<64→aA a (2 ^ k)=aA b (2 ^ k)):a=b:=by
 have e:BitVec.ofInt 64 a=BitVec.ofInt 64 b:=by
  apply BitVec.eq_of_getLsbD_eq
  intro j hj
  rw[iQ a j hj,iQ b j hj,h j hj]
 have ea:(BitVec.ofInt 64 a).toInt=a:=by rw[BitVec.toInt_ofInt,Int.bmod_def];split <;> omega
 have eb:(BitVec.ofInt 64 b).toInt=b:=by rw[BitVec.toInt_ofInt,Int.bmod_def];split <;> omega
 rw[←ea,←eb,e]
theorem kI (k:Nat):aA 0 (2 ^ k)=false:=by
 unfold aA
 rw[Int.zero_ediv]
 rfl
theorem Ih (n m:Int) (ks:List Nat) (hk:∀ k∈ks,k<64) (hm:∀ j,j<64→aA m (2 ^ j)=decide (j∈ks)):(bits .and .i64 n m==0)=ks.all (fun k=>!aA n (2 ^ k)):=by
 rw[Bool.eq_iff_iff,beq_iff_eq,List.all_eq_true]
 constructor
 ·intro h k hkk
  have h1:=ic n m k (hk k hkk)
  rw[h,kI,hm k (hk k hkk),decide_eq_true hkk,Bool.and_true] at h1
  rw[←h1]
  rfl
 ·intro h
  refine yJ (AY n m) ⟨by decide,by decide⟩ (fun j hj=>?_)
  rw[ic n m j hj,hm j hj,kI]
  by_cases hjk:j∈ks
  ·have:=h j hjk
   simp at this
   rw[this]
   rfl
  ·rw[decide_eq_false hjk,Bool.and_false]
theorem m48:∀ j,j<64→aA 48 (2 ^ j)=decide (j∈[4,5]):=by decide
theorem m7:∀ j,j<64→aA 7 (2 ^ j)=decide (j∈[0,1,2]):=by decide
theorem abJ:∀ j,j<64→aA 240 (2 ^ j)=decide (j∈[4,5,6,7]):=by decide
theorem abK:∀ j,j<64→aA 448 (2 ^ j)=decide (j∈[6,7,8]):=by decide
theorem YQ:∀ j,j<64→aA 247 (2 ^ j)=decide (j<8∧j≠3):=by decide
theorem YR:∀ j,j<64→aA 255 (2 ^ j)=decide (j<8):=by decide
theorem abL (n:Int):(bits .and .i64 n 48==0)=(!aA n 16 && !aA n 32):=by
 rw[Ih n 48 [4,5] (by decide) m48]
 simp
theorem and7 (n:Int):(bits .and .i64 n 7==0)=(!aA n 1 && (!aA n 2 && !aA n 4)):=by
 rw[Ih n 7 [0,1,2] (by decide) m7]
 simp
theorem ji (n f:Int) (k:Nat) (hf:f=2 ^ k) (hk:k<63):(bits .and .i64 n f==0)=!aA n f:=by
 subst hf
 have hb:=ic n (2 ^ k) k (by omega)
 have hs:aA (2 ^ k) (2 ^ k)=true:=by
  unfold aA
  rw[Int.ediv_self (by have:=Nat.pow_pos (n:=k) (show 0<2 by decide);have e:(2:Int) ^ k=((2 ^ k:Nat):Int):=(by simp);omega)]
  rfl
 rw[hs,Bool.and_true] at hb
 cases h:aA n (2 ^ k) with
 | true=>
  rw[h] at hb
  rw[Bool.not_true,beq_eq_false_iff_ne]
  intro e
  rw[e,kI] at hb
  cases hb
 | false=>
  rw[Bool.not_false,beq_iff_eq]
  refine yJ (AY n _) ⟨by decide,by decide⟩ (fun j hj=>?_)
  rw[ic n _ j hj,kI]
  by_cases e:j=k
  ·subst e
   rw[h]
   rfl
  ·have e2:aA (2 ^ k) (2 ^ j)=false:=by
    rw[←iQ _ j hj]
    have hv:BitVec.ofInt 64 (2 ^ k)=BitVec.twoPow 64 k:=by
     apply BitVec.eq_of_toNat_eq
     have hp:(2:Int) ^ k<2 ^ 63:=by
      have h:=Nat.pow_lt_pow_right (a:=2) (by decide) hk
      exact_mod_cast h
     have hp0:(0:Int)<2 ^ k:=by
      have h:=Nat.pow_pos (n:=k) (show 0<2 by decide)
      exact_mod_cast h
     rw[tT,BitVec.toNat_twoPow]
     have:((2:Int) ^ k % 18446744073709551616)=2 ^ k:=Int.emod_eq_of_lt (by omega) (by omega)
     rw[this]
     have h2:((2:Int) ^ k).toNat=2 ^ k:=by
      have:(2:Int) ^ k=((2 ^ k:Nat):Int):=by simp
      rw[this,Int.toNat_natCast]
     rw[h2,Nat.mod_eq_of_lt (Nat.pow_lt_pow_right (by decide) (by omega))]
    rw[hv,BitVec.getLsbD_twoPow]
    simp
    omega
   rw[e2,Bool.and_false]
def zg (n:Int):Int:=(if aA n 16=true then 16 else 0)+(if aA n 32=true then 32 else 0)+(if aA n 64=true then 64 else 0)+(if aA n 128=true then 128 else 0)
theorem RI (n:Int):bits .and .i64 n 240=zg n:=by
 unfold zg
 have e:∀ j,j<64→j∉[4,5,6,7]→aA (bits .and .i64 n 240) (2 ^ j)=false:=fun j hj hn=>by rw[ic n 240 j hj,abJ j hj,decide_eq_false hn,Bool.and_false]
 have e4:=ic n 240 4 (by decide)
 have e5:=ic n 240 5 (by decide)
 have e6:=ic n 240 6 (by decide)
 have e7:=ic n 240 7 (by decide)
 rw[abJ _ (by decide)] at e4 e5 e6 e7
 have i:=AY n 240
 generalize bits .and .i64 n 240=v at *
 have f4:aA v (2 ^ 4)=aA n 16:=by simpa using e4
 have f5:aA v (2 ^ 5)=aA n 32:=by simpa using e5
 have f6:aA v (2 ^ 6)=aA n 64:=by simpa using e6
 have f7:aA v (2 ^ 7)=aA n 128:=by simpa using e7
 clear e4 e5 e6 e7
 have D:∀ (b4 b5 b6 b7:Bool) (j:Nat),j<64→aA ((if b4=true then 16 else 0)+(if b5=true then 32 else 0)+(if b6=true then 64 else 0)+(if b7=true then 128 else 0)) (2 ^ j)=(j==4 && b4 || (j==5 && b5 || (j==6 && b6 || j==7 && b7))):=by decide
 refine yJ i ?_ (fun j hj=>?_)
 ·cases aA n 16 <;> cases aA n 32 <;> cases aA n 64 <;> cases aA n 128 <;> exact ⟨by decide,by decide⟩
 ·rw[D _ _ _ _ j hj]
  by_cases j4:j=4
  ·subst j4;rw[f4];simp
  by_cases j5:j=5
  ·subst j5;rw[f5];simp
  by_cases j6:j=6
  ·subst j6;rw[f6];simp
  by_cases j7:j=7
  ·subst j7;rw[f7];simp
  rw[e j hj (by simp;omega)]
  simp[j4,j5,j6,j7]
theorem YS (n:Int):bits .and .i64 n 448=Dn n:=by
 unfold Dn
 have e:∀ j,j<64→j∉[6,7,8]→aA (bits .and .i64 n 448) (2 ^ j)=false:=fun j hj hn=>by rw[ic n 448 j hj,abK j hj,decide_eq_false hn,Bool.and_false]
 have e6:=ic n 448 6 (by decide)
 have e7:=ic n 448 7 (by decide)
 have e8:=ic n 448 8 (by decide)
 rw[abK _ (by decide)] at e6 e7 e8
 have i:=AY n 448
 generalize bits .and .i64 n 448=v at *
 have f6:aA v (2 ^ 6)=aA n 64:=by simpa using e6
 have f7:aA v (2 ^ 7)=aA n 128:=by simpa using e7
 have f8:aA v (2 ^ 8)=aA n 256:=by simpa using e8
 clear e6 e7 e8
 have D:∀ (b6 b7 b8:Bool) (j:Nat),j<64→aA ((if b6=true then 64 else 0)+(if b7=true then 128 else 0)+(if b8=true then 256 else 0)) (2 ^ j)=(j==6 && b6 || (j==7 && b7 || j==8 && b8)):=by decide
 refine yJ i ?_ (fun j hj=>?_)
 ·cases aA n 64 <;> cases aA n 128 <;> cases aA n 256 <;> exact ⟨by decide,by decide⟩
 ·rw[D _ _ _ j hj]
  by_cases j6:j=6
  ·subst j6;rw[f6];simp
  by_cases j7:j=7
  ·subst j7;rw[f7];simp
  by_cases j8:j=8
  ·subst j8;rw[f8];simp
  rw[e j hj (by simp;omega)]
  simp[j6,j7,j8]
theorem Ox (n:Int) (h:-9223372036854775808≤n∧n≤9223372036854775807):(bits .andNot .i64 n 247==0)=decide (0≤n∧n<256∧aA n 8=false):=by
 rw[Bool.eq_iff_iff,beq_iff_eq,decide_eq_true_iff]
 have hl:=uV n h.1 h.2 8 (by decide) 255 YR
 constructor
 ·intro e
  have hb:∀ j,j<64→(aA n (2 ^ j) && !aA 247 (2 ^ j))=false:=fun j hj=>by rw[←lC n 247 j hj,e,kI]
  have e2:bits .andNot .i64 n 255=0:=yJ (mJ n 255) ⟨by decide,by decide⟩ (fun j hj=>by
   rw[lC n 255 j hj,kI,YR j hj]
   have:=hb j hj
   rw[YQ j hj] at this
   by_cases j8:j<8
   ·simp[j8]
   ·simpa[j8] using this)
  have h3:=hb 3 (by decide)
  have h4:=hl.1 e2
  exact ⟨h4.1,h4.2,by rw[YQ 3 (by decide)] at h3;simpa using h3⟩
 ·rintro ⟨h0,h1,h3⟩
  have e2:=hl.2 ⟨h0,h1⟩
  refine yJ (mJ n 247) ⟨by decide,by decide⟩ (fun j hj=>?_)
  have h5:=lC n 255 j hj
  rw[e2,kI,YR j hj] at h5
  rw[lC n 247 j hj,kI,YQ j hj]
  by_cases j3:j=3
  ·subst j3
   rw[show aA n (2 ^ 3)=false from h3]
   rfl
  ·simpa[j3] using h5.symm
theorem AZ (n:Int) (h:-9223372036854775808≤n∧n≤9223372036854775807):(bits .andNot .i64 n 15==0)=decide (0≤n∧n<16):=by
 have:=uV n h.1 h.2 4 (by decide) 15 abv
 rw[Bool.eq_iff_iff,beq_iff_eq,decide_eq_true_iff]
 exact this
theorem m16:∀ j,j<64→aA 16 (2 ^ j)=decide (j=4):=by decide
theorem Ii (n:Int) (h:-9223372036854775808≤n∧n≤9223372036854775807):bits .andNot .i64 n 16=if aA n 16=true then n-16 else n:=by
 cases hb:aA n 16 with
 | false=>
  rw[if_neg (by decide)]
  refine yJ (mJ n 16) h (fun j hj=>?_)
  rw[lC n 16 j hj,m16 j hj]
  by_cases j4:j=4
  ·subst j4
   rw[show aA n (2 ^ 4)=false from hb]
   rfl
  ·simp[j4]
 | true=>
  rw[if_pos rfl]
  have hi:=mJ n 16
  have h4:=lC n 16 4 (by decide)
  rw[m16 4 (by decide),show aA n (2 ^ 4)=true from hb] at h4
  rw[qz] at hi h4 ⊢
  have hx:BitVec.ofInt 64 n=(BitVec.ofInt 64 n &&& ~~~ BitVec.ofInt 64 16)+BitVec.ofInt 64 16:=by
   rw[BitVec.add_eq_or_of_and_eq_zero]
   ·apply BitVec.eq_of_getLsbD_eq
    intro j hj
    rw[BitVec.getLsbD_or,BitVec.getLsbD_and,BitVec.getLsbD_not,iQ n j hj,iQ 16 j hj,m16 j hj]
    by_cases j4:j=4
    ·subst j4
     rw[show aA n (2 ^ 4)=true from hb]
     rfl
    ·simp[j4,hj]
   ·apply BitVec.eq_of_getLsbD_eq
    intro j hj
    rw[BitVec.getLsbD_and,BitVec.getLsbD_and,BitVec.getLsbD_not]
    cases (BitVec.ofInt 64 16).getLsbD j <;> simp
  have hn:(BitVec.ofInt 64 n).toInt=n:=by rw[BitVec.toInt_ofInt,Int.bmod_def];split <;> omega
  have e2:=congrArg BitVec.toInt hx
  rw[BitVec.toInt_add,hn] at e2
  generalize (BitVec.ofInt 64 n &&& ~~~ BitVec.ofInt 64 16).toInt=r at *
  rw[show (BitVec.ofInt 64 16).toInt=16 from rfl,Int.bmod_def] at e2
  unfold aA at h4
  simp at h4
  split at e2 <;> omega
theorem RN (a b:Int):aA (bits .and .i64 a b) 1=(aA a 1 && aA b 1):=ic a b 0 (by decide)
theorem RU (a b:Int):aA (bits .and .i64 a b) 2=(aA a 2 && aA b 2):=ic a b 1 (by decide)
theorem Ij (a b:Int):aA (bits .and .i64 a b) 4=(aA a 4 && aA b 4):=ic a b 2 (by decide)
end Go.Proofs.YtpibgolaaaemnaaGreatDoor
namespace Go.Proofs.YtpibgolaaaemnaaGreatDoor
open Go.RowKit
set_option maxRecDepth 100000
def gK (tag:UInt8) (zs:List UInt8):List UInt8:=(if zs.length<128 then [tag] else [tag]++[129])++[UInt8.ofNat zs.length]++zs
theorem xg {tag:UInt8} {zs:List UInt8} (h:zs.length≤255):gK tag zs=Box.box tag zs:=by
 unfold gK
 rw[Box.box,Box.head]
 by_cases h1:zs.length<128
 ·rw[if_pos h1,if_pos h1];rfl
 ·rw[if_neg h1,if_neg h1,if_pos (by omega)];rfl
theorem kM (tag:UInt8) (zs:List UInt8):(gK tag zs).length≤zs.length+3:=by
 unfold gK
 split <;> (simp;try omega)
set_option maxHeartbeats 1000000 in
theorem TT (tag:UInt8) (zs:List UInt8) (n:Nat) (ao:Option Addr) (cap:Nat) (w:World) (hn:Hid (zs.length=n)) (hl:n≤100000) (hnc:Hid (ao=none→cap=0)) (hz:At w ao zs) :
  Calls Tryz.prog 29 #[.int .u8 (tag.toNat:Int),.slice ao n cap] w fun e w'=>∃ o,e = .returned o∧w'.ownsRow w.heap.size 5 1 o (gK tag zs).length ((gK tag zs).map U8)∧w.grownBy w' none:=by
 obtain ⟨i0,hif,hz0,hz1,hz2⟩:=info_parts Tryz.info5
 have hown0:=Vs w 5 tag
 have G0:w.grownBy (w.alloc (.cells #[.int .u8 (tag.toNat:Int)] 5)) none:=World.grownBy_alloc w _ none
 by_cases h1:n<128
 ·have h1':¬ (127:Int)<(n:Int):=by omega
  have HL:Hid (gK tag zs=[tag]++[UInt8.ofNat n]++zs):=by show _=_;unfold gK;rw[hn.out,if_pos h1]
  go_enter Tryz.func29,Tryz.ntmps29
  go_wp2_with (at_builtin;refine bX _ rfl _ _ 25 rfl w.heap.size 5 i0 Tryz.underlying25 hif hz0 hz1 hz2 _ _ _ rfl (hown0.alloc _) (some ⟨w.heap.size+1,0,none⟩) 1 1 [UInt8.ofNat n] rfl rfl ?c1 ?c2 ?c3 ?c4 ?_)
  case c2=>exact zZ w _ _ _ _ (by simp only[List.map_cons,List.map_nil,U8,UInt8.toNat_ofNat'];rw[Nat.mod_eq_of_lt (by omega)])
  case c4=>first | omega|(simp;omega)
  intro v1 w1 hown1 hg1 _
  have G1:w.grownBy w1 none:=oD (aC G0 _) hg1 (fun i hi=>(hown0.lt i hi).1)
  have hz1':=hz.below G1
  have hsz1:=G1.size
  clear hown0 hg1 G0
  go_wp2_with (at_builtin;refine bX _ rfl _ _ 25 rfl w.heap.size 5 i0 Tryz.underlying25 hif hz0 hz1 hz2 v1 (1+1) ([tag]++[UInt8.ofNat n]) rfl (by simpa using hown1) ao n cap zs rfl hn.out hnc.out hz1' (by omega) hsz1 ?_)
  intro v2 w2 hown2 hg2 _
  have G2:w.grownBy w2 none:=oD G1 hg2 (fun i hi=>(hown1.lt i hi).1)
  have R:w2.ownsRow w.heap.size 5 1 v2 (gK tag zs).length ((gK tag zs).map U8):=by
   rw[HL.out,List.length_append,hn.out]
   simpa using hown2
  clear hown1 hown2 hg2 G1
  go_wp2
  go_ret
  exact ⟨_,rfl,R,G2⟩
 ·have h1':(127:Int)<(n:Int):=by omega
  have HL:Hid (gK tag zs=[tag]++[129]++[UInt8.ofNat n]++zs):=by show _=_;unfold gK;rw[hn.out,if_neg h1]
  go_enter Tryz.func29,Tryz.ntmps29
  go_wp2_with (at_builtin;refine bX _ rfl _ _ 25 rfl w.heap.size 5 i0 Tryz.underlying25 hif hz0 hz1 hz2 _ _ _ rfl (hown0.alloc _) (some ⟨w.heap.size+1,0,none⟩) 1 1 [129] rfl rfl ?d1 ?d2 ?d3 ?d4 ?_)
  case d1=>intro h;cases h
  case d3=>omega
  case d2=>exact zZ w _ _ _ _ rfl
  case d4=>first | omega|(simp;omega)
  intro v1 w1 hown1 hg1 _
  have G1:w.grownBy w1 none:=oD (aC G0 _) hg1 (fun i hi=>(hown0.lt i hi).1)
  have hsz1:=G1.size
  clear hown0 hg1 G0
  go_wp2_with (at_builtin;refine bX _ rfl _ _ 25 rfl w.heap.size 5 i0 Tryz.underlying25 hif hz0 hz1 hz2 v1 (1+1) ([tag]++[129]) rfl (by simpa using hown1.alloc _) (some ⟨w1.heap.size,0,none⟩) 1 1 [UInt8.ofNat n] rfl rfl ?f1 ?f2 ?f3 ?f4 ?_)
  case f1=>intro h;cases h
  case f3=>omega
  case f2=>exact eQ w1 _ _ _ (by simp only[List.map_cons,List.map_nil,U8,UInt8.toNat_ofNat'];rw[Int.natCast_emod];rfl)
  case f4=>first | omega|(simp;omega)
  intro v2 w2 hown2 hg2 _
  have G2:w.grownBy w2 none:=oD (aC G1 _) hg2 (fun i hi=>(hown1.lt i hi).1)
  have hz2':=hz.below G2
  have hsz2:=G2.size
  clear hown1 hg2 G1
  go_wp2_with (at_builtin;refine bX _ rfl _ _ 25 rfl w.heap.size 5 i0 Tryz.underlying25 hif hz0 hz1 hz2 v2 (1+1+1) ([tag]++[129]++[UInt8.ofNat n]) rfl (by simpa using hown2) ao n cap zs rfl hn.out hnc.out hz2' (by omega) hsz2 ?_)
  intro v3 w3 hown3 hg3 _
  have G3:w.grownBy w3 none:=oD G2 hg3 (fun i hi=>(hown2.lt i hi).1)
  have R:w3.ownsRow w.heap.size 5 1 v3 (gK tag zs).length ((gK tag zs).map U8):=by
   rw[HL.out,List.length_append,hn.out]
   simpa using hown3
  clear hown2 hown3 hg3 G2
  go_wp2
  go_ret
  exact ⟨_,rfl,R,G3⟩
theorem Jj (tag:UInt8) (zs:List UInt8) (n:Nat) (ao:Option Addr) (cap:Nat) (w:World) (hn:Hid (zs.length=n)) (hl:n≤255) (hnc:Hid (ao=none→cap=0)) (hz:At w ao zs) :
  Calls Tryz.prog 29 #[.int .u8 (tag.toNat:Int),.slice ao n cap] w fun e w'=>∃ o,e = .returned o∧w'.ownsRow w.heap.size 5 1 o (Box.box tag zs).length ((Box.box tag zs).map U8)∧w.grownBy w' none:=by
 rw[←xg (by rw[hn.out];exact hl)]
 exact TT tag zs n ao cap w hn (by omega) hnc hz
set_option maxHeartbeats 1000000 in
theorem TU (zs:List UInt8) (n:Nat) (ao:Option Addr) (cap:Nat) (w:World) (hn:Hid (zs.length=n)) (hl:n≤100000) (hnc:Hid (ao=none→cap=0)) (hz:At w ao zs) :
  Calls Tryz.prog 36 #[.slice ao n cap] w fun e w'=>∃ o,e = .returned o∧w'.ownsRow w.heap.size 5 1 o (gK 4 zs).length ((gK 4 zs).map U8)∧w.grownBy w' none:=by
 have hB:=TT 4 zs n ao cap w hn hl hnc hz
 go_enter Tryz.func36,Tryz.ntmps36
 go_wp2_with fail
 refine hB.mono ?_
 rintro e w1 ⟨o,rfl,hown,hg⟩
 clear hB
 go_wp2
 go_ret
 exact ⟨_,rfl,hown,hg⟩
theorem Py (zs:List UInt8) (n:Nat) (ao:Option Addr) (cap:Nat) (w:World) (hn:Hid (zs.length=n)) (hl:n≤255) (hnc:Hid (ao=none→cap=0)) (hz:At w ao zs) :
  Calls Tryz.prog 36 #[.slice ao n cap] w fun e w'=>∃ o,e = .returned o∧w'.ownsRow w.heap.size 5 1 o (Box.box 4 zs).length ((Box.box 4 zs).map U8)∧w.grownBy w' none:=by
 rw[←xg (by rw[hn.out];exact hl)]
 exact TU zs n ao cap w hn (by omega) hnc hz
end Go.Proofs.YtpibgolaaaemnaaGreatDoor
namespace Go.Proofs.YtpibgolaaaemnaaGreatDoor
open Go.RowKit
set_option maxRecDepth 100000
theorem LW {v:Int} (h0:-9223372036854775808≤v) (h1:v≤9223372036854775807) (h:127<v∨v < -128):Box.size v=Box.size (v / 256)+1:=by
 unfold Box.size
 (repeat' split) <;> omega
theorem LX {v:Int} (h:¬ (127<v)) (h':¬ (v < -128)):Box.size v=1:=by
 unfold Box.size
 rw[if_pos (by omega)]
set_option maxHeartbeats 1000000 in
theorem Jk (v:Int) (w:World) (h0:-9223372036854775808≤v) (h1:v≤9223372036854775807) :
  Calls Tryz.prog 16 #[.int .i64 v] w fun e w'=>∃ o,e = .returned o∧w'.ownsRow w.heap.size 5 1 o (Box.box 2 (Box.low v (Box.size v))).length ((Box.box 2 (Box.low v (Box.size v))).map U8)∧w.grownBy w' none:=by
 obtain ⟨i0,hif,hz0,hz1,hz2⟩:=info_parts Tryz.info5
 go_enter Tryz.func16,Tryz.ntmps16
 go_wp2
 go_loop [3,4] (fun n m=>∃ (k:Nat) (x:Int),1≤k∧n = .int .i64 k∧m = .int .i64 x∧-9223372036854775808≤x∧x≤9223372036854775807∧Hid (Box.size v+1=k+Box.size x)∧k≤8) (fun n _=>9-(intOf n).toNat)
 case atStart=>exact ⟨1,v,by omega,rfl,rfl,h0,h1,by show _=_;omega,by omega⟩
 case round=>
  obtain ⟨k,x,hk1,rfl,rfl,hx0,hx1,HS,hk8⟩:=hrel
  by_cases hg:127<x∨x < -128
  ·have hsz:=LW hx0 hx1 hg
   have hb:=(iJ (x / 256)).1
   have WA:=(iJ v).2
   have hk9:k<8:=by have:=HS.out;omega
   have HS2:Hid (Box.size v+1=k+1+Box.size (x / 256)):=by show _=_;have:=HS.out;omega
   clear hsz hb WA HS
   by_cases hg1:127<x
   ·go_wp2
    go_round
    case rel=>exact ⟨k+1,x / 256,by omega,by go_num,by go_num,by omega,by omega,HS2,by omega⟩
    case measure=>simp[intOf];omega
   ·have hg2:x < -128:=by omega
    go_wp2
    go_round
    case rel=>exact ⟨k+1,x / 256,by omega,by go_num,by go_num,by omega,by omega,HS2,by omega⟩
    case measure=>simp[intOf];omega
  ·have hg1:¬ 127<x:=by omega
   have hg2:¬ x < -128:=by omega
   have HK:Hid (Box.size v=k):=by show _=_;have:=LX hg1 hg2;have:=HS.out;omega
   clear HS hg
   rw[HK.out]
   go_wp2
   go_loopw [5,6] (fun o i wr=>∃ j:Nat,j≤k∧i = .int .i64 ((k:Int)-1-j)∧wr.ownsRow w.heap.size 5 1 o j ((Box.nW v k j).map U8)∧w.grownBy wr none) (fun _ i _=>(intOf i+1).toNat)
   case atStart=>exact ⟨0,by omega,by go_num,World.ownsRow_nil _ _ _ _,World.grownBy.refl _ _⟩
   case round=>
    obtain ⟨j,hj,rfl,hown,hgr⟩:=hrel
    have hsz:=hgr.size
    by_cases hlt:j<k
    ·go_wp2_with (at_builtin;refine bX _ rfl _ _ 25 rfl w.heap.size 5 i0 Tryz.underlying25 hif hz0 hz1 hz2 _ _ _ rfl (hown.alloc _) (some ⟨wr.heap.size,0,none⟩) 1 1 [Box.iC v (k-1-j)] rfl rfl ?a1 ?a2 ?a3 ?a4 ?_)
     case a1=>intro h;cases h
     case a2=>exact eQ wr _ _ _ (by simp only[List.map_cons,List.map_nil,U8];rw[NS])
     case a3=>omega
     case a4=>simp;omega
     intro v1 w1 hown1 hg1' _
     have R:w1.ownsRow w.heap.size 5 1 v1 (j+1) ((Box.nW v k (j+1)).map U8)∧w.grownBy w1 none:=by
      refine ⟨?_,oD (aC hgr _) hg1' (fun i hi=>(hown.lt i hi).1)⟩
      rw[Box.nW]
      simpa using hown1
     clear hown hown1 hg1' hgr
     go_wp2
     go_roundw
     case rel=>exact ⟨j+1,by omega,by go_num,R.1,R.2⟩
     case measure=>simp[intOf];omega
    ·have hjk:j=k:=by omega
     subst hjk
     obtain ⟨a3,c3,rfl,_,_,hnc,Cu⟩:=qi hown
     go_wp2_with fail
     refine (Jj 2 (Box.low v j) j a3 c3 _ (Box.je v j) (by omega) hnc Cu).mono ?_
     rintro e w2 ⟨o,rfl,hown2,acL⟩
     have G2:=ae hgr acL
     have R2:w2.ownsRow w.heap.size 5 1 o (Box.box 2 (Box.low v j)).length ((Box.box 2 (Box.low v j)).map U8):=Gr hown2 hsz
     clear hown hown2 acL hgr
     go_wp2
     go_ret
     exact ⟨_,rfl,by rw[HK.out];exact R2,G2⟩
end Go.Proofs.YtpibgolaaaemnaaGreatDoor
namespace Go.Proofs.YtpibgolaaaemnaaGreatDoor
open Go.RowKit
set_option maxRecDepth 100000
abbrev Ya:=Option Addr×Nat×List UInt8
def vD (w:World) (ao:Option Addr) (l:List Ya):Prop:=
 ∀ j,(hj:j<l.length)→∃ b,ao=some ⟨b,0,none⟩∧w.cell? ⟨b,j,none⟩=some (.slice (l[j]).1 (l[j]).2.2.length (l[j]).2.1)∧At w (l[j]).1 (l[j]).2.2∧((l[j]).1=none→(l[j]).2.1=0)
def lY (l:List Ya):List UInt8:=(l.map fun x=>x.2.2).flatten
theorem D9 (l:List Ya) (k:Nat) (h:k<l.length):lY (l.take (k+1))=lY (l.take k)++(l[k]).2.2:=by
 unfold lY
 rw[List.take_succ_eq_append_getElem h,List.map_append,List.flatten_append]
 simp only[List.map_cons,List.map_nil,List.flatten_cons,List.flatten_nil,List.append_nil]
theorem WQ (l:List Ya) (k:Nat):(lY (l.take k)).length≤(lY l).length:=by
 conv=>rhs;rw[←List.take_append_drop k l]
 unfold lY
 rw[List.map_append,List.flatten_append,List.length_append]
 omega
theorem vD.grown {w w':World} {ao:Option Addr} {l:List Ya} (h:vD w ao l) (k:w.grownBy w' none):vD w' ao l:=by
 intro j hj
 obtain ⟨b,h0,h1,h2,h3⟩:=h j hj
 exact ⟨b,h0,k.cell h1 (by simp),h2.below k,h3⟩
set_option maxHeartbeats 1000000 in
theorem LY (ao:Option Addr) (cap m:Nat) (l:List Ya) (w:World) (hm:Hid (l.length=m)) (Ch:m≤1000) (hl:(lY l).length≤100000) (hi:vD w ao l) :
  Calls Tryz.prog 15 #[.slice ao m cap] w fun e w'=>∃ o,e = .returned o∧w'.ownsRow w.heap.size 5 1 o (gK 48 (lY l)).length ((gK 48 (lY l)).map U8)∧w.grownBy w' none:=by
 obtain ⟨i0,hif,hz0,hz1,hz2⟩:=info_parts Tryz.info5
 go_enter Tryz.func15,Tryz.ntmps15
 go_wp2
 go_loopw [3,4] (fun o i wr=>∃ k:Nat,k≤m∧i = .int .i64 k∧wr.ownsRow w.heap.size 5 1 o (lY (l.take k)).length ((lY (l.take k)).map U8)∧w.grownBy wr none) (fun _ i _=>m-(intOf i).toNat)
 case atStart=>exact ⟨0,by omega,rfl,World.ownsRow_nil _ _ _ _,World.grownBy.refl _ _⟩
 case round=>
  obtain ⟨k,hk,rfl,hown,hgr⟩:=hrel
  have hsz:=hgr.size
  by_cases hlt:k<m
  ·have hlt':k<l.length:=by rw[hm.out];exact hlt
   obtain ⟨b,rfl,hc,hat,hnc⟩:=(hi.grown hgr) k hlt'
   have hle:=WQ l (k+1)
   rw[D9 l k hlt',List.length_append] at hle
   have hbd:(lY (l.take k)).length+((l[k]).2.2).length≤140737488355328:=by omega
   have HN:Hid ((l[k]).1=none→(l[k]).2.1=0):=hnc
   clear hnc hle hi
   go_wp2_with (at_builtin;refine bX _ rfl _ _ 25 rfl w.heap.size 5 i0 Tryz.underlying25 hif hz0 hz1 hz2 _ _ _ rfl hown _ _ _ ((l[k]).2.2) rfl rfl HN.out hat hbd hsz ?_)
   intro v' w1 hown' hg1 _
   have R:w1.ownsRow w.heap.size 5 1 v' (lY (l.take (k+1))).length ((lY (l.take (k+1))).map U8)∧w.grownBy w1 none:=⟨by rw[D9 l k hlt',List.length_append,List.map_append];exact hown',oD hgr hg1 (fun i hi=>(hown.lt i hi).1)⟩
   clear hown hown' hg1 hgr hat hbd HN hc
   go_wp2
   go_roundw
   case rel=>exact ⟨k+1,by omega,by go_num,R.1,R.2⟩
   case measure=>simp[intOf];omega
  ·have Ou:k=m:=by omega
   subst Ou
   clear hi
   have rT:¬ (k:Int)<(k:Int):=by omega
   have hown2:=hown
   rw[List.take_of_length_le (by rw[hm.out];omega)] at hown2
   obtain ⟨a3,c3,rfl,_,_,hnc,Cu⟩:=qi hown2
   have HE:Hid (lY (l.take k)=lY l):=by show _=_;rw[List.take_of_length_le (by rw[hm.out];omega)]
   clear hown
   have hB:=TT 48 (lY l) (lY l).length a3 c3 wr (hid rfl) hl hnc Cu
   go_wp2_with fail
   refine hB.mono ?_
   rintro e w2 ⟨o,rfl,hown3,hg2⟩
   have G2:=ae hgr hg2
   have R2:=Gr hown3 hsz
   clear hown3 hg2 hgr hB hown2
   go_wp2
   go_ret
   exact ⟨_,rfl,R2,G2⟩
theorem Pz (ao:Option Addr) (cap m:Nat) (l:List Ya) (w:World) (hm:Hid (l.length=m)) (Ch:m≤1000) (hl:(lY l).length≤255) (hi:vD w ao l) :
  Calls Tryz.prog 15 #[.slice ao m cap] w fun e w'=>∃ o,e = .returned o∧w'.ownsRow w.heap.size 5 1 o (Box.box 48 (lY l)).length ((Box.box 48 (lY l)).map U8)∧w.grownBy w' none:=by
 rw[←xg hl]
 exact LY ao cap m l w hm Ch (by omega) hi
end Go.Proofs.YtpibgolaaaemnaaGreatDoor
