/-
  
  
-/
import Derived.Test.YtpibgolaaaemnaaGreatDoorGUBox
import Derived.Test.YtpibgolaaaemnaaGreatDoorGUBase
namespace Go.Proofs.YtpibgolaaaemnaaGreatDoor
theorem iJ (v:Int):1≤Box.size v∧Box.size v≤8:=by unfold Box.size;(repeat' split) <;> omega
end Go.Proofs.YtpibgolaaaemnaaGreatDoor
namespace Go.Proofs.YtpibgolaaaemnaaGreatDoor.Box
def head (tag:UInt8) (n:Nat):List UInt8:=
 if n<128 then [tag,UInt8.ofNat n] else if n<256 then [tag,129,UInt8.ofNat n] else [tag,130,UInt8.ofNat (n / 256),UInt8.ofNat (n % 256)]
def box (tag:UInt8) (l:List UInt8):List UInt8:=head tag l.length++l
theorem lS (tag:UInt8) (n:Nat):(head tag n).length=if n<128 then 2 else if n<256 then 3 else 4:=by
 unfold head
 split
 ·rfl
 ·split <;> rfl
def iC (v:Int) (i:Nat):UInt8:=UInt8.ofNat (v / 2 ^ (8*i) % 256).toNat
def nW (v:Int) (k:Nat):Nat→List UInt8
 | 0=>[]
 | j+1=>nW v k j++[iC v (k-1-j)]
def low (v:Int) (k:Nat):List UInt8:=nW v k k
theorem Ew (v:Int) (k j:Nat):(nW v k j).length=j:=by
 induction j with
 | zero=>rfl
 | succ j ih=>simp[nW,ih]
theorem je (v:Int) (k:Nat):(low v k).length=k:=Ew v k k
theorem Kg (x:Int) (b:UInt8):iC (x*256+(b.toNat:Int)) 0=b:=by
 have:=b.toNat_lt
 unfold iC
 rw[Nat.mul_zero,Int.pow_zero,Int.ediv_one,show (x*256+(b.toNat:Int)) % 256=(b.toNat:Int) from by omega,Int.toNat_natCast]
 simp
theorem Kh (x:Int) (b:UInt8) (i:Nat):iC (x*256+(b.toNat:Int)) (i+1)=iC x i:=by
 have:=b.toNat_lt
 unfold iC
 rw[show 8*(i+1)=8+8*i from by omega,Int.pow_add,show (2:Int) ^ 8=256 from by decide,←Int.ediv_ediv_of_nonneg (by decide),show (x*256+(b.toNat:Int)) / 256=x from by omega]
theorem Ki (x:Int) (b:UInt8) (k j:Nat) (h:j≤k):nW (x*256+(b.toNat:Int)) (k+1) j=nW x k j:=by
 induction j with
 | zero=>rfl
 | succ j ih=>rw[nW,nW,ih (by omega),show k+1-1-j=(k-1-j)+1 from by omega,Kh]
theorem QN (x:Int) (b:UInt8) (k:Nat):low (x*256+(b.toNat:Int)) (k+1)=low x k++[b]:=by
 unfold low
 rw[nW,Ki x b k k (Nat.le_refl _),show k+1-1-k=0 from by omega,Kg]
theorem jf (tag:UInt8) (l:List UInt8):(box tag l).length=l.length+(if l.length<128 then 2 else if l.length<256 then 3 else 4):=by
 rw[box,List.length_append,lS]
 omega
def lead (l:List UInt8):Nat×Nat:=
 if (l.getD 1 0).toNat=129∧2<l.length then ((l.getD 2 0).toNat,3)
 else if (l.getD 1 0).toNat=130∧3<l.length then ((l.getD 2 0).toNat*256+(l.getD 3 0).toNat,4)
 else ((l.getD 1 0).toNat,2)
def again (l:List UInt8):Option (UInt8×List UInt8×List UInt8):=
 if 2≤l.length∧(lead l).2+(lead l).1≤l.length∧box (l.getD 0 0) ((l.drop (lead l).2).take (lead l).1)=l.take ((lead l).2+(lead l).1) then
  some (l.getD 0 0,(l.drop (lead l).2).take (lead l).1,l.drop ((lead l).2+(lead l).1))
 else none
def cuts:Nat→List UInt8→Option (List (UInt8×List UInt8))
 | 0,l=>if l.length=0 then some [] else none
 | n+1,l=>if l.length=0 then some [] else
  match cut l with
  | none=>none
  | some (t,i,r)=>(cuts n r).map ((t,i)::·)
theorem NR:∀ (n m:Nat) (l:List UInt8),l.length≤n→l.length≤m→cuts n l=cuts m l:=by
 intro n
 induction n with
 | zero=>
  intro m l h1 _
  have h0:l.length=0:=by omega
  cases m with
  | zero=>rfl
  | succ m=>simp[cuts,h0]
 | succ n ih=>
  intro m l h1 h2
  cases m with
  | zero=>
   have h0:l.length=0:=by omega
   simp[cuts,h0]
  | succ m=>
   by_cases h0:l.length=0
   ·simp[cuts,h0]
   ·simp only[cuts,if_neg h0]
    cases h:cut l with
    | none=>rfl
    | some tr=>
     obtain ⟨t,i,r⟩:=tr
     have:=fq h
     simp only
     rw[ih m r (by omega) (by omega)]
def eX (l:List UInt8):Option (List (UInt8×List UInt8)):=cuts l.length l
theorem xG {l:List UInt8} (h:l.length=0):eX l=some []:=by
 have:l=[]:=List.eq_nil_of_length_eq_zero h
 subst this
 rfl
theorem nA {l:List UInt8} (h0:0<l.length) (h:cut l=none):eX l=none:=by
 unfold eX
 obtain ⟨m,hm⟩:∃ m,l.length=m+1:=⟨l.length-1,by omega⟩
 rw[hm,cuts,if_neg (by omega),h]
theorem kV {l i r:List UInt8} {t:UInt8} (h:cut l=some (t,i,r)):eX l=(eX r).map ((t,i)::·):=by
 have hlt:=fq h
 unfold eX
 obtain ⟨m,hm⟩:∃ m,l.length=m+1:=⟨l.length-1,by omega⟩
 rw[hm,cuts,if_neg (by omega),h]
 simp only
 rw[NR m r.length r (by omega) (by omega)]
def wt:List (UInt8×List UInt8)→Nat
 | []=>0
 | p::ps=>p.2.length+2+wt ps
theorem QO:∀ (n:Nat) (l:List UInt8) (ps:List (UInt8×List UInt8)),l.length≤n→eX l=some ps→wt ps≤l.length:=by
 intro n
 induction n with
 | zero=>
  intro l ps h1 h
  rw[xG (by omega)] at h
  simp only[Option.some.injEq] at h
  subst h
  simp[wt]
 | succ n ih=>
  intro l ps h1 h
  by_cases h0:l.length=0
  ·rw[xG h0] at h
   simp only[Option.some.injEq] at h
   subst h
   simp[wt]
  ·cases hc:cut l with
   | none=>rw[nA (by omega) hc] at h;simp at h
   | some tr=>
    obtain ⟨t,i,r⟩:=tr
    have hl:=fq hc
    rw[kV hc] at h
    simp only[Option.map_eq_some_iff] at h
    obtain ⟨ps',h',rfl⟩:=h
    have:=ih r ps' (by omega) h'
    simp only[wt]
    omega
def jd:Nat→UInt8→List UInt8→Option (List UInt8)
 | 0,tag,i=>leaf tag i
 | d+1,tag,i=>piece (fun i=>ny (fo d) i) tag i
def tells (d:Nat):List (UInt8×List UInt8)→Option (List (List UInt8))
 | []=>some []
 | p::ps=>match jd d p.1 p.2 with
  | none=>none
  | some t=>(tells d ps).map (t::·)
theorem Gp (d:Nat) (l:List UInt8):fo d l=match cut l with
  | none=>none
  | some (tag,i,r)=>(jd d tag i).map (·,r):=by
 cases d with
 | zero=>rw[fo];rfl
 | succ d=>rw[fo];rfl
theorem Kj (d:Nat):∀ (n:Nat) (l:List UInt8),l.length≤n→ny (fo d) l=match eX l with
  | none=>none
  | some ps=>tells d ps:=by
 intro n
 induction n with
 | zero=>
  intro l h1
  have:l=[]:=List.eq_nil_of_length_eq_zero (by omega)
  subst this
  rfl
 | succ n ih=>
  intro l h1
  by_cases h0:l.length=0
  ·have:l=[]:=List.eq_nil_of_length_eq_zero h0
   subst this
   rfl
  ·have hs:=Gp d l
   cases hc:cut l with
   | none=>
    rw[hc] at hs
    rw[nA (by omega) hc,pF (by omega) hs]
   | some tr=>
    obtain ⟨t,i,r⟩:=tr
    have hl:=fq hc
    rw[hc] at hs
    simp only at hs
    rw[kV hc]
    cases hp:jd d t i with
    | none=>
     rw[hp] at hs
     rw[pF (by omega) hs]
     cases eX r with
     | none=>rfl
     | some ps=>simp[tells,hp]
    | some x=>
     rw[hp] at hs
     rw[tK (iy d) hs,ih r (by omega)]
     cases eX r with
     | none=>rfl
     | some ps=>simp[tells,hp]
theorem zY (d:Nat) (tag:UInt8) (i:List UInt8) (h:tag.toNat=48):jd (d+1) tag i=match eX i with
  | none=>none
  | some ps=>(tells d ps).map fun ts=>123::commas ts++[125]:=by
 rw[jd,piece,if_pos h,Kj d i.length i (Nat.le_refl _)]
 cases eX i with
 | none=>rfl
 | some ps=>rfl
theorem qw (d:Nat) (tag:UInt8) (i:List UInt8) (h:tag.toNat≠48):jd d tag i=leaf tag i:=by
 cases d with
 | zero=>rfl
 | succ d=>rw[jd,piece,if_neg h]
theorem Kk (tag:UInt8) (i:List UInt8) (h:tag.toNat=48):jd 0 tag i=none:=by
 rw[jd,leaf,if_neg (by omega),if_neg (by omega)]
theorem Ex {d:Nat} {ps:List (UInt8×List UInt8)}:∀ {ts:List (List UInt8)},tells d ps=some ts→ts.length=ps.length:=by
 induction ps with
 | nil=>intro ts h;simp only[tells,Option.some.injEq] at h;subst h;rfl
 | cons q ps ih=>
  intro ts h
  simp only[tells] at h
  cases hq:jd d q.1 q.2 with
  | none=>rw[hq] at h;simp at h
  | some t=>
   rw[hq] at h
   simp only[Option.map_eq_some_iff] at h
   obtain ⟨ts',h',rfl⟩:=h
   simp[ih h']
theorem Ey:∀ (d:Nat) (tag:UInt8) (i t:List UInt8),jd d tag i=some t→t.length≤22+22*i.length:=by
 intro d tag i t h
 by_cases h48:tag.toNat=48
 ·cases d with
  | zero=>rw[Kk tag i h48] at h;simp at h
  | succ d=>
   rw[jd,piece,if_pos h48] at h
   simp only[Option.map_eq_some_iff] at h
   obtain ⟨ts,h1,rfl⟩:=h
   have:=yA (iy d) (uR d) i.length i ts (Nat.le_refl _) h1
   simp
   omega
 ·rw[qw d tag i h48] at h
  have:=sj h
  omega
theorem Gq (l:List UInt8):whole l=match cut l with
  | some (tag,i,[])=>jd 8 tag i
  | _=>none:=by
 unfold whole
 rw[Gp]
 cases cut l with
 | none=>rfl
 | some tr=>
  obtain ⟨tag,i,r⟩:=tr
  cases r with
  | nil=>
   simp only
   cases jd 8 tag i with
   | none=>rfl
   | some t=>rfl
  | cons a r=>
   simp only
   cases jd 8 tag i with
   | none=>rfl
   | some t=>rfl
end Go.Proofs.YtpibgolaaaemnaaGreatDoor.Box
namespace Go.Proofs.YtpibgolaaaemnaaGreatDoor
open Go.RowKit
set_option maxRecDepth 100000
theorem Vs (w:World) (e:TypeId) (b:UInt8):(w.alloc (.cells #[.int .u8 (b.toNat:Int)] e)).ownsRow w.heap.size e 1 (.slice (some ⟨w.heap.size,0,none⟩) 1 1) 1 ([b].map U8):=by
 refine ⟨rfl,Or.inr ⟨w.heap.size,1,_,rfl,Nat.le_refl _,heap_alloc_new w _,Nat.le_refl _,by decide,rfl,rfl⟩⟩
theorem zZ (w:World) (o:Obj) (e:TypeId) (cs:Array Value) (bs:List UInt8) (h:cs.toList=bs.map U8):At ((w.alloc o).alloc (.cells cs e)) (some ⟨w.heap.size+1,0,none⟩) bs:=by
 have:=eQ (w.alloc o) e cs bs h
 rw[World.size_alloc] at this
 exact this
theorem QP (n:Nat) (h:n<256):IntKind.u8.wrap (n:Int)=((UInt8.ofNat n).toNat:Int):=by
 rw[UInt8.toNat_ofNat',Nat.mod_eq_of_lt (by omega)]
 simp[IntKind.wrap,IntKind.bits,IntKind.signed]
 omega
theorem NS (v:Int) (i:Nat):v / 2 ^ (8*i) % 256=((Box.iC v i).toNat:Int):=by
 unfold Box.iC
 generalize v / 2 ^ (8*i)=x
 rw[UInt8.toNat_ofNat',Nat.mod_eq_of_lt (by omega)]
 omega
theorem Gr {w:World} {base base':Nat} {e:TypeId} {size:Nat} {v:Value} {n:Nat} {xs:List Value} (h:w.ownsRow base e size v n xs) (hb:base'≤base):w.ownsRow base' e size v n xs:=by
 obtain ⟨h1,h2⟩:=h
 refine ⟨h1,?_⟩
 rcases h2 with h2 | ⟨g,c,cur,hv,hbg,hr⟩
 ·exact Or.inl h2
 ·exact Or.inr ⟨g,c,cur,hv,Nat.le_trans hb hbg,hr⟩
end Go.Proofs.YtpibgolaaaemnaaGreatDoor
namespace Go.Proofs.YtpibgolaaaemnaaGreatDoor
open Go.RowKit
set_option maxRecDepth 100000
def kX (z:UInt8):Bool:=decide ((97≤z.toNat∧z.toNat≤122)∨(48≤z.toNat∧z.toNat≤57)∨z.toNat=47)
def dH (l:List UInt8):Bool:=decide (1≤l.length∧l.length≤16) && l.all kX
theorem Cq {l:List UInt8} {k:Nat} (h:k<l.length):(l.take (k+1)).all kX=((l.take k).all kX && kX (l.getD k 0)):=by
 rw[List.take_succ_eq_append_getElem h,List.all_append]
 simp[List.getD,List.getElem?_eq_getElem h]
structure jJ where
 kind:Int
 name:List UInt8
 key:UInt64
 cO:Int
 aF:Int
 bU:Int
 ay:Int
abbrev jJ.cells (a:jJ):Array Value:=#[.int .i64 a.kind,.string ⟨a.name.toArray⟩,.int .u64 (a.key.toNat:Int),.int .i64 a.cO,.int .i64 a.aF,.int .i64 a.bU,.int .i64 a.ay]
def jJ.xC (a:jJ):Bool:=decide (0≤a.cO∧0≤a.aF∧0≤a.ay∧a.ay<64)
structure BE where
 name:List UInt8
 ag:Int
 key:UInt64
 before:UInt64
 cO:Int
 aF:Int
 bU:Int
 ay:Int
structure PF where
 af:List UInt8
 time:Int
 count:Int
 deriving DecidableEq
structure DM where
 ax:Int
 aH:List BE
 bK:List PF
 aV:List UInt8
def BE.lT (es:List BE) (l:List UInt8):Option Nat:=es.findIdx? (fun e=>e.name==l)
def BE.ins:List BE→List UInt8→Nat
 | [],_=>0
 | e::es,l=>if Op.bytesLess e.name l then BE.ins es l+1 else 0
def BE.new (a:jJ):BE:=⟨a.name,1,a.key,0,a.cO,a.aF,a.bU,a.ay⟩
def BE.tL (x:BE) (key:UInt64):BE:=⟨x.name,x.ag+1,key,x.key,x.cO,x.aF,x.bU,x.ay⟩
def BE.Gs (x:BE) (a:jJ):BE:=⟨x.name,x.ag,x.key,x.before,a.cO,a.aF,a.bU,a.ay⟩
def fU (es:List BE) (a:jJ):List BE×Int:=
 if a.kind=1 then
  (if dH a.name=false then (es,4) else if a.xC=false then (es,1) else if (BE.lT es a.name).isSome then (es,5) else if 20≤es.length then (es,7)
   else (es.take (BE.ins es a.name)++[BE.new a]++es.drop (BE.ins es a.name),0))
 else if a.kind=2∨a.kind=3∨a.kind=4 then
  match BE.lT es a.name with
  | none=>(es,6)
  | some i=>
   if a.kind=2 then (es.take i++es.drop (i+1),0)
   else match es[i]? with
   | none=>(es,6)
   | some x=>if a.kind=3 then (es.set i (x.tL a.key),0) else if a.xC=false then (es,1) else (es.set i (x.Gs a),0)
 else (es,1)
structure kg (n:Nat) (es:List BE):Prop where
 len:es.length≤20
 name:∀ e∈es,dH e.name=true
 num:∀ e∈es,1≤e.ag∧e.ag≤(n:Int)
 xC:∀ e∈es,0≤e.cO∧0≤e.aF∧0≤e.ay∧e.ay<64
 sorted:es.Pairwise fun x y=>Op.bytesLess x.name y.name=true
theorem Dj:∀ a:List UInt8,Op.bytesLess a a=false
 | []=>rfl
 | x::a=>by simp[Op.bytesLess,Dj a]
theorem qx:∀ a:List UInt8,Op.bytesLess a []=false
 | []=>rfl
 | _::_=>rfl
theorem wh:∀ {a b c:List UInt8},Op.bytesLess a b=true→Op.bytesLess b c=true→Op.bytesLess a c=true:=by
 intro a
 induction a with
 | nil=>
  intro b c h1 h2
  cases c with
  | nil=>rw[qx] at h2;cases h2
  | cons z c=>rfl
 | cons x a ih=>
  intro b c h1 h2
  cases b with
  | nil=>rw[qx] at h1;cases h1
  | cons y b=>
   cases c with
   | nil=>rw[qx] at h2;cases h2
   | cons z c=>
    simp only[Op.bytesLess,Bool.or_eq_true,Bool.and_eq_true,decide_eq_true_eq,beq_iff_eq] at h1 h2 ⊢
    rcases h1 with h1 | ⟨rfl,h1⟩
    ·rcases h2 with h2 | ⟨rfl,h2⟩
     ·exact .inl (UInt8.lt_trans h1 h2)
     ·exact .inl h1
    ·rcases h2 with h2 | ⟨rfl,h2⟩
     ·exact .inl h2
     ·exact .inr ⟨rfl,ih h1 h2⟩
theorem QQ:∀ {a b:List UInt8},Op.bytesLess a b=false→a≠b→Op.bytesLess b a=true:=by
 intro a
 induction a with
 | nil=>
  intro b h1 h2
  cases b with
  | nil=>exact absurd rfl h2
  | cons y b=>simp[Op.bytesLess] at h1
 | cons x a ih=>
  intro b h1 h2
  cases b with
  | nil=>rfl
  | cons y b=>
   simp only[Op.bytesLess,Bool.or_eq_false_iff,Bool.and_eq_false_iff,decide_eq_false_iff_not,beq_eq_false_iff_ne] at h1
   simp only[Op.bytesLess,Bool.or_eq_true,Bool.and_eq_true,decide_eq_true_eq,beq_iff_eq]
   obtain ⟨h3,h4⟩:=h1
   by_cases e:x=y
   ·subst e
    refine .inr ⟨rfl,ih (by rcases h4 with h | h;exact absurd rfl h;exact h) (fun e=>h2 (by rw[e]))⟩
   ·left
    rcases UInt8.lt_or_lt_of_ne e with h | h
    ·exact absurd h h3
    ·exact h
theorem Kl (es:List BE) (l:List UInt8):BE.ins es l≤es.length:=by
 induction es with
 | nil=>exact Nat.le_refl _
 | cons x es ih=>simp only[BE.ins,List.length_cons];split <;> omega
theorem Dk (l:List UInt8):∀ (es:List BE),∀ x∈es.take (BE.ins es l),Op.bytesLess x.name l=true:=by
 intro es
 induction es with
 | nil=>intro x hx;simp at hx
 | cons y es ih=>
  intro x hx
  simp only[BE.ins] at hx
  split at hx
  ·rename_i h
   rw[List.take_succ_cons] at hx
   rcases List.mem_cons.1 hx with e | e
   ·rw[e];exact h
   ·exact ih x e
  ·simp at hx
theorem Aa (l:List UInt8):∀ (es:List BE),es.Pairwise (fun x y=>Op.bytesLess x.name y.name=true)→(∀ x∈es,x.name≠l)→∀ x∈es.drop (BE.ins es l),Op.bytesLess l x.name=true:=by
 intro es
 induction es with
 | nil=>intro _ _ x hx;simp at hx
 | cons y es ih=>
  intro hs hn x hx
  rw[List.pairwise_cons] at hs
  simp only[BE.ins] at hx
  split at hx
  ·rw[List.drop_succ_cons] at hx
   exact ih hs.2 (fun z hz=>hn z (List.mem_cons_of_mem _ hz)) x hx
  ·rename_i h
   have hy:Op.bytesLess l y.name=true:=QQ (by simpa using h) (hn y (List.mem_cons_self ..))
   rw[List.drop_zero] at hx
   rcases List.mem_cons.1 hx with e | e
   ·rw[e];exact hy
   ·exact wh hy (hs.1 x e)
theorem MC {es:List BE} {l:List UInt8} (h:BE.lT es l=none):∀ x∈es,x.name≠l:=by
 intro x hx e
 rw[BE.lT,List.findIdx?_eq_none_iff] at h
 have:=h x hx
 simp[e] at this
theorem zx {es:List BE} {l:List UInt8} {i:Nat} (h:BE.lT es l=some i):∃ hi:i<es.length,es[i].name=l:=by
 rw[BE.lT,List.findIdx?_eq_some_iff_getElem] at h
 obtain ⟨hi,h2,_⟩:=h
 exact ⟨hi,by simpa using h2⟩
theorem Ez {es:List BE} {e x:BE} {k:Nat} (h:x∈es.take k++[e]++es.drop k):x=e∨x∈es:=by
 simp only[List.mem_append,List.mem_singleton] at h
 rcases h with (h | h) | h
 ·exact .inr (List.mem_of_mem_take h)
 ·exact .inl h
 ·exact .inr (List.mem_of_mem_drop h)
theorem EA {es:List BE} {x:BE} {k:Nat} (h:x∈es.take k++es.drop (k+1)):x∈es:=by
 rw[List.mem_append] at h
 rcases h with h | h
 ·exact List.mem_of_mem_take h
 ·exact List.mem_of_mem_drop h
theorem kg.mono {n m:Nat} {es:List BE} (h:kg n es) (k:n≤m):kg m es:=⟨h.len,h.name,fun e he=>by have:=h.num e he;omega,h.xC,h.sorted⟩
theorem kg.nil (n:Nat):kg n []:=⟨by simp,by simp,by simp,by simp,.nil⟩
theorem EB {es:List BE} (hs:es.Pairwise (fun x y=>Op.bytesLess x.name y.name=true)) (i:Nat) (y:BE) (hi:i<es.length) (hy:y.name=es[i].name):(es.set i y).Pairwise (fun x y=>Op.bytesLess x.name y.name=true):=by
 have hm:(es.set i y).map BE.name=es.map BE.name:=by
  rw[List.map_set,hy]
  apply List.ext_getElem?
  intro j
  rw[List.getElem?_set]
  split
  ·rename_i e
   subst e
   simp[hi]
  ·rfl
 have h1:(es.map BE.name).Pairwise (fun x y=>Op.bytesLess x y=true):=by rw[List.pairwise_map];exact hs
 rw[←hm,List.pairwise_map] at h1
 exact h1
theorem kg.fU {n:Nat} {es:List BE} (h:kg n es) (hn:1≤n) (a:jJ):kg (n+1) (fU es a).1:=by
 have h1:=h.mono (Nat.le_succ n)
 have hset:∀ (i:Nat) (x y:BE),es[i]?=some x→y.name=x.name→(1≤y.ag∧y.ag≤((n+1:Nat):Int))→(0≤y.cO∧0≤y.aF∧0≤y.ay∧y.ay<64)→kg (n+1) (es.set i y):=by
  intro i x y hx e1 e2 e3
  obtain ⟨hi,hx2⟩:=List.getElem?_eq_some_iff.1 hx
  have hxm:x∈es:=by rw[←hx2];exact List.getElem_mem hi
  refine ⟨by simpa using h.len,?_,?_,?_,EB h.sorted i y hi (by rw[hx2];exact e1)⟩
  ·intro e he
   rcases List.mem_or_eq_of_mem_set he with q | q
   ·exact h.name e q
   ·rw[q,e1];exact h.name x hxm
  ·intro e he
   rcases List.mem_or_eq_of_mem_set he with q | q
   ·exact h1.num e q
   ·rw[q];exact e2
  ·intro e he
   rcases List.mem_or_eq_of_mem_set he with q | q
   ·exact h.xC e q
   ·rw[q];exact e3
 have NT:a.xC≠false→0≤a.cO∧0≤a.aF∧0≤a.ay∧a.ay<64:=by
  intro hp
  have:a.xC=true:=by simpa using hp
  simpa[jJ.xC] using this
 unfold Proofs.YtpibgolaaaemnaaGreatDoor.fU
 split
 ·split
  ·exact h1
  ·rename_i hnm
   split
   ·exact h1
   ·rename_i hp
    split
    ·exact h1
    ·rename_i hat
     split
     ·exact h1
     ·rename_i hfull
      have hat':BE.lT es a.name=none:=by simpa using hat
      have hno:=MC hat'
      have hle:=Kl es a.name
      refine ⟨by simp;omega,?_,?_,?_,?_⟩
      ·intro e he
       rcases Ez he with q | q
       ·rw[q];show dH a.name=true;simpa using hnm
       ·exact h.name e q
      ·intro e he
       rcases Ez he with q | q
       ·rw[q];show 1≤(1:Int)∧(1:Int)≤_;omega
       ·exact h1.num e q
      ·intro e he
       rcases Ez he with q | q
       ·rw[q];exact NT hp
       ·exact h.xC e q
      ·rw[List.append_assoc,List.pairwise_append]
       refine ⟨h.sorted.sublist (List.take_sublist ..),?_,?_⟩
       ·rw[List.singleton_append,List.pairwise_cons]
        exact ⟨fun x hx=>Aa a.name es h.sorted hno x hx,h.sorted.sublist (List.drop_sublist ..)⟩
       ·intro x hx y hy
        rw[List.singleton_append] at hy
        have hxl:=Dk a.name es x hx
        rcases List.mem_cons.1 hy with q | q
        ·rw[q];exact hxl
        ·exact wh hxl (Aa a.name es h.sorted hno y q)
 ·split
  ·split
   ·exact h1
   ·rename_i i hi
    split
    ·refine ⟨?_,fun e he=>h.name e (EA he),fun e he=>h1.num e (EA he),fun e he=>h.xC e (EA he),?_⟩
     ·have:=h.len;simp;omega
     ·have hsub:(es.take i++es.drop (i+1)).Sublist es:=by
       conv=>rhs;rw[←List.take_append_drop i es]
       exact List.Sublist.append (List.Sublist.refl _) (by rw[←List.drop_drop];exact List.drop_sublist ..)
      exact h.sorted.sublist hsub
    ·split
     ·exact h1
     ·rename_i x hx
      obtain ⟨hi2,hx2⟩:=List.getElem?_eq_some_iff.1 hx
      have hxm:x∈es:=by rw[←hx2];exact List.getElem_mem hi2
      split
      ·exact hset i x (x.tL a.key) hx rfl (by have:=h.num x hxm;show 1≤x.ag+1∧x.ag+1≤_;omega) (h.xC x hxm)
      ·split
       ·exact h1
       ·rename_i hp
        exact hset i x (x.Gs a) hx rfl (h1.num x hxm) (NT hp)
  ·exact h1
end Go.Proofs.YtpibgolaaaemnaaGreatDoor
