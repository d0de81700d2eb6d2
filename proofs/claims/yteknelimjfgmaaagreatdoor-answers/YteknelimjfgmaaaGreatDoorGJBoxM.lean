import Derived.Test.YteknelimjfgmaaaGreatDoorGJBox
import Derived.Test.YteknelimjfgmaaaGreatDoorGJBase
namespace Go.Proofs.YteknelimjfgmaaaGreatDoor
theorem iR (v:Int):1<=Box.size v/\Box.size v<=8:=by unfold Box.size;(repeat' split) <;> omega
end Go.Proofs.YteknelimjfgmaaaGreatDoor
namespace Go.Proofs.YteknelimjfgmaaaGreatDoor.Box
variable {l:List UInt8}
def head (tag:UInt8) (n:Nat):List UInt8:=
 if n<128 then [tag,UInt8.ofNat n] else if n<256 then [tag,129,UInt8.ofNat n] else [tag,130,UInt8.ofNat (n / 256),UInt8.ofNat (n % 256)]
def box (tag:UInt8) (l:List UInt8):List UInt8:=head tag l.length++l
theorem ou (tag:UInt8) (n:Nat):(head tag n).length=if n<128 then 2 else if n<256 then 3 else 4:=by
 unfold head;split
 ·rfl
 ·split <;> rfl
def kW (v:Int) (i:Nat):UInt8:=UInt8.ofNat (v / 2 ^ (8*i) % 256).toNat
def ow (v:Int) (k:Nat):Nat->List UInt8
 | 0=>[]
 | j+1=>ow v k j++[kW v (k-1-j)]
def low (v:Int) (k:Nat):List UInt8:=ow v k k
theorem Gm (v:Int) (k j:Nat):(ow v k j).length=j:=by
 induction j with
 | zero=>rfl
 | succ j ih=>simp[ow,ih]
theorem lQ (v:Int) (k:Nat):(low v k).length=k:=Gm v k k
theorem Me (x:Int) (b:UInt8):kW (x*256+(b.toNat:Int)) 0=b:=by
 have:=b.toNat_lt;unfold kW;rw[Nat.mul_zero,Int.pow_zero,Int.ediv_one,show (x*256+(b.toNat:Int)) % 256=(b.toNat:Int) from by omega,Int.toNat_natCast];simp
theorem Mf (x:Int) (b:UInt8) (i:Nat):kW (x*256+(b.toNat:Int)) (i+1)=kW x i:=by
 have:=b.toNat_lt;unfold kW;rw[show 8*(i+1)=8+8*i from by omega,Int.pow_add,show (2:Int) ^ 8=256 from by decide,<-Int.ediv_ediv_of_nonneg afq,show (x*256+(b.toNat:Int)) / 256=x from by omega]
theorem Mg (x:Int) (b:UInt8) (k j:Nat) (h:j<=k):ow (x*256+(b.toNat:Int)) (k+1) j=ow x k j:=by
 induction j with
 | zero=>rfl
 | succ j ih=>rw[ow,ow,ih afp,show k+1-1-j=(k-1-j)+1 from by omega,Mf]
theorem I9 (x:Int) (b:UInt8) (k:Nat):low (x*256+(b.toNat:Int)) (k+1)=low x k++[b]:=by
 unfold low;rw[ow,Mg x b k k (bd _),show k+1-1-k=0 from by omega,Me]
theorem Ja (l:List UInt8) (v:Int) (k:Nat):low (iy v l) (k+l.length)=low v k++l:=by
 induction l generalizing v k with
 | nil=>simp[iy]
 | cons b l ih=>
  rw[xY,cN,show k+(l.length+1)=(k+1)+l.length from by omega,ih,I9];simp
theorem Td (b:UInt8):low (sign b) 1=[b]:=by
 have h:=I9 (if b.toNat<128 then 0 else -1) b 0;have e:(if b.toNat<128 then (0:Int) else -1)*256+(b.toNat:Int)=sign b:=by
  unfold sign;split <;> omega
 rw[e] at h;exact h
theorem Xq (h:1<=l.length):low (val l) l.length=l:=by
 cases l with
 | nil=>simp at h
 | cons b l=>
  have:=Ja l (sign b) 1;rw[Td] at this;simp only[val,List.getD_cons_zero,List.drop_succ_cons,List.drop_zero,cN];rw[Nat.add_comm];exact this
theorem jG (tag:UInt8) (l:List UInt8):(box tag l).length=l.length+(if l.length<128 then 2 else if l.length<256 then 3 else 4):=by
 rw[box,bj,ou];omega
theorem EP (h1:1<=l.length) (h8:l.length<=8) (v:Int) (hv:v=val l) (n:Nat) (hn:n=size v):box 2 (low v n)=box 2 l↔size v=l.length:=by
 subst hv hn;constructor
 ·intro h;have:=eh List.length h;have hs:size (val l)<=8:=(iR _).2;rw[jG,jG,lQ,if_pos afp,if_pos afp] at this;omega
 ·intro h;rw[h,Xq h1]
def lead (l:List UInt8):Nat×Nat:=
 if (l.getD 1 0).toNat=129/\2<l.length then ((l.getD 2 0).toNat,3)
 else if (l.getD 1 0).toNat=130/\3<l.length then ((l.getD 2 0).toNat*256+(l.getD 3 0).toNat,4)
 else ((l.getD 1 0).toNat,2)
def again (l:List UInt8):Option (UInt8×List UInt8×List UInt8):=
 if 2<=l.length/\(lead l).2+(lead l).1<=l.length/\box (l.getD 0 0) ((l.drop (lead l).2).take (lead l).1)=l.take ((lead l).2+(lead l).1) then
  some (l.getD 0 0,(l.drop (lead l).2).take (lead l).1,l.drop ((lead l).2+(lead l).1))
 else none
theorem ofNat_toNat (b:UInt8):UInt8.ofNat b.toNat=b:=by simp
theorem two (l:List UInt8) (h:2<=l.length):∃ a b r,l=a::b::r:=by
 match l,h with
 | a::b::r,_=>exact ⟨a,b,r,rfl⟩
theorem BI {tag:UInt8} {n k:Nat} (hk:k+n<=l.length) (h:(if n<128 then 2 else if n<256 then 3 else 4)≠k):¬ box tag ((l.drop k).take n)=l.take (k+n):=by
 intro e;have:=eh List.length e;have hl:((l.drop k).take n).length=n:=by simp;omega
 rw[jG,hl] at this;simp only[cG] at this;rw[fY hk] at this;omega
theorem zy {tag:UInt8} {n k:Nat} (hk:k+n<=l.length) (h:head tag n=l.take k):box tag ((l.drop k).take n)=l.take (k+n):=by
 have hl:((l.drop k).take n).length=n:=by simp;omega
 rw[box,hl,h,List.take_add]
theorem acF {p:Prop} (h:p:=by
 rw[if_neg (fun h=>hk h.2.1)]
 split
 ·rename_i n' r' h'
  split at h'
  ·simp only[ew,Prod.mk.injEq] at h'
   obtain ⟨rfl,rfl⟩:=h'
   rw[if_neg (by simp at hk;omega)]
  ·simp at h'
 ·rfl):p:=h
theorem ac6 {p:Prop} (h:p:=by
 simp only
 rw[if_pos (by simp at hk;omega),<-List.drop_drop]
 rfl):p:=h
theorem ER (l:List UInt8):again l=cut l:=by
 by_cases h2:2<=l.length
 ·obtain ⟨tag,b,r,rfl⟩:=two l h2;have hb:=b.toNat_lt;unfold cut;rw[if_neg aft,List.drop_succ_cons,List.drop_zero];unfold again;by_cases c1:b.toNat=129/\2<(tag::b::r).length
  ·have hL:lead (tag::b::r)=(((tag::b::r).getD 2 0).toNat,3):=(by unfold lead;rw[if_pos (by simpa using c1)]);rw[hL];cases r with
   | nil=>simp at c1
   | cons x r=>
    have hx:=x.toNat_lt;have hC:gu (b::x::r)=if 128<=x.toNat then some (x.toNat,r) else none:=by
     unfold gu;rw[if_neg (by simp[c1.1]),if_pos (by simp[c1.1])];rfl
    rw[hC];have e1:((tag::b::x::r).getD 2 0)=x:=rfl;have e0:((tag::b::x::r).getD 0 0)=tag:=rfl;simp only[e1,e0];by_cases hk:3+x.toNat<=(tag::b::x::r).length
    ·by_cases hx2:128<=x.toNat
     ·have hy:=zy (tag:=tag) hk (by unfold head;rw[if_neg afp,if_pos afp,ofNat_toNat];rw[show (129:UInt8)=b from by rw[<-ofNat_toNat b,c1.1];rfl];rfl);rw[if_pos ⟨h2,hk,hy⟩,if_pos hx2];exact ac6
     ·have hy:=BI (tag:=tag) hk (by rw[if_pos afp];omega);rw[if_neg (fun h=>hy h.2.2),if_neg hx2]
    ·exact acF
  ·by_cases c2:b.toNat=130/\3<(tag::b::r).length
   ·have hL:lead (tag::b::r)=(((tag::b::r).getD 2 0).toNat*256+((tag::b::r).getD 3 0).toNat,4):=(by unfold lead;rw[if_neg (by simpa using c1),if_pos (by simpa using c2)]);rw[hL];match r,c2 with
    | [],c2=>simp at c2
    | [x],c2=>simp at c2
    | x::y::r,c2=>
     have hx:=x.toNat_lt;have hy':=y.toNat_lt;have hC:gu (b::x::y::r)=if 256<=x.toNat*256+y.toNat then some (x.toNat*256+y.toNat,r) else none:=by
      unfold gu;rw[if_neg (by simp[c2.1]),if_neg (by simp[c2.1]),if_pos (by simp[c2.1])];rfl
     rw[hC];have e1:((tag::b::x::y::r).getD 2 0)=x:=rfl;have e3:((tag::b::x::y::r).getD 3 0)=y:=rfl;have e0:((tag::b::x::y::r).getD 0 0)=tag:=rfl;simp only[e1,e0,e3];by_cases hk:4+(x.toNat*256+y.toNat)<=(tag::b::x::y::r).length
     ·by_cases hx2:256<=x.toNat*256+y.toNat
      ·have hy:=zy (tag:=tag) hk (by
        unfold head;rw[if_neg afp,if_neg afp,show (x.toNat*256+y.toNat) / 256=x.toNat from by omega,show (x.toNat*256+y.toNat) % 256=y.toNat from by omega,ofNat_toNat,ofNat_toNat,show (130:UInt8)=b from by rw[<-ofNat_toNat b,c2.1];rfl]
        rfl)
       rw[if_pos ⟨h2,hk,hy⟩,if_pos hx2];exact ac6
      ·have hy:=BI (tag:=tag) hk (by split <;> (try split) <;> omega);rw[if_neg (fun h=>hy h.2.2),if_neg hx2]
     ·exact acF
   ·have hL:lead (tag::b::r)=(((tag::b::r).getD 1 0).toNat,2):=(by unfold lead;rw[if_neg (by simpa using c1),if_neg (by simpa using c2)]);rw[hL];have e1:((tag::b::r).getD 1 0)=b:=rfl;have e0:((tag::b::r).getD 0 0)=tag:=rfl;simp only[e1,e0];by_cases hb2:b.toNat<128
    ·have hC:gu (b::r)=some (b.toNat,r):=by
      unfold gu;rw[if_pos (by simpa using hb2)];rfl
     rw[hC];by_cases hk:2+b.toNat<=(tag::b::r).length
     ·have hy:=zy (tag:=tag) hk (by unfold head;rw[if_pos hb2,ofNat_toNat];rfl);rw[if_pos ⟨h2,hk,hy⟩];exact ac6
     ·rw[if_neg (fun h=>hk h.2.1)];simp only;rw[if_neg (by simp at hk;omega)]
    ·have hC:gu (b::r)=none:=by
      unfold gu;rw[if_neg (fun h=>hb2 h.2),if_neg (fun h=>c1 ⟨h.2,by have:=h.1;simp only[cN] at this ⊢;omega⟩),if_neg (fun h=>c2 ⟨h.2,by have:=h.1;simp only[cN] at this ⊢;omega⟩)]
     rw[hC];refine if_neg (fun h=>BI (tag:=tag) h.2.1 ?_ h.2.2);rw[if_neg hb2];split <;> omega
 ·unfold again cut;rw[if_neg (fun h=>h2 h.1)];split
  ·rfl
  ·have hC:gu (l.drop 1)=none:=by
    have:(l.drop 1).length=0:=by simp;omega
    unfold gu;rw[if_neg afp,if_neg afp,if_neg afp]
   rw[hC]
def cuts:Nat->List UInt8->Option (List (UInt8×List UInt8))
 | 0,l=>if l.length=0 then some [] else none
 | n+1,l=>if l.length=0 then some [] else
  match cut l with
  | none=>none
  | some (t,i,r)=>(cuts n r).map ((t,i)::·)
theorem PR:∀ (n m:Nat) (l:List UInt8),l.length<=n->l.length<=m->cuts n l=cuts m l:=by
 intro n;induction n with
 | zero=>
  intro m l h1 _;have h0:l.length=0:=by omega
  cases m with
  | zero=>rfl
  | succ m=>simp[cuts,h0]
 | succ n ih=>
  intro m l h1 h2;cases m with
  | zero=>
   have h0:l.length=0:=(by omega);simp[cuts,h0]
  | succ m=>
   by_cases h0:l.length=0
   ·simp[cuts,h0]
   ·simp only[cuts,if_neg h0];cases h:cut l with
    | none=>rfl
    | some tr=>
     obtain ⟨t,i,r⟩:=tr;have:=jF h;simp only;rw[ih m r afp afp]
def dH (l:List UInt8):Option (List (UInt8×List UInt8)):=cuts l.length l
theorem vP (h:l.length=0):dH l=some []:=by
 have:l=[]:=ep h;subst this;rfl
theorem nk (h0:0<l.length) (h:cut l=none):dH l=none:=by
 unfold dH;obtain ⟨m,hm⟩:∃ m,l.length=m+1:=⟨l.length-1,by omega⟩
 rw[hm,cuts,if_neg afp,h]
theorem pX {i r:List UInt8} {t:UInt8} (h:cut l=some (t,i,r)):dH l=(dH r).map ((t,i)::·):=by
 have hlt:=jF h;unfold dH;obtain ⟨m,hm⟩:∃ m,l.length=m+1:=⟨l.length-1,by omega⟩
 rw[hm,cuts,if_neg afp,h];simp only;rw[PR m r.length r afp afp]
def wt:List (UInt8×List UInt8)->Nat
 | []=>0
 | p::ps=>p.2.length+2+wt ps
theorem Te:∀ (n:Nat) (l:List UInt8) (ps:List (UInt8×List UInt8)),l.length<=n->dH l=some ps->wt ps<=l.length:=by
 intro n;induction n with
 | zero=>
  intro l ps h1 h;rw[vP afp] at h;simp only[ew] at h;subst h;simp[wt]
 | succ n ih=>
  intro l ps h1 h;by_cases h0:l.length=0
  ·rw[vP h0] at h;simp only[ew] at h;subst h;simp[wt]
  ·cases hc:cut l with
   | none=>rw[nk afp hc] at h;simp at h
   | some tr=>
    obtain ⟨t,i,r⟩:=tr;have hl:=jF hc;rw[pX hc] at h;simp only[Option.map_eq_some_iff] at h;obtain ⟨ps',h',rfl⟩:=h;have:=ih r ps' afp h';simp only[wt];omega
end Go.Proofs.YteknelimjfgmaaaGreatDoor.Box
namespace Go.Proofs.YteknelimjfgmaaaGreatDoor
open Go.RowKit
set_option maxRecDepth 100000
theorem Oz (w:World) (e:TypeId) (b:UInt8):(w.alloc (.cells #[.int .u8 (b.toNat:Int)] e)).ownsRow w.heap.size e 1 (.slice (some ⟨w.heap.size,0,none⟩) 1 1) 1 ([b].map U8):=by
 refine ⟨rfl,Or.inr ⟨w.heap.size,1,_,rfl,bd _,heap_alloc_new w _,bd _,by decide,rfl,rfl⟩⟩
theorem tq (w:World) (o:Obj) (e:TypeId) (cs:Array Value) (bs:List UInt8) (h:cs.toList=bs.map U8):At ((w.alloc o).alloc (.cells cs e)) (some ⟨w.heap.size+1,0,none⟩) bs:=by
 have:=fG (w.alloc o) e cs bs h;rw[ch] at this;exact this
theorem Tf (n:Nat) (h:n<256):IntKind.u8.wrap (n:Int)=((UInt8.ofNat n).toNat:Int):=by
 rw[ec,du afp];simp[IntKind.wrap,IntKind.bits,IntKind.signed];omega
theorem ES (v:Int) (i:Nat):v / 2 ^ (8*i) % 256=((Box.kW v i).toNat:Int):=by
 unfold Box.kW;generalize v / 2 ^ (8*i)=x;rw[ec,du afp];omega
theorem pY {w:World} {base base':Nat} {e:TypeId} {size:Nat} {v:Value} {n:Nat} {xs:List Value} (h:w.ownsRow base e size v n xs) (hb:base'<=base):w.ownsRow base' e size v n xs:=by
 obtain ⟨h1,h2⟩:=h;refine ⟨h1,?_⟩;rcases h2 with h2 | ⟨g,c,cur,hv,hbg,hr⟩
 ·exact Or.inl h2
 ·exact Or.inr ⟨g,c,cur,hv,br hb hbg,hr⟩
variable {l:List UInt8} {k:Nat}
def jd (z:UInt8):Bool:=decide ((97<=z.toNat/\z.toNat<=122)\/(48<=z.toNat/\z.toNat<=57)\/z.toNat=47)
def cO (l:List UInt8):Bool:=decide (1<=l.length/\l.length<=16) && l.all jd
theorem wM (h:k<l.length):(l.take (k+1)).all jd=((l.take k).all jd && jd (l.getD k 0)):=by
 rw[ee h,List.all_append];simp[List.getD,List.getElem?_eq_getElem h]
structure jV where
 kind:Int
 name:List UInt8
 key:UInt64
 bI:Int
 aD:Int
 bC:Int
 ay:Int
abbrev jV.cells (a:jV):Array Value:=#[.int .i64 a.kind,.string ⟨a.name.toArray⟩,.int .u64 (a.key.toNat:Int),.int .i64 a.bI,.int .i64 a.aD,.int .i64 a.bC,.int .i64 a.ay]
def jV.oN (a:jV):Bool:=decide (0<=a.bI/\0<=a.aD/\0<=a.ay/\a.ay<64)
structure BE where
 name:List UInt8
 aH:Int
 key:UInt64
 before:UInt64
 bI:Int
 aD:Int
 bC:Int
 ay:Int
structure PF where
 ax:List UInt8
 time:Int
 count:Int
 deriving DecidableEq
structure DM where
 aC:Int
 bg:List BE
 aN:List PF
 aO:List UInt8
def BE.ny (es:List BE) (l:List UInt8):Option Nat:=es.findIdx? (fun e=>e.name==l)
def BE.ins:List BE->List UInt8->Nat
 | [],_=>0
 | e::es,l=>if Op.bytesLess e.name l then BE.ins es l+1 else 0
def BE.new (a:jV):BE:=⟨a.name,1,a.key,0,a.bI,a.aD,a.bC,a.ay⟩
def BE.iU (x:BE) (key:UInt64):BE:=⟨x.name,x.aH+1,key,x.key,x.bI,x.aD,x.bC,x.ay⟩
def BE.qa (x:BE) (a:jV):BE:=⟨x.name,x.aH,x.key,x.before,a.bI,a.aD,a.bC,a.ay⟩
def gy (es:List BE) (a:jV):List BE×Int:=
 if a.kind=1 then
  (if cO a.name=false then (es,4) else if a.oN=false then (es,1) else if (BE.ny es a.name).isSome then (es,5) else if 20<=es.length then (es,7)
   else (es.take (BE.ins es a.name)++[BE.new a]++es.drop (BE.ins es a.name),0))
 else if a.kind=2\/a.kind=3\/a.kind=4 then
  match BE.ny es a.name with
  | none=>(es,6)
  | some i=>
   if a.kind=2 then (es.take i++es.drop (i+1),0)
   else match es[i]? with
   | none=>(es,6)
   | some x=>if a.kind=3 then (es.set i (x.iU a.key),0) else if a.oN=false then (es,1) else (es.set i (x.qa a),0)
 else (es,1)
structure gU (n:Nat) (es:List BE):Prop where
 len:es.length<=20
 name:∀ e∈es,cO e.name=true
 num:∀ e∈es,1<=e.aH/\e.aH<=(n:Int)
 oN:∀ e∈es,0<=e.bI/\0<=e.aD/\0<=e.ay/\e.ay<64
 sorted:es.Pairwise fun x y=>Op.bytesLess x.name y.name=true
theorem E5:∀ a:List UInt8,Op.bytesLess a a=false
 | []=>rfl
 | x::a=>by simp[Op.bytesLess,E5 a]
theorem tC:∀ a:List UInt8,Op.bytesLess a []=false
 | []=>rfl
 | _::_=>rfl
theorem ym:∀ {a b c:List UInt8},Op.bytesLess a b=true->Op.bytesLess b c=true->Op.bytesLess a c=true:=by
 intro a;induction a with
 | nil=>
  intro b c h1 h2;cases c with
  | nil=>rw[tC] at h2;cases h2
  | cons z c=>rfl
 | cons x a ih=>
  intro b c h1 h2;cases b with
  | nil=>rw[tC] at h1;cases h1
  | cons y b=>
   cases c with
   | nil=>rw[tC] at h2;cases h2
   | cons z c=>
    simp only[Op.bytesLess,Bool.or_eq_true,ej,eL,cL] at h1 h2 ⊢;rcases h1 with h1 | ⟨rfl,h1⟩
    ·rcases h2 with h2 | ⟨rfl,h2⟩
     ·exact .inl (UInt8.lt_trans h1 h2)
     ·exact .inl h1
    ·rcases h2 with h2 | ⟨rfl,h2⟩
     ·exact .inl h2
     ·exact .inr ⟨rfl,ih h1 h2⟩
theorem Tv:∀ {a b:List UInt8},Op.bytesLess a b=false->a≠b->Op.bytesLess b a=true:=by
 intro a;induction a with
 | nil=>
  intro b h1 h2;cases b with
  | nil=>exact absurd rfl h2
  | cons y b=>simp[Op.bytesLess] at h1
 | cons x a ih=>
  intro b h1 h2;cases b with
  | nil=>rfl
  | cons y b=>
   simp only[Op.bytesLess,Bool.or_eq_false_iff,Bool.and_eq_false_iff,gd,cg] at h1;simp only[Op.bytesLess,Bool.or_eq_true,ej,eL,cL];obtain ⟨h3,h4⟩:=h1;by_cases e:x=y
   ·subst e;refine .inr ⟨rfl,ih (by rcases h4 with h | h;exact absurd rfl h;exact h) (fun e=>h2 af4)⟩
   ·left;rcases UInt8.lt_or_lt_of_ne e with h | h
    ·exact absurd h h3
    ·exact h
theorem Mo (es:List BE) (l:List UInt8):BE.ins es l<=es.length:=by
 induction es with
 | nil=>exact bd _
 | cons x es ih=>simp only[BE.ins,cN];split <;> omega
theorem E8 (l:List UInt8):∀ (es:List BE),∀ x∈es.take (BE.ins es l),Op.bytesLess x.name l=true:=by
 intro es;induction es with
 | nil=>intro x hx;simp at hx
 | cons y es ih=>
  intro x hx;simp only[BE.ins] at hx;split at hx
  ·rename_i h;rw[List.take_succ_cons] at hx;rcases List.mem_cons.1 hx with e | e
   ·rw[e];exact h
   ·exact ih x e
  ·simp at hx
theorem BR (l:List UInt8):∀ (es:List BE),es.Pairwise (fun x y=>Op.bytesLess x.name y.name=true)->(∀ x∈es,x.name≠l)->∀ x∈es.drop (BE.ins es l),Op.bytesLess l x.name=true:=by
 intro es;induction es with
 | nil=>intro _ _ x hx;simp at hx
 | cons y es ih=>
  intro hs hn x hx;rw[List.pairwise_cons] at hs;simp only[BE.ins] at hx;split at hx
  ·rw[List.drop_succ_cons] at hx;exact ih hs.2 (fun z hz=>hn z (List.mem_cons_of_mem _ hz)) x hx
  ·rename_i h;have hy:Op.bytesLess l y.name=true:=Tv (by simpa using h) (hn y (List.mem_cons_self ..));rw[List.drop_zero] at hx;rcases List.mem_cons.1 hx with e | e
   ·rw[e];exact hy
   ·exact ym hy (hs.1 x e)
theorem OE {es:List BE} (h:BE.ny es l=none):∀ x∈es,x.name≠l:=by
 intro x hx e;rw[BE.ny,List.findIdx?_eq_none_iff] at h;have:=h x hx;simp[e] at this
theorem Bb {es:List BE} {i:Nat} (h:BE.ny es l=some i):∃ hi:i<es.length,es[i].name=l:=by
 rw[BE.ny,List.findIdx?_eq_some_iff_getElem] at h;obtain ⟨hi,h2,_⟩:=h;exact ⟨hi,by simpa using h2⟩
theorem Gt {es:List BE} {e x:BE} (h:x∈es.take k++[e]++es.drop k):x=e\/x∈es:=by
 simp only[eg,da] at h;rcases h with (h | h) | h
 ·exact .inr (List.mem_of_mem_take h)
 ·exact .inl h
 ·exact .inr (List.mem_of_mem_drop h)
theorem Gu {es:List BE} {x:BE} (h:x∈es.take k++es.drop (k+1)):x∈es:=by
 rw[eg] at h;rcases h with h | h
 ·exact List.mem_of_mem_take h
 ·exact List.mem_of_mem_drop h
theorem gU.mono {n m:Nat} {es:List BE} (h:gU n es) (k:n<=m):gU m es:=⟨h.len,h.name,fun e he=>by have:=h.num e he;omega,h.oN,h.sorted⟩
theorem gU.nil (n:Nat):gU n []:=⟨by simp,by simp,by simp,by simp,.nil⟩
theorem Gv {es:List BE} (hs:es.Pairwise (fun x y=>Op.bytesLess x.name y.name=true)) (i:Nat) (y:BE) (hi:i<es.length) (hy:y.name=es[i].name):(es.set i y).Pairwise (fun x y=>Op.bytesLess x.name y.name=true):=by
 have hm:(es.set i y).map BE.name=es.map BE.name:=by
  rw[List.map_set,hy];apply List.ext_getElem?;intro j;rw[List.getElem?_set];split
  ·rename_i e;subst e;simp[hi]
  ·rfl
 have h1:(es.map BE.name).Pairwise (fun x y=>Op.bytesLess x y=true):=by rw[List.pairwise_map];exact hs
 rw[<-hm,List.pairwise_map] at h1;exact h1
theorem gU.gy {n:Nat} {es:List BE} (h:gU n es) (hn:1<=n) (a:jV):gU (n+1) (gy es a).1:=by
 have h1:=h.mono (gn n);have hset:∀ (i:Nat) (x y:BE),es[i]?=some x->y.name=x.name->(1<=y.aH/\y.aH<=((n+1:Nat):Int))->(0<=y.bI/\0<=y.aD/\0<=y.ay/\y.ay<64)->gU (n+1) (es.set i y):=by
  intro i x y hx e1 e2 e3;obtain ⟨hi,hx2⟩:=cq.1 hx;have hxm:x∈es:=by rw[<-hx2];exact cJ hi
  refine ⟨by simpa using h.len,?_,?_,?_,Gv h.sorted i y hi (by rw[hx2];exact e1)⟩
  ·intro e he;rcases eJ he with q | q
   ·exact h.name e q
   ·rw[q,e1];exact h.name x hxm
  ·intro e he;rcases eJ he with q | q
   ·exact h1.num e q
   ·rw[q];exact e2
  ·intro e he;rcases eJ he with q | q
   ·exact h.oN e q
   ·rw[q];exact e3
 have AB:a.oN≠false->0<=a.bI/\0<=a.aD/\0<=a.ay/\a.ay<64:=by
  intro hp;have:a.oN=true:=by simpa using hp
  simpa[jV.oN] using this
 unfold Proofs.YteknelimjfgmaaaGreatDoor.gy;split
 ·split
  ·exact h1
  ·rename_i hnm;split
   ·exact h1
   ·rename_i hp;split
    ·exact h1
    ·rename_i hat;split
     ·exact h1
     ·rename_i hfull;have hat':BE.ny es a.name=none:=(by simpa using hat);have hno:=OE hat';have hle:=Mo es a.name;refine ⟨by simp;omega,?_,?_,?_,?_⟩
      ·intro e he;rcases Gt he with q | q
       ·rw[q];show cO a.name=true;simpa using hnm
       ·exact h.name e q
      ·intro e he;rcases Gt he with q | q
       ·rw[q];show 1<=(1:Int)/\(1:Int)<=_;omega
       ·exact h1.num e q
      ·intro e he;rcases Gt he with q | q
       ·rw[q];exact AB hp
       ·exact h.oN e q
      ·rw[cR,List.pairwise_append];refine ⟨h.sorted.sublist (List.take_sublist ..),?_,?_⟩
       ·rw[List.singleton_append,List.pairwise_cons];exact ⟨fun x hx=>BR a.name es h.sorted hno x hx,h.sorted.sublist (List.drop_sublist ..)⟩
       ·intro x hx y hy;rw[List.singleton_append] at hy;have hxl:=E8 a.name es x hx;rcases List.mem_cons.1 hy with q | q
        ·rw[q];exact hxl
        ·exact ym hxl (BR a.name es h.sorted hno y q)
 ·split
  ·split
   ·exact h1
   ·rename_i i hi;split
    ·refine ⟨?_,fun e he=>h.name e (Gu he),fun e he=>h1.num e (Gu he),fun e he=>h.oN e (Gu he),?_⟩
     ·have:=h.len;simp;omega
     ·have hsub:(es.take i++es.drop (i+1)).Sublist es:=by
       conv=>rhs;rw[<-ey i es]
       exact List.Sublist.append (List.Sublist.refl _) (by rw[<-List.drop_drop];exact List.drop_sublist ..)
      exact h.sorted.sublist hsub
    ·split
     ·exact h1
     ·rename_i x hx;obtain ⟨hi2,hx2⟩:=cq.1 hx;have hxm:x∈es:=(by rw[<-hx2];exact cJ hi2);split
      ·exact hset i x (x.iU a.key) hx rfl (by have:=h.num x hxm;show 1<=x.aH+1/\x.aH+1<=_;omega) (h.oN x hxm)
      ·split
       ·exact h1
       ·rename_i hp;exact hset i x (x.qa a) hx rfl (h1.num x hxm) (AB hp)
  ·exact h1
set_option maxHeartbeats 1000000
open Proofs.Tryz
theorem adZ {S:ByteArray} {l:List UInt8} (hS:S=⟨l.toArray⟩) (j:Nat) (h:j<S.size):S[j]'h=l.getD j 0:=by
 subst hS;have hj:j<l.length:=by simpa[ByteArray.size] using h
 simp only[List.getD,cr hj,Option.getD_some];rfl
theorem aaH {p:Prop} (h:p:=by
 go_wp2
 go_ret
 exact ⟨rfl,rfl⟩):p:=h
theorem Ca (z:UInt8) (w:World):Calls prog 204 #[.int .u8 (z.toNat:Int)] w fun e w'=>e = .returned (.bool (jd z))/\w=w':=by
 have hz:=z.toNat_lt;have HP:Hid (jd z=decide ((97<=z.toNat/\z.toNat<=122)\/(48<=z.toNat/\z.toNat<=57)\/z.toNat=47)):=rfl;have key:∀ b,jd z=b->(b=true↔((97<=z.toNat/\z.toNat<=122)\/(48<=z.toNat/\z.toNat<=57)\/z.toNat=47)):=by
  intro b hb;rw[<-hb,HP.o,decide_eq_true_iff]
 cases hp:jd z
 ·have hn:¬ ((97<=z.toNat/\z.toNat<=122)\/(48<=z.toNat/\z.toNat<=57)\/z.toNat=47):=fun h=>by have:=(key _ hp).2 h;cases this
  have d47:((z.toNat:Int)==47)=false:=by rw[cg];omega
  clear key HP hp;by_cases h1:97<=z.toNat
  ·have h1':(97:Int)<=(z.toNat:Int):=(by omega);have h2:¬ (z.toNat:Int)<=122:=(by omega);have h3:¬ (z.toNat:Int)<=57:=(by omega);clear hn;go_enter func204,ntmps204;exact aaH
  ·have h1':¬ (97:Int)<=(z.toNat:Int):=(by omega);by_cases h4:48<=z.toNat
   ·have h4':(48:Int)<=(z.toNat:Int):=(by omega);have h3:¬ (z.toNat:Int)<=57:=(by omega);clear hn;go_enter func204,ntmps204;exact aaH
   ·have h4':¬ (48:Int)<=(z.toNat:Int):=(by omega);clear hn;go_enter func204,ntmps204;exact aaH
 ·have hy:=(key _ hp).1 rfl;clear key HP hp;by_cases h1:97<=z.toNat/\z.toNat<=122
  ·have h1':(97:Int)<=(z.toNat:Int):=(by omega);have h2:(z.toNat:Int)<=122:=(by omega);clear hy h1;go_enter func204,ntmps204;exact aaH
  ·by_cases h4:48<=z.toNat/\z.toNat<=57
   ·have h1':¬ (97:Int)<=(z.toNat:Int):=(by omega);have h4':(48:Int)<=(z.toNat:Int):=(by omega);have h3:(z.toNat:Int)<=57:=(by omega);clear hy h1 h4;go_enter func204,ntmps204;exact aaH
   ·have h1':¬ (97:Int)<=(z.toNat:Int):=(by omega);have h4':¬ (48:Int)<=(z.toNat:Int):=(by omega);have d47:((z.toNat:Int)==47)=true:=(by rw[cL];omega);clear hy h1 h4;go_enter func204,ntmps204;exact aaH
theorem acE {p:Prop} (h:p:=by
 go_wp2
 go_ret
 exact ⟨by rw[HR.o];rfl,rfl⟩):p:=h
theorem Cb (l:List UInt8) (n:Nat) (S:ByteArray) (w:World) (hS:Hid (S=⟨l.toArray⟩)) (hn:Hid (l.length=n)) (hl:n<=9223372036854775807) :
  Calls prog 163 #[.string S] w fun e w'=>e = .returned (.bool (cO l))/\w=w':=by
 have hsz:S.size=n:=by rw[hS.o,<-hn.o];simp[ByteArray.size]
 have HE:Hid (cO l=(decide (1<=n/\n<=16) && l.all jd)):=by show _=_;rw[cO,hn.o]
 by_cases h1:1<=n
 ·by_cases h16:n<=16
  ·have h1':¬ (n:Int)<1:=(by omega);have aaK:¬ (16:Int)<(n:Int):=(by omega);have HE2:Hid (cO l=l.all jd):=(by show _=_;rw[HE.o,cH ⟨h1,h16⟩,gj]);clear HE;go_enter func163,ntmps163;go_wp2;go_loop [3,14] (fun _ i=>∃ k:Nat,k<=n/\i = .int .i64 k/\Hid ((l.take k).all jd=true)) (fun _ i=>n-(intOf i).toNat)
   case atStart=>exact ⟨0,cE _,rfl,hid aft⟩
   case round=>
    obtain ⟨k,hk,rfl,HA⟩:=hrel;by_cases hlt:k<n
    ·have hlt':k<l.length:=(by rw[hn.o];exact hlt);have hgk:=adZ hS.o k;have Tw:=hid (wM hlt');rw[HA.o,gj] at Tw;have kY:Hid (jd (l.getD k 0)=false->cO l=false):=by
      intro h;rw[HE2.o];have hm:l.getD k 0∈l:=by
       rw[show l.getD k 0=l[k] from by simp[List.getD,List.getElem?_eq_getElem hlt']];exact cJ hlt'
      rw[List.all_eq_false];exact ⟨_,hm,by rw[h];simp⟩
     generalize l.getD k 0=z at hgk Tw kY;have rF:(k:Int)<(n:Int):=(by omega);have hk0:(0:Int)<=(k:Int):=(by omega);cases hp:jd z
     ·have HF:=hid (kY.o hp);clear kY Tw;go_wp2_with (go_at_call 204;refine (Ca z _).mono ?_;rintro e w' ⟨rfl,rfl⟩)
      go_ret;exact ⟨by rw[HF.o];rfl,rfl⟩
     ·have HY:=hid (Tw.o.trans hp);clear kY Tw;go_wp2_with (go_at_call 204;refine (Ca z _).mono ?_;rintro e w' ⟨rfl,rfl⟩)
      go_round
      case rel=>exact ⟨k+1,by omega,by go_num,HY⟩
      case measure=>simp[intOf];omega
    ·have hkn:k=n:=(by omega);subst hkn;have HR:Hid (cO l=true):=(by show _=_;rw[HE2.o,<-HA.o,cV (by rw[hn.o];exact bd _)]);have rF:¬ (k:Int)<(k:Int):=(by omega);exact acE
  ·have h1':¬ (n:Int)<1:=(by omega);have aaK:(16:Int)<(n:Int):=(by omega);have HR:Hid (cO l=false):=(by show _=_;rw[HE.o,cA (fun h=>h16 h.2),gh]);go_enter func163,ntmps163;exact acE
 ·have h1':(n:Int)<1:=by omega
  have HR:Hid (cO l=false):=by show _=_;rw[HE.o,cA (fun h=>h1 h.1),gh]
  go_enter func163,ntmps163;exact acE
end Go.Proofs.YteknelimjfgmaaaGreatDoor
namespace Go.Proofs.YteknelimjfgmaaaGreatDoor.Box
end Go.Proofs.YteknelimjfgmaaaGreatDoor.Box
namespace Go.Proofs.YteknelimjfgmaaaGreatDoor
open Go.RowKit
def bQ (v:Int):List UInt8:=Box.box 2 (Box.low v (Box.size v))
def gP (l:List Int):List UInt8:=(l.map bQ).flatten
theorem fe (v:Int):3<=(bQ v).length/\(bQ v).length<=10:=by
 have:=iR v;rw[bQ,Box.jG,Box.lQ,if_pos afp];omega
theorem kF (l:List Int):(gP l).length<=10*l.length:=by
 induction l with
 | nil=>simp[gP]
 | cons v l ih=>
  have:=(fe v).2;simp only[gP,dj,dk,bj,cN] at *;omega
set_option maxRecDepth 100000
variable {β:Type}
def sat (x:Int):Int:=if x < -9223372036854775808 then -9223372036854775808 else if 9223372036854775807<x then 9223372036854775807 else x
def aX (a b:Int):Int:=sat (a+b)
def fO (a b:Int):Int:=sat (a-b)
def dM (a b:Int):Int:=if a<b then fO b a else fO a b
def lesser (a b:Int):Int:=if a<b then a else b
def asked (t:Int):Int:=if t=0 then 9223372036854775807 else t
def aG (n b:Int):Bool:=decide (n / b % 2=1)
def BE.has (e:BE) (f:Int):Bool:=aG e.ay f
def BE.gone (e:BE) (now:Int):Bool:=decide (e.bC≠0/\e.bC<=now)
def BE.find (es:List BE) (l:List UInt8):Option BE:=es.find? (fun e=>e.name==l)
def BE.keyOf (e:BE) (n:Int):Option UInt64:=if n=e.aH then some e.key else if n=e.aH-1/\1<e.aH then some e.before else none
structure TK where
 ay:Int
 aM:UInt64
 ax:List UInt8
 dY:Int
 start:Int
 fin:Int
 aD:Int
def dw (l:List UInt8):List UInt8:=Box.box 4 l
def jm (l:List (List UInt8)):List UInt8:=Box.box 48 l.flatten
def mo (k:UInt64):List UInt8:=dw (Pure.be k 8)
def TK.plain (t:TK):List UInt8:=jm [bQ t.ay,mo t.aM,dw t.ax,bQ t.dY,bQ t.start,bQ t.fin,bQ t.aD]
def vT (t:TK) (s:BE) (draw:UInt64):List UInt8:=jm [dw s.name,bQ s.aH,dw (Pure.fq s.key 2 draw t.plain)]
def nC (t:TK) (bS:Int) (s:BE):List UInt8:=jm [mo t.aM,bQ bS,bQ t.ay,bQ t.dY,bQ t.start,bQ t.fin,bQ t.aD,dw s.name]
def kQ (kind:Int) (t:TK) (s:BE) (bS aH:Int) (key use a b:UInt64):List UInt8:=
 jm [bQ kind,dw t.ax,vT t s a,jm [bQ aH,dw (Pure.fq key use b (nC t bS s))]]
def bu (now code:Int):List UInt8:=jm [bQ 30,bQ now,bQ code]
abbrev mW:Type:=UInt8×List UInt8
def bF (p:mW):Option Int:=if p.1.toNat=2 then Box.num p.2 else none
def iX (p:mW):Option (List UInt8):=if p.1.toNat=4 then some p.2 else none
def di (p:mW):Option (List UInt8):=if p.1.toNat=4/\cO p.2=true then some p.2 else none
def MG (p:mW):Option UInt64:=if p.1.toNat=4/\p.2.length=8 then some (Pure.joinL 0 p.2) else none
def yA (p:mW):Option (List mW):=if p.1.toNat=48 then Box.dH p.2 else none
def bW {α β:Type} (f:mW->Option α) (k:α->List mW->Option β):List mW->Option β
 | []=>none
 | p::ps=>(f p).bind fun a=>k a ps
def wF {β:Type} (b:β) (ps:List mW):Option β:=if ps=[] then some b else none
def dI {α β:Type} (f:mW->Option α) (k:α->List UInt8->Option β) (l:List UInt8):Option β:=
 match Box.cut l with
 | none=>none
 | some (t,i,r)=>(f (t,i)).bind fun a=>k a r
def uG {β:Type} (b:β) (l:List UInt8):Option β:=if l=[] then some b else none
theorem vU (b:β) (l:List UInt8):uG b l=(Box.dH l).bind (wF b):=by
 unfold uG;cases l with
 | nil=>rfl
 | cons x l=>
  rw[if_neg aft];cases h:Box.cut (x::l) with
  | none=>rw[Box.nk aft h];rfl
  | some p=>
   obtain ⟨t,i,r⟩:=p;rw[Box.pX h];cases Box.dH r <;> simp[wF]
theorem dN {α:Type} (f:mW->Option α) (k:α->List mW->Option β) (k':α->List UInt8->Option β) (h:∀ a l,k' a l=(Box.dH l).bind (k a)) (l:List UInt8):dI f k' l=(Box.dH l).bind (bW f k):=by
 unfold dI;cases hc:Box.cut l with
 | none=>
  cases l with
  | nil=>rfl
  | cons x l=>rw[Box.nk aft hc];rfl
 | some p=>
  obtain ⟨t,i,r⟩:=p;rw[Box.pX hc];simp only[h];cases Box.dH r <;> cases hf:f (t,i) <;> simp[bW,hf]
theorem TM (l:List UInt8):(none:Option β)=(Box.dH l).bind (fun _=>none):=by cases Box.dH l <;> rfl
def kG (l:List UInt8):Option (List mW):=
 match Box.cut l with
 | some (t,i,[])=>if t.toNat=48 then Box.dH i else none
 | _=>none
structure FQ where
 ax:List UInt8
 aV:List UInt8
 bS:Int
 kX:Int
 dJ:Int
 bV:Int
 aL:Int
 pre:Option (Int×List UInt8)
structure NQ where
 fo:List UInt8
 nD:Int
 dQ:List UInt8
 proof:List UInt8
 aV:List UInt8
 bS:Int
 dJ:Int
 bV:Int
 aL:Int
def pF:List mW->Option (Int×List UInt8):=bW bF fun n=>bW iX fun z=>wF (n,z)
def lu (p:mW):Option (Option (Int×List UInt8)):=
 match yA p with
 | none=>none
 | some []=>some none
 | some ps=>(pF ps).map some
def kH:List mW->Option FQ:=bW bF fun k=>if k=10 then bW di fun c=>bW di fun s=>bW bF fun n=>bW bF fun f=>bW bF fun t=>bW bF fun r=>bW bF fun o=>bW lu fun p=>wF ⟨c,s,n,f,t,r,o,p⟩ else fun _=>none
def pG:List mW->Option (List UInt8×Int×List UInt8):=bW di fun s=>bW bF fun n=>bW iX fun z=>wF (s,n,z)
def gD (p:mW):Option (List UInt8×Int×List UInt8):=(yA p).bind pG
def kI:List mW->Option NQ:=bW bF fun k=>if k=12 then bW gD fun c=>bW iX fun p=>bW di fun s=>bW bF fun n=>bW bF fun t=>bW bF fun r=>bW bF fun o=>wF ⟨c.1,c.2.1,c.2.2,p,s,n,t,r,o⟩ else fun _=>none
def mq (bA:List UInt8):Option FQ:=if bA.length<=300 then (kG bA).bind kH else none
def qh (bA:List UInt8):Option NQ:=if bA.length<=300 then (kG bA).bind kI else none
def eH (key use:UInt64) (z:List UInt8):Option (List UInt8):=if 16<=z.length/\Pure.opens key use z=true then some (Pure.eP key use z) else none
def jH (l:List UInt8):Option Int:=
 match Box.cut l with
 | some (t,i,[])=>bF (t,i)
 | _=>none
def jo:List mW->Option TK:=bW bF fun f=>bW MG fun k=>bW di fun c=>bW bF fun a=>bW bF fun s=>bW bF fun e=>bW bF fun r=>wF ⟨f,k,c,a,s,e,r⟩
def dU (l:List UInt8):Option TK:=(kG l).bind jo
def sF:List mW->Option PF:=bW di fun c=>bW bF fun t=>bW bF fun n=>wF ⟨c,t,n⟩
def fE (l:List UInt8):Option PF:=(kG l).bind sF
structure GR where
 kind:Int
 t:TK
 s:BE
 bS:Int
 aH:Int
 key:UInt64
 use:UInt64
def dV (x y:Option BE) (now a b c d:Int):Int:=
 match x,y with
 | none,_=>a
 | some _,none=>b
 | some x,some y=>if x.gone now=true then c else if y.gone now=true then d else if x.has 32=true\/y.has 32=true then 12 else 0
def eX (aC now:Int) (x:BE):Option (Int×List UInt8)->Int
 | none=>if x.has 1=true then 25 else 0
 | some (n,z)=>
  match (eH x.key 1 z).bind jH with
  | none=>24
  | some t=>if n≠x.aH then 24 else if aC<dM t now then 37 else 0
def gI (aL old:Int) (x s:BE):Int:=
 (if aG aL 1=true/\aG old 1=true/\x.has 4=true/\s.has 4=true then 1 else 0)+(if aG aL 2=true/\aG old 2=true/\x.has 8=true/\s.has 8=true then 2 else 0)
  + (if aG aL 4=true/\aG old 4=true/\x.has 2=true/\s.has 2=true then 4 else 0)
def fu (aL old:Int) (x s:BE) (start upto:Int):Int:=
 if aG aL 4=true/\aG old 4=true/\x.has 2=true/\s.has 2=true then lesser upto (lesser (aX start x.aD) (aX start s.aD)) else 0
def bH (now:Int) (q:FQ):Int:=if aG q.aL 8=true then q.kX else now
def fJ (now:Int) (q:FQ) (x s:BE):Int:=lesser (asked q.dJ) (lesser (aX (bH now q) x.bI) (aX (bH now q) s.bI))
def lJ (now:Int) (q:FQ) (x s:BE):TK:=
 ⟨32+(if q.pre.isSome then 64 else 0)+(if aG q.aL 8=true then 24 else 0)+gI q.aL 7 x s,0,q.ax,now,bH now q,fJ now q x s,fu q.aL 7 x s (bH now q) (asked q.bV)⟩
def dh (aC now:Int) (q:FQ) (x s:BE):Int:=
 if eX aC now x q.pre≠0 then eX aC now x q.pre
 else if q.aL<0\/15<q.aL then 13
 else if aG q.aL 8=true/\¬ (x.has 16=true/\s.has 16=true) then 10
 else if aG q.aL 8=false/\aX now aC<q.kX then 10
 else if fJ now q x s<=bH now q then 11 else 0
def firstM (M:DM) (now:Int) (q:FQ):Except Int GR:=
 match BE.find M.bg q.ax,BE.find M.bg q.aV with
 | none,_=>.error 6
 | some _,none=>.error 7
 | some x,some s=>
  if dV (some x) (some s) now 6 7 1 2≠0 then .error (dV (some x) (some s) now 6 7 1 2)
  else if dh M.aC now q x s≠0 then .error (dh M.aC now q x s)
  else .ok ⟨11,lJ now q x s,s,q.bS,x.aH,x.key,3⟩
def gL (M:DM) (now:Int) (q:NQ):Except Int (TK×PF):=
 if q.fo≠[116,103,115]/\¬ ((aG q.aL 16=true\/aG q.aL 32=true)/\q.fo=q.aV) then .error 36
 else match BE.find M.bg q.fo with
 | none=>.error 7
 | some e=>
  match e.keyOf q.nD with
  | none=>.error 44
  | some key=>
   match (eH key 2 q.dQ).bind dU with
   | none=>.error 31
   | some t=>
    match (eH t.aM 4 q.proof).bind fE with
    | none=>.error 31
    | some p=>if p.ax≠t.ax then .error 36 else if M.aC<dM p.time now then .error 37 else .ok (t,p)
def ig (aC now:Int) (l:List PF):List PF:=l.filter fun p=>decide (dM p.time now<=aC)
def bL (aC now:Int) (l:List PF) (p:PF):Int:=if p∈ig aC now l then 34 else if 8<=(ig aC now l).length then 60 else 0
def bM (aC now:Int) (l:List PF) (p:PF):List PF:=if bL aC now l p=0 then ig aC now l++[p] else ig aC now l
def rH (aL:Int):Int:=(if aG aL 16=true then 1 else 0)+(if aG aL 32=true then 1 else 0)+(if aG aL 64=true then 1 else 0)+(if aG aL 128=true then 1 else 0)
def jI (aL ay:Int):Bool:=
 if aL<0\/255<aL\/aG aL 8=true then false
 else if 1<rH aL\/aG aL 32=true/\aL≠32 then false
 else if aG aL 16=true/\aG ay 4=false\/aG aL 64=true/\aG ay 1=false\/aG aL 128=true/\aG ay 2=false then false
 else !aG aL 32 || aG ay 16
def Fe (ay:Int):Int:=(if aG ay 64=true then 64 else 0)+(if aG ay 128=true then 128 else 0)+(if aG ay 256=true then 256 else 0)
def gX (now dJ:Int) (old:TK) (x s:BE):Int:=lesser (lesser (asked dJ) old.fin) (lesser (aX now x.bI) (aX now s.bI))
def iC (aL:Int) (old:TK) (x s:BE):Int:=
 (if aG old.ay 64=true then 64 else 0)+(if aG old.ay 128=true\/aG aL 64=true then 128 else 0)+(if aG old.ay 256=true\/aG aL 128=true then 256 else 0)+gI aL old.ay x s
def fresh (now:Int) (old:TK) (x s:BE) (dJ bV aL:Int):Except Int TK:=
 if aG aL 32=true then (if now<old.start then .error 33 else .ok {old with ay:=if aG old.ay 16=true then old.ay-16 else old.ay})
 else if aG aL 16=true then (if old.aD<=now then .error 32 else .ok {old with start:=now,fin:=lesser old.aD (aX now (fO old.fin old.start))})
 else if gX now dJ old x s<=now then .error 11
 else .ok {old with start:=now,fin:=gX now dJ old x s,ay:=iC aL old x s,aD:=fu aL old.ay x s now (lesser (asked bV) old.aD)}
def dZ (M:DM) (now:Int) (q:NQ) (old:TK):Except Int GR:=
 if aG old.ay 16=true/\aG q.aL 32=false\/aX now M.aC<old.start then .error 33
 else if old.fin<now then .error 32
 else match BE.find M.bg q.aV,BE.find M.bg old.ax with
 | none,_=>.error 7
 | some _,none=>.error 6
 | some s,some x=>
  if dV (some s) (some x) now 7 6 2 1≠0 then .error (dV (some s) (some x) now 7 6 2 1)
  else if jI q.aL old.ay=false then .error 13
  else match fresh now old x s q.dJ q.bV q.aL with
  | .error c=>.error c
  | .ok t=>.ok ⟨13,t,s,q.bS,0,old.aM,5⟩
def eO (ds:List UInt8) (k:Nat):UInt64:=Pure.joinL 0 ((ds.drop (8*k)).take 8)
def GR.box (g:GR) (ds:List UInt8):List UInt8:=kQ g.kind {g.t with aM:=eO ds 0} g.s g.bS g.aH g.key g.use (eO ds 1) (eO ds 2)
def dC (M:DM) (now:Int):Except Int GR->List UInt8×DM
 | .error c=>(bu now c,M)
 | .ok g=>if M.aO.length<24 then (bu now 60,M) else (g.box M.aO,{M with aO:=M.aO.drop 24})
def uX (M:DM) (now:Int) (q:NQ):List UInt8×DM:=
 match gL M now q with
 | .error c=>(bu now c,M)
 | .ok (t,p)=>
  let M':={M with aN:=bM M.aC now M.aN p}
  if bL M.aC now M.aN p≠0 then (bu now (bL M.aC now M.aN p),M')
  else dC M' now (dZ M' now q t)
def fw (M:DM) (now:Int) (bA:List UInt8):List UInt8×DM:=
 match mq bA with
 | some q=>dC M now (firstM M now q)
 | none=>
  match qh bA with
  | some q=>uX M now q
  | none=>(bu now 60,M)
theorem vV (n:Int):(BitVec.ofInt 64 n).toNat=(n % 18446744073709551616).toNat:=by
 rw[BitVec.toNat_ofInt];rfl
theorem jJ (n:Int) (k:Nat) (hk:k<64):(BitVec.ofInt 64 n).getLsbD k=aG n (2 ^ k):=by
 rw[aG,<-BitVec.testBit_toNat,vV,Nat.testBit_eq_decide_div_mod_eq];congr 1;have hp:(0:Int)<2 ^ k:=Int.pow_pos afq;have e:((n % 18446744073709551616).toNat / 2 ^ k % 2:Nat)=1↔n / 2 ^ k % 2=1:=by
  have h0:0<=n % 18446744073709551616:=Int.emod_nonneg _ afq;have h1:(((n % 18446744073709551616).toNat / 2 ^ k % 2:Nat):Int)=n % 18446744073709551616 / 2 ^ k % 2:=by
   rw[Int.natCast_emod,Int.natCast_ediv,Int.toNat_of_nonneg h0];simp
  have h2:n % 18446744073709551616 / 2 ^ k % 2=n / 2 ^ k % 2:=by
   have h64:(18446744073709551616:Int)=2 ^ k*2 ^ (64-k):=by
    rw[<-Int.pow_add,show k+(64-k)=64 from by omega];rfl
   have hd:n / 2 ^ k=n % 18446744073709551616 / 2 ^ k+2 ^ (64-k)*(n / 18446744073709551616):=by
    have:=Int.emod_add_mul_ediv n 18446744073709551616;conv=>lhs;rw[<-this,h64,Int.mul_assoc]
    rw[Int.add_mul_ediv_left _ _ afp,<-h64]
   rw[hd,show (64-k)=(64-k-1)+1 from by omega,Int.pow_succ,Int.mul_comm (2 ^ (64-k-1)) 2,Int.mul_assoc,Int.add_mul_emod_self_left]
  omega
 simp only[e]
theorem Jq (v:BitVec 64):(IntKind.i64.wrap (v.toNat:Int))=v.toInt:=by
 rw[IntKind.wrap_i64,BitVec.toInt_eq_toNat_cond];have:=v.isLt;split <;> omega
theorem GH (a b:Int):bits .and .i64 a b=(BitVec.ofInt 64 a &&& BitVec.ofInt 64 b).toInt:=Jq _
theorem tH (a b:Int):bits .andNot .i64 a b=(BitVec.ofInt 64 a &&& ~~~ BitVec.ofInt 64 b).toInt:=Jq _
theorem tJ (v:BitVec 64):BitVec.ofInt 64 v.toInt=v:=BitVec.ofInt_toInt
theorem Qi (n:Int) (h0:-9223372036854775808<=n) (h1:n<=9223372036854775807) (v:BitVec 64) (k:Nat) (hk:k<63) (hv:∀ j,j<64->v.getLsbD j=(aG n (2 ^ j) && decide (k<=j))):(v.toInt=0)↔(0<=n/\n<2 ^ k):=by
 have hn:(BitVec.ofInt 64 n).toInt=n:=by rw[BitVec.toInt_ofInt,Int.bmod_def];split <;> omega
 have hval:v=(BitVec.ofInt 64 n >>> k) <<< k:=by
  apply BitVec.eq_of_getLsbD_eq;intro j hj;rw[hv j hj,BitVec.getLsbD_shiftLeft,BitVec.getLsbD_ushiftRight];by_cases h:k<=j
  ·have:¬ j<k:=by omega
   simp[h,this,hj,<-jJ n j hj,show k+(j-k)=j from by omega]
  ·have:j<k:=by omega
   simp[h,this]
 have hlt:=(BitVec.ofInt 64 n).isLt;have hz:v.toInt=0↔(BitVec.ofInt 64 n).toNat / 2 ^ k=0:=by
  have h3:v.toInt=0↔v=0#64:=by
   constructor
   ·intro h;have:=eh (BitVec.ofInt 64) h;rw[tJ] at this;exact this
   ·intro h;rw[h];rfl
  rw[h3,hval];constructor
  ·intro h;have h4:=eh BitVec.toNat h;rw[BitVec.toNat_shiftLeft,BitVec.toNat_ushiftRight,Nat.shiftLeft_eq,Nat.shiftRight_eq_div_pow] at h4;have h5:(BitVec.ofInt 64 n).toNat / 2 ^ k*2 ^ k<=(BitVec.ofInt 64 n).toNat:=Nat.div_mul_le_self _ _;rw[du afp] at h4;have h6:0<2 ^ k:=Nat.two_pow_pos k;have h7:(BitVec.ofInt 64 n).toNat / 2 ^ k*2 ^ k=0:=h4;rcases Nat.mul_eq_zero.1 h7 with h8 | h8
   ·exact h8
   ·omega
  ·intro h;apply BitVec.eq_of_toNat_eq;rw[BitVec.toNat_shiftLeft,BitVec.toNat_ushiftRight,Nat.shiftRight_eq_div_pow,h];simp
 rw[hz,Nat.div_eq_zero_iff_lt (Nat.two_pow_pos k),vV];have hp:(2:Nat) ^ k<=2 ^ 62:=Nat.pow_le_pow_right afq afp;have hc:((2 ^ k:Nat):Int)=2 ^ k:=by simp
 constructor
 ·intro h;have:(2:Nat) ^ 62=4611686018427387904:=by decide
  omega
 ·intro h;omega
theorem xg (n:Int) (h0:-9223372036854775808<=n) (h1:n<=9223372036854775807) (k:Nat) (hk:k<63) (m:Int) (hm:∀ j,j<64->aG m (2 ^ j)=decide (j<k)):(bits .andNot .i64 n m=0)↔(0<=n/\n<2 ^ k):=by
 rw[tH];refine Qi n h0 h1 _ k hk (fun j hj=>?_);rw[BitVec.getLsbD_and,BitVec.getLsbD_not,jJ n j hj,jJ m j hj,hm j hj];by_cases h:j<k
 ·have:¬ k<=j:=by omega
  simp[h,this]
 ·have:k<=j:=by omega
  simp[h,this,hj]
theorem ad2:∀ j,j<64->aG 63 (2 ^ j)=decide (j<6):=by decide
theorem ad3:∀ j,j<64->aG 15 (2 ^ j)=decide (j<4):=by decide
theorem TN (n:Int) (h0:-9223372036854775808<=n) (h1:n<=9223372036854775807):(bits .andNot .i64 n 63==0)=decide (0<=n/\n<64):=by
 have:=xg n h0 h1 6 afq 63 ad2;rw[Bool.eq_iff_iff,cL,decide_eq_true_iff];exact this
theorem iY (a b:Int) (k:Nat) (hk:k<64):aG (bits .and .i64 a b) (2 ^ k)=(aG a (2 ^ k) && aG b (2 ^ k)):=by
 rw[GH,<-jJ _ k hk,tJ,BitVec.getLsbD_and,jJ a k hk,jJ b k hk]
theorem nH (a b:Int) (k:Nat) (hk:k<64):aG (bits .andNot .i64 a b) (2 ^ k)=(aG a (2 ^ k) && !aG b (2 ^ k)):=by
 rw[tH,<-jJ _ k hk,tJ,BitVec.getLsbD_and,BitVec.getLsbD_not,jJ a k hk,jJ b k hk];simp[hk]
theorem Cx (a b:Int):-9223372036854775808<=bits .and .i64 a b/\bits .and .i64 a b<=9223372036854775807:=by
 rw[GH];have h1:=BitVec.toInt_lt (x:=BitVec.ofInt 64 a &&& BitVec.ofInt 64 b);have h2:=BitVec.le_toInt (x:=BitVec.ofInt 64 a &&& BitVec.ofInt 64 b);omega
theorem pR (a b:Int):-9223372036854775808<=bits .andNot .i64 a b/\bits .andNot .i64 a b<=9223372036854775807:=by
 rw[tH];have h1:=BitVec.toInt_lt (x:=BitVec.ofInt 64 a &&& ~~~ BitVec.ofInt 64 b);have h2:=BitVec.le_toInt (x:=BitVec.ofInt 64 a &&& ~~~ BitVec.ofInt 64 b);omega
theorem Ag {a b:Int} (ha:-9223372036854775808<=a/\a<=9223372036854775807) (hb:-9223372036854775808<=b/\b<=9223372036854775807) (h:∀ k,k<64->aG a (2 ^ k)=aG b (2 ^ k)):a=b:=by
 have e:BitVec.ofInt 64 a=BitVec.ofInt 64 b:=by
  apply BitVec.eq_of_getLsbD_eq;intro j hj;rw[jJ a j hj,jJ b j hj,h j hj]
 have ea:(BitVec.ofInt 64 a).toInt=a:=by rw[BitVec.toInt_ofInt,Int.bmod_def];split <;> omega
 have eb:(BitVec.ofInt 64 b).toInt=b:=by rw[BitVec.toInt_ofInt,Int.bmod_def];split <;> omega
 rw[<-ea,<-eb,e]
theorem mJ (k:Nat):aG 0 (2 ^ k)=false:=by
 unfold aG;rw[Int.zero_ediv];rfl
theorem JS (n m:Int) (ks:List Nat) (hk:∀ k∈ks,k<64) (hm:∀ j,j<64->aG m (2 ^ j)=decide (j∈ks)):(bits .and .i64 n m==0)=ks.all (fun k=>!aG n (2 ^ k)):=by
 rw[Bool.eq_iff_iff,cL,List.all_eq_true];constructor
 ·intro h k hkk;have h1:=iY n m k (hk k hkk);rw[h,mJ,hm k (hk k hkk),cH hkk,fR] at h1;rw[<-h1];rfl
 ·intro h;refine Ag (Cx n m) ⟨by decide,by decide⟩ (fun j hj=>?_);rw[iY n m j hj,hm j hj,mJ];by_cases hjk:j∈ks
  ·have:=h j hjk;simp at this;rw[this];rfl
  ·rw[cA hjk,gf]
theorem m48:∀ j,j<64->aG 48 (2 ^ j)=decide (j∈[4,5]):=by decide
theorem m7:∀ j,j<64->aG 7 (2 ^ j)=decide (j∈[0,1,2]):=by decide
theorem aef:∀ j,j<64->aG 240 (2 ^ j)=decide (j∈[4,5,6,7]):=by decide
theorem aeg:∀ j,j<64->aG 448 (2 ^ j)=decide (j∈[6,7,8]):=by decide
theorem aa2:∀ j,j<64->aG 247 (2 ^ j)=decide (j<8/\j≠3):=by decide
theorem aa3:∀ j,j<64->aG 255 (2 ^ j)=decide (j<8):=by decide
theorem aeh (n:Int):(bits .and .i64 n 48==0)=(!aG n 16 && !aG n 32):=by
 rw[JS n 48 [4,5] afq m48];simp
theorem and7 (n:Int):(bits .and .i64 n 7==0)=(!aG n 1 && (!aG n 2 && !aG n 4)):=by
 rw[JS n 7 [0,1,2] afq m7];simp
theorem jQ (n f:Int) (k:Nat) (hf:f=2 ^ k) (hk:k<63):(bits .and .i64 n f==0)=!aG n f:=by
 subst hf;have hb:=iY n (2 ^ k) k afp;have hs:aG (2 ^ k) (2 ^ k)=true:=by
  unfold aG;rw[Int.ediv_self (by have:=Nat.pow_pos (n:=k) (show 0<2 by decide);have e:(2:Int) ^ k=((2 ^ k:Nat):Int):=aft;omega)];rfl
 rw[hs,fR] at hb;cases h:aG n (2 ^ k) with
 | true=>
  rw[h] at hb;rw[eE,cg];intro e;rw[e,mJ] at hb;cases hb
 | false=>
  rw[en,cL];refine Ag (Cx n _) ⟨by decide,by decide⟩ (fun j hj=>?_);rw[iY n _ j hj,mJ];by_cases e:j=k
  ·subst e;rw[h];rfl
  ·have e2:aG (2 ^ k) (2 ^ j)=false:=by
    rw[<-jJ _ j hj];have hv:BitVec.ofInt 64 (2 ^ k)=BitVec.twoPow 64 k:=by
     apply BitVec.eq_of_toNat_eq;have hp:(2:Int) ^ k<2 ^ 63:=by
      have h:=Nat.pow_lt_pow_right (a:=2) afq hk;exact_mod_cast h
     have hp0:(0:Int)<2 ^ k:=by
      have h:=Nat.pow_pos (n:=k) (show 0<2 by decide);exact_mod_cast h
     rw[vV,BitVec.toNat_twoPow];have:((2:Int) ^ k % 18446744073709551616)=2 ^ k:=Int.emod_eq_of_lt afp afp;rw[this];have h2:((2:Int) ^ k).toNat=2 ^ k:=by
      have:(2:Int) ^ k=((2 ^ k:Nat):Int):=by simp
      rw[this,Int.toNat_natCast]
     rw[h2,du (Nat.pow_lt_pow_right afq afp)]
    rw[hv,BitVec.getLsbD_twoPow];simp;omega
   rw[e2,gf]
def AP (n:Int):Int:=(if aG n 16=true then 16 else 0)+(if aG n 32=true then 32 else 0)+(if aG n 64=true then 64 else 0)+(if aG n 128=true then 128 else 0)
theorem Uk (n:Int):bits .and .i64 n 240=AP n:=by
 unfold AP;have e:∀ j,j<64->j∉[4,5,6,7]->aG (bits .and .i64 n 240) (2 ^ j)=false:=fun j hj hn=>by rw[iY n 240 j hj,aef j hj,cA hn,gf]
 have e4:=iY n 240 4 afq;have e5:=iY n 240 5 afq;have e6:=iY n 240 6 afq;have e7:=iY n 240 7 afq;rw[aef _ afq] at e4 e5 e6 e7;have i:=Cx n 240;generalize bits .and .i64 n 240=v at *;have f4:aG v (2 ^ 4)=aG n 16:=by simpa using e4
 have f5:aG v (2 ^ 5)=aG n 32:=by simpa using e5
 have f6:aG v (2 ^ 6)=aG n 64:=by simpa using e6
 have f7:aG v (2 ^ 7)=aG n 128:=by simpa using e7
 clear e4 e5 e6 e7;have D:∀ (b4 b5 b6 b7:Bool) (j:Nat),j<64->aG ((if b4=true then 16 else 0)+(if b5=true then 32 else 0)+(if b6=true then 64 else 0)+(if b7=true then 128 else 0)) (2 ^ j)=(j==4 && b4 || (j==5 && b5 || (j==6 && b6 || j==7 && b7))):=by decide
 refine Ag i ?_ (fun j hj=>?_)
 ·cases aG n 16 <;> cases aG n 32 <;> cases aG n 64 <;> cases aG n 128 <;> exact ⟨by decide,by decide⟩
 ·rw[D _ _ _ _ j hj];by_cases j4:j=4
  ·subst j4;rw[f4];simp
  by_cases j5:j=5
  ·subst j5;rw[f5];simp
  by_cases j6:j=6
  ·subst j6;rw[f6];simp
  by_cases j7:j=7
  ·subst j7;rw[f7];simp
  rw[e j hj afz];simp[j4,j5,j6,j7]
theorem Ul (n:Int):bits .and .i64 n 448=Fe n:=by
 unfold Fe;have e:∀ j,j<64->j∉[6,7,8]->aG (bits .and .i64 n 448) (2 ^ j)=false:=fun j hj hn=>by rw[iY n 448 j hj,aeg j hj,cA hn,gf]
 have e6:=iY n 448 6 afq;have e7:=iY n 448 7 afq;have e8:=iY n 448 8 afq;rw[aeg _ afq] at e6 e7 e8;have i:=Cx n 448;generalize bits .and .i64 n 448=v at *;have f6:aG v (2 ^ 6)=aG n 64:=by simpa using e6
 have f7:aG v (2 ^ 7)=aG n 128:=by simpa using e7
 have f8:aG v (2 ^ 8)=aG n 256:=by simpa using e8
 clear e6 e7 e8;have D:∀ (b6 b7 b8:Bool) (j:Nat),j<64->aG ((if b6=true then 64 else 0)+(if b7=true then 128 else 0)+(if b8=true then 256 else 0)) (2 ^ j)=(j==6 && b6 || (j==7 && b7 || j==8 && b8)):=by decide
 refine Ag i ?_ (fun j hj=>?_)
 ·cases aG n 64 <;> cases aG n 128 <;> cases aG n 256 <;> exact ⟨by decide,by decide⟩
 ·rw[D _ _ _ j hj];by_cases j6:j=6
  ·subst j6;rw[f6];simp
  by_cases j7:j=7
  ·subst j7;rw[f7];simp
  by_cases j8:j=8
  ·subst j8;rw[f8];simp
  rw[e j hj afz];simp[j6,j7,j8]
theorem Qy (n:Int) (h:-9223372036854775808<=n/\n<=9223372036854775807):(bits .andNot .i64 n 247==0)=decide (0<=n/\n<256/\aG n 8=false):=by
 rw[Bool.eq_iff_iff,cL,decide_eq_true_iff];have hl:=xg n h.1 h.2 8 afq 255 aa3;constructor
 ·intro e;have hb:∀ j,j<64->(aG n (2 ^ j) && !aG 247 (2 ^ j))=false:=fun j hj=>by rw[<-nH n 247 j hj,e,mJ]
  have e2:bits .andNot .i64 n 255=0:=Ag (pR n 255) ⟨by decide,by decide⟩ (fun j hj=>by
   rw[nH n 255 j hj,mJ,aa3 j hj];have:=hb j hj;rw[aa2 j hj] at this;by_cases j8:j<8
   ·simp[j8]
   ·simpa[j8] using this)
  have h3:=hb 3 afq;have h4:=hl.1 e2;exact ⟨h4.1,h4.2,by rw[aa2 3 afq] at h3;simpa using h3⟩
 ·rintro ⟨h0,h1,h3⟩;have e2:=hl.2 ⟨h0,h1⟩;refine Ag (pR n 247) ⟨by decide,by decide⟩ (fun j hj=>?_);have h5:=nH n 255 j hj;rw[e2,mJ,aa3 j hj] at h5;rw[nH n 247 j hj,mJ,aa2 j hj];by_cases j3:j=3
  ·subst j3;rw[show aG n (2 ^ 3)=false from h3];rfl
  ·simpa[j3] using h5.symm
theorem Cy (n:Int) (h:-9223372036854775808<=n/\n<=9223372036854775807):(bits .andNot .i64 n 15==0)=decide (0<=n/\n<16):=by
 have:=xg n h.1 h.2 4 afq 15 ad3;rw[Bool.eq_iff_iff,cL,decide_eq_true_iff];exact this
theorem m16:∀ j,j<64->aG 16 (2 ^ j)=decide (j=4):=by decide
theorem yM (n:Int) (h:-9223372036854775808<=n/\n<=9223372036854775807):bits .andNot .i64 n 16=if aG n 16=true then n-16 else n:=by
 cases hb:aG n 16 with
 | false=>
  rw[if_neg afq];refine Ag (pR n 16) h (fun j hj=>?_);rw[nH n 16 j hj,m16 j hj];by_cases j4:j=4
  ·subst j4;rw[show aG n (2 ^ 4)=false from hb];rfl
  ·simp[j4]
 | true=>
  rw[if_pos rfl];have hi:=pR n 16;have h4:=nH n 16 4 afq;rw[m16 4 afq,show aG n (2 ^ 4)=true from hb] at h4;rw[tH] at hi h4 ⊢;have hx:BitVec.ofInt 64 n=(BitVec.ofInt 64 n &&& ~~~ BitVec.ofInt 64 16)+BitVec.ofInt 64 16:=by
   rw[BitVec.add_eq_or_of_and_eq_zero]
   ·apply BitVec.eq_of_getLsbD_eq;intro j hj;rw[BitVec.getLsbD_or,BitVec.getLsbD_and,BitVec.getLsbD_not,jJ n j hj,jJ 16 j hj,m16 j hj];by_cases j4:j=4
    ·subst j4;rw[show aG n (2 ^ 4)=true from hb];rfl
    ·simp[j4,hj]
   ·apply BitVec.eq_of_getLsbD_eq;intro j hj;rw[BitVec.getLsbD_and,BitVec.getLsbD_and,BitVec.getLsbD_not];cases (BitVec.ofInt 64 16).getLsbD j <;> simp
  have hn:(BitVec.ofInt 64 n).toInt=n:=by rw[BitVec.toInt_ofInt,Int.bmod_def];split <;> omega
  have e2:=eh BitVec.toInt hx;rw[BitVec.toInt_add,hn] at e2;generalize (BitVec.ofInt 64 n &&& ~~~ BitVec.ofInt 64 16).toInt=r at *;rw[show (BitVec.ofInt 64 16).toInt=16 from rfl,Int.bmod_def] at e2;unfold aG at h4;simp at h4;split at e2 <;> omega
theorem Um (a b:Int):aG (bits .and .i64 a b) 1=(aG a 1 && aG b 1):=iY a b 0 afq
theorem Un (a b:Int):aG (bits .and .i64 a b) 2=(aG a 2 && aG b 2):=iY a b 1 afq
theorem JU (a b:Int):aG (bits .and .i64 a b) 4=(aG a 4 && aG b 4):=iY a b 2 afq
end Go.Proofs.YteknelimjfgmaaaGreatDoor
