/-
  
  
-/
import Derived.Lib.ItoaLen
import Derived.Lib.BitFns
import Derived.Test.YtpibgolaaaemnaaGreatDoorGUPure
namespace Go.Proofs.YtpibgolaaaemnaaGreatDoor.Box
def iw (l:List UInt8):Option (Nat×List UInt8):=
 if 1≤l.length∧(l.getD 0 0).toNat<128 then some ((l.getD 0 0).toNat,l.drop 1)
 else if 2≤l.length∧(l.getD 0 0).toNat=129 then (if 128≤(l.getD 1 0).toNat then some ((l.getD 1 0).toNat,l.drop 2) else none)
 else if 3≤l.length∧(l.getD 0 0).toNat=130 then (if 256≤(l.getD 1 0).toNat*256+(l.getD 2 0).toNat then some ((l.getD 1 0).toNat*256+(l.getD 2 0).toNat,l.drop 3) else none)
 else none
def cut (l:List UInt8):Option (UInt8×List UInt8×List UInt8):=
 if l.length=0 then none
 else match iw (l.drop 1) with
  | some (n,r)=>if n≤r.length then some (l.getD 0 0,r.take n,r.drop n) else none
  | none=>none
def sign (b:UInt8):Int:=if b.toNat<128 then b.toNat else (b.toNat:Int)-256
def jI (v:Int) (l:List UInt8):Int:=l.foldl (fun a b=>a*256+(b.toNat:Int)) v
def val (l:List UInt8):Int:=jI (sign (l.getD 0 0)) (l.drop 1)
def size (v:Int):Nat:=
 if -128≤v∧v<128 then 1
 else if -32768≤v∧v<32768 then 2
 else if -8388608≤v∧v<8388608 then 3
 else if -2147483648≤v∧v<2147483648 then 4
 else if -549755813888≤v∧v<549755813888 then 5
 else if -140737488355328≤v∧v<140737488355328 then 6
 else if -36028797018963968≤v∧v<36028797018963968 then 7
 else 8
def num (l:List UInt8):Option Int:=if 1≤l.length∧l.length≤8∧size (val l)=l.length then some (val l) else none
theorem yz (b:UInt8):-128≤sign b∧sign b<128:=by
 have:=b.toNat_lt
 unfold sign
 split <;> omega
theorem Gm (v:Int):jI v []=v:=rfl
theorem Eu (v:Int) (b:UInt8) (l:List UInt8):jI v (b::l)=jI (v*256+(b.toNat:Int)) l:=rfl
theorem Ev (v:Int) (l:List UInt8) (b:UInt8):jI v (l++[b])=jI v l*256+(b.toNat:Int):=by simp[jI]
theorem zV {M:Int} (l:List UInt8) (v:Int) (h0:-M≤v) (h1:v<M):-(M*256 ^ l.length)≤jI v l∧jI v l<M*256 ^ l.length:=by
 induction l generalizing v M with
 | nil=>simp[jI];omega
 | cons b l ih=>
  have hb:=b.toNat_lt
  have h:=ih (M:=M*256) (v*256+(b.toNat:Int)) (by omega) (by omega)
  rw[Eu,List.length_cons,Int.pow_succ,Int.mul_comm (256 ^ l.length) 256,←Int.mul_assoc]
  exact h
theorem nk {l:List UInt8} (h1:1≤l.length) (h8:l.length≤8):-9223372036854775808≤val l∧val l≤9223372036854775807:=by
 have hs:=yz (l.getD 0 0)
 have h:=zV (M:=128) (l.drop 1) _ hs.1 hs.2
 have hk:l.length-1≤7:=by omega
 have e:(l.drop 1).length=l.length-1:=by simp
 rw[e] at h
 have hp:(256:Int) ^ (l.length-1)≤256 ^ 7:=by
  have:(256:Nat) ^ (l.length-1)≤256 ^ 7:=Nat.pow_le_pow_right (by decide) hk
  rw[show (256:Int)=((256:Nat):Int) from rfl,←Int.natCast_pow,←Int.natCast_pow]
  exact Int.ofNat_le.2 this
 unfold val
 have e7:(256:Int) ^ 7=72057594037927936:=by decide
 rw[e7] at hp
 omega
theorem bitLen_le {k x:Nat} (hx:x<2 ^ 64):Lib.bitLen x≤k↔x<2 ^ k:=by
 induction k generalizing x with
 | zero=>
  by_cases h:x=0
  ·subst h;simp[Lib.bitLen,Lib.bitLenAux]
  ·rw[Lib.bitLen_half x h hx];simp;omega
 | succ k ih=>
  by_cases h:x=0
  ·subst h;simp[Lib.bitLen,Lib.bitLenAux];exact Nat.two_pow_pos _
  ·rw[Lib.bitLen_half x h hx,Nat.pow_succ]
   have:=ih (x:=x / 2) (by omega)
   omega
theorem xE (v:Int) (h0:-9223372036854775808≤v) (h1:v≤9223372036854775807) (m:Nat) (hm:(m:Int)=if v<0 then -v-1 else v) :
  (Lib.bitLen m+8) / 8=size v:=by
 have hx:m<2 ^ 64:=by split at hm <;> omega
 have l7:=bitLen_le (k:=7) hx
 have l15:=bitLen_le (k:=15) hx
 have l23:=bitLen_le (k:=23) hx
 have l31:=bitLen_le (k:=31) hx
 have l39:=bitLen_le (k:=39) hx
 have l47:=bitLen_le (k:=47) hx
 have l55:=bitLen_le (k:=55) hx
 have l63:=bitLen_le (k:=63) hx
 simp only[Nat.reducePow] at *
 unfold size
 split at hm <;> (repeat' split) <;> omega
def Cg (n:Nat):UInt8:=if n<10 then UInt8.ofNat (48+n) else UInt8.ofNat (87+n)
def hex (l:List UInt8):List UInt8:=l.flatMap fun b=>[Cg (b.toNat / 16),Cg (b.toNat % 16)]
theorem jM (l:List UInt8):(hex l).length=2*l.length:=by
 induction l with
 | nil=>rfl
 | cons b l ih=>simp only[hex,List.flatMap_cons,List.length_append,List.length_cons,List.length_nil] at *;omega
theorem Ke (a b:List UInt8):hex (a++b)=hex a++hex b:=by simp[hex]
def all (sh:List UInt8→Option (List UInt8×List UInt8)):Nat→List UInt8→Option (List (List UInt8))
 | 0,l=>if l.length=0 then some [] else none
 | n+1,l=>if l.length=0 then some [] else
  match sh l with
  | none=>none
  | some (t,r)=>(all sh n r).map (t::·)
def commas:List (List UInt8)→List UInt8
 | []=>[]
 | [t]=>t
 | t::ts=>t++44::commas ts
def leaf (tag:UInt8) (l:List UInt8):Option (List UInt8):=
 if tag.toNat=2 then (num l).map Lib.itoa else if tag.toNat=4 then some (34::hex l++[34]) else none
def piece (inner:List UInt8→Option (List (List UInt8))) (tag:UInt8) (l:List UInt8):Option (List UInt8):=
 if tag.toNat=48 then (inner l).map fun ts=>123::commas ts++[125] else leaf tag l
def fo:Nat→List UInt8→Option (List UInt8×List UInt8)
 | 0,l=>match cut l with
  | none=>none
  | some (tag,i,r)=>(leaf tag i).map (·,r)
 | d+1,l=>match cut l with
  | none=>none
  | some (tag,i,r)=>(piece (fun i=>all (fo d) i.length i) tag i).map (·,r)
def whole (l:List UInt8):Option (List UInt8):=
 match fo 8 l with
 | some (t,[])=>some t
 | _=>none
theorem uA {l r:List UInt8} {n:Nat} (h:iw l=some (n,r)):r.length<l.length:=by
 unfold iw at h
 (repeat' split at h) <;> simp at h <;> obtain ⟨_,rfl⟩:=h <;> simp <;> omega
theorem fq {l i r:List UInt8} {tag:UInt8} (h:cut l=some (tag,i,r)):i.length+r.length+2≤l.length:=by
 unfold cut at h
 split at h
 ·simp at h
 ·split at h
  ·rename_i n r' h'
   have:=uA h'
   split at h
   ·simp at h
    obtain ⟨_,rfl,rfl⟩:=h
    simp at *
    omega
   ·simp at h
  ·simp at h
end Go.Proofs.YtpibgolaaaemnaaGreatDoor.Box
namespace Go.Proofs.YtpibgolaaaemnaaGreatDoor.Box
def ny (sh:List UInt8→Option (List UInt8×List UInt8)) (l:List UInt8):Option (List (List UInt8)):=all sh l.length l
def zu (sh:List UInt8→Option (List UInt8×List UInt8)):Prop:=∀ l t r,sh l=some (t,r)→r.length<l.length
theorem QM {sh:List UInt8→Option (List UInt8×List UInt8)} (hs:zu sh):∀ (n:Nat) (l:List UInt8),l.length≤n→all sh n l=ny sh l:=by
 suffices H:∀ (n m:Nat) (l:List UInt8),l.length≤n→l.length≤m→all sh n l=all sh m l from fun n l h=>H n l.length l h (Nat.le_refl _)
 intro n
 induction n with
 | zero=>
  intro m l h1 _
  have h0:l.length=0:=by omega
  cases m with
  | zero=>rfl
  | succ m=>simp[all,h0]
 | succ n ih=>
  intro m l h1 h2
  cases m with
  | zero=>
   have h0:l.length=0:=by omega
   simp[all,h0]
  | succ m=>
   by_cases h0:l.length=0
   ·simp[all,h0]
   ·simp only[all,if_neg h0]
    cases h:sh l with
    | none=>rfl
    | some tr=>
     obtain ⟨t,r⟩:=tr
     have:=hs l t r h
     simp only
     rw[ih m r (by omega) (by omega)]
theorem zW (sh:List UInt8→Option (List UInt8×List UInt8)):ny sh []=some []:=rfl
theorem pF {sh:List UInt8→Option (List UInt8×List UInt8)} {l:List UInt8} (h0:0<l.length) (h:sh l=none):ny sh l=none:=by
 unfold ny
 obtain ⟨m,hm⟩:∃ m,l.length=m+1:=⟨l.length-1,by omega⟩
 rw[hm,all,if_neg (by omega),h]
theorem tK {sh:List UInt8→Option (List UInt8×List UInt8)} (hs:zu sh) {l t r:List UInt8} (h:sh l=some (t,r)):ny sh l=(ny sh r).map (t::·):=by
 have hlt:=hs l t r h
 unfold ny
 obtain ⟨m,hm⟩:∃ m,l.length=m+1:=⟨l.length-1,by omega⟩
 rw[hm,all,if_neg (by omega),h]
 simp only
 rw[QM hs m r (by omega)]
 rfl
theorem iy (d:Nat):zu (fo d):=by
 intro l t r h
 cases d with
 | zero=>
  rw[fo] at h
  split at h
  ·simp at h
  ·rename_i tag i r' hc
   have:=fq hc
   simp only[Option.map_eq_some_iff,Prod.mk.injEq] at h
   obtain ⟨_,_,_,rfl⟩:=h
   omega
 | succ d=>
  rw[fo] at h
  split at h
  ·simp at h
  ·rename_i tag i r' hc
   have:=fq hc
   simp only[Option.map_eq_some_iff,Prod.mk.injEq] at h
   obtain ⟨_,_,_,rfl⟩:=h
   omega
theorem Gn (ts:List (List UInt8)) (t:List UInt8):commas (ts++[t])=if ts=[] then t else commas ts++44::t:=by
 induction ts with
 | nil=>rfl
 | cons a ts ih=>
  cases ts with
  | nil=>rfl
  | cons b ts=>
   rw[if_neg (by simp)] at *
   show a++44::commas ((b::ts)++[t])=(a++44::commas (b::ts))++44::t
   rw[ih]
   simp
def Told (sh:List UInt8→Option (List UInt8×List UInt8)):Prop:=∀ l t r,sh l=some (t,r)→t.length+1+22*r.length≤22*l.length
theorem zX (t:List UInt8) (ts:List (List UInt8)):(commas (t::ts)).length≤t.length+1+(commas ts).length:=by
 cases ts with
 | nil=>simp[commas]
 | cons b ts=>simp[commas];omega
theorem yA {sh:List UInt8→Option (List UInt8×List UInt8)} (hs:zu sh) (ht:Told sh):∀ (n:Nat) (l:List UInt8) (ts:List (List UInt8)),l.length≤n→ny sh l=some ts→(commas ts).length≤22*l.length:=by
 intro n
 induction n with
 | zero=>
  intro l ts h1 h
  have:l=[]:=List.eq_nil_of_length_eq_zero (by omega)
  subst this
  rw[zW] at h
  simp only[Option.some.injEq] at h
  subst h
  simp[commas]
 | succ n ih=>
  intro l ts h1 h
  cases hl:sh l with
  | none=>
   by_cases h0:0<l.length
   ·rw[pF h0 hl] at h;simp at h
   ·have:l=[]:=List.eq_nil_of_length_eq_zero (by omega)
    subst this
    rw[zW] at h
    simp only[Option.some.injEq] at h
    subst h
    simp[commas]
  | some tr=>
   obtain ⟨t,r⟩:=tr
   rw[tK hs hl] at h
   simp only[Option.map_eq_some_iff] at h
   obtain ⟨ts',h',rfl⟩:=h
   have h2:=hs l t r hl
   have h3:=ih r ts' (by omega) h'
   have h4:=ht l t r hl
   have h5:=zX t ts'
   omega
theorem sj {tag:UInt8} {i t:List UInt8} (h:leaf tag i=some t):t.length≤21+2*i.length:=by
 unfold leaf at h
 split at h
 ·simp only[Option.map_eq_some_iff] at h
  obtain ⟨v,hv,rfl⟩:=h
  unfold num at hv
  split at hv
  ·rename_i hc
   simp only[Option.some.injEq] at hv
   subst hv
   have hb:=nk hc.1 hc.2.1
   have:=Lib.itoa_length_le _ hb.1 hb.2
   omega
  ·simp at hv
 ·split at h
  ·simp only[Option.some.injEq] at h
   subst h
   simp[jM]
   omega
  ·simp at h
theorem uR (d:Nat):Told (fo d):=by
 induction d with
 | zero=>
  intro l t r h
  rw[fo] at h
  split at h
  ·simp at h
  ·rename_i tag i r' hc
   have:=fq hc
   simp only[Option.map_eq_some_iff,Prod.mk.injEq] at h
   obtain ⟨t',ht,rfl,rfl⟩:=h
   have:=sj ht
   omega
 | succ d ih=>
  intro l t r h
  rw[fo] at h
  split at h
  ·simp at h
  ·rename_i tag i r' hc
   have:=fq hc
   simp only[Option.map_eq_some_iff,Prod.mk.injEq] at h
   obtain ⟨t',ht,rfl,rfl⟩:=h
   unfold piece at ht
   split at ht
   ·simp only[Option.map_eq_some_iff] at ht
    obtain ⟨ts,h1,rfl⟩:=ht
    have:=yA (iy d) ih i.length i ts (Nat.le_refl _) h1
    simp
    omega
   ·have:=sj ht
    omega
end Go.Proofs.YtpibgolaaaemnaaGreatDoor.Box
