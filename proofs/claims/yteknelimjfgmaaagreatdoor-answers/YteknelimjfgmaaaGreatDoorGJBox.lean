import Derived.Lib.ItoaLen
import Derived.Test.YteknelimjfgmaaaGreatDoorGJPure
namespace Go.Proofs.YteknelimjfgmaaaGreatDoor.Box
variable {l:List UInt8}
def gu (l:List UInt8):Option (Nat×List UInt8):=
 if 1<=l.length/\(l.getD 0 0).toNat<128 then some ((l.getD 0 0).toNat,l.drop 1)
 else if 2<=l.length/\(l.getD 0 0).toNat=129 then (if 128<=(l.getD 1 0).toNat then some ((l.getD 1 0).toNat,l.drop 2) else none)
 else if 3<=l.length/\(l.getD 0 0).toNat=130 then (if 256<=(l.getD 1 0).toNat*256+(l.getD 2 0).toNat then some ((l.getD 1 0).toNat*256+(l.getD 2 0).toNat,l.drop 3) else none)
 else none
def cut (l:List UInt8):Option (UInt8×List UInt8×List UInt8):=
 if l.length=0 then none
 else match gu (l.drop 1) with
  | some (n,r)=>if n<=r.length then some (l.getD 0 0,r.take n,r.drop n) else none
  | none=>none
def sign (b:UInt8):Int:=if b.toNat<128 then b.toNat else (b.toNat:Int)-256
def iy (v:Int) (l:List UInt8):Int:=l.foldl (fun a b=>a*256+(b.toNat:Int)) v
def val (l:List UInt8):Int:=iy (sign (l.getD 0 0)) (l.drop 1)
def size (v:Int):Nat:=
 if -128<=v/\v<128 then 1
 else if -32768<=v/\v<32768 then 2
 else if -8388608<=v/\v<8388608 then 3
 else if -2147483648<=v/\v<2147483648 then 4
 else if -549755813888<=v/\v<549755813888 then 5
 else if -140737488355328<=v/\v<140737488355328 then 6
 else if -36028797018963968<=v/\v<36028797018963968 then 7
 else 8
def num (l:List UInt8):Option Int:=if 1<=l.length/\l.length<=8/\size (val l)=l.length then some (val l) else none
theorem qX (b:UInt8):-128<=sign b/\sign b<128:=by
 have:=b.toNat_lt;unfold sign;split <;> omega
theorem xY (v:Int) (b:UInt8) (l:List UInt8):iy v (b::l)=iy (v*256+(b.toNat:Int)) l:=rfl
theorem Gl (v:Int) (l:List UInt8) (b:UInt8):iy v (l++[b])=iy v l*256+(b.toNat:Int):=by simp[iy]
theorem uO {M:Int} (l:List UInt8) (v:Int) (h0:-M<=v) (h1:v<M):-(M*256 ^ l.length)<=iy v l/\iy v l<M*256 ^ l.length:=by
 induction l generalizing v M with
 | nil=>simp[iy];omega
 | cons b l ih=>
  have hb:=b.toNat_lt;have h:=ih (M:=M*256) (v*256+(b.toNat:Int)) (by omega) (by omega);rw[xY,List.length_cons,Int.pow_succ,Int.mul_comm (256 ^ l.length) 256,<-Int.mul_assoc];exact h
theorem sZ (h1:1<=l.length) (h8:l.length<=8):-9223372036854775808<=val l/\val l<=9223372036854775807:=by
 have hs:=qX (l.getD 0 0);have h:=uO (M:=128) (l.drop 1) _ hs.1 hs.2;have hk:l.length-1<=7:=by omega
 have e:(l.drop 1).length=l.length-1:=by simp
 rw[e] at h;have hp:(256:Int) ^ (l.length-1)<=256 ^ 7:=by
  have:(256:Nat) ^ (l.length-1)<=256 ^ 7:=Nat.pow_le_pow_right (by decide) hk;rw[show (256:Int)=((256:Nat):Int) from rfl,<-Int.natCast_pow,<-Int.natCast_pow];exact Int.ofNat_le.2 this
 unfold val;have e7:(256:Int) ^ 7=72057594037927936:=by decide
 rw[e7] at hp;omega
theorem bitLen_le {k x:Nat} (hx:x<2 ^ 64):Lib.bitLen x<=k↔x<2 ^ k:=by
 induction k generalizing x with
 | zero=>
  by_cases h:x=0
  ·subst h;simp[Lib.bitLen,Lib.bitLenAux]
  ·rw[Lib.bitLen_half x h hx];simp;omega
 | succ k ih=>
  by_cases h:x=0
  ·subst h;simp[Lib.bitLen,Lib.bitLenAux];exact Nat.two_pow_pos _
  ·rw[Lib.bitLen_half x h hx,Nat.pow_succ];have:=ih (x:=x / 2) (by omega);omega
theorem zx (v:Int) (h0:-9223372036854775808<=v) (h1:v<=9223372036854775807) (m:Nat) (hm:(m:Int)=if v<0 then -v-1 else v) :
  (Lib.bitLen m+8) / 8=size v:=by
 have hx:m<2 ^ 64:=by split at hm <;> omega
 have l7:=bitLen_le (k:=7) hx
 have l15:=bitLen_le (k:=15) hx
 have l23:=bitLen_le (k:=23) hx
 have l31:=bitLen_le (k:=31) hx
 have l39:=bitLen_le (k:=39) hx
 have l47:=bitLen_le (k:=47) hx
 have l55:=bitLen_le (k:=55) hx
 have l63:=bitLen_le (k:=63) hx
 simp only[Nat.reducePow] at *
 unfold size
 split at hm <;> (repeat' split) <;> omega
def dig (n:Nat):UInt8:=if n<10 then UInt8.ofNat (48+n) else UInt8.ofNat (87+n)
def hex (l:List UInt8):List UInt8:=l.flatMap fun b=>[dig (b.toNat / 16),dig (b.toNat % 16)]
def all (sh:List UInt8->Option (List UInt8×List UInt8)):Nat->List UInt8->Option (List (List UInt8))
 | 0,l=>if l.length=0 then some [] else none
 | n+1,l=>if l.length=0 then some [] else
  match sh l with
  | none=>none
  | some (t,r)=>(all sh n r).map (t::·)
def commas:List (List UInt8)->List UInt8
 | []=>[]
 | [t]=>t
 | t::ts=>t++44::commas ts
def leaf (tag:UInt8) (l:List UInt8):Option (List UInt8):=
 if tag.toNat=2 then (num l).map Lib.itoa else if tag.toNat=4 then some (34::hex l++[34]) else none
def piece (inner:List UInt8->Option (List (List UInt8))) (tag:UInt8) (l:List UInt8):Option (List UInt8):=
 if tag.toNat=48 then (inner l).map fun ts=>123::commas ts++[125] else leaf tag l
def Zo:Nat->List UInt8->Option (List UInt8×List UInt8)
 | 0,l=>match cut l with
  | none=>none
  | some (tag,i,r)=>(leaf tag i).map (·,r)
 | d+1,l=>match cut l with
  | none=>none
  | some (tag,i,r)=>(piece (fun i=>all (Zo d) i.length i) tag i).map (·,r)
def whole (l:List UInt8):Option (List UInt8):=
 match Zo 8 l with
 | some (t,[])=>some t
 | _=>none
theorem wL {r:List UInt8} {n:Nat} (h:gu l=some (n,r)):r.length<l.length:=by
 unfold gu at h;(repeat' split at h) <;> simp at h <;> obtain ⟨_,rfl⟩:=h <;> simp <;> omega
theorem jF {i r:List UInt8} {tag:UInt8} (h:cut l=some (tag,i,r)):i.length+r.length+2<=l.length:=by
 unfold cut at h;split at h
 ·simp at h
 ·split at h
  ·rename_i n r' h';have:=wL h';split at h
   ·simp at h;obtain ⟨_,rfl,rfl⟩:=h;simp at *;omega
   ·simp at h
  ·simp at h
end Go.Proofs.YteknelimjfgmaaaGreatDoor.Box
