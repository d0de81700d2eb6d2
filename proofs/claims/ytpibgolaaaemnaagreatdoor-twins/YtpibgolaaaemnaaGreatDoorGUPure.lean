/-
  
-/
namespace Go.Proofs.YtpibgolaaaemnaaGreatDoor.Pure
def F:UInt64:=11400714819323198485
def mix (x:UInt64):UInt64:=x ^^^ (x >>> 29)
def step (h:UInt64) (b:UInt8):UInt64:=mix ((h+b.toUInt64+1)*F)
def lQ (h:UInt64) (l:List UInt8):UInt64:=l.foldl step h
theorem Ka (h:UInt64) (a:List UInt8) (b:UInt8):lQ h (a++[b])=step (lQ h a) b:=by simp[lQ]
def fO (v:UInt64) (k:Nat):UInt8:=UInt8.ofNat (v.toNat / 2 ^ (8*k))
def oC (v:UInt64) (size k:Nat):List UInt8:=(List.range k).map fun t=>fO v (size-1-t)
def be (v:UInt64) (size:Nat):List UInt8:=oC v size size
theorem oZ (v:UInt64) (size:Nat):oC v size 0=[]:=rfl
theorem mG (v:UInt64) (size k:Nat):oC v size (k+1)=oC v size k++[fO v (size-1-k)]:=by simp[oC,List.range_succ]
theorem iI (v:UInt64) (size k:Nat):(oC v size k).length=k:=by simp[oC]
theorem di (v:UInt64) (size:Nat):(be v size).length=size:=iI _ _ _
def yu (h:UInt64) (b:UInt8):UInt64:=(h <<< 8) ||| b.toUInt64
def joinL (h:UInt64) (l:List UInt8):UInt64:=l.foldl yu h
theorem qb (h:UInt64) (a:List UInt8) (b:UInt8):joinL h (a++[b])=yu (joinL h a) b:=by simp[joinL]
theorem yw (h:UInt64) (b:UInt8):(yu h b).toNat=(h.toNat*256+b.toNat) % 2 ^ 64:=by
 have hb:=b.toNat_lt
 have e1:(yu h b).toNat=(h.toNat*256 % 2 ^ 64) ||| b.toNat:=by
  simp[yu,UInt64.toNat_or,UInt64.toNat_shiftLeft,Nat.shiftLeft_eq]
 have e2:(h.toNat*256 % 2 ^ 64)=(h.toNat % 2 ^ 56) <<< 8:=by rw[Nat.shiftLeft_eq];omega
 rw[e1,e2,←Nat.shiftLeft_add_eq_or_of_lt (by simpa using hb),Nat.shiftLeft_eq]
 omega
theorem nR (l:List UInt8):∀ h:UInt64,(joinL h l).toNat=(l.foldl (fun n b=>n*256+b.toNat) h.toNat) % 2 ^ 64:=by
 induction l with
 | nil=>intro h;simp[joinL]
 | cons b l ih=>
  intro h
  show (joinL (yu h b) l).toNat=_
  rw[ih,yw]
  simp only[List.foldl_cons]
  have key:∀ (l:List UInt8) (a c:Nat),a % 2 ^ 64=c % 2 ^ 64→(l.foldl (fun n b=>n*256+b.toNat) a) % 2 ^ 64=(l.foldl (fun n b=>n*256+b.toNat) c) % 2 ^ 64:=by
   intro l
   induction l with
   | nil=>intro a c h;simpa using h
   | cons b l ih=>
    intro a c h
    have e:(a*256+b.toNat) % 2 ^ 64=(c*256+b.toNat) % 2 ^ 64:=by omega
    exact ih _ _ e
  exact key l _ _ (by omega)
theorem Ep (v:UInt64):joinL 0 (be v 8)=v:=by
 apply UInt64.toNat_inj.1
 have hv:=v.toNat_lt
 rw[nR]
 simp[be,oC,List.range_succ,fO]
 omega
def Dg (key use draw:UInt64):List UInt8:=be key 8++be use 1++be draw 8
def head (key use draw:UInt64):UInt64:=lQ 0 (Dg key use draw)
def mask (head:UInt64) (i:Nat):UInt8:=fO (lQ head (be (UInt64.ofNat i) 2)) 7
def veil (head:UInt64) (l:List UInt8):List UInt8:=l.mapIdx fun i b=>b ^^^ mask head i
theorem eu (head:UInt64) (l:List UInt8):(veil head l).length=l.length:=by simp[veil]
theorem NJ (head:UInt64) (l:List UInt8) (k:Nat) (h:k<l.length):veil head (l.take (k+1))=veil head (l.take k)++[l[k] ^^^ mask head k]:=by
 unfold veil
 rw[List.take_succ_eq_append_getElem h,List.mapIdx_append]
 simp[Nat.min_eq_left (Nat.le_of_lt h)]
theorem jR (k:Nat) (h:k<18446744073709551616):(UInt64.ofNat k).toNat=k:=by
 simp[UInt64.toNat_ofNat',Nat.mod_eq_of_lt h]
def dK (key use draw:UInt64) (plain:List UInt8):List UInt8:=
 be draw 8++veil (head key use draw) plain++be (lQ (head key use draw) plain) 8
theorem bO (key use draw:UInt64) (plain:List UInt8):(dK key use draw plain).length=plain.length+16:=by
 simp[dK,di,eu];omega
def qf (zs:List UInt8):UInt64:=joinL 0 (zs.take 8)
def gy (key use:UInt64) (zs:List UInt8):List UInt8:=veil (head key use (qf zs)) ((zs.drop 8).take (zs.length-16))
def Qz (zs:List UInt8):UInt64:=joinL 0 (zs.drop (zs.length-8))
def opens (key use:UInt64) (zs:List UInt8):Bool:=lQ (head key use (qf zs)) (gy key use zs)==Qz zs
theorem NK (key use:UInt64) (zs:List UInt8) (L:Nat) (hL:zs.length=L) (v:Bool) (h:opens key use zs=v) :
  (((lQ (head key use (qf zs)) (gy key use zs)).toNat:Int) != ((joinL 0 (zs.drop (L-8))).toNat:Int))=!v:=by
 subst hL h
 unfold opens Qz
 rw[Bool.eq_iff_iff]
 simp only[bne_iff_ne,ne_eq,Bool.not_eq_true',beq_eq_false_iff_ne]
 constructor
 ·intro h e;apply h;rw[e]
 ·intro h e;apply h;exact UInt64.toNat_inj.1 (by omega)
theorem ni (key use:UInt64) (zs:List UInt8):(gy key use zs).length=zs.length-16:=by
 simp[gy,eu];omega
theorem NL (head:UInt64) (l:List UInt8):veil head (veil head l)=l:=by
 unfold veil
 apply List.ext_getElem
 ·simp
 ·intro i h1 h2
  simp[UInt8.xor_assoc]
theorem Mw (key use draw:UInt64) (plain:List UInt8):qf (dK key use draw plain)=draw:=by
 unfold qf dK
 rw[List.append_assoc,List.take_append_of_le_length (by simp[di]),List.take_of_length_le (by simp[di])]
 exact Ep draw
theorem Yq (key use draw:UInt64) (plain:List UInt8):((dK key use draw plain).drop 8).take plain.length=veil (head key use draw) plain:=by
 unfold dK
 rw[List.append_assoc,List.drop_append_of_le_length (by simp[di]),List.drop_of_length_le (by simp[di]),List.nil_append,List.take_append_of_le_length (by simp[eu]),List.take_of_length_le (by simp[eu])]
theorem Yr (key use draw:UInt64) (plain:List UInt8):(dK key use draw plain).drop (plain.length+8)=be (lQ (head key use draw) plain) 8:=by
 unfold dK
 rw[List.drop_append_of_le_length (by simp[di,eu];omega),List.drop_of_length_le (by simp[di,eu];omega),List.nil_append]
theorem Gc (key use draw:UInt64) (plain:List UInt8):gy key use (dK key use draw plain)=plain:=by
 unfold gy
 rw[Mw,bO,Nat.add_sub_cancel,Yq,NL]
theorem QA (key use draw:UInt64) (plain:List UInt8):opens key use (dK key use draw plain)=true:=by
 unfold opens Qz
 rw[Mw,Gc,bO,show plain.length+16-8=plain.length+8 from by omega,Yr,Ep]
 simp
end Go.Proofs.YtpibgolaaaemnaaGreatDoor.Pure
