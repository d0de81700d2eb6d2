namespace Go.Proofs.YticfhckmhcaigaaGreatDoor.Pure
def F:UInt64:=11400714819323198485
def mix(x:UInt64):UInt64:=x ^^^ (x >>> 29)
def step(h:UInt64)(b:UInt8):UInt64:=mix ((h+b.toUInt64+1)*F)
def iD(h:UInt64)(l:List UInt8):UInt64:=l.foldl step h
theorem KJ(h)(a b):iD h (a++b)=iD (iD h a) b:=by simp[iD]
theorem Er(h)(a)(b):iD h (a++[b])=step (iD h a) b:=by simp[iD]
def ed(v:UInt64)(k:Nat):UInt8:=UInt8.ofNat (v.toNat / 2 ^ (8*k))
def qi(v:UInt64)(size k:Nat):List UInt8:=(List.range k).map λt=>ed v (size-1-t)
def be(v:UInt64)(size:Nat):List UInt8:=qi v size size
theorem uA(v)(size):qi v size 0=[]:=rfl
theorem nE(v)(size k):qi v size (k+1)=qi v size k++[ed v (size-1-k)]:=by simp[qi,List.range_succ]
theorem kG(v)(size k):(qi v size k).length=k:=by simp[qi]
theorem dB(v)(size):(be v size).length=size:=kG _ _ _
def zV(h:UInt64)(b:UInt8):UInt64:=(h <<< 8) ||| b.toUInt64
def joinL(h:UInt64)(l:List UInt8):UInt64:=l.foldl zV h
theorem uY(h)(a)(b):joinL h (a++[b])=zV (joinL h a) b:=by simp[joinL]
theorem Ct(h)(b):(zV h b).toNat=(h.toNat*256+b.toNat) % 2 ^ 64:=by
 have e:=b.toNat_lt;have a:(zV h b).toNat=(h.toNat*256 % 2 ^ 64) ||| b.toNat:=by
  simp[zV,UInt64.toNat_or,UInt64.toNat_shiftLeft,Nat.shiftLeft_eq]
 have d:(h.toNat*256 % 2 ^ 64)=(h.toNat % 2 ^ 56) <<< 8:=by rw[Nat.shiftLeft_eq];omega
 rw[a,d,<-Nat.shiftLeft_add_eq_or_of_lt (by simpa using e),Nat.shiftLeft_eq];omega
theorem qj(l):∀h,(joinL h l).toNat=(l.foldl (λn b=>n*256+b.toNat) h.toNat) % 2 ^ 64:=by
 induction l with
 |nil=>intro h;simp[joinL]
 |cons b l e=>
  intro h;show(joinL (zV h b) l).toNat=_;rw[e,Ct];simp only[List.foldl_cons];have d:∀(l:List UInt8)(a c),a % 2 ^ 64=c % 2 ^ 64->(l.foldl (λn b=>n*256+b.toNat) a) % 2 ^ 64=(l.foldl (λn b=>n*256+b.toNat) c) % 2 ^ 64:=by
   intro l;induction l with
   |nil=>intro a c h;simpa using h
   |cons b l e=>
    grind
  exact d l _ _ (by omega)
theorem adQ(v):joinL 0 (be v 8)=v:=by
 apply UInt64.toNat_inj.1;have a:=v.toNat_lt;rw[qj];simp[be,qi,List.range_succ,ed];omega
theorem UK(l)(i:l.length=8):be (joinL 0 l) 8=l:=by
 match l,i with
 | [a,b,c,d,e,f,g,h],_=>
  have j:=a.toNat_lt;have k:=b.toNat_lt;have m:=c.toNat_lt;have o:=d.toNat_lt;have p:=e.toNat_lt;have r:=f.toNat_lt;have t:=g.toNat_lt;have u:=h.toNat_lt;have q:=qj [a,b,c,d,e,f,g,h] 0;simp only[List.foldl_cons,List.foldl_nil,UInt64.toNat_zero,Nat.zero_mul,Nat.zero_add]at q;simp only[be,qi,List.range_succ,List.range_zero,List.nil_append,List.map_cons,List.map_nil,List.cons_append,ed,q];have z:∀(n)(x:UInt8),n % 256=x.toNat->UInt8.ofNat n=x:=by
   intro n x h;apply UInt8.toNat_inj.1;simpa using h
  congr 1
  .apply z;omega
  congr 1
  .apply z;omega
  congr 1
  .apply z;omega
  congr 1
  .apply z;omega
  congr 1
  .apply z;omega
  congr 1
  .apply z;omega
  congr 1
  .apply z;omega
  congr 1
  .apply z;omega
def Es(key use draw:UInt64):List UInt8:=be key 8++be use 1++be draw 8
def head(key use draw:UInt64):UInt64:=iD 0 (Es key use draw)
def mask(head:UInt64)(i:Nat):UInt8:=ed (iD head (be (UInt64.ofNat i) 2)) 7
def veil(head:UInt64)(l:List UInt8):List UInt8:=l.mapIdx λi b=>b ^^^ mask head i
theorem ic(head)(l):(veil head l).length=l.length:=by simp[veil]
theorem Jr(head)(l:List UInt8)(k)(h:k<l.length):veil head (l.take (k+1))=veil head (l.take k)++[l[k] ^^^ mask head k]:=by
 unfold veil;rw[List.take_succ_eq_append_getElem h,List.mapIdx_append];grind
theorem lG(k:Nat)(h:k<18446744073709551616):(UInt64.ofNat k).toNat=k:=by
 simp[UInt64.toNat_ofNat',Nat.mod_eq_of_lt h]
def eB(key use draw:UInt64)(plain:List UInt8):List UInt8:=
 be draw 8++veil (head key use draw) plain++be (iD (head key use draw) plain) 8
theorem bR(b d a)(plain):(eB b d a plain).length=plain.length+16:=by
 grind [dB,ic,eB]
def iI(zs:List UInt8):UInt64:=joinL 0 (zs.take 8)
def dI(key use:UInt64)(zs:List UInt8):List UInt8:=veil (head key use (iI zs)) ((zs.drop 8).take (zs.length-16))
def UL(zs:List UInt8):UInt64:=joinL 0 (zs.drop (zs.length-8))
def opens(key use:UInt64)(zs:List UInt8):Bool:=iD (head key use (iI zs)) (dI key use zs)==UL zs
theorem VL(a b)(d)(L)(f:d.length=L)(v)(h:opens a b d=v):
  (((iD (head a b (iI d)) (dI a b d)).toNat:Int) != ((joinL 0 (d.drop (L-8))).toNat:Int))=!v:=by
 subst f h
 unfold opens UL
 rw[Bool.eq_iff_iff]
 simp only[bne_iff_ne,ne_eq,Bool.not_eq_true',beq_eq_false_iff_ne]
 constructor
 .intro h e;apply h;rw[e]
 .intro h e;apply h;exact UInt64.toNat_inj.1 (by omega)
theorem jd(a b)(d):(dI a b d).length=d.length-16:=by
 grind [ic,dI]
theorem VM(head)(l):veil head (veil head l)=l:=by
 unfold veil;apply List.ext_getElem
 .simp
 .intro i a b;simp[UInt8.xor_assoc]
theorem Zb(b d a)(plain):((eB b d a plain).drop 8).take plain.length=veil (head b d a) plain:=by
 unfold eB;rw[List.append_assoc,List.drop_append_of_le_length (by simp[dB]),List.drop_of_length_le (by simp[dB]),List.nil_append,List.take_append_of_le_length (by simp[ic]),List.take_of_length_le (by simp[ic])]
theorem Et(b d)(a)(h:16<=a.length):(eB b d (iI a) (dI b d a)==a)=opens b d a:=by
 have g:be (iI a) 8=a.take 8:=UK _ (by rw[List.length_take];omega);have i:veil (head b d (iI a)) (dI b d a)=(a.drop 8).take (a.length-16):=by unfold dI;rw[VM]
 have k:a=a.take 8++(a.drop 8).take (a.length-16)++a.drop (a.length-8):=by
  have e:a.drop (a.length-8)=(a.drop 8).drop (a.length-16):=by rw[List.drop_drop];congr 1;omega
  rw[e,List.append_assoc,List.take_append_drop,List.take_append_drop]
 have j:eB b d (iI a) (dI b d a)=a.take 8++(a.drop 8).take (a.length-16)++be (iD (head b d (iI a)) (dI b d a)) 8:=by unfold eB;rw[g,i]
 have l:be (UL a) 8=a.drop (a.length-8):=UK _ (by rw[List.length_drop];omega);unfold opens;rw[Bool.eq_iff_iff,beq_iff_eq,beq_iff_eq,j];constructor
 .intro e;have f:be (iD (head b d (iI a)) (dI b d a)) 8=a.drop (a.length-8):=by
   grind
  unfold UL;rw[<-f,adQ]
 grind
