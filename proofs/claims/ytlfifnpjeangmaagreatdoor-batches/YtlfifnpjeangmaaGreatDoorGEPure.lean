namespace Go.Proofs.YtlfifnpjeangmaaGreatDoor.Pure
def F:UInt64:=11400714819323198485
def mix(x:UInt64):UInt64:=x ^^^ (x >>> 29)
def step(h:UInt64)(b:UInt8):UInt64:=mix ((h+b.toUInt64+1)*F)
def iG(h:UInt64)(l:List UInt8):UInt64:=l.foldl step h
theorem I8(h)(a b):iG h (a++b)=iG (iG h a) b:=by simp[iG]
theorem CW(h)(a)(b):iG h (a++[b])=step (iG h a) b:=by simp[iG]
def dW(v:UInt64)(k:Nat):UInt8:=UInt8.ofNat (v.toNat / 2 ^ (8*k))
def pF(v:UInt64)(size k:Nat):List UInt8:=(List.range k).map λt=>dW v (size-1-t)
def be(v:UInt64)(size:Nat):List UInt8:=pF v size size
theorem tF(v)(size):pF v size 0=[]:=rfl
theorem mQ(v)(size k):pF v size (k+1)=pF v size k++[dW v (size-1-k)]:=by simp[pF,List.range_succ]
theorem jV(v)(size k):(pF v size k).length=k:=by simp[pF]
theorem dm(v)(size):(be v size).length=size:=jV _ _ _
def yO(h:UInt64)(b:UInt8):UInt64:=(h <<< 8) ||| b.toUInt64
def joinL(h:UInt64)(l:List UInt8):UInt64:=l.foldl yO h
theorem um(h)(a)(b):joinL h (a++[b])=yO (joinL h a) b:=by simp[joinL]
theorem Bd(h)(b):(yO h b).toNat=(h.toNat*256+b.toNat) % 2 ^ 64:=by
 have a:=b.toNat_lt;have d:(yO h b).toNat=(h.toNat*256 % 2 ^ 64) ||| b.toNat:=by
  simp[yO,UInt64.toNat_or,UInt64.toNat_shiftLeft,Nat.shiftLeft_eq]
 have c:(h.toNat*256 % 2 ^ 64)=(h.toNat % 2 ^ 56) <<< 8:=by rw[Nat.shiftLeft_eq];omega
 rw[d,c,<-Nat.shiftLeft_add_eq_or_of_lt (by simpa using a),Nat.shiftLeft_eq];omega
theorem pG(l):∀h,(joinL h l).toNat=(l.foldl (λn b=>n*256+b.toNat) h.toNat) % 2 ^ 64:=by
 induction l with
 |nil=>intro h;simp[joinL]
 |cons b l d=>
  intro h;show(joinL (yO h b) l).toNat=_;rw[d,Bd];simp only[List.foldl_cons];have key:∀(l:List UInt8)(a c),a % 2 ^ 64=c % 2 ^ 64->(l.foldl (λn b=>n*256+b.toNat) a) % 2 ^ 64=(l.foldl (λn b=>n*256+b.toNat) c) % 2 ^ 64:=by
   intro l;induction l with
   |nil=>intro a c h;simpa using h
   |cons b l d=>
    grind
  exact key l _ _ (by omega)
theorem aa9(v):joinL 0 (be v 8)=v:=by
 apply UInt64.toNat_inj.1;have a:=v.toNat_lt;rw[pG];simp[be,pF,List.range_succ,dW];omega
theorem RN(l)(i:l.length=8):be (joinL 0 l) 8=l:=by
 match l,i with
 | [a,b,c,d,e,f,g,h],_=>
  have k:=a.toNat_lt;have o:=b.toNat_lt;have r:=c.toNat_lt;have s:=d.toNat_lt;have m:=e.toNat_lt;have j:=f.toNat_lt;have t:=g.toNat_lt;have p:=h.toNat_lt;have q:=pG [a,b,c,d,e,f,g,h] 0;simp only[List.foldl_cons,List.foldl_nil,UInt64.toNat_zero,Nat.zero_mul,Nat.zero_add]at q;simp only[be,pF,List.range_succ,List.range_zero,List.nil_append,List.map_cons,List.map_nil,List.cons_append,dW,q];have z:∀(n)(x:UInt8),n % 256=x.toNat->UInt8.ofNat n=x:=by
   intro n x h;apply UInt8.toNat_inj.1;simpa using h
  congr 1
  ·apply z;omega
  congr 1
  ·apply z;omega
  congr 1
  ·apply z;omega
  congr 1
  ·apply z;omega
  congr 1
  ·apply z;omega
  congr 1
  ·apply z;omega
  congr 1
  ·apply z;omega
  congr 1
  ·apply z;omega
def CX(key use draw:UInt64):List UInt8:=be key 8++be use 1++be draw 8
def head(key use draw:UInt64):UInt64:=iG 0 (CX key use draw)
def mask(head:UInt64)(i:Nat):UInt8:=dW (iG head (be (UInt64.ofNat i) 2)) 7
def veil(head:UInt64)(l:List UInt8):List UInt8:=l.mapIdx λi b=>b ^^^ mask head i
theorem gP(head)(l):(veil head l).length=l.length:=by simp[veil]
theorem G8(head)(l:List UInt8)(k)(h:k<l.length):veil head (l.take (k+1))=veil head (l.take k)++[l[k] ^^^ mask head k]:=by
 unfold veil;rw[List.take_succ_eq_append_getElem h,List.mapIdx_append];grind
theorem mR(k:Nat)(h:k<18446744073709551616):(UInt64.ofNat k).toNat=k:=by
 simp[UInt64.toNat_ofNat',Nat.mod_eq_of_lt h]
def fE(key use draw:UInt64)(plain:List UInt8):List UInt8:=
 be draw 8++veil (head key use draw) plain++be (iG (head key use draw) plain) 8
theorem dx(key a draw)(plain):(fE key a draw plain).length=plain.length+16:=by
 grind [dm,gP,fE]
def kN(zs:List UInt8):UInt64:=joinL 0 (zs.take 8)
def eQ(key use:UInt64)(zs:List UInt8):List UInt8:=veil (head key use (kN zs)) ((zs.drop 8).take (zs.length-16))
def RU(zs:List UInt8):UInt64:=joinL 0 (zs.drop (zs.length-8))
def opens(key use:UInt64)(zs:List UInt8):Bool:=iG (head key use (kN zs)) (eQ key use zs)==RU zs
theorem Tn(key a)(zs)(L)(b:zs.length=L)(v)(h:opens key a zs=v):
  (((iG (head key a (kN zs)) (eQ key a zs)).toNat:Int) != ((joinL 0 (zs.drop (L-8))).toNat:Int))=!v:=by
 subst b h
 unfold opens RU
 rw[Bool.eq_iff_iff]
 simp only[bne_iff_ne,ne_eq,Bool.not_eq_true',beq_eq_false_iff_ne]
 constructor
 ·intro h e;apply h;rw[e]
 ·intro h e;apply h;exact UInt64.toNat_inj.1 (by omega)
theorem kX(key a)(zs):(eQ key a zs).length=zs.length-16:=by
 grind [gP,eQ]
theorem Tp(head)(l):veil head (veil head l)=l:=by
 unfold veil;apply List.ext_getElem
 ·simp
 ·intro i a b;simp[UInt8.xor_assoc]
theorem aeC(key a draw)(plain):((fE key a draw plain).drop 8).take plain.length=veil (head key a draw) plain:=by
 unfold fE;rw[List.append_assoc,List.drop_append_of_le_length (by simp[dm]),List.drop_of_length_le (by simp[dm]),List.nil_append,List.take_append_of_le_length (by simp[gP]),List.take_of_length_le (by simp[gP])]
theorem O7(key a)(zs)(h:16<=zs.length):(fE key a (kN zs) (eQ key a zs)==zs)=opens key a zs:=by
 have b:be (kN zs) 8=zs.take 8:=RN _ (by rw[List.length_take];omega);have d:veil (head key a (kN zs)) (eQ key a zs)=(zs.drop 8).take (zs.length-16):=by unfold eQ;rw[Tp]
 have i:zs=zs.take 8++(zs.drop 8).take (zs.length-16)++zs.drop (zs.length-8):=by
  have e:zs.drop (zs.length-8)=(zs.drop 8).drop (zs.length-16):=by rw[List.drop_drop];congr 1;omega
  rw[e,List.append_assoc,List.take_append_drop,List.take_append_drop]
 have f:fE key a (kN zs) (eQ key a zs)=zs.take 8++(zs.drop 8).take (zs.length-16)++be (iG (head key a (kN zs)) (eQ key a zs)) 8:=by unfold fE;rw[b,d]
 have g:be (RU zs) 8=zs.drop (zs.length-8):=RN _ (by rw[List.length_drop];omega);unfold opens;rw[Bool.eq_iff_iff,beq_iff_eq,beq_iff_eq,f];constructor
 ·intro e;have c:be (iG (head key a (kN zs)) (eQ key a zs)) 8=zs.drop (zs.length-8):=by
   grind
  unfold RU;rw[<-c,aa9]
 grind
end Go.Proofs.YtlfifnpjeangmaaGreatDoor.Pure
