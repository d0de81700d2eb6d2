namespace Go.Proofs.YtlfifnpjeangmaaGreatDoor.Pure
variable {h:UInt64}
def F:UInt64:=11400714819323198485
def AE:UInt64:=17428512612931826493
def mix(x:UInt64):UInt64:=x ^^^ (x >>> 29)
def step(h:UInt64)(b:UInt8):UInt64:=mix ((h+b.toUInt64+1)*F)
def fG(h:UInt64)(l:List UInt8):UInt64:=l.foldl step h
theorem Nd:F*AE=1:=by decide
theorem Sa{x y:UInt64}(h:x*F=y*F):x=y:=by
 have e:x*F*AE=y*F*AE:=by rw[h]
 grind [Nd]
theorem Sb{x y:UInt64}(h:mix x=mix y):x=y:=by
 have e:(x ^^^ y)=(x ^^^ y) >>> 29:=by
  rw[UInt64.shiftRight_xor];unfold mix at h;have a:x ^^^ y=(x ^^^ x >>> 29) ^^^ (x >>> 29) ^^^ y:=by
   rw[UInt64.xor_assoc x,UInt64.xor_self,UInt64.xor_zero]
  rw[a,h,UInt64.xor_assoc y,UInt64.xor_comm (y >>> 29),<-UInt64.xor_assoc,UInt64.xor_assoc,UInt64.xor_comm (y >>> 29) y,<-UInt64.xor_assoc];rw[UInt64.xor_comm y,UInt64.xor_assoc (x >>> 29),UInt64.xor_self,UInt64.xor_zero]
 have d:(x ^^^ y).toNat=(x ^^^ y).toNat / 2 ^ 29:=by
  have:=congrArg UInt64.toNat e;rw[UInt64.toNat_shiftRight]at this;simpa[Nat.shiftRight_eq_div_pow]using this
 have a:(x ^^^ y).toNat=0:=by omega
 have b:x ^^^ y=0:=UInt64.toNat_inj.1 (by simpa using a);exact UInt64.xor_eq_zero_iff.1 b
theorem Pg{k:UInt64}{b:UInt8}(e:step h b=step k b):h=k:=by
 have a:=Sa (Sb e);grind
theorem Ph{b c:UInt8}(e:step h b=step h c):b=c:=by
 have a:=Sa (Sb e);have d:=(UInt64.add_left_inj _).1 a;have f:=(UInt64.add_right_inj _).1 d;have:=congrArg UInt64.toNat f;exact UInt8.toNat_inj.1 (by simpa using this)
theorem uu(h)(a b):fG h (a++b)=fG (fG h a) b:=by simp[fG]
theorem Da(h)(a)(b):fG h (a++[b])=step (fG h a) b:=by simp[fG]
theorem KZ{k:UInt64}(l)(e:fG h l=fG k l):h=k:=by
 induction l generalizing h k with
 |nil=>exact e
 |cons b l a=>exact Pg (a e)
theorem TC{a c:List UInt8}{x y:UInt8}(e:fG h (a++x::c)=fG h (a++y::c)):x=y:=by
 rw[uu,uu]at e;exact Ph (KZ c e)
def dW(v:UInt64)(k:Nat):UInt8:=UInt8.ofNat (v.toNat / 2 ^ (8*k))
def pI(v:UInt64)(size k:Nat):List UInt8:=(List.range k).map λt=>dW v (size-1-t)
def be(v:UInt64)(size:Nat):List UInt8:=pI v size size
theorem tJ(v)(size):pI v size 0=[]:=rfl
theorem mU(v)(size k):pI v size (k+1)=pI v size k++[dW v (size-1-k)]:=by simp[pI,List.range_succ]
theorem jW(v)(size k):(pI v size k).length=k:=by simp[pI]
theorem bQ(v)(size):(be v size).length=size:=jW _ _ _
def yR(h:UInt64)(b:UInt8):UInt64:=(h <<< 8) ||| b.toUInt64
def joinL(h:UInt64)(l:List UInt8):UInt64:=l.foldl yR h
theorem uw(h)(a)(b):joinL h (a++[b])=yR (joinL h a) b:=by simp[joinL]
theorem Bh(h)(b):(yR h b).toNat=(h.toNat*256+b.toNat) % 2 ^ 64:=by
 have e:=b.toNat_lt;have a:(yR h b).toNat=(h.toNat*256 % 2 ^ 64) ||| b.toNat:=by
  simp[yR,UInt64.toNat_or,UInt64.toNat_shiftLeft,Nat.shiftLeft_eq]
 have d:(h.toNat*256 % 2 ^ 64)=(h.toNat % 2 ^ 56) <<< 8:=by rw[Nat.shiftLeft_eq];omega
 rw[a,d,<-Nat.shiftLeft_add_eq_or_of_lt (by simpa using e),Nat.shiftLeft_eq];omega
theorem pJ(l):∀h,(joinL h l).toNat=(l.foldl (λn b=>n*256+b.toNat) h.toNat) % 2 ^ 64:=by
 induction l with
 |nil=>intro h;simp[joinL]
 |cons b l e=>
  intro h;show(joinL (yR h b) l).toNat=_;rw[e,Bh];simp only[List.foldl_cons];have d:∀(l:List UInt8)(a c),a % 2 ^ 64=c % 2 ^ 64->(l.foldl (λn b=>n*256+b.toNat) a) % 2 ^ 64=(l.foldl (λn b=>n*256+b.toNat) c) % 2 ^ 64:=by
   intro l;induction l with
   |nil=>intro a c h;simpa using h
   |cons b l e=>
    grind
  exact d l _ _ (by omega)
theorem Jb(v):joinL 0 (be v 8)=v:=by
 apply UInt64.toNat_inj.1;have a:=v.toNat_lt;rw[pJ];simp[be,pI,List.range_succ,dW];omega
theorem Jc(l)(i:l.length=8):be (joinL 0 l) 8=l:=by
 match l,i with
 | [a,b,c,d,e,f,g,h],_=>
  have j:=a.toNat_lt;have k:=b.toNat_lt;have m:=c.toNat_lt;have o:=d.toNat_lt;have p:=e.toNat_lt;have r:=f.toNat_lt;have t:=g.toNat_lt;have u:=h.toNat_lt;have q:=pJ [a,b,c,d,e,f,g,h] 0;simp only[List.foldl_cons,List.foldl_nil,UInt64.toNat_zero,Nat.zero_mul,Nat.zero_add]at q;simp only[be,pI,List.range_succ,List.range_zero,List.nil_append,List.map_cons,List.map_nil,List.cons_append,dW,q];have z:∀(n)(x:UInt8),n % 256=x.toNat->UInt8.ofNat n=x:=by
   intro n x h;apply UInt8.toNat_inj.1;simpa using h
  congr 1
  .apply z;omega
  congr 1
  .apply z;omega
  congr 1
  .apply z;omega
  congr 1
  .apply z;omega
  congr 1
  .apply z;omega
  congr 1
  .apply z;omega
  congr 1
  .apply z;omega
  congr 1
  .apply z;omega
def Db(key use draw:UInt64):List UInt8:=be key 8++be use 1++be draw 8
def head(key use draw:UInt64):UInt64:=fG 0 (Db key use draw)
def mask(head:UInt64)(i:Nat):UInt8:=dW (fG head (be (UInt64.ofNat i) 2)) 7
def veil(head:UInt64)(l:List UInt8):List UInt8:=l.mapIdx λi b=>b ^^^ mask head i
theorem eD(head)(l):(veil head l).length=l.length:=by simp[veil]
theorem Ha(head)(l:List UInt8)(k)(h:k<l.length):veil head (l.take (k+1))=veil head (l.take k)++[l[k] ^^^ mask head k]:=by
 unfold veil;rw[List.take_succ_eq_append_getElem h,List.mapIdx_append];grind
theorem mV(k:Nat)(h:k<18446744073709551616):(UInt64.ofNat k).toNat=k:=by
 simp[UInt64.toNat_ofNat',Nat.mod_eq_of_lt h]
def dY(key use draw:UInt64)(plain:List UInt8):List UInt8:=
 be draw 8++veil (head key use draw) plain++be (fG (head key use draw) plain) 8
theorem dh(b d a)(plain):(dY b d a plain).length=plain.length+16:=by
 grind [bQ,eD,dY]
def je(zs:List UInt8):UInt64:=joinL 0 (zs.take 8)
def eO(key use:UInt64)(zs:List UInt8):List UInt8:=veil (head key use (je zs)) ((zs.drop 8).take (zs.length-16))
def Hd(zs:List UInt8):UInt64:=joinL 0 (zs.drop (zs.length-8))
def opens(key use:UInt64)(zs:List UInt8):Bool:=fG (head key use (je zs)) (eO key use zs)==Hd zs
theorem TD(a b)(d)(L)(f:d.length=L)(v)(h:opens a b d=v):
  (((fG (head a b (je d)) (eO a b d)).toNat:Int) != ((joinL 0 (d.drop (L-8))).toNat:Int))=!v:=by
 subst f h
 unfold opens Hd
 rw[Bool.eq_iff_iff]
 simp only[bne_iff_ne,ne_eq,Bool.not_eq_true',beq_eq_false_iff_ne]
 constructor
 .intro h e;apply h;rw[e]
 .intro h e;apply h;exact UInt64.toNat_inj.1 (by omega)
theorem kY(a b)(d):(eO a b d).length=d.length-16:=by
 grind [eD,eO]
theorem Aj(head)(l):veil head (veil head l)=l:=by
 unfold veil;apply List.ext_getElem
 .simp
 .intro i a b;simp[UInt8.xor_assoc]
theorem WQ(head)(l)(q)(c)(a:q<l.length):veil head (l.set q (l[q] ^^^ c))=(veil head l).set q ((veil head l)[q]'(by rw[eD];exact a) ^^^ c):=by
 grind [veil]
theorem WR(a c:UInt8)(h:c≠0):a ^^^ c≠a:=by
 intro e;apply h;have:a ^^^ (a ^^^ c)=a ^^^ a:=by rw[e]
 rwa [<-UInt8.xor_assoc,UInt8.xor_self,UInt8.zero_xor]at this
theorem WS{l:List UInt8}{q:Nat}{y:UInt8}(a:q<l.length)(f:y≠l[q]):fG h (l.set q y)≠fG h l:=by
 intro e;have b:l.set q y=l.take q++y::l.drop (q+1):=List.set_eq_take_append_cons_drop.trans (by rw[if_pos a]);have d:l=l.take q++l[q]::l.drop (q+1):=by rw[List.getElem_cons_drop,List.take_append_drop]
 grind [TC]
theorem To(b d a)(plain):je (dY b d a plain)=a:=by
 grind [bQ,Jb,dY,je]
theorem Pj(b d a)(plain):((dY b d a plain).drop 8).take plain.length=veil (head b d a) plain:=by
 unfold dY;rw[List.append_assoc,List.drop_append_of_le_length (by simp[bQ]),List.drop_of_length_le (by simp[bQ]),List.nil_append,List.take_append_of_le_length (by simp[eD]),List.take_of_length_le (by simp[eD])]
theorem WT(b d a)(plain):(dY b d a plain).drop (plain.length+8)=be (fG (head b d a) plain) 8:=by
 unfold dY;rw[List.drop_append_of_le_length (by grind [eD,bQ]),List.drop_of_length_le (by grind [bQ,eD]),List.nil_append]
theorem XG(b d a)(plain)(p)(y)(u:8<=p)(t:p<(dY b d a plain).length)(c)(l:c≠0)(o:y=(dY b d a plain)[p] ^^^ c):
  opens b d ((dY b d a plain).set p y)=false:=by
 have f:=dh b d a plain
 have q:y≠(dY b d a plain)[p]:=by rw[o];exact WR _ _ l
 have g:je ((dY b d a plain).set p y)=a:=by
  unfold je;rw[List.take_set_of_le (by omega)];exact To b d a plain
 have m:eO b d ((dY b d a plain).set p y)=veil (head b d a) ((veil (head b d a) plain).set (p-8) y):=by
  unfold eO;rw[g,List.length_set,f,Nat.add_sub_cancel,List.drop_set,if_neg (by omega),List.take_set,Pj]
 have n:Hd ((dY b d a plain).set p y)=joinL 0 (if p<plain.length+8 then be (fG (head b d a) plain) 8 else(be (fG (head b d a) plain) 8).set (p-(plain.length+8)) y):=by
  unfold Hd;rw[List.length_set,f,show plain.length+16-8=plain.length+8 from by omega,List.drop_set,WT]
 unfold opens
 rw[g,m,n]
 rw[beq_eq_false_iff_ne]
 by_cases h:p<plain.length+8
 .rw[if_pos h,Jb];have e:p-8<plain.length:=by omega
  have i:p-8<(veil (head b d a) plain).length:=by rw[eD];exact e
  have j:(dY b d a plain)[p]=(veil (head b d a) plain)[p-8]:=by
   grind [Pj]
  grind [WQ,WS,WR,Aj]
 .rw[if_neg h];have i:veil (head b d a) ((veil (head b d a) plain).set (p-8) y)=plain:=by
   rw[List.set_eq_of_length_le (by rw[eD];omega),Aj]
  rw[i];intro e;have k:p-(plain.length+8)<8:=by omega
  have j:=Jc ((be (fG (head b d a) plain) 8).set (p-(plain.length+8)) y) (by simp[bQ]);rw[<-e]at j;have r:(be (fG (head b d a) plain) 8)[p-(plain.length+8)]'(by rw[bQ];exact k)=y:=by
   grind
  grind [WT]
theorem Pk(b d)(a)(h:16<=a.length):(dY b d (je a) (eO b d a)==a)=opens b d a:=by
 have g:be (je a) 8=a.take 8:=Jc _ (by rw[List.length_take];omega);have i:veil (head b d (je a)) (eO b d a)=(a.drop 8).take (a.length-16):=by unfold eO;rw[Aj]
 have k:a=a.take 8++(a.drop 8).take (a.length-16)++a.drop (a.length-8):=by
  have e:a.drop (a.length-8)=(a.drop 8).drop (a.length-16):=by rw[List.drop_drop];congr 1;omega
  rw[e,List.append_assoc,List.take_append_drop,List.take_append_drop]
 have j:dY b d (je a) (eO b d a)=a.take 8++(a.drop 8).take (a.length-16)++be (fG (head b d (je a)) (eO b d a)) 8:=by unfold dY;rw[g,i]
 have l:be (Hd a) 8=a.drop (a.length-8):=Jc _ (by rw[List.length_drop];omega);unfold opens;rw[Bool.eq_iff_iff,beq_iff_eq,beq_iff_eq,j];constructor
 .intro e;have f:be (fG (head b d (je a)) (eO b d a)) 8=a.drop (a.length-8):=by
   grind
  unfold Hd;rw[<-f,Jb]
 grind
