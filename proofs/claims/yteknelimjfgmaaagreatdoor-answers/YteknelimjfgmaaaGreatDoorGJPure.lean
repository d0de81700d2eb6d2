namespace Go.Proofs.YteknelimjfgmaaaGreatDoor.Pure
def F:UInt64:=11400714819323198485
def mix (x:UInt64):UInt64:=x ^^^ (x >>> 29)
def step (h:UInt64) (b:UInt8):UInt64:=mix ((h+b.toUInt64+1)*F)
def ic (h:UInt64) (l:List UInt8):UInt64:=l.foldl step h
theorem Gg (h:UInt64) (a b:List UInt8):ic h (a++b)=ic (ic h a) b:=by simp[ic]
theorem Bt (h:UInt64) (a:List UInt8) (b:UInt8):ic h (a++[b])=step (ic h a) b:=by simp[ic]
def dW (v:UInt64) (k:Nat):UInt8:=UInt8.ofNat (v.toNat / 2 ^ (8*k))
def oh (v:UInt64) (size k:Nat):List UInt8:=(List.range k).map fun t=>dW v (size-1-t)
def be (v:UInt64) (size:Nat):List UInt8:=oh v size size
theorem rY (v:UInt64) (size:Nat):oh v size 0=[]:=rfl
theorem lW (v:UInt64) (size k:Nat):oh v size (k+1)=oh v size k++[dW v (size-1-k)]:=by simp[oh,List.range_succ]
theorem jD (v:UInt64) (size k:Nat):(oh v size k).length=k:=by simp[oh]
theorem bX (v:UInt64) (size:Nat):(be v size).length=size:=jD _ _ _
def xQ (h:UInt64) (b:UInt8):UInt64:=(h <<< 8) ||| b.toUInt64
def joinL (h:UInt64) (l:List UInt8):UInt64:=l.foldl xQ h
theorem sS (h:UInt64) (a:List UInt8) (b:UInt8):joinL h (a++[b])=xQ (joinL h a) b:=by simp[joinL]
theorem zX (h:UInt64) (b:UInt8):(xQ h b).toNat=(h.toNat*256+b.toNat) % 2 ^ 64:=by
 have hb:=b.toNat_lt;have e1:(xQ h b).toNat=(h.toNat*256 % 2 ^ 64) ||| b.toNat:=by
  simp[xQ,UInt64.toNat_or,UInt64.toNat_shiftLeft,Nat.shiftLeft_eq]
 have e2:(h.toNat*256 % 2 ^ 64)=(h.toNat % 2 ^ 56) <<< 8:=by rw[Nat.shiftLeft_eq];omega
 rw[e1,e2,<-Nat.shiftLeft_add_eq_or_of_lt (by simpa using hb),Nat.shiftLeft_eq];omega
theorem oq (l:List UInt8):∀ h:UInt64,(joinL h l).toNat=(l.foldl (fun n b=>n*256+b.toNat) h.toNat) % 2 ^ 64:=by
 induction l with
 | nil=>intro h;simp[joinL]
 | cons b l ih=>
  intro h;show (joinL (xQ h b) l).toNat=_;rw[ih,zX];simp only[List.foldl_cons];have key:∀ (l:List UInt8) (a c:Nat),a % 2 ^ 64=c % 2 ^ 64->(l.foldl (fun n b=>n*256+b.toNat) a) % 2 ^ 64=(l.foldl (fun n b=>n*256+b.toNat) c) % 2 ^ 64:=by
   intro l;induction l with
   | nil=>intro a c h;simpa using h
   | cons b l ih=>
    intro a c h;have e:(a*256+b.toNat) % 2 ^ 64=(c*256+b.toNat) % 2 ^ 64:=(by omega);exact ih _ _ e
  exact key l _ _ (by omega)
theorem Xi (v:UInt64):joinL 0 (be v 8)=v:=by
 apply UInt64.toNat_inj.1;have hv:=v.toNat_lt;rw[oq];simp[be,oh,List.range_succ,dW];omega
theorem Ow (l:List UInt8) (hl:l.length=8):be (joinL 0 l) 8=l:=by
 match l,hl with
 | [a,b,c,d,e,f,g,h],_=>
  have ha:=a.toNat_lt;have hb:=b.toNat_lt;have hc:=c.toNat_lt;have hd:=d.toNat_lt;have he:=e.toNat_lt;have hf:=f.toNat_lt;have hg:=g.toNat_lt;have hh:=h.toNat_lt;have q:=oq [a,b,c,d,e,f,g,h] 0;simp only[List.foldl_cons,List.foldl_nil,UInt64.toNat_zero,Nat.zero_mul,Nat.zero_add] at q;simp only[be,oh,List.range_succ,List.range_zero,List.nil_append,List.map_cons,List.map_nil,List.cons_append,dW,q];have z:∀ (n:Nat) (x:UInt8),n % 256=x.toNat->UInt8.ofNat n=x:=by
   intro n x h;apply UInt8.toNat_inj.1;simpa using h
  congr 1
  ·apply z;omega
  congr 1
  ·apply z;omega
  congr 1
  ·apply z;omega
  congr 1
  ·apply z;omega
  congr 1
  ·apply z;omega
  congr 1
  ·apply z;omega
  congr 1
  ·apply z;omega
  congr 1
  ·apply z;omega
def Bu (key use draw:UInt64):List UInt8:=be key 8++be use 1++be draw 8
def head (key use draw:UInt64):UInt64:=ic 0 (Bu key use draw)
def mask (head:UInt64) (i:Nat):UInt8:=dW (ic head (be (UInt64.ofNat i) 2)) 7
def veil (head:UInt64) (l:List UInt8):List UInt8:=l.mapIdx fun i b=>b ^^^ mask head i
theorem gq (head:UInt64) (l:List UInt8):(veil head l).length=l.length:=by simp[veil]
theorem EI (head:UInt64) (l:List UInt8) (k:Nat) (h:k<l.length):veil head (l.take (k+1))=veil head (l.take k)++[l[k] ^^^ mask head k]:=by
 unfold veil;rw[List.take_succ_eq_append_getElem h,List.mapIdx_append];simp[Nat.min_eq_left (Nat.le_of_lt h)]
theorem lX (k:Nat) (h:k<18446744073709551616):(UInt64.ofNat k).toNat=k:=by
 simp[UInt64.toNat_ofNat',Nat.mod_eq_of_lt h]
def fq (key use draw:UInt64) (plain:List UInt8):List UInt8:=
 be draw 8++veil (head key use draw) plain++be (ic (head key use draw) plain) 8
theorem dz (key use draw:UInt64) (plain:List UInt8):(fq key use draw plain).length=plain.length+16:=by
 simp[fq,bX,gq];omega
def jk (zs:List UInt8):UInt64:=joinL 0 (zs.take 8)
def eP (key use:UInt64) (zs:List UInt8):List UInt8:=veil (head key use (jk zs)) ((zs.drop 8).take (zs.length-16))
def Ox (zs:List UInt8):UInt64:=joinL 0 (zs.drop (zs.length-8))
def opens (key use:UInt64) (zs:List UInt8):Bool:=ic (head key use (jk zs)) (eP key use zs)==Ox zs
theorem Pz (key use:UInt64) (zs:List UInt8) (L:Nat) (hL:zs.length=L) (v:Bool) (h:opens key use zs=v) :
  (((ic (head key use (jk zs)) (eP key use zs)).toNat:Int) != ((joinL 0 (zs.drop (L-8))).toNat:Int))=!v:=by
 subst hL h
 unfold opens Ox
 rw[Bool.eq_iff_iff]
 simp only[bne_iff_ne,ne_eq,Bool.not_eq_true',beq_eq_false_iff_ne]
 constructor
 ·intro h e;apply h;rw[e]
 ·intro h e;apply h;exact UInt64.toNat_inj.1 (by omega)
theorem kC (key use:UInt64) (zs:List UInt8):(eP key use zs).length=zs.length-16:=by
 simp[eP,gq];omega
theorem PE (head:UInt64) (l:List UInt8):veil head (veil head l)=l:=by
 unfold veil;apply List.ext_getElem
 ·simp
 ·intro i h1 h2;simp[UInt8.xor_assoc]
theorem aam (key use draw:UInt64) (plain:List UInt8):((fq key use draw plain).drop 8).take plain.length=veil (head key use draw) plain:=by
 unfold fq;rw[List.append_assoc,List.drop_append_of_le_length (by simp[bX]),List.drop_of_length_le (by simp[bX]),List.nil_append,List.take_append_of_le_length (by simp[gq]),List.take_of_length_le (by simp[gq])]
theorem LZ (key use:UInt64) (zs:List UInt8) (h:16<=zs.length):(fq key use (jk zs) (eP key use zs)==zs)=opens key use zs:=by
 have h1:be (jk zs) 8=zs.take 8:=Ow _ (by rw[List.length_take];omega);have h2:veil (head key use (jk zs)) (eP key use zs)=(zs.drop 8).take (zs.length-16):=by unfold eP;rw[PE]
 have h3:zs=zs.take 8++(zs.drop 8).take (zs.length-16)++zs.drop (zs.length-8):=by
  have e:zs.drop (zs.length-8)=(zs.drop 8).drop (zs.length-16):=by rw[List.drop_drop];congr 1;omega
  rw[e,List.append_assoc,List.take_append_drop,List.take_append_drop]
 have h4:fq key use (jk zs) (eP key use zs)=zs.take 8++(zs.drop 8).take (zs.length-16)++be (ic (head key use (jk zs)) (eP key use zs)) 8:=by unfold fq;rw[h1,h2]
 have h5:be (Ox zs) 8=zs.drop (zs.length-8):=Ow _ (by rw[List.length_drop];omega);unfold opens;rw[Bool.eq_iff_iff,beq_iff_eq,beq_iff_eq,h4];constructor
 ·intro e;have e2:be (ic (head key use (jk zs)) (eP key use zs)) 8=zs.drop (zs.length-8):=by
   rw[h3] at e;conv at e=>rhs;rw[<-h3]
   have e3:=congrArg (List.drop (zs.length-8)) e;conv at e3=>lhs;rw[<-h3]
   rw[List.drop_append_of_le_length (by simp;omega),List.drop_of_length_le (by simp;omega),List.nil_append] at e3;exact e3
  unfold Ox;rw[<-e2,Xi]
 ·intro e;rw[e,h5];exact h3.symm
end Go.Proofs.YteknelimjfgmaaaGreatDoor.Pure
