import Derived.Test.YtlfifnpjeangmaaGreatDoorGEPure
import Derived.WalkSpells
import Derived.WalkLawsBesides
theorem Go.RowKit.Hid.o{p:Prop}(h:Go.RowKit.Hid p):p:=h
namespace Go.Proofs.YtlfifnpjeangmaaGreatDoor
open Go.RowKit
variable {p:Prop}
instance (b i : Nat): CoeDep (Nat × Nat) (b, i) Addr := ⟨⟨b, i, none⟩⟩
structure ιT where
def ι: ιT := ⟨⟩
instance : CoeFun ιT λ_ => Int → Value := ⟨λ_ => .int .i64⟩
structure υT where
def υ: υT := ⟨⟩
instance : CoeFun υT λ_ => Int → Value := ⟨λ_ => .int .u64⟩
instance (w : World)(i : Nat): CoeDep (World × Nat) (w, i) Addr := ⟨⟨w.heap.size, i, none⟩⟩
instance (b i : Nat): CoeDep (Nat × Nat) (b, i) Value := ⟨.pointer (some ⟨b, i, none⟩)⟩
instance (w : World)(i : Nat): CoeDep (World × Nat) (w, i) Value := ⟨.pointer (some ⟨w.heap.size, i, none⟩)⟩
instance (l : List UInt8): CoeDep (List UInt8) l ByteArray := ⟨⟨l.toArray⟩⟩
theorem agE(h:p:=by omega):p:=h
theorem agF(h:p:=by decide):p:=h
theorem agI(h:p:=by simp):p:=h
theorem agM(h:p:=by grind):p:=h
theorem ag1(h:p:=by unfold maxLen;omega):p:=h
theorem ag2(h:p:=by simp;omega):p:=h
theorem ag8(h:p:=by grind [World.grownBy.block]):p:=h
variable {bs zs:List UInt8}{g off:Nat}{ao:Option Addr}{P:Program}{p0 p1 p2 p3 p4 p5 p6 p7:Prop}{a b w w':World}
theorem aq{α:Sort _}(a:α):∃x,a=x:=⟨a,rfl⟩
theorem aw{α:Sort _}(a:α):∃x,x=a:=⟨a,rfl⟩
theorem cx:∀(w:World)(o:Obj)(x:Option Nat),w.grownBy (w.alloc o) x:=@World.grownBy_alloc
theorem cy:∀(n : Nat), n <= n:=@Nat.le_refl
theorem cA:∀{α : Type _}{x : Option α}, x.isSome = true ↔ ∃a, x = some a:=@Option.isSome_iff_exists
theorem cC:∀(w:World)(x:Option Nat),w.grownBy w x:=@World.grownBy.refl
theorem cD:∀{α : Type _}{as bs : List α}, (as ++ bs).length = as.length + bs.length:=@List.length_append
theorem cE:∀{n m k : Nat}, n <= m -> m <= k -> n <= k:=@Nat.le_trans
theorem cF:∀(w:World)(o:Obj),(w.alloc o).heap.size=w.heap.size+1:=@World.size_alloc
theorem cG:∀{α : Type _}{a : α}{l : List α}, (a :: l)[0]? = some a:=@List.getElem?_cons_zero
theorem cH:∀{α : Type _}{c : List α}{i : Nat}, c.toArray[i]? = c[i]?:=@List.getElem?_toArray
theorem cI:∀{α : Type _}{a : α}{i : Nat}{l : List α}, (a :: l)[i + 1]? = l[i]?:=@List.getElem?_cons_succ
theorem cJ:∀{α : Type _}[BEq α][LawfulBEq α]{a b : α}, (a == b) = false ↔ a ≠ b:=@beq_eq_false_iff_ne
theorem cL:∀{α : Type _}{l : List α}{i : Nat}(h : i < l.length), l[i]? = some l[i]:=@List.getElem?_eq_getElem
theorem cM:∀{α : Type _}{i : Nat}{a : α}{l : List α}, l[i]? = some a ↔ ∃h, l[i] = a:=@List.getElem?_eq_some_iff
theorem cN:∀(n : Nat), 0 + n = n:=@Nat.zero_add
theorem cR:∀{α : Type _}{β : Type _}{as : List α}(f : α -> β), (List.map f as).length = as.length:=@List.length_map
theorem cS:∀(n : Nat), 0 <= n:=@Nat.zero_le
theorem cU:∀{α : Type _}{i : Nat}{l : List α}, l.length <= i -> List.take i l = l:=@List.take_of_length_le
theorem cV:∀{α : Type _}{c : Array α}, c.toList.length = c.size:=@Array.length_toList
theorem cW:∀{α : Type _}{c d : List α}{i : Nat}, i < c.length -> (c ++ d)[i]? = c[i]?:=@List.getElem?_append_left
theorem cX:∀{p : Prop}[Decidable p], ¬p -> decide p = false:=@decide_eq_false
theorem cY:∀{α : Type _}{c d : List α}{i : Nat}, c.length <= i -> (c ++ d)[i]? = d[i - c.length]?:=@List.getElem?_append_right
theorem db:∀{α : Type _}[BEq α][LawfulBEq α]{a b : α}, (a == b) = true ↔ a = b:=@beq_iff_eq
theorem de:∀{α : Type _}{a : α}{as : List α}, (a :: as).length = as.length + 1:=@List.length_cons
theorem dj:∀{α : Type _}{a : α}, (some a).isSome = true:=@Option.isSome_some
theorem dk:∀{p : Prop}[Decidable p], p -> decide p = true:=@decide_eq_true
theorem dr:∀{α : Type _}{i : Nat}{l : List α}, (List.drop i l).length = l.length - i:=@List.length_drop
theorem du:∀{α : Type _}(as bs cs : List α), as ++ bs ++ cs = as ++ (bs ++ cs):=@List.append_assoc
theorem dy:∀{α : Type _}{i : Nat}{l : List α}(h : i < l.length), List.take (i + 1) l = List.take i l ++ [l[i]]:=@List.take_succ_eq_append_getElem
theorem ee:∀{α : Type _}{l : List α}{i : Nat}{a : α}, i < l.length -> (l.set i a)[i]? = some a:=@List.getElem?_set_self
theorem ef:∀{α : Type _}{l : List α}{n : Nat}(h : n < l.length), l[n] ∈ l:=@List.getElem_mem
theorem eg:∀{α : Type _}{β : Type _}{f : α -> β}{c d : List α}, List.map f (c ++ d) = List.map f c ++ List.map f d:=@List.map_append
theorem eh:∀{α : Type _}(l : List α)(i : Nat)(a : α), l.toArray.setIfInBounds i a = (l.set i a).toArray:=@List.setIfInBounds_toArray
theorem ej:∀{α : Type _}{x : α}{c : List α}{a : α}, (x :: c).set 0 a = a :: c:=@List.set_cons_zero
theorem en:∀(n k : Nat), n <= n + k:=@Nat.le_add_right
theorem eo:∀{n : Nat}, (UInt8.ofNat n).toNat = n % 2 ^ 8:=@UInt8.toNat_ofNat'
theorem ep:∀{α : Type _}{i : Nat}{l : List α}, (List.take i l).length = min i l.length:=@List.length_take
theorem ew:∀{α : Type _}{a b : α}, a ∈ [b] ↔ a = b:=@List.mem_singleton
theorem ey:∀{α : Type _}{l : List α}{i : Nat}{a : α}, l[i]? = some a -> a ∈ l:=@List.mem_of_getElem?
theorem ez:∀{a b : Nat}, a < b -> a % b = a:=@Nat.mod_eq_of_lt
theorem eA:∀{α : Type _}{β : Type _}{f : α -> β}{l : List α}{i : Nat}, (List.map f l)[i]? = Option.map f l[i]?:=@List.getElem?_map
theorem eC:∀{α : Type _}{a : α}, [a].length = 1:=@List.length_singleton
theorem eE:∀{α : Type _}{β : Type _}{f : α -> β}{a : α}{l : List α}, List.map f (a :: l) = f a :: List.map f l:=@List.map_cons
theorem eI:∀{α : Type _}{l : List α}{L : List (List α)}, (l :: L).flatten = l ++ L.flatten:=@List.flatten_cons
theorem eJ:∀{α : Type _}{x : α}{c : List α}{i : Nat}{a : α}, (x :: c).set (i + 1) a = x :: c.set i a:=@List.set_cons_succ
theorem eK:∀{α : Type _}{β : Type _}{l : List α}{a : α}{f : α -> β}, a ∈ l -> f a ∈ List.map f l:=@List.mem_map_of_mem
theorem eL:∀{α : Type _}{as : List α}{i : Nat}{a : α}, (as.set i a).length = as.length:=@List.length_set
theorem eM:(!false) = true:=@Bool.not_false
theorem eN:∀{α : Type _}(i : Nat)(l : List α), List.take i l ++ List.drop i l = l:=@List.take_append_drop
theorem eR:∀(p : Prop), p \/ ¬p:=@Classical.em
theorem eS:∀{a b : Int}, ¬a < b ↔ b <= a:=@Int.not_lt
theorem eV:(!true) = false:=@Bool.not_true
theorem eW:∀{α : Type _}{a : α}{s t : List α}, a ∈ s ++ t ↔ a ∈ s \/ a ∈ t:=@List.mem_append
theorem fg:∀(n : Nat), n <= n.succ:=@Nat.le_succ
theorem fh:∀{α : Type _}{l : List α}, l.length = 0 -> l = []:=@List.eq_nil_of_length_eq_zero
theorem fj:∀{α : Type _}[BEq α][LawfulBEq α]{a b : α}, (a != b) = true ↔ a ≠ b:=@bne_iff_ne
theorem fk:∀{a b : Int}, 0 <= a -> a.tmod b = a % b:=@Int.tmod_eq_emod_of_nonneg
theorem fm:∀{α : Type _}{i : Nat}{c : Array α}, c.size <= i -> c[i]? = none:=@Array.getElem?_eq_none
theorem fp:∀{α : Type _}(val c : α), (some val = some c) = (val = c):=@Option.some.injEq
theorem fs:∀{α : Type _}{n : Nat}{a : α}, (List.replicate n a).length = n:=@List.length_replicate
theorem ft:∀(n : Nat), n + 0 = n:=@Nat.add_zero
theorem fy:∀{α : Type _}{β : Type _}{f : α -> β}, List.map f [] = []:=@List.map_nil
theorem fL:(false = true) = False:=@Bool.false_eq_true
theorem fN:∀{n m k : Nat}, n < m -> m <= k -> n < k:=@Nat.lt_of_lt_of_le
theorem fR:∀(n : Nat), n * 1 = n:=@Nat.mul_one
theorem fS:∀{α : Type _}(as : List α), as ++ [] = as:=@List.append_nil
theorem fW:∀(b : Bool), (b&&true) = b:=@Bool.and_true
theorem fX:∀{α : Type _}{l : List α}, 0 < l.length ↔ l ≠ []:=@List.length_pos_iff
theorem fY:∀(n : Nat), n < n.succ:=@Nat.lt_succ_self
theorem gf:∀(n : Nat), 0 * n = 0:=@Nat.zero_mul
theorem gh:∀{a b : Nat}, a <= b -> min a b = a:=@Nat.min_eq_left
theorem gi:∀(n m k : Nat), n + m + k = n + (m + k):=@Nat.add_assoc
theorem gj:∀(b : Bool), (false&&b) = false:=@Bool.false_and
theorem gn:∀(b : Bool), (true&&b) = b:=@Bool.true_and
theorem gC:∀(n : Nat), ¬n < n:=@Nat.lt_irrefl
theorem gE:∀(n : Nat), n - n = 0:=@Nat.sub_self
theorem bd(c:p0)(d:p1):Hid p0/\Hid p1:=⟨c,d⟩
theorem bh(d:p0)(e:p1)(c:p2):Hid p0/\Hid p1/\Hid p2:=⟨d,e,c⟩
theorem bj(d:p0)(f:p1)(c:p2)(e:p3):Hid p0/\Hid p1/\Hid p2/\Hid p3:=⟨d,f,c,e⟩
theorem br(f:p0)(c:p1)(e:p2)(d:p3)(h:p4):Hid p0/\Hid p1/\Hid p2/\Hid p3/\Hid p4:=⟨f,c,e,d,h⟩
theorem bw(h:p0)(c:p1)(e:p2)(d:p3)(i:p4)(f:p5):Hid p0/\Hid p1/\Hid p2/\Hid p3/\Hid p4/\Hid p5:=⟨h,c,e,d,i,f⟩
theorem cg(h:p0)(c:p1)(e:p2)(d:p3)(i:p4)(f:p5)(j:p6):Hid p0/\Hid p1/\Hid p2/\Hid p3/\Hid p4/\Hid p5/\Hid p6:=⟨h,c,e,d,i,f,j⟩
theorem cq(i:p0)(d:p1)(f:p2)(e:p3)(j:p4)(h:p5)(k:p6)(c:p7):Hid p0/\Hid p1/\Hid p2/\Hid p3/\Hid p4/\Hid p5/\Hid p6/\Hid p7:=⟨i,d,f,e,j,h,k,c⟩
theorem ct{c:Prop}(k:p0)(f:p1)(i:p2)(h:p3)(l:p4)(j:p5)(m:p6)(d:p7)(e:c):Hid p0/\Hid p1/\Hid p2/\Hid p3/\Hid p4/\Hid p5/\Hid p6/\Hid p7/\Hid c:=⟨k,f,i,h,l,j,m,d,e⟩
theorem cw{c d:Prop}(n:p0)(i:p1)(k:p2)(j:p3)(o:p4)(l:p5)(m:p6)(e:p7)(f:c)(h:d):Hid p0/\Hid p1/\Hid p2/\Hid p3/\Hid p4/\Hid p5/\Hid p6/\Hid p7/\Hid c/\Hid d:=⟨n,i,k,j,o,l,m,e,f,h⟩
theorem hid{p:Prop}(h:p):Hid p:=h
theorem I9(n:Nat):IntKind.u64.wrap (n:Int)=((n % 18446744073709551616:Nat):Int):=by
 rw[IntKind.wrap_u64];omega
theorem CY(n)(d:0<=n)(c:n<18446744073709551616):IntKind.u64.wrap n=n:=by
 rw[IntKind.wrap_u64];omega
theorem yP(b:UInt8):IntKind.u64.wrap (b.toNat:Int)=(b.toNat:Int):=
 CY _ agE (by have:=b.toNat_lt;omega)
theorem aba(x):bits .xor .u64 (x.toNat:Int) ((x.toNat:Int) / 536870912)=((Pure.mix x).toNat:Int):=by
 have h:=xorShift_u64 x.toNat 536870912 x.toNat_lt;rw[show((536870912:Nat):Int)=536870912 from rfl]at h;rw[h];simp[Pure.mix,UInt64.toNat_xor,UInt64.toNat_shiftRight,Nat.shiftRight_eq_div_pow]
theorem KS(h)(b):
  bits .xor .u64 (IntKind.u64.wrap (IntKind.u64.wrap (IntKind.u64.wrap ((h.toNat:Int)+IntKind.u64.wrap (b.toNat:Int))+1)*11400714819323198485))
   (IntKind.u64.wrap (IntKind.u64.wrap (IntKind.u64.wrap ((h.toNat:Int)+IntKind.u64.wrap (b.toNat:Int))+1)*11400714819323198485) / 536870912)=((Pure.step h b).toNat:Int):=by
 have e:IntKind.u64.wrap (IntKind.u64.wrap (IntKind.u64.wrap ((h.toNat:Int)+IntKind.u64.wrap (b.toNat:Int))+1)*11400714819323198485)=(((h+b.toUInt64+1)*Pure.F).toNat:Int):=by
  rw[yP];have d:=b.toNat_lt;have c:(h+b.toUInt64+1).toNat=(h.toNat+b.toNat+1) % 2 ^ 64:=by
   simp[UInt64.toNat_add]
  have f:((h+b.toUInt64+1)*Pure.F).toNat=((h.toNat+b.toNat+1) % 2 ^ 64)*11400714819323198485 % 2 ^ 64:=by
   rw[UInt64.toNat_mul,c];rfl
  grind [IntKind.wrap_u64]
 rw[e]
 exact aba _
theorem RV{a b:Int}(h:a=b):Value.int .u64 a=Value.int .u64 b:=by rw[h]
theorem Ce{a b:Int}(h:a=b):Ending.returned (υ a)=.returned (υ b):=by rw[h]
theorem lL{l:List UInt8}{k:Nat}(h:k<l.length):l.take (k+1)=l.take k++[l[k]]:=List.take_succ_eq_append_getElem h
theorem CZ(h)(b):bits .or .u64 (IntKind.u64.wrap ((h.toNat:Int)*256)) (IntKind.u64.wrap (b.toNat:Int))=((Pure.yO h b).toNat:Int):=by
 have c:=b.toNat_lt;rw[yP,show((h.toNat:Int)*256)=((h.toNat*256:Nat):Int) from by omega,I9,u64_or_nat _ _ agE agE];simp[Pure.yO,UInt64.toNat_or,UInt64.toNat_shiftLeft,Nat.shiftLeft_eq]
def U8(b:UInt8):Value:=.int .u8 b.toNat
def At(w:World)(ao:Option Addr)(zs:List UInt8):Prop:=
 ∀j,(hj:j<zs.length)->∃b off,ao=some ⟨b,off,none⟩/\w.cell? ⟨b,off+j,none⟩=some (.int .u8 (zs[j].toNat:Int))
theorem At.nil(w)(ao):At w ao []:=λj c=>absurd c agI
theorem At.none(h:At w none zs):zs=[]:=by
 cases zs with
 |nil=>rfl
 |cons z zs=>obtain⟨b,off,c,_⟩:=h 0 agI;cases c
theorem At.some{b:Nat}(h:∀j(c:j<zs.length),w.cell? ⟨b,off+j,.none⟩=.some (.int .u8 (zs[j].toNat:Int))):At w (.some ⟨b,off,.none⟩) zs:=
 λj c=>⟨b,off,rfl,h j c⟩
theorem At.cells{b:Nat}(h:At w (.some ⟨b,off,.none⟩) zs)(j)(d:j<zs.length):w.cell? ⟨b,off+j,.none⟩=.some (.int .u8 (zs[j].toNat:Int)):=by
 obtain⟨f,c,e,i⟩:=h j d;grind
theorem At.grown{row:Option Nat}(h:At w ao zs)(k:w.grownBy w' row)(f:∀b off,ao=.some ⟨b,off,.none⟩->zs≠[]->.some b≠row):At w' ao zs:=by
 intro j c;obtain⟨b,off,d,e⟩:=h j c;grind [World.grownBy.cell]
theorem At.below(h:At w ao zs)(k:w.grownBy w' .none):At w' ao zs:=h.grown k agI
theorem At.take(h:At w ao zs)(k):At w ao (zs.take k):=by
 intro j c;obtain⟨b,off,d,e⟩:=h j (by simp at c;omega);grind
theorem At.drop{b:Nat}(h:At w (.some ⟨b,off,.none⟩) zs)(k):At w (.some ⟨b,off+k,.none⟩) (zs.drop k):=by
 intro j c;have d:=h.cells (k+j) (by simp at c;omega);grind
theorem At.addr(h:At w ao zs)(d:0<zs.length):∃b off,ao=.some ⟨b,off,.none⟩/\b<w.heap.size:=by
 obtain⟨b,off,c,e⟩:=h 0 d;exact⟨b,off,c,by have:=World.block_lt_of_cell? w _ e;simpa using this⟩
theorem At.drewN(h:At w ao zs)(n):At (w.drewN n) ao zs:=h
theorem aR{row:Option Nat}(h:a.grownBy b row)(n):a.grownBy (b.drewN n) row:=⟨h.os,h.tape,h.output,h.size,h.block⟩
theorem ic(w)(d c e)(h:P.underlying d=.some (.slice e))(f:P.underlying e=.some (.int .u8))(k:P.underlying c=.some .string)(ao)(cap)(zs)(i:At w ao zs):(convert d c (.slice ao zs.length cap)).run P w=.ok (.string ⟨zs.toArray⟩) w:=by
 cases ao with
 |none=>
  obtain rfl:=i.none;show(convert d c (.slice .none 0 cap)).run P w=_;rw[run_convert_bytes_string w d c e .none 0 cap h f k];simp[Conv.bytesToString];rfl
 |some a=>
  refine run_convert_bytes_back w d c e a cap zs h f k λj l=>?_;obtain⟨b,off,m,n⟩:=i j l;grind [Addr.add_lit]
theorem aa{c:World}{row:Option Nat}(h:a.grownBy b row)(k:b.grownBy c row):a.grownBy c row:=
 ⟨k.os.trans h.os,k.tape.trans h.tape,k.output.trans h.output,Nat.le_trans h.size k.size,λi d e=>(k.block i (Nat.lt_of_lt_of_le d h.size) e).trans (h.block i d e)⟩
theorem aM{row:Option Nat}(h:a.grownBy b row)(o):a.grownBy (b.alloc o) row:=
 aa h (World.grownBy_alloc b o row)
theorem Ja{c:World}{row:Option Nat}(h:a.grownBy b row)(k:b.grownBy c (some g))(f:a.heap.size<=g):a.grownBy c row:=
 ⟨k.os.trans h.os,k.tape.trans h.tape,k.output.trans h.output,Nat.le_trans h.size k.size,λi d e=>(k.block i (Nat.lt_of_lt_of_le d h.size) ag2).trans (h.block i d e)⟩
theorem bg{row:Option Nat}(h:a.grownBy b row):a.grownBy b.drew row:=⟨h.os,h.tape,h.output,h.size,h.block⟩
theorem je{row:Option Nat}(h:a.drew.grownBy b row):a.grownBy b row:=⟨h.os,h.tape,h.output,h.size,h.block⟩
theorem tH(h:a.grownBy b none):Below a.heap.size a b:=⟨h.os,h.tape,h.output,h.size,λk c=>h.block k c agI⟩
theorem Jb{row:Option Nat}(h:a.grownBy b none):a.grownBy b row:=⟨h.os,h.tape,h.output,h.size,ag8⟩
def Buf(w:World)(g cap:Nat)(bs:List UInt8):Prop:=
 ∃cur e,w.heap[g]?=some (.cells cur e (0,0))/\cur.size=cap/\cap<=maxLen/\bs.length<=cap/\cur.toList.take bs.length=bs.map U8
theorem Buf.kept{cap:Nat}(h:Buf w g cap bs)(f:w'.heap[g]?=w.heap[g]?):Buf w' g cap bs:=by
 obtain⟨c,e,d,i⟩:=h;exact⟨c,e,f.trans d,i⟩
theorem Buf.lt{cap:Nat}(h:Buf w g cap bs):g<w.heap.size:=by
 obtain⟨c,e,d,f⟩:=h;grind
theorem Buf.alloc{cap:Nat}(h:Buf w g cap bs)(o):Buf (w.alloc o) g cap bs:=
 h.kept (Below.heap_alloc w o g h.lt)
theorem Buf.new(w:World)(c)(e)(n)(d:c.size=n)(f:n<=maxLen):Buf (w.alloc (.cells c e)) w.heap.size n []:=
 ⟨c,e,heap_alloc_new w _,d,f,by simp,by simp⟩
theorem Buf.empty{cap:Nat}(h:Buf w g cap bs):Buf w g cap []:=by
 obtain⟨c,e,d,f,i,k,j⟩:=h;exact⟨c,e,d,f,i,by simp,by simp⟩
theorem Buf.grown{cap:Nat}{row:Option Nat}(h:Buf w g cap bs)(k:w.grownBy w' row)(c:some g≠row):Buf w' g cap bs:=
 h.kept (k.block g h.lt c)
theorem Buf.room{cap:Nat}(h:Buf w g cap bs):bs.length<=cap:=by
 obtain⟨c,e,f,j,k,d,i⟩:=h;exact d
theorem Buf.maxLen{cap:Nat}(h:Buf w g cap bs):cap<=maxLen:=by
 obtain⟨c,e,f,j,d,k,i⟩:=h;exact d
theorem Buf.cell{cap:Nat}(h:Buf w g cap bs)(j:Nat)(i:j<bs.length):w.cell? (g,j)=some (.int .u8 (bs[j].toNat:Int)):=by
 obtain⟨c,e,d,k,m,n,f⟩:=h;rw[cell_of_row w g j c e (0,0) d];have l:(c.toList.take bs.length)[j]?=(bs.map U8)[j]?:=by rw[f]
 grind [U8]
theorem Buf.frozen{cap:Nat}(h:Buf w g cap bs)(j:Nat):w.frozen? (g,j)=false:=by
 obtain⟨d,e,c,i,k,l,f⟩:=h;simp[World.frozen?,c]
theorem Buf.at{cap:Nat}(h:Buf w g cap bs):At w (some ⟨g,0,none⟩) bs:=
 (by grind [Buf.cell,At.some])
theorem Buf.set{cap:Nat}(h:Buf w g cap bs)(p:Nat)(y):Buf (w.setCell (g,p) (.int .u8 y.toNat)) g cap (bs.set p y):=by
 obtain⟨c,e,k,f,i,j,d⟩:=h;refine⟨c.setIfInBounds p (.int .u8 y.toNat),e,?_,by simpa using f,i,by simpa using j,?_⟩
 ·grind [setCell_eq_setRow,setRow_heap]
 ·rw[Array.toList_setIfInBounds,List.length_set,List.take_set,d,List.map_set];rfl
theorem aeD{base:Nat}{e:TypeId}{v:Value}{n:Nat}(h:w.ownsRow base e 1 v n (bs.map U8)):
  ∃ao cap,v=.slice ao n cap/\n=bs.length/\n<=cap/\cap<=maxLen/\At w ao bs:=by
 obtain⟨l,h⟩:=h
 have hn:n=bs.length:=by simpa using l.symm
 rcases h with⟨rfl,rfl⟩|⟨g,cap,d,rfl,k,m,j,c,i,f⟩
 ·grind [At.nil]
 ·refine⟨some ⟨g,0,none⟩,cap,rfl,hn,j,c,?_⟩;have k:Buf w g cap bs:=⟨d,e,m,by simpa using i,c,by omega,by rw[<-hn];simpa using f⟩
  exact k.at
theorem tJ{a:Addr}(h:At w (some a) bs):∀j u,(bs.map U8)[j]?=some u->w.cell? (a.add j)=some u:=by
 intro j u d;simp only[List.getElem?_map,Option.map_eq_some_iff]at d;obtain⟨y,hy,rfl⟩:=d;obtain⟨e,rfl⟩:=List.getElem?_eq_some_iff.1 hy;obtain⟨b,off,c,f⟩:=h j e;simp at c;subst c;rw[Addr.add_lit];exact f
theorem oQ(bs:List UInt8):∀u∈bs.map U8,u.oneCell'=true:=by
 intro u c;simp only[List.mem_map]at c;obtain⟨y,_,rfl⟩:=c;rfl
theorem gu{c:World}{row:Option Nat}(h:a.grownBy b none)(k:b.grownBy c row)(e:∀i,row=some i->a.heap.size<=i):a.grownBy c none:=
 ⟨k.os.trans h.os,k.tape.trans h.tape,k.output.trans h.output,Nat.le_trans h.size k.size,λi d _=>(k.block i (Nat.lt_of_lt_of_le d h.size) agM).trans (h.block i d agI)⟩
theorem Da(w)(t H e)(i)(D:P.underlying t=some (.slice e))(F:P.info? e=some i)(h:i.size=1)(g cap n:Nat)(bs d)(G:Buf w g cap bs)(hn:n=bs.length)(r)(m c)(A:m=d.length)(s:∀j(J:j<d.length),w.cell? (r.add j)=some (U8 d[j]))(f:bs.length+d.length<=cap):
  ∃w',(Builtin.append_ #[t,t] H #[.slice (some (g,0)) n cap,.slice (some r) m c]).run P w=.ok (.slice (some (g,0)) (n+m) cap) w'/\Buf w' g cap (bs++d)/\w.grownBy w' (some g):=by
 subst hn A
 obtain⟨k,v,z,K,I,L,C⟩:=G
 have B:(d.map U8).length=d.length*i.size:=by simp[h]
 have l:∀j u,(d.map U8)[j]?=some u->w.cell? (r.add j)=some u:=by
  grind
 have o:∀u∈d.map U8,u.oneCell'=true:=by
  intro u x;simp only[List.mem_map]at x;obtain⟨y,_,rfl⟩:=x;rfl
 have E:=run_firstCells_some (P:=P) w i.size d.length r d.length c (d.map U8) B l
 have p:=run_storeCells_at P g (bs.length*i.size) v (d.map U8) 0 k w z (by simp[h];omega) o
 simp only[Nat.add_zero]at p
 refine⟨_,by simp[Builtin.append_,run_underlying D,sizeOf,typeInfo,F,Builtin.lenOf,f,E,Addr.add_lit,p];rfl,?_,?_⟩
 ·refine⟨_,v,setRow_heap w g k _ v _ z,?_,I,by simpa using f,?_⟩
  ·simp[h];omega
  ·have q:((bs.map U8)++(d.map U8)++k.toList.drop (bs.length+d.length)).take (bs.length+d.length)=bs.map U8++d.map U8:=by
    rw[List.take_append_of_le_length agI,List.take_of_length_le agI]
   simp only[h,Nat.mul_one,C,List.length_append,List.map_append];grind
 ·exact⟨rfl,rfl,rfl,by simp,(by grind [setRow_other])⟩
theorem rU(w){k:Array Oper}{d:List Oper}{o:Oper}{a:Act}{Q:Exit->Act->World->Prop}(H:o.guard=none)(s x)(t)(p:o.op=Op.call {callee:=Callee.builtin Builtin.append,args:=#[s,x],argTypes:=#[t,t]})(e)(i)(E:P.underlying t=some (.slice e))(v:P.info? e=some i)(C:i.size=1)(g n cap:Nat)(bs f)(B:a.eval s=.slice (some (g,0)) n cap)(G:Buf w g cap bs)(hn:n=bs.length)(l)(m c)(F:a.eval x=.slice (some l) m c)(r:m=f.length)(y:∀j(I:j<f.length),w.cell? (l.add j)=some (U8 f[j]))(A:bs.length+f.length<=cap)(z:∀w',Buf w' g cap (bs++f)->w.grownBy w' (some g)->wpList P k Q d (a.put o.dst (.slice (some (g,0)) (n+m) cap)) w'):
  wpList P k Q (o::d) a w:=by
 refine wpList_plain H λK q=>?_
 obtain⟨w',h,u,D⟩:=Da (P:=P) w t o.type e i E v C g cap n bs f G hn l m c r y A
 unfold Oper.wp
 simp[execOp,p,resolve,invoke,builtin,B,F,h,Result.andThen]
 exact q _ _ (z w' u D)
theorem abb(w:World)(e)(b):∀j(c:j < [b].length),(w.alloc (.cells #[.int .u8 b.toNat] e)).cell? ((⟨w.heap.size,0,none⟩:Addr).add j)=some (U8 ([b][j])):=by
 intro j c;have:j=0:=by simpa using c
 subst this;simp[Addr.add,U8]
theorem nX(v)(k):(v.toNat:Int) / 2 ^ (8*k) % 256=((Pure.dW v k).toNat:Int):=by
 have e:(Pure.dW v k).toNat=v.toNat / 2 ^ (8*k) % 256:=by simp[Pure.dW]
 rw[e];simp
theorem Wx(x)(b):bits .xor .u8 (b.toNat:Int) ((x.toNat:Int) / 72057594037927936 % 256)=((b ^^^ Pure.dW x 7).toNat:Int):=by
 have e:=nX x 7;rw[show(2:Int) ^ (8*7)=72057594037927936 from by decide]at e;rw[e,u8_xor_nat _ _ b.toNat_lt (Pure.dW x 7).toNat_lt,UInt8.toNat_xor]
theorem xV(w:World)(e)(v)(k):∀j(c:j < [Pure.dW v k].length),(w.alloc (.cells #[.int .u8 ((v.toNat:Int) / 2 ^ (8*k) % 256)] e)).cell? ((⟨w.heap.size,0,none⟩:Addr).add j)=some (U8 ([Pure.dW v k][j])):=by
 grind [nX,abb]
theorem yQ(w:World)(e)(v)(k):∀j u,([Pure.dW v k].map U8)[j]?=some u->(w.alloc (.cells #[.int .u8 ((v.toNat:Int) / 2 ^ (8*k) % 256)] e)).cell? ((⟨w.heap.size,0,none⟩:Addr).add j)=some u:=by
 grind [xV]
theorem adP(h:p:=by
 rw[hr]at hrun
 injection hrun with ha _
 subst ha
 exact .inr rfl):p:=h
theorem xD(w)(base)(t p e)(i)(x:P.underlying t=some (.slice e))(s:P.info? e=some i)(H:i.zero=some (.int .u8 0))(A:i.size=1)(z:i.bytes=1)(v)(n)(B)(d:w.ownsRow base e 1 v n (B.map U8))(ao)(m c)(f)(C:f.length=m)(D:ao=none->c=0)(hy:At w ao f)(T:n+m<=140737488355328)(k:base<=w.heap.size):
  ∃h w',(Builtin.append_ #[t,t] p #[v,.slice ao m c]).run P w=.ok h w'/\w'.ownsRow base e 1 h (n+m) ((B++f).map U8)/\w.grownBy w' v.ownBlock/\(h.ownBlock=v.ownBlock\/h.ownBlock=some w.heap.size):=by
 subst C
 cases ao with
 |none=>
  obtain rfl:=hy.none;obtain rfl:=D rfl;exact⟨_,_,run_append_owned_none (P:=P) w base t p e i 1 x s v n _ d,by simpa using d,World.grownBy.refl _ _,.inl rfl⟩
 |some y=>
  obtain⟨h,w',hrun,R,M,_⟩:=run_append_own (P:=P) w base t p e i (.int .u8 0) 1 1 x s H A z rfl agF v n _ d y f.length c (f.map U8) agI (tJ hy) (oQ f) ag1 agE k;refine⟨h,w',hrun,by grind,M,?_⟩;have j:(f.map U8).length=f.length*i.size:=by simp[A]
  have J:∀q,q<=140737488355328->q*i.bytes<=140737488355328:=by intro q S;rw[z];omega
  rcases d.2 with⟨rfl,rfl⟩|⟨g,cap,r,rfl,O,Q,I,L,K,G⟩
  ·by_cases C:f.length=0
   ·have F:=List.length_eq_zero_iff.1 C;subst F;left;have N:h=.slice none 0 0:=by
     grind
    rw[N]
   ·have hr:=run_append_nil (P:=P) w t p e i (.int .u8 0) x s H y f.length c (f.map U8) j (tJ hy) agE agE (by rw[z];omega);exact adP
  ·by_cases l:n+f.length<=cap
   ·have u:n*i.size+(f.map U8).length<=r.size:=(by rw[A,List.length_map];omega);have hr:=run_append_room (P:=P) w t p e i x s g n cap r Q y f.length c (f.map U8) j (tJ hy) (oQ f) l u;rw[hr]at hrun;injection hrun with ha _;subst ha;exact .inl rfl
   ·have E:(B.map U8).length=n*i.size:=(by rw[A];exact d.1);have o:=d.cells (g:=g) rfl;have hr:=run_append_grow (P:=P) w t p e i (.int .u8 0) x s H ⟨g,0,none⟩ n cap (B.map U8) E o y f.length c (f.map U8) j (tJ hy) agE agE (growslice_fits agE (by rw[z];omega));exact adP
theorem aev(h:p:=by
 unfold Oper.wp
 simp[execOp,hop,resolve,invoke,builtin,hs,hx,hrun,Result.andThen]
 exact hK' _ _ (hK v' w' r1 r2 r3)):p:=h
theorem bV(w){j:Array Oper}{d:List Oper}{o:Oper}{a:Act}{Q:Exit->Act->World->Prop}(B:o.guard=none)(s x)(t)(hop:o.op=Op.call {callee:=Callee.builtin Builtin.append,args:=#[s,x],argTypes:=#[t,t]})(base)(e)(i)(q:P.underlying t=some (.slice e))(z:P.info? e=some i)(A:i.zero=some (.int .u8 0))(C:i.size=1)(y:i.bytes=1)(v)(n)(l)(hs:a.eval s=v)(h:w.ownsRow base e 1 v n (l.map U8))(ao)(m c)(k)(hx:a.eval x=.slice ao m c)(u:k.length=m)(p:ao=none->c=0)(hy:At w ao k)(r:n+m<=140737488355328)(f:base<=w.heap.size)(hK:∀v' w',w'.ownsRow base e 1 v' (n+m) ((l++k).map U8)->w.grownBy w' v.ownBlock->Hid (v'.ownBlock=v.ownBlock\/v'.ownBlock=some w.heap.size)->wpList P j Q d (a.put o.dst v') w'):
  wpList P j Q (o::d) a w:=by
 refine wpList_plain B λK hK'=>?_
 obtain⟨v',w',hrun,r1,r2,r3⟩:=xD (P:=P) w base t o.type e i q z A C y v n l h ao m c k u p hy r f
 exact aev
theorem O8(h)(b):IntKind.u64.wrap (IntKind.u64.wrap ((h.toNat:Int)*256)+IntKind.u64.wrap (b.toNat:Int))=((Pure.yO h b).toNat:Int):=by
 grind [IntKind.wrap_u64,Pure.Bd]
theorem Tq(x:UInt64):IntKind.u64.wrap ((x.toNat:Int).tdiv 536870912)=(x.toNat:Int) / 536870912:=by
 have c:=x.toNat_lt;grind [IntKind.wrap_u64]
theorem Jc(h)(b):
  bits .xor .u64 (IntKind.u64.wrap (IntKind.u64.wrap (IntKind.u64.wrap ((h.toNat:Int)+IntKind.u64.wrap (b.toNat:Int))+1)*11400714819323198485))
   (IntKind.u64.wrap ((IntKind.u64.wrap (IntKind.u64.wrap (IntKind.u64.wrap ((h.toNat:Int)+IntKind.u64.wrap (b.toNat:Int))+1)*11400714819323198485)).tdiv 536870912))=((Pure.step h b).toNat:Int):=by
 have e:∃x:UInt64,IntKind.u64.wrap (IntKind.u64.wrap (IntKind.u64.wrap ((h.toNat:Int)+IntKind.u64.wrap (b.toNat:Int))+1)*11400714819323198485)=(x.toNat:Int):=by
  generalize IntKind.u64.wrap (IntKind.u64.wrap ((h.toNat:Int)+IntKind.u64.wrap (b.toNat:Int))+1)*11400714819323198485=y;refine⟨UInt64.ofNat (IntKind.u64.wrap y).toNat,?_⟩;rw[Pure.mR _ (by rw[IntKind.wrap_u64];omega),Int.toNat_of_nonneg (by rw[IntKind.wrap_u64];omega)]
 grind [KS,Tq]
theorem iY{base:Nat}{e:TypeId}{v:Value}{n:Nat}(h:w.ownsRow base e 1 v n (bs.map U8)):
  ∃ao cap,v=.slice ao n cap/\n<=cap/\cap<=maxLen/\Hid (ao=none->cap=0)/\At w ao bs:=by
 have k:=h
 obtain⟨ao,cap,d,_,j,l,m⟩:=aeD h
 refine⟨ao,cap,d,j,l,?_,m⟩
 intro f
 subst d f
 rcases k.2 with⟨d,_⟩|⟨g,c,i,d,_⟩
 ·simp at d;exact d.2
 ·simp at d
end Go.Proofs.YtlfifnpjeangmaaGreatDoor
