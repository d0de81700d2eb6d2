import Derived.Test.YtlfifnpjeangmaaGreatDoorGEPure
import Derived.WalkSpells
import Derived.WalkLawsBesides
theorem Go.RowKit.Hid.o{p:Prop}(h:Go.RowKit.Hid p):p:=h
namespace Go.World
abbrev c(w:World)(b i:Nat):=w.cell? ⟨b,i,none⟩
abbrev s(w:World)(b i:Nat):=w.setCell ⟨b,i,none⟩
abbrev z(w:World)(b i:Nat):=w.frozen? ⟨b,i,none⟩
end Go.World
namespace Go.Proofs.YtlfifnpjeangmaaGreatDoor
open Go.RowKit
variable {p:Prop}
abbrev F(b i:Nat):Addr:=⟨b,i,none⟩
abbrev δ(b i:Nat):Addr:=⟨b,i,none⟩
theorem dN{p q:Prop}(a:p)(b:q):p/\q:=⟨a,b⟩
theorem dT{c:Prop}{d:Decidable c}(h:c){α:Sort _}{t e:α}:ite c t e=t:=if_pos h
theorem cZ{c:Prop}{d:Decidable c}(h:¬c){α:Sort _}{t e:α}:ite c t e=e:=if_neg h
theorem iA:∀(w:World)(a b:Addr)(v:Value),a≠b->(w.setCell a v).cell? b=w.cell? b:=World.cell?_setCell_other
abbrev π(b i:Nat):Value:=.pointer (some ⟨b,i,none⟩)
abbrev ς(b i:Nat):=Value.slice (some ⟨b,i,none⟩)
abbrev Y:=Value.int .i64
abbrev ι:=Value.int .i64
abbrev H:=Value.int .u64
abbrev υ:=Value.int .u64
abbrev σ:Value:=.slice none 0 0
abbrev ε:Value:=.string ⟨#[]⟩
abbrev E:=List UInt8
abbrev bT:=List UInt8
theorem G(h:p:=by omega):p:=h
theorem aZ(h:p:=by omega):p:=h
theorem O(h:p:=by decide):p:=h
theorem a7(h:p:=by decide):p:=h
theorem Z(h:p:=by simp):p:=h
theorem fA(h:p:=by grind):p:=h
theorem kO(h:p:=by unfold maxLen;omega):p:=h
theorem j'(h:p:=by simp;omega):p:=h
theorem oN(h:p:=by grind [World.grownBy.block]):p:=h
variable {bs zs:E}{g off:Nat}{ao:Option Addr}{P:Program}{p0 p1 p2 p3 p4 p5 p6 p7:Prop}{a b w w':World}
theorem N{α:Sort _}(a:α):∃x,a=x:=⟨a,rfl⟩
theorem aq{α:Sort _}(a:α):∃x,a=x:=⟨a,rfl⟩
theorem aw{α:Sort _}(a:α):∃x,x=a:=⟨a,rfl⟩
theorem cx:∀(w:World)(o:Obj)(x:Option Nat),w.grownBy (w.alloc o) x:=@World.grownBy_alloc
theorem cy:∀(n : Nat), n <= n:=@Nat.le_refl
theorem cA:∀{α : Type _}{x : Option α}, x.isSome = true ↔ ∃a, x = some a:=@Option.isSome_iff_exists
theorem cC:∀(w:World)(x:Option Nat),w.grownBy w x:=@World.grownBy.refl
theorem cD:∀{α : Type _}{as bs : List α}, (as ++ bs).length = as.length + bs.length:=@List.length_append
theorem cE:∀{n m k : Nat}, n <= m -> m <= k -> n <= k:=@Nat.le_trans
theorem cF:∀(w:World)(o:Obj),(w.alloc o).1.size=w.1.size+1:=@World.size_alloc
theorem cG:∀{α : Type _}{a : α}{l : List α}, (a :: l)[0]? = some a:=@List.getElem?_cons_zero
theorem cH:∀{α : Type _}{a : List α}{i : Nat}, a.toArray[i]? = a[i]?:=@List.getElem?_toArray
theorem cI:∀{α : Type _}{a : α}{i : Nat}{l : List α}, (a :: l)[i + 1]? = l[i]?:=@List.getElem?_cons_succ
theorem cJ:∀{α : Type _}[BEq α][LawfulBEq α]{a b : α}, (a == b) = false ↔ a ≠ b:=@beq_eq_false_iff_ne
theorem cL:∀{α : Type _}{l : List α}{i : Nat}(h : i < l.length), l[i]? = some l[i]:=@List.getElem?_eq_getElem
theorem cM:∀{α : Type _}{i : Nat}{a : α}{l : List α}, l[i]? = some a ↔ ∃h, l[i] = a:=@List.getElem?_eq_some_iff
theorem cN:∀(n : Nat), 0 + n = n:=@Nat.zero_add
theorem cR:∀{α : Type _}{β : Type _}{as : List α}(f : α -> β), (List.map f as).length = as.length:=@List.length_map
theorem cS:∀(n : Nat), 0 <= n:=@Nat.zero_le
theorem cU:∀{α : Type _}{i : Nat}{l : List α}, l.length <= i -> List.take i l = l:=@List.take_of_length_le
theorem cV:∀{α : Type _}{a : Array α}, a.toList.length = a.size:=@Array.length_toList
theorem cW:∀{α : Type _}{a b : List α}{i : Nat}, i < a.length -> (a ++ b)[i]? = a[i]?:=@List.getElem?_append_left
theorem cX:∀{p : Prop}[Decidable p], ¬p -> decide p = false:=@decide_eq_false
theorem cY:∀{α : Type _}{a b : List α}{i : Nat}, a.length <= i -> (a ++ b)[i]? = b[i - a.length]?:=@List.getElem?_append_right
theorem db:∀{α : Type _}[BEq α][LawfulBEq α]{a b : α}, (a == b) = true ↔ a = b:=@beq_iff_eq
theorem de:∀{α : Type _}{a : α}{as : List α}, (a :: as).length = as.length + 1:=@List.length_cons
theorem dj:∀{α : Type _}{a : α}, (some a).isSome = true:=@Option.isSome_some
theorem dk:∀{p : Prop}[Decidable p], p -> decide p = true:=@decide_eq_true
theorem dr:∀{α : Type _}{i : Nat}{l : List α}, (List.drop i l).length = l.length - i:=@List.length_drop
theorem du:∀{α : Type _}(as bs a : List α), as ++ bs ++ a = as ++ (bs ++ a):=@List.append_assoc
theorem dy:∀{α : Type _}{i : Nat}{l : List α}(h : i < l.length), List.take (i + 1) l = List.take i l ++ [l[i]]:=@List.take_succ_eq_append_getElem
theorem ee:∀{α : Type _}{l : List α}{i : Nat}{a : α}, i < l.length -> (l.set i a)[i]? = some a:=@List.getElem?_set_self
theorem ef:∀{α : Type _}{β : Type _}{f : α -> β}{a b : List α}, List.map f (a ++ b) = List.map f a ++ List.map f b:=@List.map_append
theorem eg:∀{α : Type _}{l : List α}{n : Nat}(h : n < l.length), l[n] ∈ l:=@List.getElem_mem
theorem eh:∀{α : Type _}(l : List α)(i : Nat)(a : α), l.toArray.setIfInBounds i a = (l.set i a).toArray:=@List.setIfInBounds_toArray
theorem ej:∀{α : Type _}{x : α}{b : List α}{a : α}, (x :: b).set 0 a = a :: b:=@List.set_cons_zero
theorem en:∀(n k : Nat), n <= n + k:=@Nat.le_add_right
theorem eo:∀{n : Nat}, (UInt8.ofNat n).toNat = n % 2 ^ 8:=@UInt8.toNat_ofNat'
theorem ep:∀{α : Type _}{i : Nat}{l : List α}, (List.take i l).length = min i l.length:=@List.length_take
theorem ew:∀{α : Type _}{a b : α}, a ∈ [b] ↔ a = b:=@List.mem_singleton
theorem ey:∀{α : Type _}{l : List α}{i : Nat}{a : α}, l[i]? = some a -> a ∈ l:=@List.mem_of_getElem?
theorem ez:∀{a b : Nat}, a < b -> a % b = a:=@Nat.mod_eq_of_lt
theorem eA:∀{α : Type _}{β : Type _}{f : α -> β}{l : List α}{i : Nat}, (List.map f l)[i]? = Option.map f l[i]?:=@List.getElem?_map
theorem eC:∀{α : Type _}{a : α}, [a].length = 1:=@List.length_singleton
theorem eE:∀{α : Type _}{β : Type _}{f : α -> β}{a : α}{l : List α}, List.map f (a :: l) = f a :: List.map f l:=@List.map_cons
theorem eI:∀{α : Type _}{l : List α}{L : List (List α)}, (l :: L).flatten = l ++ L.flatten:=@List.flatten_cons
theorem eJ:∀{α : Type _}{x : α}{b : List α}{i : Nat}{a : α}, (x :: b).set (i + 1) a = x :: b.set i a:=@List.set_cons_succ
theorem eK:∀{α : Type _}{β : Type _}{l : List α}{a : α}{f : α -> β}, a ∈ l -> f a ∈ List.map f l:=@List.mem_map_of_mem
theorem eL:∀{α : Type _}{as : List α}{i : Nat}{a : α}, (as.set i a).length = as.length:=@List.length_set
theorem eM:(!false) = true:=@Bool.not_false
theorem eN:∀{α : Type _}(i : Nat)(l : List α), List.take i l ++ List.drop i l = l:=@List.take_append_drop
theorem eR:∀(p : Prop), p \/ ¬p:=@Classical.em
theorem eS:∀{a b : Int}, ¬a < b ↔ b <= a:=@Int.not_lt
theorem eV:(!true) = false:=@Bool.not_true
theorem eW:∀{α : Type _}{a : α}{s t : List α}, a ∈ s ++ t ↔ a ∈ s \/ a ∈ t:=@List.mem_append
theorem fg:∀(n : Nat), n <= n.succ:=@Nat.le_succ
theorem fh:∀{α : Type _}{l : List α}, l.length = 0 -> l = []:=@List.eq_nil_of_length_eq_zero
theorem fj:∀{α : Type _}[BEq α][LawfulBEq α]{a b : α}, (a != b) = true ↔ a ≠ b:=@bne_iff_ne
theorem fk:∀{a b : Int}, 0 <= a -> a.tmod b = a % b:=@Int.tmod_eq_emod_of_nonneg
theorem fm:∀{α : Type _}{i : Nat}{a : Array α}, a.size <= i -> a[i]? = none:=@Array.getElem?_eq_none
theorem fp:∀{α : Type _}(val a : α), (some val = some a) = (val = a):=@Option.some.injEq
theorem fs:∀{α : Type _}{n : Nat}{a : α}, (List.replicate n a).length = n:=@List.length_replicate
theorem ft:∀(n : Nat), n + 0 = n:=@Nat.add_zero
theorem fy:∀{α : Type _}{β : Type _}{f : α -> β}, List.map f [] = []:=@List.map_nil
theorem fL:(false = true) = False:=@Bool.false_eq_true
theorem fN:∀{n m k : Nat}, n < m -> m <= k -> n < k:=@Nat.lt_of_lt_of_le
theorem fR:∀(n : Nat), n * 1 = n:=@Nat.mul_one
theorem fS:∀{α : Type _}(as : List α), as ++ [] = as:=@List.append_nil
theorem fW:∀(b : Bool), (b&&true) = b:=@Bool.and_true
theorem fX:∀{α : Type _}{l : List α}, 0 < l.length ↔ l ≠ []:=@List.length_pos_iff
theorem fY:∀(n : Nat), n < n.succ:=@Nat.lt_succ_self
theorem gf:∀(n : Nat), 0 * n = 0:=@Nat.zero_mul
theorem gh:∀{a b : Nat}, a <= b -> min a b = a:=@Nat.min_eq_left
theorem gi:∀(n m k : Nat), n + m + k = n + (m + k):=@Nat.add_assoc
theorem gj:∀(b : Bool), (false&&b) = false:=@Bool.false_and
theorem gn:∀(b : Bool), (true&&b) = b:=@Bool.true_and
theorem gC:∀(n : Nat), ¬n < n:=@Nat.lt_irrefl
theorem gE:∀(n : Nat), n - n = 0:=@Nat.sub_self
theorem bd(a:p0)(b:p1):Hid p0/\Hid p1:=⟨a,b⟩
theorem bh(a:p0)(b:p1)(d:p2):Hid p0/\Hid p1/\Hid p2:=⟨a,b,d⟩
theorem bj(a:p0)(b:p1)(d:p2)(e:p3):Hid p0/\Hid p1/\Hid p2/\Hid p3:=⟨a,b,d,e⟩
theorem br(a:p0)(b:p1)(d:p2)(e:p3)(f:p4):Hid p0/\Hid p1/\Hid p2/\Hid p3/\Hid p4:=⟨a,b,d,e,f⟩
theorem bw(a:p0)(b:p1)(d:p2)(e:p3)(f:p4)(g:p5):Hid p0/\Hid p1/\Hid p2/\Hid p3/\Hid p4/\Hid p5:=⟨a,b,d,e,f,g⟩
theorem cg(a:p0)(b:p1)(d:p2)(e:p3)(f:p4)(g:p5)(h:p6):Hid p0/\Hid p1/\Hid p2/\Hid p3/\Hid p4/\Hid p5/\Hid p6:=⟨a,b,d,e,f,g,h⟩
theorem cq(a:p0)(b:p1)(d:p2)(e:p3)(f:p4)(g:p5)(h:p6)(i:p7):Hid p0/\Hid p1/\Hid p2/\Hid p3/\Hid p4/\Hid p5/\Hid p6/\Hid p7:=⟨a,b,d,e,f,g,h,i⟩
theorem ct{a:Prop}(b:p0)(d:p1)(e:p2)(f:p3)(g:p4)(h:p5)(i:p6)(j:p7)(k:a):Hid p0/\Hid p1/\Hid p2/\Hid p3/\Hid p4/\Hid p5/\Hid p6/\Hid p7/\Hid a:=⟨b,d,e,f,g,h,i,j,k⟩
theorem cw{a p9:Prop}(b:p0)(d:p1)(e:p2)(f:p3)(g:p4)(h:p5)(i:p6)(j:p7)(k:a)(l:p9):Hid p0/\Hid p1/\Hid p2/\Hid p3/\Hid p4/\Hid p5/\Hid p6/\Hid p7/\Hid a/\Hid p9:=⟨b,d,e,f,g,h,i,j,k,l⟩
theorem I{p:Prop}(h:p):Hid p:=h
theorem aE{p:Prop}(h:p):Hid p:=h
theorem Jd(n:Nat):IntKind.u64.wrap (n:Int)=((n % 18446744073709551616:Nat):Int):=by
 rw[IntKind.wrap_u64];omega
theorem Dc(n)(a:0<=n)(b:n<18446744073709551616):IntKind.u64.wrap n=n:=by
 rw[IntKind.wrap_u64];omega
theorem yS(b:UInt8):IntKind.u64.wrap (b.toNat:Int)=(b.toNat:Int):=
 Dc _ G (by have:=b.toNat_lt;omega)
theorem Tl(x):bits .xor .u64 (x.toNat:Int) ((x.toNat:Int) / 536870912)=((Pure.mix x).toNat:Int):=by
 have h:=xorShift_u64 x.toNat 536870912 x.toNat_lt;rw[show((536870912:Nat):Int)=536870912 from rfl]at h;rw[h];simp[Pure.mix,UInt64.toNat_xor,UInt64.toNat_shiftRight,Nat.shiftRight_eq_div_pow]
theorem K6(h)(b):
  bits .xor .u64 (IntKind.u64.wrap (IntKind.u64.wrap (IntKind.u64.wrap ((h.toNat:Int)+IntKind.u64.wrap (b.toNat:Int))+1)*11400714819323198485))
   (IntKind.u64.wrap (IntKind.u64.wrap (IntKind.u64.wrap ((h.toNat:Int)+IntKind.u64.wrap (b.toNat:Int))+1)*11400714819323198485) / 536870912)=((Pure.step h b).toNat:Int):=by
 have e:IntKind.u64.wrap (IntKind.u64.wrap (IntKind.u64.wrap ((h.toNat:Int)+IntKind.u64.wrap (b.toNat:Int))+1)*11400714819323198485)=(((h+b.toUInt64+1)*Pure.F).toNat:Int):=by
  rw[yS];have f:=b.toNat_lt;have a:(h+b.toUInt64+1).toNat=(h.toNat+b.toNat+1) % 2 ^ 64:=by
   simp[UInt64.toNat_add]
  have d:((h+b.toUInt64+1)*Pure.F).toNat=((h.toNat+b.toNat+1) % 2 ^ 64)*11400714819323198485 % 2 ^ 64:=by
   rw[UInt64.toNat_mul,a];rfl
  grind [IntKind.wrap_u64]
 rw[e]
 exact Tl _
theorem Sc{a b:Int}(h:a=b):Value.int .u64 a=Value.int .u64 b:=by rw[h]
theorem Ci{a b:Int}(h:a=b):Ending.returned (H a)=.returned (H b):=by rw[h]
theorem lL{l:E}{k:Nat}(h:k<l.length):l.take (k+1)=l.take k++[l[k]]:=List.take_succ_eq_append_getElem h
theorem De(h)(b):bits .or .u64 (IntKind.u64.wrap ((h.toNat:Int)*256)) (IntKind.u64.wrap (b.toNat:Int))=((Pure.yR h b).toNat:Int):=by
 have a:=b.toNat_lt;rw[yS,show((h.toNat:Int)*256)=((h.toNat*256:Nat):Int) from by omega,Jd,u64_or_nat _ _ G G];simp[Pure.yR,UInt64.toNat_or,UInt64.toNat_shiftLeft,Nat.shiftLeft_eq]
def U8(b:UInt8):Value:=.int .u8 (b.toNat:Int)
def At(w:World)(ao:Option Addr)(zs:E):Prop:=
 ∀j,(hj:j<zs.length)->∃b off,ao=some ⟨b,off,none⟩/\w.cell? (F b (off+j))=some (.int .u8 (zs[j].toNat:Int))
theorem At.nil(w)(ao):At w ao []:=λj a=>absurd a Z
theorem At.none(h:At w none zs):zs=[]:=by
 cases zs with
 |nil=>rfl
 |cons z zs=>obtain⟨b,d,a,_⟩:=h 0 Z;cases a
theorem At.some{b:Nat}(h:∀j(a:j<zs.length),w.cell? ⟨b,off+j,.none⟩=.some (.int .u8 (zs[j].toNat:Int))):At w (.some ⟨b,off,.none⟩) zs:=
 λj a=>⟨b,off,rfl,h j a⟩
theorem At.cells{b:Nat}(h:At w (.some ⟨b,off,.none⟩) zs)(j)(d:j<zs.length):w.cell? ⟨b,off+j,.none⟩=.some (.int .u8 (zs[j].toNat:Int)):=by
 obtain⟨e,a,f,g⟩:=h j d;grind
theorem At.grown{a:Option Nat}(h:At w ao zs)(k:w.grownBy w' a)(g:∀b off,ao=.some ⟨b,off,.none⟩->zs≠[]->.some b≠a):At w' ao zs:=by
 intro j d;obtain⟨b,off,e,f⟩:=h j d;grind [World.grownBy.cell]
theorem At.below(h:At w ao zs)(k:w.grownBy w' .none):At w' ao zs:=h.grown k Z
theorem At.take(h:At w ao zs)(k):At w ao (zs.take k):=by
 intro j a;obtain⟨b,d,e,f⟩:=h j (by simp at a;omega);grind
theorem At.drop{b:Nat}(h:At w (.some ⟨b,off,.none⟩) zs)(k):At w (.some ⟨b,off+k,.none⟩) (zs.drop k):=by
 intro j a;have d:=h.cells (k+j) (by simp at a;omega);grind
theorem At.addr(h:At w ao zs)(e:0<zs.length):∃b off,ao=.some ⟨b,off,.none⟩/\b<w.1.size:=by
 obtain⟨b,off,a,d⟩:=h 0 e;exact⟨b,off,a,by have:=World.block_lt_of_cell? w _ d;simpa using this⟩
theorem At.drewN(h:At w ao zs)(n):At (w.drewN n) ao zs:=h
theorem aR{d:Option Nat}(h:a.grownBy b d)(n):a.grownBy (b.drewN n) d:=⟨h.os,h.tape,h.output,h.size,h.block⟩
theorem iq(w)(f d e)(l:P.underlying f=.some (.slice e))(k:P.underlying e=.some (.int .u8))(i:P.underlying d=.some .string)(ao)(g)(zs)(h:At w ao zs):(convert f d (.slice ao zs.length g)).run P w=.ok (.string ⟨zs.toArray⟩) w:=by
 cases ao with
 |none=>
  obtain rfl:=h.none;show(convert f d (.slice .none 0 g)).run P w=_;rw[run_convert_bytes_string w f d e .none 0 g l k i];simp[Conv.bytesToString];rfl
 |some a=>
  refine run_convert_bytes_back w f d e a g zs l k i λj m=>?_;obtain⟨b,n,o,p⟩:=h j m;grind [Addr.add_lit]
theorem aa{c:World}{row:Option Nat}(h:a.grownBy b row)(k:b.grownBy c row):a.grownBy c row:=
 ⟨k.os.trans h.os,k.tape.trans h.tape,k.output.trans h.output,Nat.le_trans h.size k.size,λi d e=>(k.block i (Nat.lt_of_lt_of_le d h.size) e).trans (h.block i d e)⟩
theorem aM{d:Option Nat}(h:a.grownBy b d)(o):a.grownBy (b.alloc o) d:=
 aa h (World.grownBy_alloc b o d)
theorem Je{c:World}{d:Option Nat}(h:a.grownBy b d)(k:b.grownBy c (some g))(j:a.1.size<=g):a.grownBy c d:=
 ⟨k.os.trans h.os,k.tape.trans h.tape,k.output.trans h.output,Nat.le_trans h.size k.size,λi e f=>(k.block i (Nat.lt_of_lt_of_le e h.size) j').trans (h.block i e f)⟩
theorem bg{d:Option Nat}(h:a.grownBy b d):a.grownBy b.drew d:=⟨h.os,h.tape,h.output,h.size,h.block⟩
theorem jg{d:Option Nat}(h:a.drew.grownBy b d):a.grownBy b d:=⟨h.os,h.tape,h.output,h.size,h.block⟩
theorem tK(h:a.grownBy b none):Below a.1.size a b:=⟨h.os,h.tape,h.output,h.size,λk d=>h.block k d Z⟩
theorem Jf{d:Option Nat}(h:a.grownBy b none):a.grownBy b d:=⟨h.os,h.tape,h.output,h.size,oN⟩
def gU(w:World)(g cap:Nat)(bs:E):Prop:=
 ∃cur e,w.1[g]?=some (.cells cur e (0,0))/\cur.size=cap/\cap<=maxLen/\bs.length<=cap/\cur.toList.take bs.length=bs.map U8
theorem gU.kept{a:Nat}(h:gU w g a bs)(i:w'.1[g]?=w.1[g]?):gU w' g a bs:=by
 obtain⟨b,e,d,f⟩:=h;exact⟨b,e,i.trans d,f⟩
theorem gU.lt{a:Nat}(h:gU w g a bs):g<w.1.size:=by
 obtain⟨b,e,d,f⟩:=h;grind
theorem gU.alloc{a:Nat}(h:gU w g a bs)(o):gU (w.alloc o) g a bs:=
 h.kept (Below.heap_alloc w o g h.lt)
theorem gU.new(w:World)(a)(e)(n)(d:a.size=n)(b:n<=maxLen):gU (w.alloc (.cells a e)) w.1.size n []:=
 ⟨a,e,heap_alloc_new w _,d,b,by simp,by simp⟩
theorem gU.empty{a:Nat}(h:gU w g a bs):gU w g a []:=by
 obtain⟨b,e,d,f,i,j,k⟩:=h;exact⟨b,e,d,f,i,by simp,by simp⟩
theorem gU.grown{a:Nat}{b:Option Nat}(h:gU w g a bs)(k:w.grownBy w' b)(d:some g≠b):gU w' g a bs:=
 h.kept (k.block g h.lt d)
theorem gU.room{a:Nat}(h:gU w g a bs):bs.length<=a:=by
 obtain⟨b,e,f,i,j,d,k⟩:=h;exact d
theorem gU.maxLen{a:Nat}(h:gU w g a bs):a<=maxLen:=by
 obtain⟨b,e,f,i,d,j,k⟩:=h;exact d
theorem gU.cell{b:Nat}(h:gU w g b bs)(j)(n:j<bs.length):w.cell? (F g j)=some (.int .u8 (bs[j].toNat:Int)):=by
 obtain⟨a,e,d,i,k,l,f⟩:=h;rw[cell_of_row w g j a e (0,0) d];have m:(a.toList.take bs.length)[j]?=(bs.map U8)[j]?:=by rw[f]
 grind [U8]
theorem gU.frozen{a:Nat}(h:gU w g a bs)(j):w.frozen? (F g j)=false:=by
 obtain⟨b,e,d,f,i,k,l⟩:=h;simp[World.frozen?,d]
theorem gU.at{a:Nat}(h:gU w g a bs):At w (some ⟨g,0,none⟩) bs:=
 (by grind [gU.cell,At.some])
theorem gU.set{a:Nat}(h:gU w g a bs)(p)(y):gU (w.setCell (F g p) (.int .u8 (y.toNat:Int))) g a (bs.set p y):=by
 obtain⟨b,e,k,d,f,i,j⟩:=h;refine⟨b.setIfInBounds p (.int .u8 (y.toNat:Int)),e,?_,by simpa using d,f,by simpa using i,?_⟩
 .grind [setCell_eq_setRow,setRow_heap]
 .rw[Array.toList_setIfInBounds,List.length_set,List.take_set,j,List.map_set];rfl
theorem PC{b:Nat}{e:TypeId}{v:Value}{n:Nat}(h:w.ownsRow b e 1 v n (bs.map U8)):
  ∃ao a,v=.slice ao n a/\n=bs.length/\n<=a/\a<=maxLen/\At w ao bs:=by
 obtain⟨p,h⟩:=h
 have m:n=bs.length:=by simpa using p.symm
 rcases h with⟨rfl,rfl⟩|⟨g,a,f,rfl,l,o,j,d,i,k⟩
 .grind [At.nil]
 .refine⟨some ⟨g,0,none⟩,a,rfl,m,j,d,?_⟩;have l:gU w g a bs:=⟨f,e,o,by simpa using i,d,by omega,by rw[<-m];simpa using k⟩
  exact l.at
theorem tL{a:Addr}(h:At w (some a) bs):∀j u,(bs.map U8)[j]?=some u->w.cell? (a.add j)=some u:=by
 intro j u e;simp only[List.getElem?_map,Option.map_eq_some_iff]at e;obtain⟨y,i,rfl⟩:=e;obtain⟨g,rfl⟩:=List.getElem?_eq_some_iff.1 i;obtain⟨b,k,d,f⟩:=h j g;simp at d;subst d;rw[Addr.add_lit];exact f
theorem oW(bs:E):∀u∈bs.map U8,u.oneCell'=true:=by
 intro u a;simp only[List.mem_map]at a;obtain⟨y,_,rfl⟩:=a;rfl
theorem gU.made(w:World)(e)(n)(a:n<=281474976710656):gU (w.alloc (.cells (madeCells #[.int .u8 0] n) e)) w.1.size n []:=
 gU.new w _ e n (by simp[madeCells]) (by unfold Go.maxLen;omega)
theorem gD{c:World}{d:Option Nat}(h:a.grownBy b none)(k:b.grownBy c d)(f:∀i,d=some i->a.1.size<=i):a.grownBy c none:=
 ⟨k.os.trans h.os,k.tape.trans h.tape,k.output.trans h.output,Nat.le_trans h.size k.size,λi e _=>(k.block i (Nat.lt_of_lt_of_le e h.size) fA).trans (h.block i e Z)⟩
theorem Df(w)(t Q e)(i)(M:P.underlying t=some (.slice e))(D:P.info? e=some i)(f:i.size=1)(g b n)(bs a)(B:gU w g b bs)(L:n=bs.length)(o)(m c)(K:m=a.length)(r:∀j(h:j<a.length),w.cell? (o.add j)=some (U8 a[j]))(d:bs.length+a.length<=b):
  ∃w',(Builtin.append_ #[t,t] Q #[ς g 0 n b,.slice (some o) m c]).run P w=.ok (ς g 0 (n+m) b) w'/\gU w' g b (bs++a)/\w.grownBy w' (some g):=by
 subst L K
 obtain⟨h,p,v,R,x,S,A⟩:=B
 have J:(a.map U8).length=a.length*i.size:=by simp[f]
 have k:∀j u,(a.map U8)[j]?=some u->w.cell? (o.add j)=some u:=by
  grind
 have j:∀u∈a.map U8,u.oneCell'=true:=by
  intro u l;simp only[List.mem_map]at l;obtain⟨y,_,rfl⟩:=l;rfl
 have C:=run_firstCells_some (P:=P) w i.size a.length o a.length c (a.map U8) J k
 have l:=run_storeCells_at P g (bs.length*i.size) p (a.map U8) 0 h w v (by simp[f];omega) j
 simp only[Nat.add_zero]at l
 refine⟨_,by simp[Builtin.append_,run_underlying M,sizeOf,typeInfo,D,Builtin.lenOf,d,C,Addr.add_lit,l];rfl,?_,?_⟩
 .refine⟨_,p,setRow_heap w g h _ p _ v,?_,x,by simpa using d,?_⟩
  .simp[f];omega
  .have q:((bs.map U8)++(a.map U8)++h.toList.drop (bs.length+a.length)).take (bs.length+a.length)=bs.map U8++a.map U8:=by
    rw[List.take_append_of_le_length Z,List.take_of_length_le Z]
   simp only[f,Nat.mul_one,A,List.length_append,List.map_append];grind
 .exact⟨rfl,rfl,rfl,by simp,(by grind [setRow_other])⟩
theorem rW(w){k:Array Oper}{d:List Oper}{o:Oper}{a:Act}{Q:Exit->Act->World->Prop}(D:o.guard=none)(s x)(t)(q:o.op=Op.call {callee:=Callee.builtin Builtin.append,args:=#[s,x],argTypes:=#[t,t]})(e)(i)(u:P.underlying t=some (.slice e))(v:P.info? e=some i)(y:i.size=1)(g n b)(bs f)(M:a.eval s = ς g 0 n b)(B:gU w g b bs)(L:n=bs.length)(l)(m c)(R:a.eval x=.slice (some l) m c)(J:m=f.length)(C:∀j(h:j<f.length),w.cell? (l.add j)=some (U8 f[j]))(r:bs.length+f.length<=b)(A:∀w',gU w' g b (bs++f)->w.grownBy w' (some g)->wpList P k Q d (a.put o.dst (ς g 0 (n+m) b)) w'):
  wpList P k Q (o::d) a w:=by
 refine wpList_plain D λK p=>?_
 obtain⟨w',h,K,S⟩:=Df (P:=P) w t o.type e i u v y g b n bs f B L l m c J C r
 unfold Oper.wp
 simp[execOp,q,resolve,invoke,builtin,M,R,h,Result.andThen]
 exact p _ _ (A w' K S)
theorem Th(w:World)(e)(b):∀j(a:j < [b].length),(w.alloc (.cells #[.int .u8 (b.toNat:Int)] e)).cell? ((⟨w.1.size,0,none⟩:Addr).add j)=some (U8 ([b][j])):=by
 intro j a;have:j=0:=by simpa using a
 subst this;simp[Addr.add,U8]
theorem nY(v)(k):(v.toNat:Int) / 2 ^ (8*k) % 256=((Pure.dW v k).toNat:Int):=by
 have e:(Pure.dW v k).toNat=v.toNat / 2 ^ (8*k) % 256:=by simp[Pure.dW]
 rw[e];simp
theorem WU(x)(b):bits .xor .u8 (b.toNat:Int) ((x.toNat:Int) / 72057594037927936 % 256)=((b ^^^ Pure.dW x 7).toNat:Int):=by
 have e:=nY x 7;rw[show(2:Int) ^ (8*7)=72057594037927936 from by decide]at e;rw[e,u8_xor_nat _ _ b.toNat_lt (Pure.dW x 7).toNat_lt,UInt8.toNat_xor]
theorem xY(w:World)(e)(v)(k):∀j(a:j < [Pure.dW v k].length),(w.alloc (.cells #[.int .u8 ((v.toNat:Int) / 2 ^ (8*k) % 256)] e)).cell? ((⟨w.1.size,0,none⟩:Addr).add j)=some (U8 ([Pure.dW v k][j])):=by
 grind [nY,Th]
theorem yT(w:World)(e)(v)(k):∀j u,([Pure.dW v k].map U8)[j]?=some u->(w.alloc (.cells #[.int .u8 ((v.toNat:Int) / 2 ^ (8*k) % 256)] e)).cell? ((⟨w.1.size,0,none⟩:Addr).add j)=some u:=by
 grind [xY]
theorem vt(h:p:=by
 rw[hr]at hrun
 injection hrun with ha _
 subst ha
 exact .inr rfl):p:=h
theorem xH(w)(d)(t p e)(i)(u:P.underlying t=some (.slice e))(x:P.info? e=some i)(J:i.zero=some (.int .u8 0))(B:i.size=1)(C:i.bytes=1)(v)(n)(D)(a:w.ownsRow d e 1 v n (D.map U8))(ao)(m c)(b)(K:b.length=m)(L:ao=none->c=0)(y:At w ao b)(hb:n+m<=140737488355328)(h:d<=w.1.size):
  ∃o w',(Builtin.append_ #[t,t] p #[v,.slice ao m c]).run P w=.ok o w'/\w'.ownsRow d e 1 o (n+m) ((D++b).map U8)/\w.grownBy w' v.ownBlock/\(o.ownBlock=v.ownBlock\/o.ownBlock=some w.1.size):=by
 subst K
 cases ao with
 |none=>
  obtain rfl:=y.none;obtain rfl:=L rfl;exact⟨_,_,run_append_owned_none (P:=P) w d t p e i 1 u x v n _ a,by simpa using a,World.grownBy.refl _ _,.inl rfl⟩
 |some A=>
  obtain⟨o,w',hrun,r1,X,_⟩:=run_append_own (P:=P) w d t p e i (.int .u8 0) 1 1 u x J B C rfl O v n _ a A b.length c (b.map U8) Z (tL y) (oW b) kO G h;refine⟨o,w',hrun,by grind,X,?_⟩;have j:(b.map U8).length=b.length*i.size:=by simp[B]
  have T:∀q,q<=140737488355328->q*i.bytes<=140737488355328:=by intro q hq;rw[C];omega
  rcases a.2 with⟨rfl,rfl⟩|⟨g,f,r,rfl,S,W,R,U,V,M⟩
  .by_cases K:b.length=0
   .have k:=List.length_eq_zero_iff.1 K;subst k;left;have l:o = σ:=by
     grind
    rw[l]
   .have hr:=run_append_nil (P:=P) w t p e i (.int .u8 0) u x J A b.length c (b.map U8) j (tL y) G G (by rw[C];omega);exact vt
  .by_cases l:n+b.length<=f
   .have k:n*i.size+(b.map U8).length<=r.size:=(by rw[B,List.length_map];omega);have hr:=run_append_room (P:=P) w t p e i u x g n f r W A b.length c (b.map U8) j (tL y) (oW b) l k;rw[hr]at hrun;injection hrun with ha _;subst ha;exact .inl rfl
   .have Q:(D.map U8).length=n*i.size:=(by rw[B];exact a.1);have k:=a.cells (g:=g) rfl;have hr:=run_append_grow (P:=P) w t p e i (.int .u8 0) u x J ⟨g,0,none⟩ n f (D.map U8) Q k A b.length c (b.map U8) j (tL y) G G (growslice_fits G (by rw[C];omega));exact vt
theorem Gw(h:p:=by
 unfold Oper.wp
 simp[execOp,hop,resolve,invoke,builtin,hs,hx,hrun,Result.andThen]
 exact hK' _ _ (hK v' w' r1 r2 r3)):p:=h
theorem bW(w){h:Array Oper}{d:List Oper}{o:Oper}{a:Act}{Q:Exit->Act->World->Prop}(B:o.guard=none)(s x)(t)(hop:o.op=Op.call {callee:=Callee.builtin Builtin.append,args:=#[s,x],argTypes:=#[t,t]})(b)(e)(i)(p:P.underlying t=some (.slice e))(q:P.info? e=some i)(r:i.zero=some (.int .u8 0))(u:i.size=1)(y:i.bytes=1)(v)(n)(l)(hs:a.eval s=v)(g:w.ownsRow b e 1 v n (l.map U8))(ao)(m c)(j)(hx:a.eval x=.slice ao m c)(C:j.length=m)(k:ao=none->c=0)(D:At w ao j)(A:n+m<=140737488355328)(f:b<=w.1.size)(hK:∀v' w',w'.ownsRow b e 1 v' (n+m) ((l++j).map U8)->w.grownBy w' v.ownBlock->Hid (v'.ownBlock=v.ownBlock\/v'.ownBlock=some w.1.size)->wpList P h Q d (a.put o.dst v') w'):
  wpList P h Q (o::d) a w:=by
 refine wpList_plain B λK hK'=>?_
 obtain⟨v',w',hrun,r1,r2,r3⟩:=xH (P:=P) w b t o.type e i p q r u y v n l g ao m c j C k D A f
 exact Gw
theorem Pm(h)(b):IntKind.u64.wrap (IntKind.u64.wrap ((h.toNat:Int)*256)+IntKind.u64.wrap (b.toNat:Int))=((Pure.yR h b).toNat:Int):=by
 grind [IntKind.wrap_u64,Pure.Bh]
theorem TF(x:UInt64):IntKind.u64.wrap ((x.toNat:Int).tdiv 536870912)=(x.toNat:Int) / 536870912:=by
 have a:=x.toNat_lt;grind [IntKind.wrap_u64]
theorem Jg(h)(b):
  bits .xor .u64 (IntKind.u64.wrap (IntKind.u64.wrap (IntKind.u64.wrap ((h.toNat:Int)+IntKind.u64.wrap (b.toNat:Int))+1)*11400714819323198485))
   (IntKind.u64.wrap ((IntKind.u64.wrap (IntKind.u64.wrap (IntKind.u64.wrap ((h.toNat:Int)+IntKind.u64.wrap (b.toNat:Int))+1)*11400714819323198485)).tdiv 536870912))=((Pure.step h b).toNat:Int):=by
 have e:∃x:UInt64,IntKind.u64.wrap (IntKind.u64.wrap (IntKind.u64.wrap ((h.toNat:Int)+IntKind.u64.wrap (b.toNat:Int))+1)*11400714819323198485)=(x.toNat:Int):=by
  generalize IntKind.u64.wrap (IntKind.u64.wrap ((h.toNat:Int)+IntKind.u64.wrap (b.toNat:Int))+1)*11400714819323198485=y;refine⟨UInt64.ofNat (IntKind.u64.wrap y).toNat,?_⟩;rw[Pure.mV _ (by rw[IntKind.wrap_u64];omega),Int.toNat_of_nonneg (by rw[IntKind.wrap_u64];omega)]
 grind [K6,TF]
theorem iZ{d:Nat}{e:TypeId}{v:Value}{n:Nat}(h:w.ownsRow d e 1 v n (bs.map U8)):
  ∃ao a,v=.slice ao n a/\n<=a/\a<=maxLen/\Hid (ao=none->a=0)/\At w ao bs:=by
 have j:=h
 obtain⟨ao,a,b,_,k,l,m⟩:=PC h
 refine⟨ao,a,b,k,l,?_,m⟩
 intro f
 subst b f
 rcases j.2 with⟨b,_⟩|⟨g,c,i,b,_⟩
 .simp at b;exact b.2
 .simp at b
