import Derived.Test.YteknelimjfgmaaaGreatDoorGJPure
import Derived.WalkSpells
import Derived.WalkLawsBesides
theorem Go.RowKit.Hid.o {p:Prop} (h:Go.RowKit.Hid p):p:=h
namespace Go.Proofs.YteknelimjfgmaaaGreatDoor
open Go.RowKit
theorem afp {p:Prop} (h:p:=by omega):p:=h
theorem afq {p:Prop} (h:p:=by decide):p:=h
theorem aft {p:Prop} (h:p:=by simp):p:=h
theorem afz {p:Prop} (h:p:=by simp;omega):p:=h
theorem afL {p:Prop} (h:p:=by unfold maxLen;omega):p:=h
theorem af4 {p:Prop} (h:p:=by rw[e]):p:=h
variable {bs zs:List UInt8} {g off:Nat} {ao:Option Addr} {P:Program} {a b w w':World}
theorem aq {α:Sort _} (a:α):∃ x,a=x:=⟨a,rfl⟩
theorem ar {α:Sort _} (a:α):∃ x,x=a:=⟨a,rfl⟩
theorem aE:∀ (w:World) (o:Obj) (x:Option Nat),w.grownBy (w.alloc o) x:=@World.grownBy_alloc
theorem bd:∀ (n : Nat), n <= n:=@Nat.le_refl
theorem bh:∀ (w:World) (x:Option Nat),w.grownBy w x:=@World.grownBy.refl
theorem bj:∀ {α : Type _} {as bs : List α}, (as ++ bs).length = as.length + bs.length:=@List.length_append
theorem br:∀ {n m k : Nat}, n <= m -> m <= k -> n <= k:=@Nat.le_trans
theorem bw:∀ {α : Type _} {x : Option α}, x.isSome = true ↔ ∃ a, x = some a:=@Option.isSome_iff_exists
theorem cg:∀ {α : Type _} [BEq α] [LawfulBEq α] {a b : α}, (a == b) = false ↔ a ≠ b:=@beq_eq_false_iff_ne
theorem ch:∀ (w:World) (o:Obj),(w.alloc o).heap.size=w.heap.size+1:=@World.size_alloc
theorem cq:∀ {α : Type _} {i : Nat} {a : α} {l : List α}, l[i]? = some a ↔ ∃ h, l[i] = a:=@List.getElem?_eq_some_iff
theorem cr:∀ {α : Type _} {l : List α} {i : Nat} (h : i < l.length), l[i]? = some l[i]:=@List.getElem?_eq_getElem
theorem ct:∀ {α : Type _} {a : α} {l : List α}, (a :: l)[0]? = some a:=@List.getElem?_cons_zero
theorem cw:∀ {α : Type _} {β : Type _} {as : List α} (f : α -> β), (List.map f as).length = as.length:=@List.length_map
theorem cx:∀ {α : Type _} {xs : List α} {i : Nat}, xs.toArray[i]? = xs[i]?:=@List.getElem?_toArray
theorem cy:∀ {α : Type _} {i : Nat} {l : List α}, (List.drop i l).length = l.length - i:=@List.length_drop
theorem cA:∀ {p : Prop} [Decidable p], ¬p -> decide p = false:=@decide_eq_false
theorem cC:∀ (n : Nat), 0 + n = n:=@Nat.zero_add
theorem cD:∀ {α : Type _} {a : α} {i : Nat} {l : List α}, (a :: l)[i + 1]? = l[i]?:=@List.getElem?_cons_succ
theorem cE:∀ (n : Nat), 0 <= n:=@Nat.zero_le
theorem cF:∀ {α : Type _} {l₁ l₂ : List α} {i : Nat}, i < l₁.length -> (l₁ ++ l₂)[i]? = l₁[i]?:=@List.getElem?_append_left
theorem cG:∀ {α : Type _} {i : Nat} {l : List α}, (List.take i l).length = min i l.length:=@List.length_take
theorem cH:∀ {p : Prop} [Decidable p], p -> decide p = true:=@decide_eq_true
theorem cJ:∀ {α : Type _} {l : List α} {n : Nat} (h : n < l.length), l[n] ∈ l:=@List.getElem_mem
theorem cL:∀ {α : Type _} [BEq α] [LawfulBEq α] {a b : α}, (a == b) = true ↔ a = b:=@beq_iff_eq
theorem cM:∀ {α : Type _} {l₁ l₂ : List α} {i : Nat}, l₁.length <= i -> (l₁ ++ l₂)[i]? = l₂[i - l₁.length]?:=@List.getElem?_append_right
theorem cN:∀ {α : Type _} {a : α} {as : List α}, (a :: as).length = as.length + 1:=@List.length_cons
theorem cR:∀ {α : Type _} (as bs cs : List α), as ++ bs ++ cs = as ++ (bs ++ cs):=@List.append_assoc
theorem cU:∀ {α : Type _} {as : List α} {i : Nat} {a : α}, (as.set i a).length = as.length:=@List.length_set
theorem cV:∀ {α : Type _} {i : Nat} {l : List α}, l.length <= i -> List.take i l = l:=@List.take_of_length_le
theorem cW:∀ {α : Type _} {β : Type _} {f : α -> β} {l₁ l₂ : List α}, List.map f (l₁ ++ l₂) = List.map f l₁ ++ List.map f l₂:=@List.map_append
theorem cX:∀ (n k : Nat), n <= n + k:=@Nat.le_add_right
theorem cY:∀ {α : Type _} {a : α}, (some a).isSome = true:=@Option.isSome_some
theorem da:∀ {α : Type _} {a b : α}, a ∈ [b] ↔ a = b:=@List.mem_singleton
theorem db:∀ {α : Type _} {xs : Array α}, xs.toList.length = xs.size:=@Array.length_toList
theorem de:∀ {α : Type _} (l : List α) (i : Nat) (a : α), l.toArray.setIfInBounds i a = (l.set i a).toArray:=@List.setIfInBounds_toArray
theorem dj:∀ {α : Type _} {β : Type _} {f : α -> β} {a : α} {l : List α}, List.map f (a :: l) = f a :: List.map f l:=@List.map_cons
theorem dk:∀ {α : Type _} {l : List α} {L : List (List α)}, (l :: L).flatten = l ++ L.flatten:=@List.flatten_cons
theorem du:∀ {a b : Nat}, a < b -> a % b = a:=@Nat.mod_eq_of_lt
theorem dy:∀ {α : Type _} {x : α} {xs : List α} {a : α}, (x :: xs).set 0 a = a :: xs:=@List.set_cons_zero
theorem ec:∀ {n : Nat}, (UInt8.ofNat n).toNat = n % 2 ^ 8:=@UInt8.toNat_ofNat'
theorem ee:∀ {α : Type _} {i : Nat} {l : List α} (h : i < l.length), List.take (i + 1) l = List.take i l ++ [l[i]]:=@List.take_succ_eq_append_getElem
theorem eg:∀ {α : Type _} {a : α} {s t : List α}, a ∈ s ++ t ↔ a ∈ s \/ a ∈ t:=@List.mem_append
theorem eh:∀ {α : Sort _} {β : Sort _} {a₁ a₂ : α} (f : α -> β), a₁ = a₂ -> f a₁ = f a₂:=@congrArg
theorem ej:∀ (a b : Bool), ((a && b) = true) = (a = true /\ b = true):=@Bool.and_eq_true
theorem en:(!false) = true:=@Bool.not_false
theorem eo:∀ {α : Type _} {x : α} {xs : List α} {i : Nat} {a : α}, (x :: xs).set (i + 1) a = x :: xs.set i a:=@List.set_cons_succ
theorem ep:∀ {α : Type _} {l : List α}, l.length = 0 -> l = []:=@List.eq_nil_of_length_eq_zero
theorem ev:∀ {α : Type _} {β : Type _} {l : List α} {a : α} {f : α -> β}, a ∈ l -> f a ∈ List.map f l:=@List.mem_map_of_mem
theorem ew:∀ {α : Type _} (val val_1 : α), (some val = some val_1) = (val = val_1):=@Option.some.injEq
theorem ey:∀ {α : Type _} (i : Nat) (l : List α), List.take i l ++ List.drop i l = l:=@List.take_append_drop
theorem ez:∀ {α : Sort _} {_ : Decidable True} (t e : α), (if True then t else e) = t:=@if_true
theorem eA:∀ {α : Type _} {i : Nat} {b : α} {xs : Array α}, xs[i]? = some b ↔ ∃ h, xs[i] = b:=@Array.getElem?_eq_some_iff
theorem eC:∀ {α : Sort _} {_ : Decidable False} (t e : α), (if False then t else e) = e:=@if_false
theorem eE:(!true) = false:=@Bool.not_true
theorem eJ:∀ {α : Type _} {l : List α} {i : Nat} {a b : α}, a ∈ l.set i b -> a ∈ l \/ a = b:=@List.mem_or_eq_of_mem_set
theorem eK:∀ {a b : Int}, ¬a < b ↔ b <= a:=@Int.not_lt
theorem eL:∀ {p : Prop} [Decidable p], (decide p = true) = p:=@decide_eq_true_eq
theorem eM:∀ {α : Type _} {i : Nat} {xs : Array α}, xs.size <= i -> xs[i]? = none:=@Array.getElem?_eq_none
theorem eN:∀ {α : Type _} [BEq α] [LawfulBEq α] {a b : α}, (a != b) = false ↔ a = b:=@bne_eq_false_iff_eq
theorem eR:∀ (n : Nat), n + 0 = n:=@Nat.add_zero
theorem eV:∀ {α : Type _} {β : Type _} {f : α -> β}, List.map f [] = []:=@List.map_nil
theorem eW:∀ (p : Prop), p \/ ¬p:=@Classical.em
theorem fg:∀ {α : Type _} (as : List α), as ++ [] = as:=@List.append_nil
theorem fh:(false = true) = False:=@Bool.false_eq_true
theorem fj:∀ {α : Type _} [BEq α] [LawfulBEq α] {a b : α}, (a != b) = true ↔ a ≠ b:=@bne_iff_ne
theorem fk:∀ {α : Type _} {l : List α} {i : Nat} {a : α}, l[i]? = some a -> a ∈ l:=@List.mem_of_getElem?
theorem fm:∀ {α : Type _} {l : List α} {i j : Nat}, i ≠ j -> ∀ {a : α}, (l.set i a)[j]? = l[j]?:=@List.getElem?_set_ne
theorem fp:∀ {a b : Int}, 0 <= a -> a.tmod b = a % b:=@Int.tmod_eq_emod_of_nonneg
theorem ft:∀ {α : Type _} (a : α) (as : List α) (h : 0 < (a :: as).length), (a :: as)[0] = a:=@List.getElem_cons_zero
theorem fL:∀ {α : Type _} {l : List α}, 0 < l.length ↔ l ≠ []:=@List.length_pos_iff
theorem fN:∀ (n m k : Nat), n + m + k = n + (m + k):=@Nat.add_assoc
theorem fR:∀ (b : Bool), (b && true) = b:=@Bool.and_true
theorem fS:∀ (n : Nat), ¬n < n:=@Nat.lt_irrefl
theorem fW:∀ {n m k : Nat}, n < m -> m <= k -> n < k:=@Nat.lt_of_lt_of_le
theorem fX:∀ {α : Type _} {a : α}, [a].length = 1:=@List.length_singleton
theorem fY:∀ {a b : Nat}, a <= b -> min a b = a:=@Nat.min_eq_left
theorem gd:∀ {p : Prop} {_ : Decidable p}, decide p = false ↔ ¬p:=@decide_eq_false_iff_not
theorem gf:∀ (b : Bool), (b && false) = false:=@Bool.and_false
theorem gh:∀ (b : Bool), (false && b) = false:=@Bool.false_and
theorem gi:∀ (n : Nat), 0 * n = 0:=@Nat.zero_mul
theorem gj:∀ (b : Bool), (true && b) = b:=@Bool.true_and
theorem gn:∀ (n : Nat), n <= n.succ:=@Nat.le_succ
theorem gC:∀ (n : Nat), n * 1 = n:=@Nat.mul_one
theorem gE:∀ (n : Nat), n - n = 0:=@Nat.sub_self
theorem hid {p:Prop} (h:p):Hid p:=h
theorem Gh (n:Nat):IntKind.u64.wrap (n:Int)=((n % 18446744073709551616:Nat):Int):=by
 rw[IntKind.wrap_u64];omega
theorem Bv (n:Int) (h0:0<=n) (h1:n<18446744073709551616):IntKind.u64.wrap n=n:=by
 rw[IntKind.wrap_u64];omega
theorem sU (b:UInt8):IntKind.u64.wrap (b.toNat:Int)=(b.toNat:Int):=
 Bv _ afp (by have:=b.toNat_lt;omega)
theorem Xj (x:UInt64):bits .xor .u64 (x.toNat:Int) ((x.toNat:Int) / 536870912)=((Pure.mix x).toNat:Int):=by
 have h:=xorShift_u64 x.toNat 536870912 x.toNat_lt;rw[show ((536870912:Nat):Int)=536870912 from rfl] at h;rw[h];simp[Pure.mix,UInt64.toNat_xor,UInt64.toNat_shiftRight,Nat.shiftRight_eq_div_pow]
theorem IV (h:UInt64) (b:UInt8) :
  bits .xor .u64 (IntKind.u64.wrap (IntKind.u64.wrap (IntKind.u64.wrap ((h.toNat:Int)+IntKind.u64.wrap (b.toNat:Int))+1)*11400714819323198485))
   (IntKind.u64.wrap (IntKind.u64.wrap (IntKind.u64.wrap ((h.toNat:Int)+IntKind.u64.wrap (b.toNat:Int))+1)*11400714819323198485) / 536870912)=((Pure.step h b).toNat:Int):=by
 have e:IntKind.u64.wrap (IntKind.u64.wrap (IntKind.u64.wrap ((h.toNat:Int)+IntKind.u64.wrap (b.toNat:Int))+1)*11400714819323198485)=(((h+b.toUInt64+1)*Pure.F).toNat:Int):=by
  rw[sU];have e1:(h+b.toUInt64+1).toNat=(h.toNat+b.toNat+1) % 2 ^ 64:=by
   simp[UInt64.toNat_add]
  have e2:((h+b.toUInt64+1)*Pure.F).toNat=((h.toNat+b.toNat+1) % 2 ^ 64)*11400714819323198485 % 2 ^ 64:=by
   rw[UInt64.toNat_mul,e1];rfl
  rw[e2];simp only[IntKind.wrap_u64];omega
 rw[e]
 exact Xj _
theorem qQ {a b:Int} (h:a=b):Value.int .u64 a=Value.int .u64 b:=by rw[h]
theorem A8 {a b:Int} (h:a=b):Ending.returned (.int .u64 a) = .returned (.int .u64 b):=by rw[h]
theorem kN {l:List UInt8} {k:Nat} (h:k<l.length):l.take (k+1)=l.take k++[l[k]]:=List.take_succ_eq_append_getElem h
theorem Bw (h:UInt64) (b:UInt8):bits .or .u64 (IntKind.u64.wrap ((h.toNat:Int)*256)) (IntKind.u64.wrap (b.toNat:Int))=((Pure.xQ h b).toNat:Int):=by
 have hb:=b.toNat_lt;rw[sU,show ((h.toNat:Int)*256)=((h.toNat*256:Nat):Int) from by omega,Gh,u64_or_nat _ _ afp afp];simp[Pure.xQ,UInt64.toNat_or,UInt64.toNat_shiftLeft,Nat.shiftLeft_eq]
def U8 (b:UInt8):Value:=.int .u8 (b.toNat:Int)
def At (w:World) (ao:Option Addr) (zs:List UInt8):Prop:=
 ∀ j,(hj:j<zs.length)->∃ b off,ao=some ⟨b,off,none⟩/\w.cell? ⟨b,off+j,none⟩=some (.int .u8 (zs[j].toNat:Int))
theorem At.nil (w:World) (ao:Option Addr):At w ao []:=fun j hj=>absurd hj aft
theorem At.none (h:At w none zs):zs=[]:=by
 cases zs with
 | nil=>rfl
 | cons z zs=>obtain ⟨b,off,h1,_⟩:=h 0 aft;cases h1
theorem At.some {b:Nat} (h:∀ j (hj:j<zs.length),w.cell? ⟨b,off+j,.none⟩ = .some (.int .u8 (zs[j].toNat:Int))):At w (.some ⟨b,off,.none⟩) zs:=
 fun j hj=>⟨b,off,rfl,h j hj⟩
theorem At.cells {b:Nat} (h:At w (.some ⟨b,off,.none⟩) zs) (j:Nat) (hj:j<zs.length):w.cell? ⟨b,off+j,.none⟩ = .some (.int .u8 (zs[j].toNat:Int)):=by
 obtain ⟨b',off',h1,h2⟩:=h j hj;simp at h1;obtain ⟨rfl,rfl⟩:=h1;exact h2
theorem At.grown {row:Option Nat} (h:At w ao zs) (k:w.grownBy w' row) (hr:∀ b off,ao = .some ⟨b,off,.none⟩->zs≠[]->.some b≠row):At w' ao zs:=by
 intro j hj;obtain ⟨b,off,h1,h2⟩:=h j hj;exact ⟨b,off,h1,k.cell h2 (hr b off h1 (by intro e;subst e;simp at hj))⟩
theorem At.below (h:At w ao zs) (k:w.grownBy w' .none):At w' ao zs:=h.grown k aft
theorem At.take (h:At w ao zs) (k:Nat):At w ao (zs.take k):=by
 intro j hj;obtain ⟨b,off,h1,h2⟩:=h j (by simp at hj;omega);exact ⟨b,off,h1,by simpa using h2⟩
theorem At.drop {b:Nat} (h:At w (.some ⟨b,off,.none⟩) zs) (k:Nat):At w (.some ⟨b,off+k,.none⟩) (zs.drop k):=by
 intro j hj;have h2:=h.cells (k+j) (by simp at hj;omega);exact ⟨b,off+k,rfl,by simpa[Nat.add_assoc] using h2⟩
theorem At.addr (h:At w ao zs) (hp:0<zs.length):∃ b off,ao = .some ⟨b,off,.none⟩/\b<w.heap.size:=by
 obtain ⟨b,off,h1,h2⟩:=h 0 hp;exact ⟨b,off,h1,by have:=World.block_lt_of_cell? w _ h2;simpa using this⟩
theorem At.drewN (h:At w ao zs) (n:Nat):At (w.drewN n) ao zs:=h
theorem aY {row:Option Nat} (h:a.grownBy b row) (n:Nat):a.grownBy (b.drewN n) row:=⟨h.os,h.tape,h.output,h.size,h.block⟩
theorem iE (w:World) (src dst e:TypeId) (hs:P.underlying src = .some (.slice e)) (he:P.underlying e = .some (.int .u8)) (hd:P.underlying dst = .some .string)
  (ao:Option Addr) (cap:Nat) (zs:List UInt8) (hc:At w ao zs):(convert src dst (.slice ao zs.length cap)).run P w = .ok (.string ⟨zs.toArray⟩) w:=by
 cases ao with
 | none=>
  obtain rfl:=hc.none;show (convert src dst (.slice .none 0 cap)).run P w=_;rw[run_convert_bytes_string w src dst e .none 0 cap hs he hd];simp[Conv.bytesToString];rfl
 | some a=>
  refine run_convert_bytes_back w src dst e a cap zs hs he hd fun j hj=>?_;obtain ⟨b,off,h1,h2⟩:=hc j hj;simp at h1;subst h1;rw[Addr.add_lit];exact h2
theorem aa {c:World} {row:Option Nat} (h:a.grownBy b row) (k:b.grownBy c row):a.grownBy c row:=
 ⟨k.os.trans h.os,k.tape.trans h.tape,k.output.trans h.output,Nat.le_trans h.size k.size,fun i hi hr=>(k.block i (Nat.lt_of_lt_of_le hi h.size) hr).trans (h.block i hi hr)⟩
theorem aR {row:Option Nat} (h:a.grownBy b row) (o:Obj):a.grownBy (b.alloc o) row:=
 aa h (World.grownBy_alloc b o row)
theorem Gi {c:World} {row:Option Nat} (h:a.grownBy b row) (k:b.grownBy c (some g)) (hg:a.heap.size<=g):a.grownBy c row:=
 ⟨k.os.trans h.os,k.tape.trans h.tape,k.output.trans h.output,Nat.le_trans h.size k.size,fun i hi hr=>(k.block i (Nat.lt_of_lt_of_le hi h.size) afz).trans (h.block i hi hr)⟩
theorem bD {row:Option Nat} (h:a.grownBy b row):a.grownBy b.drew row:=⟨h.os,h.tape,h.output,h.size,h.block⟩
theorem iN {row:Option Nat} (h:a.drew.grownBy b row):a.grownBy b row:=⟨h.os,h.tape,h.output,h.size,h.block⟩
theorem Bz (h:a.grownBy b none):Below a.heap.size a b:=⟨h.os,h.tape,h.output,h.size,fun k hk=>h.block k hk aft⟩
theorem Xk {row:Option Nat} (h:a.grownBy b none):a.grownBy b row:=⟨h.os,h.tape,h.output,h.size,fun k hk _=>h.block k hk aft⟩
def Buf (w:World) (g cap:Nat) (bs:List UInt8):Prop:=
 ∃ cur e,w.heap[g]?=some (.cells cur e (0,0))/\cur.size=cap/\cap<=maxLen/\bs.length<=cap/\cur.toList.take bs.length=bs.map U8
theorem Buf.kept {cap:Nat} (h:Buf w g cap bs) (he:w'.heap[g]?=w.heap[g]?):Buf w' g cap bs:=by
 obtain ⟨cur,e,h1,h2⟩:=h;exact ⟨cur,e,he.trans h1,h2⟩
theorem Buf.lt {cap:Nat} (h:Buf w g cap bs):g<w.heap.size:=by
 obtain ⟨cur,e,h1,h2⟩:=h;exact (Array.getElem?_eq_some_iff.1 h1).1
theorem Buf.alloc {cap:Nat} (h:Buf w g cap bs) (o:Obj):Buf (w.alloc o) g cap bs:=
 h.kept (Below.heap_alloc w o g h.lt)
theorem Buf.new (w:World) (cur:Array Value) (e:TypeId) (n:Nat) (hs:cur.size=n) (hm:n<=maxLen):Buf (w.alloc (.cells cur e)) w.heap.size n []:=
 ⟨cur,e,heap_alloc_new w _,hs,hm,by simp,by simp⟩
theorem Buf.empty {cap:Nat} (h:Buf w g cap bs):Buf w g cap []:=by
 obtain ⟨cur,e,h1,h2,h3,h4,h5⟩:=h;exact ⟨cur,e,h1,h2,h3,by simp,by simp⟩
theorem Buf.grown {cap:Nat} {row:Option Nat} (h:Buf w g cap bs) (k:w.grownBy w' row) (hr:some g≠row):Buf w' g cap bs:=
 h.kept (k.block g h.lt hr)
theorem Buf.room {cap:Nat} (h:Buf w g cap bs):bs.length<=cap:=by
 obtain ⟨cur,e,h1,h2,h3,h4,h5⟩:=h;exact h4
theorem Buf.maxLen {cap:Nat} (h:Buf w g cap bs):cap<=maxLen:=by
 obtain ⟨cur,e,h1,h2,h3,h4,h5⟩:=h;exact h3
theorem Buf.cell {cap:Nat} (h:Buf w g cap bs) (j:Nat) (hj:j<bs.length):w.cell? ⟨g,j,none⟩=some (.int .u8 (bs[j].toNat:Int)):=by
 obtain ⟨cur,e,h1,h2,h3,h4,h5⟩:=h;rw[cell_of_row w g j cur e (0,0) h1];have h6:(cur.toList.take bs.length)[j]?=(bs.map U8)[j]?:=by rw[h5]
 rw[List.getElem?_take_of_lt hj] at h6;simpa[hj,U8] using h6
theorem Buf.frozen {cap:Nat} (h:Buf w g cap bs) (j:Nat):w.frozen? ⟨g,j,none⟩=false:=by
 obtain ⟨cur,e,h1,h2,h3,h4,h5⟩:=h;simp[World.frozen?,h1]
theorem Buf.at {cap:Nat} (h:Buf w g cap bs):At w (some ⟨g,0,none⟩) bs:=
 At.some fun j hj=>by rw[Nat.zero_add];exact h.cell j hj
theorem Buf.set {cap:Nat} (h:Buf w g cap bs) (p:Nat) (y:UInt8):Buf (w.setCell ⟨g,p,none⟩ (.int .u8 (y.toNat:Int))) g cap (bs.set p y):=by
 obtain ⟨cur,e,h1,h2,h3,h4,h5⟩:=h;refine ⟨cur.setIfInBounds p (.int .u8 (y.toNat:Int)),e,?_,by simpa using h2,h3,by simpa using h4,?_⟩
 ·rw[setCell_eq_setRow w g p cur e (0,0) _ h1];exact setRow_heap w g cur _ e _ h1
 ·rw[Array.toList_setIfInBounds,List.length_set,List.take_set,h5,List.map_set];rfl
theorem aan {base:Nat} {e:TypeId} {v:Value} {n:Nat} (h:w.ownsRow base e 1 v n (bs.map U8)) :
  ∃ ao cap,v = .slice ao n cap/\n=bs.length/\n<=cap/\cap<=maxLen/\At w ao bs:=by
 obtain ⟨hl,h⟩:=h
 have hn:n=bs.length:=by simpa using hl.symm
 rcases h with ⟨rfl,rfl⟩ | ⟨g,cap,cur,rfl,hb,hg,hnc,hcm,hcs,htk⟩
 ·have:bs=[]:=List.length_eq_zero_iff.1 hn.symm;subst this;exact ⟨none,0,rfl,rfl,Nat.le_refl _,Nat.zero_le _,At.nil _ _⟩
 ·refine ⟨some ⟨g,0,none⟩,cap,rfl,hn,hnc,hcm,?_⟩;have hb:Buf w g cap bs:=⟨cur,e,hg,by simpa using hcs,hcm,by omega,by rw[<-hn];simpa using htk⟩
  exact hb.at
theorem rZ {a:Addr} (h:At w (some a) bs):∀ j u,(bs.map U8)[j]?=some u->w.cell? (a.add j)=some u:=by
 intro j u hu;simp only[List.getElem?_map,Option.map_eq_some_iff] at hu;obtain ⟨y,hy,rfl⟩:=hu;obtain ⟨hj,rfl⟩:=List.getElem?_eq_some_iff.1 hy;obtain ⟨b,off,h1,h2⟩:=h j hj;simp at h1;subst h1;rw[Addr.add_lit];exact h2
theorem nU (bs:List UInt8):∀ u∈bs.map U8,u.oneCell'=true:=by
 intro u hu;simp only[List.mem_map] at hu;obtain ⟨y,_,rfl⟩:=hu;rfl
theorem iw {c:World} {row:Option Nat} (h:a.grownBy b none) (k:b.grownBy c row) (hr:∀ i,row=some i->a.heap.size<=i):a.grownBy c none:=
 ⟨k.os.trans h.os,k.tape.trans h.tape,k.output.trans h.output,Nat.le_trans h.size k.size,fun i hi _=>(k.block i (Nat.lt_of_lt_of_le hi h.size) (by intro e;have:=hr i e.symm;omega)).trans (h.block i hi aft)⟩
theorem BA (w:World) (t ty e:TypeId) (i:TypeInfo) (ht:P.underlying t=some (.slice e)) (hi:P.info? e=some i) (hsz:i.size=1)
  (g cap n:Nat) (bs ys:List UInt8) (hb:Buf w g cap bs) (hn:n=bs.length) (ad:Addr) (m c:Nat) (hm:m=ys.length) (hnews:∀ j (hj:j<ys.length),w.cell? (ad.add j)=some (U8 ys[j])) (hroom:bs.length+ys.length<=cap) :
  ∃ w',(Builtin.append_ #[t,t] ty #[.slice (some ⟨g,0,none⟩) n cap,.slice (some ad) m c]).run P w = .ok (.slice (some ⟨g,0,none⟩) (n+m) cap) w'/\Buf w' g cap (bs++ys)/\w.grownBy w' (some g):=by
 subst hn hm
 obtain ⟨cur,e',h1,h2,h3,h4,h5⟩:=hb
 have hl:(ys.map U8).length=ys.length*i.size:=by simp[hsz]
 have hcell:∀ j u,(ys.map U8)[j]?=some u->w.cell? (ad.add j)=some u:=by
  intro j u hu;simp only[List.getElem?_map,Option.map_eq_some_iff] at hu;obtain ⟨y,hy,rfl⟩:=hu;obtain ⟨hj,rfl⟩:=List.getElem?_eq_some_iff.1 hy;exact hnews j hj
 have hone:∀ u∈ys.map U8,u.oneCell'=true:=by
  intro u hu;simp only[List.mem_map] at hu;obtain ⟨y,_,rfl⟩:=hu;rfl
 have hf:=run_firstCells_some (P:=P) w i.size ys.length ad ys.length c (ys.map U8) hl hcell
 have hst:=run_storeCells_at P g (bs.length*i.size) e' (ys.map U8) 0 cur w h1 (by simp[hsz];omega) hone
 simp only[Nat.add_zero] at hst
 refine ⟨_,by simp[Builtin.append_,run_underlying ht,sizeOf,typeInfo,hi,Builtin.lenOf,hroom,hf,Addr.add_lit,hst];rfl,?_,?_⟩
 ·refine ⟨_,e',setRow_heap w g cur _ e' _ h1,?_,h3,by simpa using hroom,?_⟩
  ·simp[hsz];omega
  ·have q:((bs.map U8)++(ys.map U8)++cur.toList.drop (bs.length+ys.length)).take (bs.length+ys.length)=bs.map U8++ys.map U8:=by
    rw[List.take_append_of_le_length aft,List.take_of_length_le aft]
   simp only[hsz,Nat.mul_one,h5,List.length_append,List.map_append];rw[List.append_assoc] at q;exact q
 ·exact ⟨rfl,rfl,rfl,by simp,fun k _ hk=>setRow_other w g k _ (fun e=>hk af4)⟩
theorem qR (w:World) {ops:Array Oper} {rest:List Oper} {o:Oper} {a:Act} {Q:Exit->Act->World->Prop}
  (hg:o.guard=none) (s x:Operand) (t:TypeId) (hop:o.op=Op.call {callee:=Callee.builtin Builtin.append,args:=#[s,x],argTypes:=#[t,t]})
  (e:TypeId) (i:TypeInfo) (h1:P.underlying t=some (.slice e)) (h2:P.info? e=some i) (h4:i.size=1)
  (g n cap:Nat) (bs ys:List UInt8) (hs:a.eval s = .slice (some ⟨g,0,none⟩) n cap) (hb:Buf w g cap bs) (hn:n=bs.length) (ad:Addr) (m c:Nat) (hx:a.eval x = .slice (some ad) m c) (hm:m=ys.length)
  (hc:∀ j (hj:j<ys.length),w.cell? (ad.add j)=some (U8 ys[j])) (b1:bs.length+ys.length<=cap)
  (hK:∀ w',Buf w' g cap (bs++ys)->w.grownBy w' (some g)->wpList P ops Q rest (a.put o.dst (.slice (some ⟨g,0,none⟩) (n+m) cap)) w') :
  wpList P ops Q (o::rest) a w:=by
 refine wpList_plain hg fun K hK'=>?_
 obtain ⟨w',hrun,r1,r2⟩:=BA (P:=P) w t o.type e i h1 h2 h4 g cap n bs ys hb hn ad m c hm hc b1
 unfold Oper.wp
 simp[execOp,hop,resolve,invoke,builtin,hs,hx,hrun,Result.andThen]
 exact hK' _ _ (hK w' r1 r2)
theorem Xl (w:World) (e:TypeId) (b:UInt8):∀ j (hj:j < [b].length),(w.alloc (.cells #[.int .u8 (b.toNat:Int)] e)).cell? ((⟨w.heap.size,0,none⟩:Addr).add j)=some (U8 ([b][j])):=by
 intro j hj;have:j=0:=by simpa using hj
 subst this;simp[Addr.add,U8]
theorem mZ (v:UInt64) (k:Nat):(v.toNat:Int) / 2 ^ (8*k) % 256=((Pure.dW v k).toNat:Int):=by
 have e:(Pure.dW v k).toNat=v.toNat / 2 ^ (8*k) % 256:=by simp[Pure.dW]
 rw[e];simp
theorem Sw (x:UInt64) (b:UInt8):bits .xor .u8 (b.toNat:Int) ((x.toNat:Int) / 72057594037927936 % 256)=((b ^^^ Pure.dW x 7).toNat:Int):=by
 have e:=mZ x 7;rw[show (2:Int) ^ (8*7)=72057594037927936 from by decide] at e;rw[e,u8_xor_nat _ _ b.toNat_lt (Pure.dW x 7).toNat_lt,UInt8.toNat_xor]
theorem wV (w:World) (e:TypeId) (v:UInt64) (k:Nat):∀ j (hj:j < [Pure.dW v k].length),(w.alloc (.cells #[.int .u8 ((v.toNat:Int) / 2 ^ (8*k) % 256)] e)).cell? ((⟨w.heap.size,0,none⟩:Addr).add j)=some (U8 ([Pure.dW v k][j])):=by
 rw[mZ];exact Xl w e _
theorem xR (w:World) (e:TypeId) (v:UInt64) (k:Nat):∀ j u,([Pure.dW v k].map U8)[j]?=some u->(w.alloc (.cells #[.int .u8 ((v.toNat:Int) / 2 ^ (8*k) % 256)] e)).cell? ((⟨w.heap.size,0,none⟩:Addr).add j)=some u:=by
 intro j u hu;simp only[List.getElem?_map,Option.map_eq_some_iff] at hu;obtain ⟨y,hy,rfl⟩:=hu;obtain ⟨hj,rfl⟩:=List.getElem?_eq_some_iff.1 hy;exact wV w e v k j hj
theorem acN {p:Prop} (h:p:=by
 rw[hr] at hrun
 injection hrun with ha _
 subst ha
 exact .inr rfl):p:=h
theorem wH (w:World) (base:Nat) (t ty e:TypeId) (i:TypeInfo) (h1:P.underlying t=some (.slice e)) (h2:P.info? e=some i) (h3:i.zero=some (.int .u8 0)) (h4:i.size=1) (h5:i.bytes=1)
  (v:Value) (n:Nat) (xs:List UInt8) (hown:w.ownsRow base e 1 v n (xs.map U8)) (ao:Option Addr) (m c:Nat) (ys:List UInt8) (hm:ys.length=m) (hnc:ao=none->c=0) (hy:At w ao ys) (hb:n+m<=140737488355328) (hbase:base<=w.heap.size) :
  ∃ v' w',(Builtin.append_ #[t,t] ty #[v,.slice ao m c]).run P w = .ok v' w'/\w'.ownsRow base e 1 v' (n+m) ((xs++ys).map U8)/\w.grownBy w' v.ownBlock/\(v'.ownBlock=v.ownBlock\/v'.ownBlock=some w.heap.size):=by
 subst hm
 cases ao with
 | none=>
  obtain rfl:=hy.none;obtain rfl:=hnc rfl;exact ⟨_,_,run_append_owned_none (P:=P) w base t ty e i 1 h1 h2 v n _ hown,by simpa using hown,World.grownBy.refl _ _,.inl rfl⟩
 | some ad=>
  obtain ⟨v',w',hrun,r1,r2,_⟩:=run_append_own (P:=P) w base t ty e i (.int .u8 0) 1 1 h1 h2 h3 h4 h5 rfl afq v n _ hown ad ys.length c (ys.map U8) aft (rZ hy) (nU ys) afL afp hbase;refine ⟨v',w',hrun,by rw[List.map_append];exact r1,r2,?_⟩;have hl1:(ys.map U8).length=ys.length*i.size:=by simp[h4]
  rcases hown.2 with ⟨rfl,rfl⟩ | ⟨g,cap,cur,rfl,hbg,hg,hnc',hcm,hcs,htake⟩
  ·by_cases hm:ys.length=0
   ·have hys:ys=[]:=List.length_eq_zero_iff.1 hm;subst hys;left;have hx:v' = .slice none 0 0:=by
     rcases r1.2 with ⟨hv,_⟩ | ⟨g,cap,cur,hv,_,_,_,_,_,_⟩
     ·exact hv
     ·exfalso;subst hv;simp[Builtin.append_,run_underlying h1,sizeOf,typeInfo,h2,Builtin.lenOf,Builtin.firstCells,loadCells,loadCellsFrom] at hrun
    rw[hx]
   ·have hr:=run_append_nil (P:=P) w t ty e i (.int .u8 0) h1 h2 h3 ad ys.length c (ys.map U8) hl1 (rZ hy) afp afp (by rw[h5];omega);exact acN
  ·by_cases hroom:n+ys.length<=cap
   ·have hfit:n*i.size+(ys.map U8).length<=cur.size:=(by rw[h4,List.length_map];omega);have hr:=run_append_room (P:=P) w t ty e i h1 h2 g n cap cur hg ad ys.length c (ys.map U8) hl1 (rZ hy) (nU ys) hroom hfit;rw[hr] at hrun;injection hrun with ha _;subst ha;exact .inl rfl
   ·have hx1:(xs.map U8).length=n*i.size:=(by rw[h4];exact hown.1);have holds:∀ j u,(xs.map U8)[j]?=some u->w.cell? ((⟨g,0,none⟩:Addr).add j)=some u:=hown.cells (g:=g) rfl;have hr:=run_append_grow (P:=P) w t ty e i (.int .u8 0) h1 h2 h3 ⟨g,0,none⟩ n cap (xs.map U8) hx1 holds ad ys.length c (ys.map U8) hl1 (rZ hy) afp afp (growslice_fits afp (by rw[h5];omega));exact acN
theorem ade {p:Prop} (h:p:=by
 unfold Oper.wp
 simp[execOp,hop,resolve,invoke,builtin,hs,hx,hrun,Result.andThen]
 exact hK' _ _ (hK v' w' r1 r2 r3)):p:=h
theorem bU (w:World) {ops:Array Oper} {rest:List Oper} {o:Oper} {a:Act} {Q:Exit->Act->World->Prop}
  (hg:o.guard=none) (s x:Operand) (t:TypeId) (hop:o.op=Op.call {callee:=Callee.builtin Builtin.append,args:=#[s,x],argTypes:=#[t,t]})
  (base:Nat) (e:TypeId) (i:TypeInfo) (h1:P.underlying t=some (.slice e)) (h2:P.info? e=some i) (h3:i.zero=some (.int .u8 0)) (h4:i.size=1) (h5:i.bytes=1)
  (v:Value) (n:Nat) (xs:List UInt8) (hs:a.eval s=v) (hown:w.ownsRow base e 1 v n (xs.map U8)) (ao:Option Addr) (m c:Nat) (ys:List UInt8) (hx:a.eval x = .slice ao m c) (hm:ys.length=m) (hnc:ao=none->c=0) (hy:At w ao ys) (hb:n+m<=140737488355328) (hbase:base<=w.heap.size)
  (hK:∀ v' w',w'.ownsRow base e 1 v' (n+m) ((xs++ys).map U8)->w.grownBy w' v.ownBlock->Hid (v'.ownBlock=v.ownBlock\/v'.ownBlock=some w.heap.size)->wpList P ops Q rest (a.put o.dst v') w') :
  wpList P ops Q (o::rest) a w:=by
 refine wpList_plain hg fun K hK'=>?_
 obtain ⟨v',w',hrun,r1,r2,r3⟩:=wH (P:=P) w base t o.type e i h1 h2 h3 h4 h5 v n xs hown ao m c ys hm hnc hy hb hbase
 exact ade
theorem L8 (h:UInt64) (b:UInt8):IntKind.u64.wrap (IntKind.u64.wrap ((h.toNat:Int)*256)+IntKind.u64.wrap (b.toNat:Int))=((Pure.xQ h b).toNat:Int):=by
 rw[Pure.zX,sU];simp only[IntKind.wrap_u64];omega
theorem PG (x:UInt64):IntKind.u64.wrap ((x.toNat:Int).tdiv 536870912)=(x.toNat:Int) / 536870912:=by
 have hx:=x.toNat_lt;rw[Int.tdiv_eq_ediv_of_nonneg afp,IntKind.wrap_u64];omega
theorem Gj (h:UInt64) (b:UInt8) :
  bits .xor .u64 (IntKind.u64.wrap (IntKind.u64.wrap (IntKind.u64.wrap ((h.toNat:Int)+IntKind.u64.wrap (b.toNat:Int))+1)*11400714819323198485))
   (IntKind.u64.wrap ((IntKind.u64.wrap (IntKind.u64.wrap (IntKind.u64.wrap ((h.toNat:Int)+IntKind.u64.wrap (b.toNat:Int))+1)*11400714819323198485)).tdiv 536870912))=((Pure.step h b).toNat:Int):=by
 have e:∃ x:UInt64,IntKind.u64.wrap (IntKind.u64.wrap (IntKind.u64.wrap ((h.toNat:Int)+IntKind.u64.wrap (b.toNat:Int))+1)*11400714819323198485)=(x.toNat:Int):=by
  generalize IntKind.u64.wrap (IntKind.u64.wrap ((h.toNat:Int)+IntKind.u64.wrap (b.toNat:Int))+1)*11400714819323198485=y;refine ⟨UInt64.ofNat (IntKind.u64.wrap y).toNat,?_⟩;rw[Pure.lX _ (by rw[IntKind.wrap_u64];omega),Int.toNat_of_nonneg (by rw[IntKind.wrap_u64];omega)]
 have s:=IV h b
 obtain ⟨x,hx⟩:=e
 rw[hx] at s ⊢
 rw[PG]
 exact s
theorem iI {base:Nat} {e:TypeId} {v:Value} {n:Nat} (h:w.ownsRow base e 1 v n (bs.map U8)) :
  ∃ ao cap,v = .slice ao n cap/\n<=cap/\cap<=maxLen/\Hid (ao=none->cap=0)/\At w ao bs:=by
 have h0:=h
 obtain ⟨ao,cap,hv,_,h2,h3,h4⟩:=aan h
 refine ⟨ao,cap,hv,h2,h3,?_,h4⟩
 intro hao
 subst hv hao
 rcases h0.2 with ⟨hv,_⟩ | ⟨g,c,cur,hv,_⟩
 ·simp at hv;exact hv.2
 ·simp at hv
end Go.Proofs.YteknelimjfgmaaaGreatDoor
