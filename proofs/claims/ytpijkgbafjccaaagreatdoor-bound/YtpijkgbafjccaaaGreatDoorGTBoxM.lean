/-
  
  
  
  
  
  
  
-/
import Derived.Test.YtpijkgbafjccaaaGreatDoorGTBox
import Derived.Test.YtpijkgbafjccaaaGreatDoorGTBase
namespace Go.Proofs.YtpijkgbafjccaaaGreatDoor
theorem size_bounds (v : Int) : 1 ≤ Box.size v ∧ Box.size v ≤ 8 := by unfold Box.size; (repeat' split) <;> omega
end Go.Proofs.YtpijkgbafjccaaaGreatDoor
namespace Go.Proofs.YtpijkgbafjccaaaGreatDoor.Box
def head (tag : UInt8) (n : Nat) : List UInt8 :=
 if n < 128 then [tag,UInt8.ofNat n] else if n < 256 then [tag,129,UInt8.ofNat n] else [tag,130,UInt8.ofNat (n / 256),UInt8.ofNat (n % 256)]
def box (tag : UInt8) (l : List UInt8) : List UInt8 := head tag l.length ++ l
theorem head_length (tag : UInt8) (n : Nat) : (head tag n).length = if n < 128 then 2 else if n < 256 then 3 else 4 := by
 unfold head
 split
 ·rfl
 ·split <;> rfl
def byteI (v : Int) (i : Nat) : UInt8 := UInt8.ofNat (v / 2 ^ (8 * i) % 256).toNat
def lowTo (v : Int) (k : Nat) : Nat → List UInt8
 | 0 => []
 | j + 1 => lowTo v k j ++ [byteI v (k - 1 - j)]
def low (v : Int) (k : Nat) : List UInt8 := lowTo v k k
theorem lowTo_length (v : Int) (k j : Nat) : (lowTo v k j).length = j := by
 induction j with
 | zero => rfl
 | succ j ih => simp [lowTo,ih]
theorem low_length (v : Int) (k : Nat) : (low v k).length = k := lowTo_length v k k
theorem byteI_zero (x : Int) (b : UInt8) : byteI (x * 256 + (b.toNat : Int)) 0 = b := by
 have := b.toNat_lt
 unfold byteI
 rw [Nat.mul_zero,Int.pow_zero,Int.ediv_one,show (x * 256 + (b.toNat : Int)) % 256 = (b.toNat : Int) from by omega,Int.toNat_natCast]
 simp
theorem byteI_succ (x : Int) (b : UInt8) (i : Nat) : byteI (x * 256 + (b.toNat : Int)) (i + 1) = byteI x i := by
 have := b.toNat_lt
 unfold byteI
 rw [show 8 * (i + 1) = 8 + 8 * i from by omega,Int.pow_add,show (2 : Int) ^ 8 = 256 from by decide,← Int.ediv_ediv_of_nonneg (by decide),show (x * 256 + (b.toNat : Int)) / 256 = x from by omega]
theorem lowTo_snoc (x : Int) (b : UInt8) (k j : Nat) (h : j ≤ k) : lowTo (x * 256 + (b.toNat : Int)) (k + 1) j = lowTo x k j := by
 induction j with
 | zero => rfl
 | succ j ih => rw [lowTo,lowTo,ih (by omega),show k + 1 - 1 - j = (k - 1 - j) + 1 from by omega,byteI_succ]
theorem low_snoc (x : Int) (b : UInt8) (k : Nat) : low (x * 256 + (b.toNat : Int)) (k + 1) = low x k ++ [b] := by
 unfold low
 rw [lowTo,lowTo_snoc x b k k (Nat.le_refl _),show k + 1 - 1 - k = 0 from by omega,byteI_zero]
theorem box_length (tag : UInt8) (l : List UInt8) : (box tag l).length = l.length + (if l.length < 128 then 2 else if l.length < 256 then 3 else 4) := by
 rw [box,List.length_append,head_length]
 omega
def lead (l : List UInt8) : Nat × Nat :=
 if (l.getD 1 0).toNat = 129 ∧ 2 < l.length then ((l.getD 2 0).toNat,3)
 else if (l.getD 1 0).toNat = 130 ∧ 3 < l.length then ((l.getD 2 0).toNat * 256 + (l.getD 3 0).toNat,4)
 else ((l.getD 1 0).toNat,2)
def again (l : List UInt8) : Option (UInt8 × List UInt8 × List UInt8) :=
 if 2 ≤ l.length ∧ (lead l).2 + (lead l).1 ≤ l.length ∧ box (l.getD 0 0) ((l.drop (lead l).2).take (lead l).1) = l.take ((lead l).2 + (lead l).1) then
  some (l.getD 0 0,(l.drop (lead l).2).take (lead l).1,l.drop ((lead l).2 + (lead l).1))
 else none
def cuts : Nat → List UInt8 → Option (List (UInt8 × List UInt8))
 | 0,l => if l.length = 0 then some [] else none
 | n + 1,l => if l.length = 0 then some [] else
  match cut l with
  | none => none
  | some (t,i,r) => (cuts n r).map ((t,i) :: ·)
theorem cuts_fuel : ∀ (n m : Nat) (l : List UInt8),l.length ≤ n → l.length ≤ m → cuts n l = cuts m l := by
 intro n
 induction n with
 | zero =>
  intro m l h1 _
  have h0 : l.length = 0 := by omega
  cases m with
  | zero => rfl
  | succ m => simp [cuts,h0]
 | succ n ih =>
  intro m l h1 h2
  cases m with
  | zero =>
   have h0 : l.length = 0 := by omega
   simp [cuts,h0]
  | succ m =>
   by_cases h0 : l.length = 0
   ·simp [cuts,h0]
   ·simp only [cuts,if_neg h0]
    cases h : cut l with
    | none => rfl
    | some tr =>
     obtain ⟨t,i,r⟩ := tr
     have := cut_length h
     simp only
     rw [ih m r (by omega) (by omega)]
def cutsL (l : List UInt8) : Option (List (UInt8 × List UInt8)) := cuts l.length l
theorem cutsL_nil {l : List UInt8} (h : l.length = 0) : cutsL l = some [] := by
 have : l = [] := List.eq_nil_of_length_eq_zero h
 subst this
 rfl
theorem cutsL_none {l : List UInt8} (h0 : 0 < l.length) (h : cut l = none) : cutsL l = none := by
 unfold cutsL
 obtain ⟨m,hm⟩ : ∃ m,l.length = m + 1 := ⟨l.length - 1,by omega⟩
 rw [hm,cuts,if_neg (by omega),h]
theorem cutsL_some {l i r : List UInt8} {t : UInt8} (h : cut l = some (t,i,r)) : cutsL l = (cutsL r).map ((t,i) :: ·) := by
 have hlt := cut_length h
 unfold cutsL
 obtain ⟨m,hm⟩ : ∃ m,l.length = m + 1 := ⟨l.length - 1,by omega⟩
 rw [hm,cuts,if_neg (by omega),h]
 simp only
 rw [cuts_fuel m r.length r (by omega) (by omega)]
def wt : List (UInt8 × List UInt8) → Nat
 | [] => 0
 | p :: ps => p.2.length + 2 + wt ps
theorem cutsL_wt : ∀ (n : Nat) (l : List UInt8) (ps : List (UInt8 × List UInt8)),l.length ≤ n → cutsL l = some ps → wt ps ≤ l.length := by
 intro n
 induction n with
 | zero =>
  intro l ps h1 h
  rw [cutsL_nil (by omega)] at h
  simp only [Option.some.injEq] at h
  subst h
  simp [wt]
 | succ n ih =>
  intro l ps h1 h
  by_cases h0 : l.length = 0
  ·rw [cutsL_nil h0] at h
   simp only [Option.some.injEq] at h
   subst h
   simp [wt]
  ·cases hc : cut l with
   | none => rw [cutsL_none (by omega) hc] at h; simp at h
   | some tr =>
    obtain ⟨t,i,r⟩ := tr
    have hl := cut_length hc
    rw [cutsL_some hc] at h
    simp only [Option.map_eq_some_iff] at h
    obtain ⟨ps',h',rfl⟩ := h
    have := ih r ps' (by omega) h'
    simp only [wt]
    omega
def pshow : Nat → UInt8 → List UInt8 → Option (List UInt8)
 | 0,tag,i => leaf tag i
 | d + 1,tag,i => piece (fun i => allL (show1 d) i) tag i
def tells (d : Nat) : List (UInt8 × List UInt8) → Option (List (List UInt8))
 | [] => some []
 | p :: ps => match pshow d p.1 p.2 with
  | none => none
  | some t => (tells d ps).map (t :: ·)
theorem show1_eq (d : Nat) (l : List UInt8) : show1 d l = match cut l with
  | none => none
  | some (tag,i,r) => (pshow d tag i).map (·,r) := by
 cases d with
 | zero => rw [show1]; rfl
 | succ d => rw [show1]; rfl
theorem allL_tells (d : Nat) : ∀ (n : Nat) (l : List UInt8),l.length ≤ n → allL (show1 d) l = match cutsL l with
  | none => none
  | some ps => tells d ps := by
 intro n
 induction n with
 | zero =>
  intro l h1
  have : l = [] := List.eq_nil_of_length_eq_zero (by omega)
  subst this
  rfl
 | succ n ih =>
  intro l h1
  by_cases h0 : l.length = 0
  ·have : l = [] := List.eq_nil_of_length_eq_zero h0
   subst this
   rfl
  ·have hs := show1_eq d l
   cases hc : cut l with
   | none =>
    rw [hc] at hs
    rw [cutsL_none (by omega) hc,allL_none (by omega) hs]
   | some tr =>
    obtain ⟨t,i,r⟩ := tr
    have hl := cut_length hc
    rw [hc] at hs
    simp only at hs
    rw [cutsL_some hc]
    cases hp : pshow d t i with
    | none =>
     rw [hp] at hs
     rw [allL_none (by omega) hs]
     cases cutsL r with
     | none => rfl
     | some ps => simp [tells,hp]
    | some x =>
     rw [hp] at hs
     rw [allL_some (show1_shrinks d) hs,ih r (by omega)]
     cases cutsL r with
     | none => rfl
     | some ps => simp [tells,hp]
theorem pshow_list (d : Nat) (tag : UInt8) (i : List UInt8) (h : tag.toNat = 48) : pshow (d + 1) tag i = match cutsL i with
  | none => none
  | some ps => (tells d ps).map fun ts => 123 :: commas ts ++ [125] := by
 rw [pshow,piece,if_pos h,allL_tells d i.length i (Nat.le_refl _)]
 cases cutsL i with
 | none => rfl
 | some ps => rfl
theorem pshow_leaf (d : Nat) (tag : UInt8) (i : List UInt8) (h : tag.toNat ≠ 48) : pshow d tag i = leaf tag i := by
 cases d with
 | zero => rfl
 | succ d => rw [pshow,piece,if_neg h]
theorem pshow_zero (tag : UInt8) (i : List UInt8) (h : tag.toNat = 48) : pshow 0 tag i = none := by
 rw [pshow,leaf,if_neg (by omega),if_neg (by omega)]
theorem tells_length {d : Nat} {ps : List (UInt8 × List UInt8)} : ∀ {ts : List (List UInt8)},tells d ps = some ts → ts.length = ps.length := by
 induction ps with
 | nil => intro ts h; simp only [tells,Option.some.injEq] at h; subst h; rfl
 | cons q ps ih =>
  intro ts h
  simp only [tells] at h
  cases hq : pshow d q.1 q.2 with
  | none => rw [hq] at h; simp at h
  | some t =>
   rw [hq] at h
   simp only [Option.map_eq_some_iff] at h
   obtain ⟨ts',h',rfl⟩ := h
   simp [ih h']
theorem pshow_length : ∀ (d : Nat) (tag : UInt8) (i t : List UInt8),pshow d tag i = some t → t.length ≤ 22 + 22 * i.length := by
 intro d tag i t h
 by_cases h48 : tag.toNat = 48
 ·cases d with
  | zero => rw [pshow_zero tag i h48] at h; simp at h
  | succ d =>
   rw [pshow,piece,if_pos h48] at h
   simp only [Option.map_eq_some_iff] at h
   obtain ⟨ts,h1,rfl⟩ := h
   have := allL_length (show1_shrinks d) (show1_told d) i.length i ts (Nat.le_refl _) h1
   simp
   omega
 ·rw [pshow_leaf d tag i h48] at h
  have := leaf_length h
  omega
theorem whole_eq (l : List UInt8) : whole l = match cut l with
  | some (tag,i,[]) => pshow 8 tag i
  | _ => none := by
 unfold whole
 rw [show1_eq]
 cases cut l with
 | none => rfl
 | some tr =>
  obtain ⟨tag,i,r⟩ := tr
  cases r with
  | nil =>
   simp only
   cases pshow 8 tag i with
   | none => rfl
   | some t => rfl
  | cons a r =>
   simp only
   cases pshow 8 tag i with
   | none => rfl
   | some t => rfl
end Go.Proofs.YtpijkgbafjccaaaGreatDoor.Box
namespace Go.Proofs.YtpijkgbafjccaaaGreatDoor
open Go.RowKit
set_option maxRecDepth 100000
theorem own_new (w : World) (e : TypeId) (b : UInt8) : (w.alloc (.cells #[.int .u8 (b.toNat : Int)] e)).ownsRow w.heap.size e 1 (.slice (some ⟨w.heap.size,0,none⟩) 1 1) 1 ([b].map U8) := by
 refine ⟨rfl,Or.inr ⟨w.heap.size,1,_,rfl,Nat.le_refl _,heap_alloc_new w _,Nat.le_refl _,by decide,rfl,rfl⟩⟩
theorem bytes_new1 (w : World) (o : Obj) (e : TypeId) (cs : Array Value) (bs : List UInt8) (h : cs.toList = bs.map U8) : At ((w.alloc o).alloc (.cells cs e)) (some ⟨w.heap.size + 1,0,none⟩) bs := by
 have := bytes_new (w.alloc o) e cs bs h
 rw [World.size_alloc] at this
 exact this
theorem u8_nat (n : Nat) (h : n < 256) : IntKind.u8.wrap (n : Int) = ((UInt8.ofNat n).toNat : Int) := by
 rw [UInt8.toNat_ofNat',Nat.mod_eq_of_lt (by omega)]
 simp [IntKind.wrap,IntKind.bits,IntKind.signed]
 omega
theorem byteI_int (v : Int) (i : Nat) : v / 2 ^ (8 * i) % 256 = ((Box.byteI v i).toNat : Int) := by
 unfold Box.byteI
 generalize v / 2 ^ (8 * i) = x
 rw [UInt8.toNat_ofNat',Nat.mod_eq_of_lt (by omega)]
 omega
theorem own_down {w : World} {base base' : Nat} {e : TypeId} {size : Nat} {v : Value} {n : Nat} {xs : List Value} (h : w.ownsRow base e size v n xs) (hb : base' ≤ base) : w.ownsRow base' e size v n xs := by
 obtain ⟨h1,h2⟩ := h
 refine ⟨h1,?_⟩
 rcases h2 with h2 | ⟨g,c,cur,hv,hbg,hr⟩
 ·exact Or.inl h2
 ·exact Or.inr ⟨g,c,cur,hv,Nat.le_trans hb hbg,hr⟩
end Go.Proofs.YtpijkgbafjccaaaGreatDoor
namespace Go.Proofs.YtpijkgbafjccaaaGreatDoor
open Go.RowKit
set_option maxRecDepth 100000
def isPart (z : UInt8) : Bool := decide ((97 ≤ z.toNat ∧ z.toNat ≤ 122) ∨ (48 ≤ z.toNat ∧ z.toNat ≤ 57) ∨ z.toNat = 47)
def isNameL (l : List UInt8) : Bool := decide (1 ≤ l.length ∧ l.length ≤ 16) && l.all isPart
theorem all_take_succ {l : List UInt8} {k : Nat} (h : k < l.length) : (l.take (k + 1)).all isPart = ((l.take k).all isPart && isPart (l.getD k 0)) := by
 rw [List.take_succ_eq_append_getElem h,List.all_append]
 simp [List.getD,List.getElem?_eq_getElem h]
structure Adm where
 kind : Int
 name : List UInt8
 key : UInt64
 life : Int
 renew : Int
 expire : Int
 flags : Int
abbrev Adm.cells (a : Adm) : Array Value := #[.int .i64 a.kind,.string ⟨a.name.toArray⟩,.int .u64 (a.key.toNat : Int),.int .i64 a.life,.int .i64 a.renew,.int .i64 a.expire,.int .i64 a.flags]
def Adm.pol (a : Adm) : Bool := decide (0 ≤ a.life ∧ 0 ≤ a.renew ∧ 0 ≤ a.flags ∧ a.flags < 64)
structure BE where
 name : List UInt8
 number : Int
 key : UInt64
 before : UInt64
 life : Int
 renew : Int
 expire : Int
 flags : Int
structure PF where
 client : List UInt8
 time : Int
 count : Int
 deriving DecidableEq
structure DM where
 skew : Int
 book : List BE
 proofs : List PF
 draws : List UInt8
def BE.at? (es : List BE) (l : List UInt8) : Option Nat := es.findIdx? (fun e => e.name == l)
def BE.ins : List BE → List UInt8 → Nat
 | [],_ => 0
 | e :: es,l => if Op.bytesLess e.name l then BE.ins es l + 1 else 0
def BE.new (a : Adm) : BE := ⟨a.name,1,a.key,0,a.life,a.renew,a.expire,a.flags⟩
def BE.rekeyed (x : BE) (key : UInt64) : BE := ⟨x.name,x.number + 1,key,x.key,x.life,x.renew,x.expire,x.flags⟩
def BE.repol (x : BE) (a : Adm) : BE := ⟨x.name,x.number,x.key,x.before,a.life,a.renew,a.expire,a.flags⟩
def admB (es : List BE) (a : Adm) : List BE × Int :=
 if a.kind = 1 then
  (if isNameL a.name = false then (es,4) else if a.pol = false then (es,1) else if (BE.at? es a.name).isSome then (es,5) else if 20 ≤ es.length then (es,7)
   else (es.take (BE.ins es a.name) ++ [BE.new a] ++ es.drop (BE.ins es a.name),0))
 else if a.kind = 2 ∨ a.kind = 3 ∨ a.kind = 4 then
  match BE.at? es a.name with
  | none => (es,6)
  | some i =>
   if a.kind = 2 then (es.take i ++ es.drop (i + 1),0)
   else match es[i]? with
   | none => (es,6)
   | some x => if a.kind = 3 then (es.set i (x.rekeyed a.key),0) else if a.pol = false then (es,1) else (es.set i (x.repol a),0)
 else (es,1)
structure BookOk (n : Nat) (es : List BE) : Prop where
 len : es.length ≤ 20
 name : ∀ e ∈ es,isNameL e.name = true
 num : ∀ e ∈ es,1 ≤ e.number ∧ e.number ≤ (n : Int)
 pol : ∀ e ∈ es,0 ≤ e.life ∧ 0 ≤ e.renew ∧ 0 ≤ e.flags ∧ e.flags < 64
 sorted : es.Pairwise fun x y => Op.bytesLess x.name y.name = true
theorem bl_irrefl : ∀ a : List UInt8,Op.bytesLess a a = false
 | [] => rfl
 | x :: a => by simp [Op.bytesLess,bl_irrefl a]
theorem bl_nil_right : ∀ a : List UInt8,Op.bytesLess a [] = false
 | [] => rfl
 | _ :: _ => rfl
theorem bl_trans : ∀ {a b c : List UInt8},Op.bytesLess a b = true → Op.bytesLess b c = true → Op.bytesLess a c = true := by
 intro a
 induction a with
 | nil =>
  intro b c h1 h2
  cases c with
  | nil => rw [bl_nil_right] at h2; cases h2
  | cons z c => rfl
 | cons x a ih =>
  intro b c h1 h2
  cases b with
  | nil => rw [bl_nil_right] at h1; cases h1
  | cons y b =>
   cases c with
   | nil => rw [bl_nil_right] at h2; cases h2
   | cons z c =>
    simp only [Op.bytesLess,Bool.or_eq_true,Bool.and_eq_true,decide_eq_true_eq,beq_iff_eq] at h1 h2 ⊢
    rcases h1 with h1 | ⟨rfl,h1⟩
    ·rcases h2 with h2 | ⟨rfl,h2⟩
     ·exact .inl (UInt8.lt_trans h1 h2)
     ·exact .inl h1
    ·rcases h2 with h2 | ⟨rfl,h2⟩
     ·exact .inl h2
     ·exact .inr ⟨rfl,ih h1 h2⟩
theorem ins_le (es : List BE) (l : List UInt8) : BE.ins es l ≤ es.length := by
 induction es with
 | nil => exact Nat.le_refl _
 | cons x es ih => simp only [BE.ins,List.length_cons]; split <;> omega
theorem ins_front (l : List UInt8) : ∀ (es : List BE),∀ x ∈ es.take (BE.ins es l),Op.bytesLess x.name l = true := by
 intro es
 induction es with
 | nil => intro x hx; simp at hx
 | cons y es ih =>
  intro x hx
  simp only [BE.ins] at hx
  split at hx
  ·rename_i h
   rw [List.take_succ_cons] at hx
   rcases List.mem_cons.1 hx with e | e
   ·rw [e]; exact h
   ·exact ih x e
  ·simp at hx
theorem at_none {es : List BE} {l : List UInt8} (h : BE.at? es l = none) : ∀ x ∈ es,x.name ≠ l := by
 intro x hx e
 rw [BE.at?,List.findIdx?_eq_none_iff] at h
 have := h x hx
 simp [e] at this
theorem at_some {es : List BE} {l : List UInt8} {i : Nat} (h : BE.at? es l = some i) : ∃ hi : i < es.length,es[i].name = l := by
 rw [BE.at?,List.findIdx?_eq_some_iff_getElem] at h
 obtain ⟨hi,h2,_⟩ := h
 exact ⟨hi,by simpa using h2⟩
end Go.Proofs.YtpijkgbafjccaaaGreatDoor
namespace Go.Proofs.YtpijkgbafjccaaaGreatDoor.Box
theorem cut_box (tag : UInt8) (l r : List UInt8) (h : l.length ≤ 65535) : cut (box tag l ++ r) = some (tag,l,r) := by
 rw [box,head]
 by_cases h1 : l.length < 128
 ·rw [if_pos h1]
  have e : (UInt8.ofNat l.length).toNat = l.length := by rw [UInt8.toNat_ofNat',Nat.mod_eq_of_lt (by omega)]
  simp [cut,cutLen,e,h1]
 ·rw [if_neg h1]
  by_cases h2 : l.length < 256
  ·rw [if_pos h2]
   have e : (UInt8.ofNat l.length).toNat = l.length := by rw [UInt8.toNat_ofNat',Nat.mod_eq_of_lt (by omega)]
   have h3 : 128 ≤ l.length := by omega
   simp [cut,cutLen,e,h3]
  ·rw [if_neg h2]
   have e1 : (UInt8.ofNat (l.length / 256)).toNat = l.length / 256 := by rw [UInt8.toNat_ofNat',Nat.mod_eq_of_lt (by omega)]
   have e2 : (UInt8.ofNat (l.length % 256)).toNat = l.length % 256 := by rw [UInt8.toNat_ofNat',Nat.mod_eq_of_lt (by omega)]
   have h3 : 256 ≤ l.length / 256 * 256 + l.length % 256 := by omega
   have h4 : l.length / 256 * 256 + l.length % 256 = l.length := by omega
   rw [h4] at h3
   simp [cut,cutLen,e1,e2,h4,h3]
theorem cutsL_box (tag : UInt8) (l r : List UInt8) (h : l.length ≤ 65535) : cutsL (box tag l ++ r) = (cutsL r).map ((tag,l) :: ·) := cutsL_some (cut_box tag l r h)
theorem byteI_add (v : Int) : v = v / 256 * 256 + ((byteI v 0).toNat : Int) := by
 unfold byteI
 rw [Nat.mul_zero,Int.pow_zero,Int.ediv_one,UInt8.toNat_ofNat',Nat.mod_eq_of_lt (by omega)]
 omega
theorem low_succ (v : Int) (k : Nat) : low v (k + 1) = low (v / 256) k ++ [byteI v 0] := by
 have := low_snoc (v / 256) (byteI v 0) k
 rw [← byteI_add] at this
 exact this
theorem val_snoc {l : List UInt8} (h : 1 ≤ l.length) (b : UInt8) : val (l ++ [b]) = val l * 256 + (b.toNat : Int) := by
 cases l with
 | nil => simp at h
 | cons a l => simp only [val,List.cons_append,List.getD_cons_zero,List.drop_succ_cons,List.drop_zero]; rw [valFrom_snoc]
theorem val_low : ∀ (k : Nat) (v M : Int),M = 128 * 256 ^ k → -M ≤ v → v < M → val (low v (k + 1)) = v := by
 intro k
 induction k with
 | zero =>
  intro v M hM h0 h1
  rw [Int.pow_zero] at hM
  have e : low v 1 = [byteI v 0] := rfl
  rw [e]
  simp only [val,List.getD_cons_zero,List.drop_succ_cons,List.drop_zero,valFrom_nil]
  have hb := byteI_add v
  have hl := (byteI v 0).toNat_lt
  unfold sign
  split <;> omega
 | succ k ih =>
  intro v M hM h0 h1
  rw [low_succ,val_snoc (by rw [low_length]; omega)]
  have hM' : M = 128 * 256 ^ k * 256 := by rw [hM,Int.pow_succ,Int.mul_assoc]
  rw [ih (v / 256) (128 * 256 ^ k) rfl (by omega) (by omega),← byteI_add]
theorem num_low (v : Int) (h0 : -9223372036854775808 ≤ v) (h1 : v ≤ 9223372036854775807) : num (low v (size v)) = some v := by
 have hs := size_bounds v
 have hv : val (low v (size v)) = v := by
  obtain ⟨k,hk⟩ : ∃ k,size v = k + 1 := ⟨size v - 1,by omega⟩
  rw [hk]
  have hk8 : k = 0 ∨ k = 1 ∨ k = 2 ∨ k = 3 ∨ k = 4 ∨ k = 5 ∨ k = 6 ∨ k = 7 := by omega
  rcases hk8 with rfl | rfl | rfl | rfl | rfl | rfl | rfl | rfl
  all_goals
   refine val_low _ v _ rfl ?_ ?_ <;> simp only [Int.reducePow,Int.reduceMul] <;> unfold size at hk <;> (repeat' split at hk) <;> omega
 rw [num,hv,low_length,if_pos ⟨hs.1,hs.2,rfl⟩]
end Go.Proofs.YtpijkgbafjccaaaGreatDoor.Box
namespace Go.Proofs.YtpijkgbafjccaaaGreatDoor
open Go.RowKit
def numBox (v : Int) : List UInt8 := Box.box 2 (Box.low v (Box.size v))
def numsCat (l : List Int) : List UInt8 := (l.map numBox).flatten
theorem numBox_length (v : Int) : 3 ≤ (numBox v).length ∧ (numBox v).length ≤ 10 := by
 have := size_bounds v
 rw [numBox,Box.box_length,Box.low_length,if_pos (by omega)]
 omega
theorem numsCat_length (l : List Int) : (numsCat l).length ≤ 10 * l.length := by
 induction l with
 | nil => simp [numsCat]
 | cons v l ih =>
  have := (numBox_length v).2
  simp only [numsCat,List.map_cons,List.flatten_cons,List.length_append,List.length_cons] at *
  omega
def I64' (v : Int) : Prop := -9223372036854775808 ≤ v ∧ v ≤ 9223372036854775807
end Go.Proofs.YtpijkgbafjccaaaGreatDoor
namespace Go.Proofs.YtpijkgbafjccaaaGreatDoor
open Go.RowKit
set_option maxRecDepth 100000
def sat (x : Int) : Int := if x < -9223372036854775808 then -9223372036854775808 else if 9223372036854775807 < x then 9223372036854775807 else x
def satAdd (a b : Int) : Int := sat (a + b)
def satSub (a b : Int) : Int := sat (a - b)
def apartT (a b : Int) : Int := if a < b then satSub b a else satSub a b
def lesser (a b : Int) : Int := if a < b then a else b
def asked (t : Int) : Int := if t = 0 then 9223372036854775807 else t
def bitB (n b : Int) : Bool := decide (n / b % 2 = 1)
def BE.has (e : BE) (f : Int) : Bool := bitB e.flags f
def BE.gone (e : BE) (now : Int) : Bool := decide (e.expire ≠ 0 ∧ e.expire ≤ now)
def BE.find (es : List BE) (l : List UInt8) : Option BE := es.find? (fun e => e.name == l)
def BE.keyOf (e : BE) (n : Int) : Option UInt64 := if n = e.number then some e.key else if n = e.number - 1 ∧ 1 < e.number then some e.before else none
structure TK where
 flags : Int
 session : UInt64
 client : List UInt8
 auth : Int
 start : Int
 fin : Int
 renew : Int
def txtBox (l : List UInt8) : List UInt8 := Box.box 4 l
def lstBox (l : List (List UInt8)) : List UInt8 := Box.box 48 l.flatten
def keyBox (k : UInt64) : List UInt8 := txtBox (Pure.be k 8)
def TK.plain (t : TK) : List UInt8 := lstBox [numBox t.flags,keyBox t.session,txtBox t.client,numBox t.auth,numBox t.start,numBox t.fin,numBox t.renew]
def ticketBox (t : TK) (s : BE) (draw : UInt64) : List UInt8 := lstBox [txtBox s.name,numBox s.number,txtBox (Pure.sealL s.key 2 draw t.plain)]
def partPlain (t : TK) (nonce : Int) (s : BE) : List UInt8 := lstBox [keyBox t.session,numBox nonce,numBox t.flags,numBox t.auth,numBox t.start,numBox t.fin,numBox t.renew,txtBox s.name]
def giveBox (kind : Int) (t : TK) (s : BE) (nonce number : Int) (key use a b : UInt64) : List UInt8 :=
 lstBox [numBox kind,txtBox t.client,ticketBox t s a,lstBox [numBox number,txtBox (Pure.sealL key use b (partPlain t nonce s))]]
def refusalBox (now code : Int) : List UInt8 := lstBox [numBox 30,numBox now,numBox code]
abbrev Pie : Type := UInt8 × List UInt8
def pNum (p : Pie) : Option Int := if p.1.toNat = 2 then Box.num p.2 else none
def pText (p : Pie) : Option (List UInt8) := if p.1.toNat = 4 then some p.2 else none
def pName (p : Pie) : Option (List UInt8) := if p.1.toNat = 4 ∧ isNameL p.2 = true then some p.2 else none
def pKey (p : Pie) : Option UInt64 := if p.1.toNat = 4 ∧ p.2.length = 8 then some (Pure.joinL 0 p.2) else none
def pList (p : Pie) : Option (List Pie) := if p.1.toNat = 48 then Box.cutsL p.2 else none
def nextP {α β : Type} (f : Pie → Option α) (k : α → List Pie → Option β) : List Pie → Option β
 | [] => none
 | p :: ps => (f p).bind fun a => k a ps
def endP {β : Type} (b : β) (ps : List Pie) : Option β := if ps = [] then some b else none
def nextS {α β : Type} (f : Pie → Option α) (k : α → List UInt8 → Option β) (l : List UInt8) : Option β :=
 match Box.cut l with
 | none => none
 | some (t,i,r) => (f (t,i)).bind fun a => k a r
def endS {β : Type} (b : β) (l : List UInt8) : Option β := if l = [] then some b else none
theorem endS_eq {β : Type} (b : β) (l : List UInt8) : endS b l = (Box.cutsL l).bind (endP b) := by
 unfold endS
 cases l with
 | nil => rfl
 | cons x l =>
  rw [if_neg (by simp)]
  cases h : Box.cut (x :: l) with
  | none => rw [Box.cutsL_none (by simp) h]; rfl
  | some p =>
   obtain ⟨t,i,r⟩ := p
   rw [Box.cutsL_some h]
   cases Box.cutsL r <;> simp [endP]
theorem nextS_eq {α β : Type} (f : Pie → Option α) (k : α → List Pie → Option β) (k' : α → List UInt8 → Option β) (h : ∀ a l,k' a l = (Box.cutsL l).bind (k a)) (l : List UInt8) : nextS f k' l = (Box.cutsL l).bind (nextP f k) := by
 unfold nextS
 cases hc : Box.cut l with
 | none =>
  cases l with
  | nil => rfl
  | cons x l => rw [Box.cutsL_none (by simp) hc]; rfl
 | some p =>
  obtain ⟨t,i,r⟩ := p
  rw [Box.cutsL_some hc]
  simp only [h]
  cases Box.cutsL r <;> cases hf : f (t,i) <;> simp [nextP,hf]
theorem noneS_eq {β : Type} (l : List UInt8) : (none : Option β) = (Box.cutsL l).bind (fun _ => none) := by cases Box.cutsL l <;> rfl
def listOf (l : List UInt8) : Option (List Pie) :=
 match Box.cut l with
 | some (t,i,[]) => if t.toNat = 48 then Box.cutsL i else none
 | _ => none
structure FQ where
 client : List UInt8
 service : List UInt8
 nonce : Int
 sFrom : Int
 till : Int
 rtime : Int
 opts : Int
 pre : Option (Int × List UInt8)
structure NQ where
 tsvc : List UInt8
 tnum : Int
 tsealed : List UInt8
 proof : List UInt8
 service : List UInt8
 nonce : Int
 till : Int
 rtime : Int
 opts : Int
def sealedP : List Pie → Option (Int × List UInt8) := nextP pNum fun n => nextP pText fun z => endP (n,z)
def preOf (p : Pie) : Option (Option (Int × List UInt8)) :=
 match pList p with
 | none => none
 | some [] => some none
 | some ps => (sealedP ps).map some
def firstP : List Pie → Option FQ := nextP pNum fun k => if k = 10 then nextP pName fun c => nextP pName fun s => nextP pNum fun n => nextP pNum fun f => nextP pNum fun t => nextP pNum fun r => nextP pNum fun o => nextP preOf fun p => endP ⟨c,s,n,f,t,r,o,p⟩ else fun _ => none
def ticketP : List Pie → Option (List UInt8 × Int × List UInt8) := nextP pName fun s => nextP pNum fun n => nextP pText fun z => endP (s,n,z)
def pTicket (p : Pie) : Option (List UInt8 × Int × List UInt8) := (pList p).bind ticketP
def nextQP : List Pie → Option NQ := nextP pNum fun k => if k = 12 then nextP pTicket fun c => nextP pText fun p => nextP pName fun s => nextP pNum fun n => nextP pNum fun t => nextP pNum fun r => nextP pNum fun o => endP ⟨c.1,c.2.1,c.2.2,p,s,n,t,r,o⟩ else fun _ => none
def firstOf (req : List UInt8) : Option FQ := if req.length ≤ 300 then (listOf req).bind firstP else none
def nextOf (req : List UInt8) : Option NQ := if req.length ≤ 300 then (listOf req).bind nextQP else none
def openL (key use : UInt64) (z : List UInt8) : Option (List UInt8) := if 16 ≤ z.length ∧ Pure.opens key use z = true then some (Pure.plainOf key use z) else none
def timeIn (l : List UInt8) : Option Int :=
 match Box.cut l with
 | some (t,i,[]) => pNum (t,i)
 | _ => none
def ticketInP : List Pie → Option TK := nextP pNum fun f => nextP pKey fun k => nextP pName fun c => nextP pNum fun a => nextP pNum fun s => nextP pNum fun e => nextP pNum fun r => endP ⟨f,k,c,a,s,e,r⟩
def ticketIn (l : List UInt8) : Option TK := (listOf l).bind ticketInP
def proofInP : List Pie → Option PF := nextP pName fun c => nextP pNum fun t => nextP pNum fun n => endP ⟨c,t,n⟩
def proofIn (l : List UInt8) : Option PF := (listOf l).bind proofInP
structure GR where
 kind : Int
 t : TK
 s : BE
 nonce : Int
 number : Int
 key : UInt64
 use : UInt64
def pairCode (x y : Option BE) (now a b c d : Int) : Int :=
 match x,y with
 | none,_ => a
 | some _,none => b
 | some x,some y => if x.gone now = true then c else if y.gone now = true then d else if x.has 32 = true ∨ y.has 32 = true then 12 else 0
def preCode (skew now : Int) (x : BE) : Option (Int × List UInt8) → Int
 | none => if x.has 1 = true then 25 else 0
 | some (n,z) =>
  match (openL x.key 1 z).bind timeIn with
  | none => 24
  | some t => if n ≠ x.number then 24 else if skew < apartT t now then 37 else 0
def moreFlags (opts old : Int) (x s : BE) : Int :=
 (if bitB opts 1 = true ∧ bitB old 1 = true ∧ x.has 4 = true ∧ s.has 4 = true then 1 else 0) + (if bitB opts 2 = true ∧ bitB old 2 = true ∧ x.has 8 = true ∧ s.has 8 = true then 2 else 0)
  + (if bitB opts 4 = true ∧ bitB old 4 = true ∧ x.has 2 = true ∧ s.has 2 = true then 4 else 0)
def moreRenew (opts old : Int) (x s : BE) (start upto : Int) : Int :=
 if bitB opts 4 = true ∧ bitB old 4 = true ∧ x.has 2 = true ∧ s.has 2 = true then lesser upto (lesser (satAdd start x.renew) (satAdd start s.renew)) else 0
def firstStart (now : Int) (q : FQ) : Int := if bitB q.opts 8 = true then q.sFrom else now
def firstEnd (now : Int) (q : FQ) (x s : BE) : Int := lesser (asked q.till) (lesser (satAdd (firstStart now q) x.life) (satAdd (firstStart now q) s.life))
def firstTK (now : Int) (q : FQ) (x s : BE) : TK :=
 ⟨32 + (if q.pre.isSome then 64 else 0) + (if bitB q.opts 8 = true then 24 else 0) + moreFlags q.opts 7 x s,0,q.client,now,firstStart now q,firstEnd now q x s,moreRenew q.opts 7 x s (firstStart now q) (asked q.rtime)⟩
def firstCode (skew now : Int) (q : FQ) (x s : BE) : Int :=
 if preCode skew now x q.pre ≠ 0 then preCode skew now x q.pre
 else if q.opts < 0 ∨ 15 < q.opts then 13
 else if bitB q.opts 8 = true ∧ ¬ (x.has 16 = true ∧ s.has 16 = true) then 10
 else if bitB q.opts 8 = false ∧ satAdd now skew < q.sFrom then 10
 else if firstEnd now q x s ≤ firstStart now q then 11 else 0
def firstM (M : DM) (now : Int) (q : FQ) : Except Int GR :=
 match BE.find M.book q.client,BE.find M.book q.service with
 | none,_ => .error 6
 | some _,none => .error 7
 | some x,some s =>
  if pairCode (some x) (some s) now 6 7 1 2 ≠ 0 then .error (pairCode (some x) (some s) now 6 7 1 2)
  else if firstCode M.skew now q x s ≠ 0 then .error (firstCode M.skew now q x s)
  else .ok ⟨11,firstTK now q x s,s,q.nonce,x.number,x.key,3⟩
def nextOpen (M : DM) (now : Int) (q : NQ) : Except Int (TK × PF) :=
 if q.tsvc ≠ [116,103,115] ∧ ¬ ((bitB q.opts 16 = true ∨ bitB q.opts 32 = true) ∧ q.tsvc = q.service) then .error 36
 else match BE.find M.book q.tsvc with
 | none => .error 7
 | some e =>
  match e.keyOf q.tnum with
  | none => .error 44
  | some key =>
   match (openL key 2 q.tsealed).bind ticketIn with
   | none => .error 31
   | some t =>
    match (openL t.session 4 q.proof).bind proofIn with
    | none => .error 31
    | some p => if p.client ≠ t.client then .error 36 else if M.skew < apartT p.time now then .error 37 else .ok (t,p)
def nearP (skew now : Int) (l : List PF) : List PF := l.filter fun p => decide (apartT p.time now ≤ skew)
def proofCode (skew now : Int) (l : List PF) (p : PF) : Int := if p ∈ nearP skew now l then 34 else if 8 ≤ (nearP skew now l).length then 60 else 0
def proofsNext (skew now : Int) (l : List PF) (p : PF) : List PF := if proofCode skew now l p = 0 then nearP skew now l ++ [p] else nearP skew now l
def waysOf (opts : Int) : Int := (if bitB opts 16 = true then 1 else 0) + (if bitB opts 32 = true then 1 else 0) + (if bitB opts 64 = true then 1 else 0) + (if bitB opts 128 = true then 1 else 0)
def optsOk (opts flags : Int) : Bool :=
 if opts < 0 ∨ 255 < opts ∨ bitB opts 8 = true then false
 else if 1 < waysOf opts ∨ bitB opts 32 = true ∧ opts ≠ 32 then false
 else if bitB opts 16 = true ∧ bitB flags 4 = false ∨ bitB opts 64 = true ∧ bitB flags 1 = false ∨ bitB opts 128 = true ∧ bitB flags 2 = false then false
 else !bitB opts 32 || bitB flags 16
def keptFlags (flags : Int) : Int := (if bitB flags 64 = true then 64 else 0) + (if bitB flags 128 = true then 128 else 0) + (if bitB flags 256 = true then 256 else 0)
def derivedEnd (now till : Int) (old : TK) (x s : BE) : Int := lesser (lesser (asked till) old.fin) (lesser (satAdd now x.life) (satAdd now s.life))
def derivedFlags (opts : Int) (old : TK) (x s : BE) : Int :=
 (if bitB old.flags 64 = true then 64 else 0) + (if bitB old.flags 128 = true ∨ bitB opts 64 = true then 128 else 0) + (if bitB old.flags 256 = true ∨ bitB opts 128 = true then 256 else 0) + moreFlags opts old.flags x s
def fresh (now : Int) (old : TK) (x s : BE) (till rtime opts : Int) : Except Int TK :=
 if bitB opts 32 = true then (if now < old.start then .error 33 else .ok { old with flags := if bitB old.flags 16 = true then old.flags - 16 else old.flags })
 else if bitB opts 16 = true then (if old.renew ≤ now then .error 32 else .ok { old with start := now,fin := lesser old.renew (satAdd now (satSub old.fin old.start)) })
 else if derivedEnd now till old x s ≤ now then .error 11
 else .ok { old with start := now,fin := derivedEnd now till old x s,flags := derivedFlags opts old x s,renew := moreRenew opts old.flags x s now (lesser (asked rtime) old.renew) }
def nextRest (M : DM) (now : Int) (q : NQ) (old : TK) : Except Int GR :=
 if bitB old.flags 16 = true ∧ bitB q.opts 32 = false ∨ satAdd now M.skew < old.start then .error 33
 else if old.fin < now then .error 32
 else match BE.find M.book q.service,BE.find M.book old.client with
 | none,_ => .error 7
 | some _,none => .error 6
 | some s,some x =>
  if pairCode (some s) (some x) now 7 6 2 1 ≠ 0 then .error (pairCode (some s) (some x) now 7 6 2 1)
  else if optsOk q.opts old.flags = false then .error 13
  else match fresh now old x s q.till q.rtime q.opts with
  | .error c => .error c
  | .ok t => .ok ⟨13,t,s,q.nonce,0,old.session,5⟩
def drawAt (ds : List UInt8) (k : Nat) : UInt64 := Pure.joinL 0 ((ds.drop (8 * k)).take 8)
def GR.box (g : GR) (ds : List UInt8) : List UInt8 := giveBox g.kind { g.t with session := drawAt ds 0 } g.s g.nonce g.number g.key g.use (drawAt ds 1) (drawAt ds 2)
def finishM (M : DM) (now : Int) : Except Int GR → List UInt8 × DM
 | .error c => (refusalBox now c,M)
 | .ok g => if M.draws.length < 24 then (refusalBox now 60,M) else (g.box M.draws,{ M with draws := M.draws.drop 24 })
def nextM (M : DM) (now : Int) (q : NQ) : List UInt8 × DM :=
 match nextOpen M now q with
 | .error c => (refusalBox now c,M)
 | .ok (t,p) =>
  let M' := { M with proofs := proofsNext M.skew now M.proofs p }
  if proofCode M.skew now M.proofs p ≠ 0 then (refusalBox now (proofCode M.skew now M.proofs p),M')
  else finishM M' now (nextRest M' now q t)
def answerM (M : DM) (now : Int) (req : List UInt8) : List UInt8 × DM :=
 match firstOf req with
 | some q => finishM M now (firstM M now q)
 | none =>
  match nextOf req with
  | some q => nextM M now q
  | none => (refusalBox now 60,M)
end Go.Proofs.YtpijkgbafjccaaaGreatDoor
namespace Go.Proofs.YtpijkgbafjccaaaGreatDoor
open Go.RowKit
set_option maxRecDepth 100000
set_option maxHeartbeats 1000000 in
theorem kbox_any (tag : UInt8) (zs : List UInt8) (n : Nat) (ao : Option Addr) (cap : Nat) (w : World) (hn : Hid (zs.length = n)) (hl : n ≤ 255) (hnc : Hid (ao = none → cap = 0)) (hz : At w ao zs) :
  Calls Tryz.prog 33 #[.int .u8 (tag.toNat : Int),.slice ao n cap] w fun e w' => ∃ o,e = .returned o ∧ w'.ownsRow w.heap.size 5 1 o (Box.box tag zs).length ((Box.box tag zs).map U8) ∧ w.grownBy w' none := by
 obtain ⟨i0,hif,hz0,hz1,hz2⟩ := info_parts Tryz.info5
 have hown0 := own_new w 5 tag
 have G0 : w.grownBy (w.alloc (.cells #[.int .u8 (tag.toNat : Int)] 5)) none := World.grownBy_alloc w _ none
 by_cases h1 : n < 128
 ·have h1' : ¬ (127 : Int) < (n : Int) := by omega
  have HL : Hid (Box.box tag zs = [tag] ++ [UInt8.ofNat n] ++ zs) := by show _ = _; rw [Box.box,Box.head,hn.out,if_pos h1]; rfl
  go_enter Tryz.func33,Tryz.ntmps33
  go_wp2_with (at_builtin; refine wpList_append_at _ rfl _ _ 26 rfl w.heap.size 5 i0 Tryz.underlying26 hif hz0 hz1 hz2 _ _ _ rfl (hown0.alloc _) (some ⟨w.heap.size + 1,0,none⟩) 1 1 [UInt8.ofNat n] rfl rfl ?c1 ?c2 ?c3 ?c4 ?_)
  case c2 => exact bytes_new1 w _ _ _ _ (by simp only [List.map_cons,List.map_nil,U8,UInt8.toNat_ofNat']; rw [Nat.mod_eq_of_lt (by omega)])
  case c4 => first | omega | (simp; omega)
  intro v1 w1 hown1 hg1 _
  have G1 : w.grownBy w1 none := gb_row (gb_alloc G0 _) hg1 (fun i hi => (hown0.lt i hi).1)
  have hz1' := hz.below G1
  have hsz1 := G1.size
  clear hown0 hg1 G0
  go_wp2_with (at_builtin; refine wpList_append_at _ rfl _ _ 26 rfl w.heap.size 5 i0 Tryz.underlying26 hif hz0 hz1 hz2 v1 (1 + 1) ([tag] ++ [UInt8.ofNat n]) rfl (by simpa using hown1) ao n cap zs rfl hn.out hnc.out hz1' (by omega) hsz1 ?_)
  intro v2 w2 hown2 hg2 _
  have G2 : w.grownBy w2 none := gb_row G1 hg2 (fun i hi => (hown1.lt i hi).1)
  have R : w2.ownsRow w.heap.size 5 1 v2 (Box.box tag zs).length ((Box.box tag zs).map U8) := by
   rw [HL.out,List.length_append,hn.out]
   simpa using hown2
  clear hown1 hown2 hg2 G1
  go_wp2
  go_ret
  exact ⟨_,rfl,R,G2⟩
 ·have h1' : (127 : Int) < (n : Int) := by omega
  have HL : Hid (Box.box tag zs = [tag] ++ [129] ++ [UInt8.ofNat n] ++ zs) := by show _ = _; rw [Box.box,Box.head,hn.out,if_neg h1,if_pos (by omega)]; rfl
  go_enter Tryz.func33,Tryz.ntmps33
  go_wp2_with (at_builtin; refine wpList_append_at _ rfl _ _ 26 rfl w.heap.size 5 i0 Tryz.underlying26 hif hz0 hz1 hz2 _ _ _ rfl (hown0.alloc _) (some ⟨w.heap.size + 1,0,none⟩) 1 1 [129] rfl rfl ?d1 ?d2 ?d3 ?d4 ?_)
  case d1 => intro h; cases h
  case d3 => omega
  case d2 => exact bytes_new1 w _ _ _ _ rfl
  case d4 => first | omega | (simp; omega)
  intro v1 w1 hown1 hg1 _
  have G1 : w.grownBy w1 none := gb_row (gb_alloc G0 _) hg1 (fun i hi => (hown0.lt i hi).1)
  have hsz1 := G1.size
  clear hown0 hg1 G0
  go_wp2_with (at_builtin; refine wpList_append_at _ rfl _ _ 26 rfl w.heap.size 5 i0 Tryz.underlying26 hif hz0 hz1 hz2 v1 (1 + 1) ([tag] ++ [129]) rfl (by simpa using hown1.alloc _) (some ⟨w1.heap.size,0,none⟩) 1 1 [UInt8.ofNat n] rfl rfl ?f1 ?f2 ?f3 ?f4 ?_)
  case f1 => intro h; cases h
  case f3 => omega
  case f2 => exact bytes_new w1 _ _ _ (by simp only [List.map_cons,List.map_nil,U8,UInt8.toNat_ofNat']; rw [Nat.mod_eq_of_lt (by omega)])
  case f4 => first | omega | (simp; omega)
  intro v2 w2 hown2 hg2 _
  have G2 : w.grownBy w2 none := gb_row (gb_alloc G1 _) hg2 (fun i hi => (hown1.lt i hi).1)
  have hz2' := hz.below G2
  have hsz2 := G2.size
  clear hown1 hg2 G1
  go_wp2_with (at_builtin; refine wpList_append_at _ rfl _ _ 26 rfl w.heap.size 5 i0 Tryz.underlying26 hif hz0 hz1 hz2 v2 (1 + 1 + 1) ([tag] ++ [129] ++ [UInt8.ofNat n]) rfl (by simpa using hown2) ao n cap zs rfl hn.out hnc.out hz2' (by omega) hsz2 ?_)
  intro v3 w3 hown3 hg3 _
  have G3 : w.grownBy w3 none := gb_row G2 hg3 (fun i hi => (hown2.lt i hi).1)
  have R : w3.ownsRow w.heap.size 5 1 v3 (Box.box tag zs).length ((Box.box tag zs).map U8) := by
   rw [HL.out,List.length_append,hn.out]
   simpa using hown3
  clear hown2 hown3 hg3 G2
  go_wp2
  go_ret
  exact ⟨_,rfl,R,G3⟩
set_option maxHeartbeats 1000000 in
theorem ktext_any (zs : List UInt8) (n : Nat) (ao : Option Addr) (cap : Nat) (w : World) (hn : Hid (zs.length = n)) (hl : n ≤ 255) (hnc : Hid (ao = none → cap = 0)) (hz : At w ao zs) :
  Calls Tryz.prog 26 #[.slice ao n cap] w fun e w' => ∃ o,e = .returned o ∧ w'.ownsRow w.heap.size 5 1 o (Box.box 4 zs).length ((Box.box 4 zs).map U8) ∧ w.grownBy w' none := by
 have hB := kbox_any 4 zs n ao cap w hn hl hnc hz
 go_enter Tryz.func26,Tryz.ntmps26
 go_wp2_with fail
 refine hB.mono ?_
 rintro e w1 ⟨o,rfl,hown,hg⟩
 clear hB
 go_wp2
 go_ret
 exact ⟨_,rfl,hown,hg⟩
end Go.Proofs.YtpijkgbafjccaaaGreatDoor
namespace Go.Proofs.YtpijkgbafjccaaaGreatDoor
open Go.RowKit
set_option maxRecDepth 100000
theorem size_shift {v : Int} (h0 : -9223372036854775808 ≤ v) (h1 : v ≤ 9223372036854775807) (h : 127 < v ∨ v < -128) : Box.size v = Box.size (v / 256) + 1 := by
 unfold Box.size
 (repeat' split) <;> omega
theorem size_small {v : Int} (h : ¬ (127 < v)) (h' : ¬ (v < -128)) : Box.size v = 1 := by
 unfold Box.size
 rw [if_pos (by omega)]
set_option maxHeartbeats 1000000 in
theorem knumber_any (v : Int) (w : World) (h0 : -9223372036854775808 ≤ v) (h1 : v ≤ 9223372036854775807) :
  Calls Tryz.prog 18 #[.int .i64 v] w fun e w' => ∃ o,e = .returned o ∧ w'.ownsRow w.heap.size 5 1 o (Box.box 2 (Box.low v (Box.size v))).length ((Box.box 2 (Box.low v (Box.size v))).map U8) ∧ w.grownBy w' none := by
 obtain ⟨i0,hif,hz0,hz1,hz2⟩ := info_parts Tryz.info5
 go_enter Tryz.func18,Tryz.ntmps18
 go_wp2
 go_loop [3,4] (fun n m => ∃ (k : Nat) (x : Int),1 ≤ k ∧ n = .int .i64 k ∧ m = .int .i64 x ∧ -9223372036854775808 ≤ x ∧ x ≤ 9223372036854775807 ∧ Hid (Box.size v + 1 = k + Box.size x) ∧ k ≤ 8) (fun n _ => 9 - (intOf n).toNat)
 case atStart => exact ⟨1,v,by omega,rfl,rfl,h0,h1,by show _ = _; omega,by omega⟩
 case round =>
  obtain ⟨k,x,hk1,rfl,rfl,hx0,hx1,HS,hk8⟩ := hrel
  by_cases hg : 127 < x ∨ x < -128
  ·have hsz := size_shift hx0 hx1 hg
   have hb := (size_bounds (x / 256)).1
   have hv8 := (size_bounds v).2
   have hk9 : k < 8 := by have := HS.out; omega
   have HS2 : Hid (Box.size v + 1 = k + 1 + Box.size (x / 256)) := by show _ = _; have := HS.out; omega
   clear hsz hb hv8 HS
   by_cases hg1 : 127 < x
   ·go_wp2
    go_round
    case rel => exact ⟨k + 1,x / 256,by omega,by go_num,by go_num,by omega,by omega,HS2,by omega⟩
    case measure => simp [intOf]; omega
   ·have hg2 : x < -128 := by omega
    go_wp2
    go_round
    case rel => exact ⟨k + 1,x / 256,by omega,by go_num,by go_num,by omega,by omega,HS2,by omega⟩
    case measure => simp [intOf]; omega
  ·have hg1 : ¬ 127 < x := by omega
   have hg2 : ¬ x < -128 := by omega
   have HK : Hid (Box.size v = k) := by show _ = _; have := size_small hg1 hg2; have := HS.out; omega
   clear HS hg
   rw [HK.out]
   go_wp2
   go_loopw [5,6] (fun o i wr => ∃ j : Nat,j ≤ k ∧ i = .int .i64 ((k : Int) - 1 - j) ∧ wr.ownsRow w.heap.size 5 1 o j ((Box.lowTo v k j).map U8) ∧ w.grownBy wr none) (fun _ i _ => (intOf i + 1).toNat)
   case atStart => exact ⟨0,by omega,by go_num,World.ownsRow_nil _ _ _ _,World.grownBy.refl _ _⟩
   case round =>
    obtain ⟨j,hj,rfl,hown,hgr⟩ := hrel
    have hsz := hgr.size
    by_cases hlt : j < k
    ·go_wp2_with (at_builtin; refine wpList_append_at _ rfl _ _ 26 rfl w.heap.size 5 i0 Tryz.underlying26 hif hz0 hz1 hz2 _ _ _ rfl (hown.alloc _) (some ⟨wr.heap.size,0,none⟩) 1 1 [Box.byteI v (k - 1 - j)] rfl rfl ?a1 ?a2 ?a3 ?a4 ?_)
     case a1 => intro h; cases h
     case a2 => exact bytes_new wr _ _ _ (by simp only [List.map_cons,List.map_nil,U8]; rw [byteI_int])
     case a3 => omega
     case a4 => simp; omega
     intro v1 w1 hown1 hg1' _
     have R : w1.ownsRow w.heap.size 5 1 v1 (j + 1) ((Box.lowTo v k (j + 1)).map U8) ∧ w.grownBy w1 none := by
      refine ⟨?_,gb_row (gb_alloc hgr _) hg1' (fun i hi => (hown.lt i hi).1)⟩
      rw [Box.lowTo]
      simpa using hown1
     clear hown hown1 hg1' hgr
     go_wp2
     go_roundw
     case rel => exact ⟨j + 1,by omega,by go_num,R.1,R.2⟩
     case measure => simp [intOf]; omega
    ·have hjk : j = k := by omega
     subst hjk
     obtain ⟨a3,c3,rfl,_,_,hnc,hat3⟩ := own_at2 hown
     go_wp2_with fail
     refine (kbox_any 2 (Box.low v j) j a3 c3 _ (Box.low_length v j) (by omega) hnc hat3).mono ?_
     rintro e w2 ⟨o,rfl,hown2,hg2'⟩
     have G2 := gb_trans hgr hg2'
     have R2 : w2.ownsRow w.heap.size 5 1 o (Box.box 2 (Box.low v j)).length ((Box.box 2 (Box.low v j)).map U8) := own_down hown2 hsz
     clear hown hown2 hg2' hgr
     go_wp2
     go_ret
     exact ⟨_,rfl,by rw [HK.out]; exact R2,G2⟩
end Go.Proofs.YtpijkgbafjccaaaGreatDoor
namespace Go.Proofs.YtpijkgbafjccaaaGreatDoor
open Go.RowKit
set_option maxRecDepth 100000
abbrev KIt := Option Addr × Nat × List UInt8
def KItems (w : World) (ao : Option Addr) (l : List KIt) : Prop :=
 ∀ j,(hj : j < l.length) → ∃ b,ao = some ⟨b,0,none⟩ ∧ w.cell? ⟨b,j,none⟩ = some (.slice (l[j]).1 (l[j]).2.2.length (l[j]).2.1) ∧ At w (l[j]).1 (l[j]).2.2 ∧ ((l[j]).1 = none → (l[j]).2.1 = 0)
def kcat (l : List KIt) : List UInt8 := (l.map fun x => x.2.2).flatten
theorem kcat_snoc (l : List KIt) (k : Nat) (h : k < l.length) : kcat (l.take (k + 1)) = kcat (l.take k) ++ (l[k]).2.2 := by
 unfold kcat
 rw [List.take_succ_eq_append_getElem h,List.map_append,List.flatten_append]
 simp only [List.map_cons,List.map_nil,List.flatten_cons,List.flatten_nil,List.append_nil]
theorem kcat_le (l : List KIt) (k : Nat) : (kcat (l.take k)).length ≤ (kcat l).length := by
 conv => rhs; rw [← List.take_append_drop k l]
 unfold kcat
 rw [List.map_append,List.flatten_append,List.length_append]
 omega
theorem KItems.grown {w w' : World} {ao : Option Addr} {l : List KIt} (h : KItems w ao l) (k : w.grownBy w' none) : KItems w' ao l := by
 intro j hj
 obtain ⟨b,h0,h1,h2,h3⟩ := h j hj
 exact ⟨b,h0,k.cell h1 (by simp),h2.below k,h3⟩
set_option maxHeartbeats 1000000 in
theorem klist_any (ao : Option Addr) (cap m : Nat) (l : List KIt) (w : World) (hm : Hid (l.length = m)) (hml : m ≤ 1000) (hl : (kcat l).length ≤ 255) (hi : KItems w ao l) :
  Calls Tryz.prog 17 #[.slice ao m cap] w fun e w' => ∃ o,e = .returned o ∧ w'.ownsRow w.heap.size 5 1 o (Box.box 48 (kcat l)).length ((Box.box 48 (kcat l)).map U8) ∧ w.grownBy w' none := by
 obtain ⟨i0,hif,hz0,hz1,hz2⟩ := info_parts Tryz.info5
 go_enter Tryz.func17,Tryz.ntmps17
 go_wp2
 go_loopw [3,4] (fun o i wr => ∃ k : Nat,k ≤ m ∧ i = .int .i64 k ∧ wr.ownsRow w.heap.size 5 1 o (kcat (l.take k)).length ((kcat (l.take k)).map U8) ∧ w.grownBy wr none) (fun _ i _ => m - (intOf i).toNat)
 case atStart => exact ⟨0,by omega,rfl,World.ownsRow_nil _ _ _ _,World.grownBy.refl _ _⟩
 case round =>
  obtain ⟨k,hk,rfl,hown,hgr⟩ := hrel
  have hsz := hgr.size
  by_cases hlt : k < m
  ·have hlt' : k < l.length := by rw [hm.out]; exact hlt
   obtain ⟨b,rfl,hc,hat,hnc⟩ := (hi.grown hgr) k hlt'
   have hle := kcat_le l (k + 1)
   rw [kcat_snoc l k hlt',List.length_append] at hle
   have hbd : (kcat (l.take k)).length + ((l[k]).2.2).length ≤ 140737488355328 := by omega
   have HN : Hid ((l[k]).1 = none → (l[k]).2.1 = 0) := hnc
   clear hnc hle hi
   go_wp2_with (at_builtin; refine wpList_append_at _ rfl _ _ 26 rfl w.heap.size 5 i0 Tryz.underlying26 hif hz0 hz1 hz2 _ _ _ rfl hown _ _ _ ((l[k]).2.2) rfl rfl HN.out hat hbd hsz ?_)
   intro v' w1 hown' hg1 _
   have R : w1.ownsRow w.heap.size 5 1 v' (kcat (l.take (k + 1))).length ((kcat (l.take (k + 1))).map U8) ∧ w.grownBy w1 none := ⟨by rw [kcat_snoc l k hlt',List.length_append,List.map_append]; exact hown',gb_row hgr hg1 (fun i hi => (hown.lt i hi).1)⟩
   clear hown hown' hg1 hgr hat hbd HN hc
   go_wp2
   go_roundw
   case rel => exact ⟨k + 1,by omega,by go_num,R.1,R.2⟩
   case measure => simp [intOf]; omega
  ·have hkm : k = m := by omega
   subst hkm
   clear hi
   have hkI : ¬ (k : Int) < (k : Int) := by omega
   have hown2 := hown
   rw [List.take_of_length_le (by rw [hm.out]; omega)] at hown2
   obtain ⟨a3,c3,rfl,_,_,hnc,hat3⟩ := own_at2 hown2
   have HE : Hid (kcat (l.take k) = kcat l) := by show _ = _; rw [List.take_of_length_le (by rw [hm.out]; omega)]
   clear hown
   have hB := kbox_any 48 (kcat l) (kcat l).length a3 c3 wr (hid rfl) hl hnc hat3
   go_wp2_with fail
   refine hB.mono ?_
   rintro e w2 ⟨o,rfl,hown3,hg2⟩
   have G2 := gb_trans hgr hg2
   have R2 := own_down hown3 hsz
   clear hown3 hg2 hgr hB hown2
   go_wp2
   go_ret
   exact ⟨_,rfl,R2,G2⟩
end Go.Proofs.YtpijkgbafjccaaaGreatDoor
