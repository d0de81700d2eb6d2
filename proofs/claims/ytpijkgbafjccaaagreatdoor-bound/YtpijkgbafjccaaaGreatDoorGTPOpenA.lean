/-
  
  
  
  
  
-/
import Derived.Test.YtpijkgbafjccaaaGreatDoorGTPReadD
import Derived.Test.YtpijkgbafjccaaaGreatDoorGTSeal
import Derived.Test.YtpijkgbafjccaaaGreatDoorGTBoxM
import Derived.Test.YtpijkgbafjccaaaGreatDoorGTSep
namespace Go.Proofs.YtpijkgbafjccaaaGreatDoor
open Go.RowKit
set_option maxRecDepth 100000
def openP (key use : UInt64) (z : List UInt8) : List UInt8 := if 16 ≤ z.length ∧ z.length ≤ 216 ∧ Pure.opens key use z = true then Pure.plainOf key use z else []
def Opened (w w' : World) (p : Option Pl) (e : Ending) (l : List UInt8) : Prop := ∃ a c,e = .returned (.slice a l.length c) ∧ l.length ≤ c ∧ c ≤ 9223372036854775807 ∧ l.length ≤ 200 ∧ At w' a l ∧ CF w w' (Pl.has p) ∧ ∀ g,g < w.heap.size → Pl.blk p ≠ some g → NotAt (a,l) g
theorem Opened.nil {w w' : World} {p : Option Pl} (c : CF w w' (Pl.has p)) : Opened w w' p (.returned (.slice none 0 0)) [] := ⟨none,0,rfl,by simp,by decide,by simp,At.nil _ _,c,fun g _ _ q => by simp at q⟩
set_option maxHeartbeats 1000000 in
theorem mopen_any (rv : Value) (p : Option Pl) (rb : List UInt8) (key use : UInt64) (x : Int) (ao : Option Addr) (z : List UInt8) (n cap : Nat) (w : World) (hR : Out w rv p rb) (hx : isU x = true) (hu : Hid (x = use.toNat)) (hn : Hid (z.length = n)) (hcap : n ≤ cap) (hz : At w ao z)
  (hsep : ∀ b off,ao = some ⟨b,off,none⟩ → ∀ j,j < z.length → ¬ Pl.has p b (off + j)) :
  Calls Tryz.prog 165 #[rv,.int .u64 (key.toNat : Int),.int .i64 x,.slice ao n cap] w fun e w' => Opened w w' p e (openP key use z) := by
 by_cases hsz : n < 16 ∨ 216 < n
 ·have HM : Hid (openP key use z = []) := by show _ = _; rw [openP,if_neg (fun q => by rw [hn.out] at q; omega)]
  have HO := hid (open_size rv (key.toNat : Int) x ao n cap w hx hsz)
  clear hR hz hsep hsz
  go_enter Tryz.func165,Tryz.ntmps165
  go_wp2_with (go_at_call 72; refine HO.out.mono ?_; rintro e w' ⟨rfl,rfl⟩)
  go_ret
  rw [HM.out]
  exact Opened.nil (CF.refl _ _)
 ·have HO := hid (open_any rv p rb key use x ao z n cap w hR hx hu hn (by omega) (by omega) hcap hz hsep)
  have hsz2 : 16 ≤ z.length ∧ z.length ≤ 216 := by rw [hn.out]; omega
  clear hR hz hsep hsz
  cases ho : Pure.opens key use z
  ·have HM : Hid (openP key use z = []) := by show _ = _; rw [openP,if_neg (fun q => by rw [ho] at q; exact absurd q.2.2 (by decide))]
   have HH := hid ho
   clear ho
   go_enter Tryz.func165,Tryz.ntmps165
   go_wp2_with (go_at_call 72; refine HO.out.mono ?_; rintro e w' ⟨_,r2⟩; obtain ⟨rfl,c2⟩ := r2 HH.out)
   go_ret
   rw [HM.out]
   exact Opened.nil c2
  ·have HM : Hid (openP key use z = Pure.plainOf key use z) := by show _ = _; rw [openP,if_pos ⟨hsz2.1,hsz2.2,ho⟩]
   have HL : Hid ((Pure.plainOf key use z).length ≤ 200) := by show _ ≤ _; rw [Pure.plainOf_length]; omega
   have HH := hid ho
   clear ho
   go_enter Tryz.func165,Tryz.ntmps165
   go_wp2_with (go_at_call 72; refine HO.out.mono ?_; rintro e w' ⟨r1,_⟩; obtain ⟨v',rfl,om⟩ := r1 HH.out; obtain ⟨p3,o3,_,o5,_⟩ := id om; obtain ⟨a3,c3,rfl,q1,q2,q3,_⟩ := o3.shape)
   go_ret
   rw [HM.out]
   refine ⟨a3,c3,rfl,q1,q2,HL.out,q3,om.cf,fun g hg hp hl b off e q => ?_⟩
   have e : a3 = some ⟨b,off,none⟩ := e
   subst e
   rcases o3 with ⟨_,h,_⟩ | ⟨t,hp3,hv,_⟩
   ·cases h
   ·injection hv with e1 _ _
    injection e1 with e1
    injection e1 with e1 _ _
    rcases o5 with o5 | o5
    ·exact hp (by rw [← o5,hp3]; exact congrArg some (e1.symm.trans q))
    ·have := o5 t hp3
     omega
def keyM (s : List UInt8 × Bool) : UInt64 × (List UInt8 × Bool) :=
 (Pure.joinL 0 (takeM 4 s.1 s.2).1,if (takeM 4 s.1 s.2).1.length = 8 then (takeM 4 s.1 s.2).2 else ([],true))
set_option maxHeartbeats 1000000 in
theorem takeKey_s (S : Source) (g : Nat) (s : List UInt8 × Bool) (w : World) (hs : At w S.1 S.2) (ng : NotAt S g) (h : Rd w S g s.1 s.2) :
  Calls Tryz.prog 171 #[.pointer (some ⟨g,0,none⟩)] w fun e w' => e = .returned (.int .u64 ((keyM s).1.toNat : Int)) ∧ Rd w' S g (keyM s).2.1 (keyM s).2.2 ∧ CF w w' (exG g) := by
 have HT := hid (text_any S g s.1 s.2 w hs h)
 obtain ⟨q,hq⟩ : ∃ q,takeM 4 s.1 s.2 = q := ⟨_,rfl⟩
 have HK : Hid (keyM s = (Pure.joinL 0 q.1,if q.1.length = 8 then q.2 else ([],true))) := by show _ = _; rw [keyM,hq]
 rw [hq] at HT
 have HS := hid (And.intro hs ng)
 clear h hs ng hq
 go_enter Tryz.func171,Tryz.ntmps171
 go_wp2_with fail
 refine HT.out.mono ?_
 rintro e w2 ⟨v,rfl,b2,r2,f2⟩
 obtain ⟨a2,c2,rfl,_⟩ := id b2
 have hs2 := NotAt.at HS.out.1 f2.frmG (fun _ e => e ▸ HS.out.2)
 have ba := b2.at hs2
 obtain ⟨ok,hok⟩ : ∃ ok : Bool,(((q.1.length : Int) == 8) = ok) := ⟨_,rfl⟩
 have HN := hid (need_any S g _ _ ok w2 r2)
 have HF := hid f2
 have HB := hid (fun (W : World) (k : At W S.1 S.2) => (b2.at k).2.2.2)
 have HR : Hid (∀ W,Rd W S g (if ok = true then q.2.1 else []) (if ok = true then q.2.2 else true) → Rd W S g (keyM s).2.1 (keyM s).2.2) := by
  intro W hW
  rw [HK.out]
  cases ok
  ·have : ¬ q.1.length = 8 := fun e => by rw [e] at hok; simp at hok
   simp only [this,if_false]
   exact hW
  ·have : q.1.length = 8 := by have := beq_iff_eq.1 hok; omega
   simp only [this,if_true]
   exact hW
 have HS2 := hid hs2
 clear HT b2 r2 f2 hs2 ba
 go_wp2_with fail
 refine HN.out.mono ?_
 rintro e w4 ⟨rfl,r4,f4⟩
 have hs4 := NotAt.at HS2.out f4.frmG (fun _ e => e ▸ HS.out.2)
 have HJ := hid (join_any 0 q.1 a2 c2 w4 (HB.out w4 hs4).1 (HB.out w4 hs4).2)
 have F4 := hid (HF.out.trans f4 (fun _ _ _ e => e))
 have R4 := hid (HR.out w4 r4)
 clear r4 f4 hs4 HN
 go_wp2_with fail
 refine HJ.out.mono ?_
 rintro e w5 ⟨rfl,rfl⟩
 go_wp2
 go_ret
 exact ⟨by rw [HK.out]; rfl,R4.out,F4.out⟩
end Go.Proofs.YtpijkgbafjccaaaGreatDoor
namespace Go.Proofs.YtpijkgbafjccaaaGreatDoor
open Go.RowKit
set_option maxRecDepth 100000
def st (s : List UInt8 × Bool) : Option (List UInt8) := if s.2 = true then none else some s.1
def Bad (s : List UInt8 × Bool) : Prop := s.2 = true → s.1 = []
theorem cut_nil : Box.cut [] = none := by
 cases h : Box.cut [] with
 | none => rfl
 | some q =>
  obtain ⟨t,i,r⟩ := q
  have := Box.cut_length h
  simp at this
theorem takeM_nil (due : Nat) (f : Bool) : takeM due [] f = ([],[],true) := by rw [takeM,cut_nil]
theorem num_nil : Box.num [] = none := by unfold Box.num; rw [if_neg (by simp)]
theorem Bad.take {s : List UInt8 × Bool} (h : Bad s) (due : Nat) : Bad (takeM due s.1 s.2).2 := fun e => (takeM_bad due s.1 s.2 h e).2
theorem Bad.step {s : List UInt8 × Bool} (h : Bad s) : Bad (stepN s).2 := stepN_bad h
theorem Bad.name {s : List UInt8 × Bool} (h : Bad s) : Bad (nameM s).2 := by
 unfold nameM
 simp only
 split
 ·exact h.take 4
 ·exact fun _ => rfl
variable {β : Type}
theorem st_name {s : List UInt8 × Bool} (h : Bad s) (k : List UInt8 → List UInt8 → Option β) : (st s).bind (nextS pName k) = (st (nameM s).2).bind (k (nameM s).1) := by
 obtain ⟨l,f⟩ := s
 cases f
 ·cases hc : Box.cut l with
  | none =>
   have ht : takeM 4 l false = ([],[],true) := by rw [takeM,hc]
   simp [st,nextS,hc,nameM,ht]
  | some q =>
   obtain ⟨t,i,r⟩ := q
   by_cases e : t.toNat = 4
   ·have ht : takeM 4 l false = (i,r,false) := by rw [takeM,hc]; simp only [e,if_true]
    cases hb : isNameL i <;> simp [st,nextS,hc,nameM,ht,pName,e,hb]
   ·have ht : takeM 4 l false = ([],[],true) := by rw [takeM,hc]; simp only [e,if_false]
    simp [st,nextS,hc,nameM,ht,pName,e]
 ·have hl : l = [] := h rfl
  subst hl
  simp [st,nameM,takeM_nil]
theorem st_num {s : List UInt8 × Bool} (h : Bad s) (k : Int → List UInt8 → Option β) : (st s).bind (nextS pNum k) = (st (stepN s).2).bind (k (stepN s).1) := by
 obtain ⟨l,f⟩ := s
 cases f
 ·cases hc : Box.cut l with
  | none =>
   have ht : takeM 2 l false = ([],[],true) := by rw [takeM,hc]
   simp [st,nextS,hc,stepN,ht,num_nil]
  | some q =>
   obtain ⟨t,i,r⟩ := q
   by_cases e : t.toNat = 2
   ·have ht : takeM 2 l false = (i,r,false) := by rw [takeM,hc]; simp only [e,if_true]
    cases hb : Box.num i <;> simp [st,nextS,hc,stepN,ht,pNum,e,hb]
   ·have ht : takeM 2 l false = ([],[],true) := by rw [takeM,hc]; simp only [e,if_false]
    simp [st,nextS,hc,stepN,ht,pNum,e,num_nil]
 ·have hl : l = [] := h rfl
  subst hl
  simp [st,stepN,takeM_nil,num_nil]
theorem st_text {s : List UInt8 × Bool} (h : Bad s) (k : List UInt8 → List UInt8 → Option β) : (st s).bind (nextS pText k) = (st (takeM 4 s.1 s.2).2).bind (k (takeM 4 s.1 s.2).1) := by
 obtain ⟨l,f⟩ := s
 cases f
 ·cases hc : Box.cut l with
  | none =>
   have ht : takeM 4 l false = ([],[],true) := by rw [takeM,hc]
   simp [st,nextS,hc,ht]
  | some q =>
   obtain ⟨t,i,r⟩ := q
   by_cases e : t.toNat = 4
   ·have ht : takeM 4 l false = (i,r,false) := by rw [takeM,hc]; simp only [e,if_true]
    simp [st,nextS,hc,ht,pText,e]
   ·have ht : takeM 4 l false = ([],[],true) := by rw [takeM,hc]; simp only [e,if_false]
    simp [st,nextS,hc,ht,pText,e]
 ·have hl : l = [] := h rfl
  subst hl
  simp [st,takeM_nil]
theorem st_list {α : Type} {s : List UInt8 × Bool} (h : Bad s) (f : Pie → Option α) (c : List UInt8 → Option α) (hf : ∀ t i,f (t,i) = if t.toNat = 48 then c i else none) (k : α → List UInt8 → Option β) :
  (st s).bind (nextS f k) = (st (takeM 48 s.1 s.2).2).bind (fun r => (c (takeM 48 s.1 s.2).1).bind fun a => k a r) := by
 obtain ⟨l,fl⟩ := s
 cases fl
 ·cases hc : Box.cut l with
  | none =>
   have ht : takeM 48 l false = ([],[],true) := by rw [takeM,hc]
   simp [st,nextS,hc,ht]
  | some q =>
   obtain ⟨t,i,r⟩ := q
   by_cases e : t.toNat = 48
   ·have ht : takeM 48 l false = (i,r,false) := by rw [takeM,hc]; simp only [e,if_true]
    simp [st,nextS,hc,ht,hf,e]
   ·have ht : takeM 48 l false = ([],[],true) := by rw [takeM,hc]; simp only [e,if_false]
    simp [st,nextS,hc,ht,hf,e]
 ·have hl : l = [] := h rfl
  subst hl
  simp [st,takeM_nil]
theorem st_end (s : List UInt8 × Bool) (b : β) : (st s).bind (endS b) = if (!s.2 && decide (s.1 = [])) = true then some b else none := by
 obtain ⟨l,f⟩ := s
 cases f
 ·by_cases e : l = [] <;> simp [st,endS,e]
 ·simp [st]
theorem st_read (req : List UInt8) : listOf req = (st (readListM req)).bind Box.cutsL := by
 unfold listOf readListM
 cases hc : Box.cut req with
 | none =>
  have ht : takeM 48 req false = ([],[],true) := by rw [takeM,hc]
  simp [ht,st]
 | some q =>
  obtain ⟨t,i,r⟩ := q
  by_cases e : t.toNat = 48
  ·have ht : takeM 48 req false = (i,r,false) := by rw [takeM,hc]; simp only [e,if_true]
   cases r with
   | nil => simp [ht,st,e]
   | cons x r => simp [ht,st]
  ·have ht : takeM 48 req false = ([],[],true) := by rw [takeM,hc]; simp only [e,if_false]
   cases r with
   | nil => simp [ht,st,e]
   | cons x r => simp [ht,st]
theorem readList_Bad (req : List UInt8) : Bad (readListM req) := readListM_bad req
theorem begin_Bad (req : List UInt8) (due : Int) : Bad (beginM req due) := beginM_bad req due
theorem st_begin (req : List UInt8) (due : Int) (f : List Pie → Option β) (k : List UInt8 → Option β) (hk : ∀ l,k l = (Box.cutsL l).bind f) :
  (if req.length ≤ 300 then (listOf req).bind (nextP pNum fun n => if n = due then f else fun _ => none) else none) = (st (beginM req due)).bind k := by
 have e1 : (listOf req).bind (nextP pNum fun n => if n = due then f else fun _ => none) = (st (readListM req)).bind (nextS pNum fun n => if n = due then k else fun _ => none) := by
  rw [st_read,Option.bind_assoc]
  congr 1
  funext l
  rw [nextS_eq pNum (fun n => if n = due then f else fun _ => none) (fun n => if n = due then k else fun _ => none) (fun n l => ?_) l]
  by_cases e : n = due
  ·simp only [e,if_true]; exact hk l
  ·simp only [e,if_false]; exact noneS_eq l
 rw [e1,st_num (readList_Bad req)]
 unfold beginM
 have ef : st (([],true) : List UInt8 × Bool) = none := rfl
 by_cases hl : req.length ≤ 300
 ·rw [if_pos hl]
  by_cases e : (stepN (readListM req)).1 = due
  ·rw [if_pos (And.intro e hl),if_pos e]
  ·rw [if_neg (fun q => e (And.left q)),if_neg e,ef]
   cases st (stepN (readListM req)).2 <;> rfl
 ·rw [if_neg hl,if_neg (fun q => hl (And.right q)),ef]
  rfl
def sealedS : List UInt8 → Option (Int × List UInt8) := nextS pNum fun n => nextS pText fun z => endS (n,z)
theorem sealedS_eq (l : List UInt8) : sealedS l = (Box.cutsL l).bind sealedP :=
 nextS_eq _ _ _ (fun n l => nextS_eq _ _ _ (fun z l => endS_eq (n,z) l) l) l
theorem st_sealed {s : List UInt8 × Bool} (h : Bad s) (k : Int × List UInt8 → List UInt8 → Option β) : (st s).bind (nextS pNum fun n => nextS pText fun z => k (n,z)) = (st (sealedM s).2).bind (k (sealedM s).1) := by
 rw [st_num h,st_text h.step]
 rfl
def preC (i : List UInt8) : Option (Option (Int × List UInt8)) := if i = [] then some none else (sealedS i).map some
theorem pre_list (t : UInt8) (i : List UInt8) : preOf (t,i) = if t.toNat = 48 then preC i else none := by
 unfold preOf pList preC
 by_cases e : t.toNat = 48
 ·simp only [e,if_true]
  by_cases hi : i = []
  ·subst hi
   rw [if_pos rfl,Box.cutsL_nil rfl]
  ·rw [if_neg hi,sealedS_eq]
   cases hc : Box.cutsL i with
   | none => rfl
   | some ps =>
    cases ps with
    | nil =>
     exfalso
     cases hcc : Box.cut i with
     | none => rw [Box.cutsL_none (List.length_pos_iff.2 hi) hcc] at hc; cases hc
     | some q =>
      obtain ⟨t',i',r'⟩ := q
      rw [Box.cutsL_some hcc] at hc
      cases hr : Box.cutsL r' with
      | none => rw [hr] at hc; cases hc
      | some z => rw [hr] at hc; simp at hc
    | cons p ps => rfl
 ·simp only [e,if_false]
end Go.Proofs.YtpijkgbafjccaaaGreatDoor
namespace Go.Proofs.YtpijkgbafjccaaaGreatDoor
open Go.RowKit
set_option maxRecDepth 100000
def firstR : List Pie → Option FQ := nextP pName fun c => nextP pName fun s => nextP pNum fun n => nextP pNum fun f => nextP pNum fun t => nextP pNum fun r => nextP pNum fun o => nextP preOf fun p => endP ⟨c,s,n,f,t,r,o,p⟩
def firstS : List UInt8 → Option FQ := nextS pName fun c => nextS pName fun s => nextS pNum fun n => nextS pNum fun f => nextS pNum fun t => nextS pNum fun r => nextS pNum fun o => nextS preOf fun p => endS ⟨c,s,n,f,t,r,o,p⟩
theorem firstS_eq (l : List UInt8) : firstS l = (Box.cutsL l).bind firstR :=
 nextS_eq _ _ _ (fun c l => nextS_eq _ _ _ (fun s l => nextS_eq _ _ _ (fun n l => nextS_eq _ _ _ (fun f l => nextS_eq _ _ _ (fun t l => nextS_eq _ _ _ (fun r l => nextS_eq _ _ _ (fun o l => nextS_eq _ _ _ (fun p l => endS_eq (⟨c,s,n,f,t,r,o,p⟩ : FQ) l) l) l) l) l) l) l) l) l
theorem first_core {q0 s0 s1 s2 s3 s4 s5 : List UInt8 × Bool} {a b : List UInt8} {sa : List UInt8 × Bool} {n0 n1 n2 n3 n4 : Int} {qC : List UInt8 × (List UInt8 × Bool)} (h0 : Bad q0) (hA : nameM q0 = (a,sa)) (hB : nameM sa = (b,s0)) (e0 : stepN s0 = (n0,s1)) (e1 : stepN s1 = (n1,s2)) (e2 : stepN s2 = (n2,s3)) (e3 : stepN s3 = (n3,s4)) (e4 : stepN s4 = (n4,s5)) (hC : takeM 48 s5.1 s5.2 = qC) :
  Bad (qC.1,qC.2.2) ∧ (st q0).bind firstS = (st qC.2).bind (fun r => (preC qC.1).bind fun p => endS ⟨a,b,n0,n1,n2,n3,n4,p⟩ r) := by
 have ba : Bad sa := by have := h0.name; rw [hA] at this; exact this
 have b0 : Bad s0 := by have := ba.name; rw [hB] at this; exact this
 have b1 : Bad s1 := by have := b0.step; rw [e0] at this; exact this
 have b2 : Bad s2 := by have := b1.step; rw [e1] at this; exact this
 have b3 : Bad s3 := by have := b2.step; rw [e2] at this; exact this
 have b4 : Bad s4 := by have := b3.step; rw [e3] at this; exact this
 have b5 : Bad s5 := by have := b4.step; rw [e4] at this; exact this
 refine ⟨fun e => ?_,?_⟩
 ·rw [← hC] at e ⊢
  exact (takeM_bad 48 _ _ b5 e).1
 ·unfold firstS
  rw [st_name h0,hA,st_name ba,hB,st_num b0,e0,st_num b1,e1,st_num b2,e2,st_num b3,e3,st_num b4,e4,st_list b5 preOf preC pre_list,hC]
def rfQ (req : List UInt8) : FQ := ⟨(rfA req).1,(rfB req).1,rfN req 0,rfN req 1,rfN req 2,rfN req 3,rfN req 4,if (rfC req).1 = [] then none else some (rfP req).1⟩
theorem nums_eq (s : List UInt8 × Bool) (k : Nat) : stepN (stN s k) = ((stepN (stN s k)).1,stN s (k + 1)) := rfl
theorem nums_zero (s : List UInt8 × Bool) : stepN s = ((stepN (stN s 0)).1,stN s 1) := rfl
theorem first_is (req : List UInt8) : firstOf req = (st (beginM req 10)).bind firstS := by
 rw [← st_begin req 10 firstR firstS firstS_eq]
 rfl
theorem first_same (req : List UInt8) : firstOf req = if rfOk req = true then some (rfQ req) else none := by
 have e0 := first_is req
 have bb := begin_Bad req 10
 have hA : nameM (beginM req 10) = rfA req := rfl
 have hB : nameM (rfA req).2 = rfB req := rfl
 have hN0 : stepN (rfB req).2 = (rfN req 0,stN (rfB req).2 1) := nums_zero _
 have hN1 : stepN (stN (rfB req).2 1) = (rfN req 1,stN (rfB req).2 2) := nums_eq _ 1
 have hN2 : stepN (stN (rfB req).2 2) = (rfN req 2,stN (rfB req).2 3) := nums_eq _ 2
 have hN3 : stepN (stN (rfB req).2 3) = (rfN req 3,stN (rfB req).2 4) := nums_eq _ 3
 have hN4 : stepN (stN (rfB req).2 4) = (rfN req 4,stN (rfB req).2 5) := nums_eq _ 4
 have hCC : takeM 48 (stN (rfB req).2 5).1 (stN (rfB req).2 5).2 = rfC req := rfl
 have hP : rfP req = if (rfC req).1 = [] then ((0,[]),((rfC req).1,(rfC req).2.2)) else sealedM ((rfC req).1,(rfC req).2.2) := rfl
 have hO : rfOk req = ((!(rfP req).2.2 && decide ((rfP req).2.1 = [])) && (!(rfC req).2.2 && decide ((rfC req).2.1 = []))) := rfl
 have hQ : rfQ req = ⟨(rfA req).1,(rfB req).1,rfN req 0,rfN req 1,rfN req 2,rfN req 3,rfN req 4,if (rfC req).1 = [] then none else some (rfP req).1⟩ := rfl
 generalize stN (rfB req).2 1 = s1 at *
 generalize stN (rfB req).2 2 = s2 at *
 generalize stN (rfB req).2 3 = s3 at *
 generalize stN (rfB req).2 4 = s4 at *
 generalize stN (rfB req).2 5 = s5 at *
 generalize rfN req 0 = n0 at *
 generalize rfN req 1 = n1 at *
 generalize rfN req 2 = n2 at *
 generalize rfN req 3 = n3 at *
 generalize rfN req 4 = n4 at *
 generalize rfQ req = Q at *
 generalize rfOk req = ok at *
 generalize rfP req = P at *
 generalize rfC req = C at *
 generalize rfB req = qB at *
 generalize rfA req = qA at *
 generalize beginM req 10 = q0 at *
 obtain ⟨a,sa⟩ := qA
 obtain ⟨b,s0⟩ := qB
 obtain ⟨hC,core⟩ := first_core bb hA hB hN0 hN1 hN2 hN3 hN4 hCC
 rw [e0,core,hO,hQ]
 clear core hA hB hN0 hN1 hN2 hN3 hN4 hCC e0 hO hQ
 by_cases hp : C.1 = []
 ·rw [if_pos hp] at hP ⊢
  have e1 : preC C.1 = some none := by rw [preC,if_pos hp]
  have e3 : ((!P.2.2 && decide (P.2.1 = [])) && (!C.2.2 && decide (C.2.1 = []))) = (!C.2.2 && decide (C.2.1 = [])) := by
   rw [hP]
   simp only [hp,decide_true,Bool.and_true]
   cases C.2.2 <;> simp
  rw [e1,e3,← st_end]
  rfl
 ·rw [if_neg hp] at hP ⊢
  have hf : C.2.2 = false := by
   cases h : C.2.2
   ·rfl
   ·exact absurd (hC h) hp
  have e1 : preC C.1 = if (!P.2.2 && decide (P.2.1 = [])) = true then some (some P.1) else none := by
   have e5 : sealedS C.1 = (st (C.1,C.2.2)).bind (nextS pNum fun n => nextS pText fun z => endS (n,z)) := by rw [hf]; rfl
   rw [preC,if_neg hp,e5,st_sealed hC (fun a => endS a),← hP,st_end]
   split <;> rfl
  rw [e1]
  cases hd : (!P.2.2 && decide (P.2.1 = []))
  ·simp only [Bool.false_and,Bool.false_eq_true,if_false]
   cases st C.2 <;> rfl
  ·simp only [Bool.true_and,if_true]
   rw [← st_end]
   rfl
end Go.Proofs.YtpijkgbafjccaaaGreatDoor
namespace Go.Proofs.YtpijkgbafjccaaaGreatDoor
open Go.RowKit
set_option maxRecDepth 100000
variable {w W W' : World} {ex : Nat → Nat → Prop} {S : Source} {g g' fb : Nat} {s s' : List UInt8 × Bool} {cs cs' : Array Value}
theorem RS.beside {ps : List (Nat × Nat)} (h : RS w W ex S g s fb cs) (h' : RS w W' ex S g' s' fb cs') (c : CF W W' (exN g' ps)) (hp : ∀ p ∈ ps,p.1 = fb) (hne : g ≠ g') : RS w W' ex S g s fb cs' := by
 refine ⟨h.rd.keep (c.block g h.rd.lt (fun o e => ?_)),h'.blk,h'.cf,h'.src,h.ng,h'.nf,h'.hf,h.hg,h.ne⟩
 rcases e with e | e
 ·exact hne e
 ·exact h.ne (hp _ e).symm
def set9 (W : World) (g : Nat) (c0 c1 c2 c3 c4 c5 c6 c7 c8 : Value) : World := (((((((((W.setCell ⟨g,0,none⟩ c0).setCell ⟨g,1,none⟩ c1).setCell ⟨g,2,none⟩ c2).setCell ⟨g,3,none⟩ c3).setCell ⟨g,4,none⟩ c4).setCell ⟨g,5,none⟩ c5).setCell ⟨g,6,none⟩ c6).setCell ⟨g,7,none⟩ c7).setCell ⟨g,8,none⟩ c8)
theorem Tryz.sizeNext : (Tryz.prog.info? 172).map (·.size) = some 9 := by kernel_rfl
theorem Blk.nine {w : World} {g : Nat} {c0 c1 c2 c3 c4 c5 c6 c7 c8 : Value} (h : Blk w g #[c0,c1,c2,c3,c4,c5,c6,c7,c8]) : w.cell? ⟨g,0,none⟩ = some c0 ∧ w.cell? ⟨g,1,none⟩ = some c1 ∧ w.cell? ⟨g,2,none⟩ = some c2 ∧ w.cell? ⟨g,3,none⟩ = some c3 ∧ w.cell? ⟨g,4,none⟩ = some c4 ∧ w.cell? ⟨g,5,none⟩ = some c5 ∧ w.cell? ⟨g,6,none⟩ = some c6 ∧ w.cell? ⟨g,7,none⟩ = some c7 ∧ w.cell? ⟨g,8,none⟩ = some c8 := ⟨h.cell 0,h.cell 1,h.cell 2,h.cell 3,h.cell 4,h.cell 5,h.cell 6,h.cell 7,h.cell 8⟩
theorem RS.set9 {x0 x1 x2 x3 x4 x5 x6 x7 x8 : Value} (h : RS w W ex S g s fb #[x0,x1,x2,x3,x4,x5,x6,x7,x8]) (c0 c1 c2 c3 c4 c5 c6 c7 c8 : Value) : RS w (set9 W fb c0 c1 c2 c3 c4 c5 c6 c7 c8) ex S g s fb #[c0,c1,c2,c3,c4,c5,c6,c7,c8] := by
 have h0 : RS w (W.setCell ⟨fb,0,none⟩ c0) ex S g s fb #[c0,x1,x2,x3,x4,x5,x6,x7,x8] := h.store 0 c0
 have h1 : RS w ((W.setCell ⟨fb,0,none⟩ c0).setCell ⟨fb,1,none⟩ c1) ex S g s fb #[c0,c1,x2,x3,x4,x5,x6,x7,x8] := h0.store 1 c1
 have h2 : RS w (((W.setCell ⟨fb,0,none⟩ c0).setCell ⟨fb,1,none⟩ c1).setCell ⟨fb,2,none⟩ c2) ex S g s fb #[c0,c1,c2,x3,x4,x5,x6,x7,x8] := h1.store 2 c2
 have h3 : RS w ((((W.setCell ⟨fb,0,none⟩ c0).setCell ⟨fb,1,none⟩ c1).setCell ⟨fb,2,none⟩ c2).setCell ⟨fb,3,none⟩ c3) ex S g s fb #[c0,c1,c2,c3,x4,x5,x6,x7,x8] := h2.store 3 c3
 have h4 : RS w (((((W.setCell ⟨fb,0,none⟩ c0).setCell ⟨fb,1,none⟩ c1).setCell ⟨fb,2,none⟩ c2).setCell ⟨fb,3,none⟩ c3).setCell ⟨fb,4,none⟩ c4) ex S g s fb #[c0,c1,c2,c3,c4,x5,x6,x7,x8] := h3.store 4 c4
 have h5 : RS w ((((((W.setCell ⟨fb,0,none⟩ c0).setCell ⟨fb,1,none⟩ c1).setCell ⟨fb,2,none⟩ c2).setCell ⟨fb,3,none⟩ c3).setCell ⟨fb,4,none⟩ c4).setCell ⟨fb,5,none⟩ c5) ex S g s fb #[c0,c1,c2,c3,c4,c5,x6,x7,x8] := h4.store 5 c5
 have h6 : RS w (((((((W.setCell ⟨fb,0,none⟩ c0).setCell ⟨fb,1,none⟩ c1).setCell ⟨fb,2,none⟩ c2).setCell ⟨fb,3,none⟩ c3).setCell ⟨fb,4,none⟩ c4).setCell ⟨fb,5,none⟩ c5).setCell ⟨fb,6,none⟩ c6) ex S g s fb #[c0,c1,c2,c3,c4,c5,c6,x7,x8] := h5.store 6 c6
 have h7 : RS w ((((((((W.setCell ⟨fb,0,none⟩ c0).setCell ⟨fb,1,none⟩ c1).setCell ⟨fb,2,none⟩ c2).setCell ⟨fb,3,none⟩ c3).setCell ⟨fb,4,none⟩ c4).setCell ⟨fb,5,none⟩ c5).setCell ⟨fb,6,none⟩ c6).setCell ⟨fb,7,none⟩ c7) ex S g s fb #[c0,c1,c2,c3,c4,c5,c6,c7,x8] := h6.store 7 c7
 have h8 : RS w (((((((((W.setCell ⟨fb,0,none⟩ c0).setCell ⟨fb,1,none⟩ c1).setCell ⟨fb,2,none⟩ c2).setCell ⟨fb,3,none⟩ c3).setCell ⟨fb,4,none⟩ c4).setCell ⟨fb,5,none⟩ c5).setCell ⟨fb,6,none⟩ c6).setCell ⟨fb,7,none⟩ c7).setCell ⟨fb,8,none⟩ c8) ex S g s fb #[c0,c1,c2,c3,c4,c5,c6,c7,c8] := h7.store 8 c8
 exact h8
theorem RS.load9 {c0 c1 c2 c3 c4 c5 c6 c7 c8 : Value} (h : RS w W ex S g s fb #[c0,c1,c2,c3,c4,c5,c6,c7,c8]) : (loadVar 172 ⟨fb,0,none⟩).run Tryz.prog W = .ok (.agg #[c0,c1,c2,c3,c4,c5,c6,c7,c8]) W := h.blk.load 172 _ Tryz.underlying172 rfl Tryz.sizeNext
def rnT (req : List UInt8) : List UInt8 × (List UInt8 × Bool) := takeM 48 (beginM req 12).1 (beginM req 12).2
def rnS (req : List UInt8) : List UInt8 × (List UInt8 × Bool) := nameM ((rnT req).1,(rnT req).2.2)
def rnZ (req : List UInt8) : (Int × List UInt8) × (List UInt8 × Bool) := sealedM (rnS req).2
def rnP (req : List UInt8) : List UInt8 × (List UInt8 × Bool) := takeM 4 (rnT req).2.1 (rnT req).2.2
def rnV (req : List UInt8) : List UInt8 × (List UInt8 × Bool) := nameM (rnP req).2
def rnN (req : List UInt8) (j : Nat) : Int := (stepN (stN (rnV req).2 j)).1
def rnOk (req : List UInt8) : Bool := (!(rnZ req).2.2 && decide ((rnZ req).2.1 = [])) && (!(stN (rnV req).2 4).2 && decide ((stN (rnV req).2 4).1 = []))
abbrev nextZ : Array Value := #[.string ⟨#[]⟩,.int .i64 0,.slice none 0 0,.slice none 0 0,.string ⟨#[]⟩,.int .i64 0,.int .i64 0,.int .i64 0,.int .i64 0]
def nextCs (req : List UInt8) (v u : Value) : List Value := [.string ⟨(rnS req).1.toArray⟩,.int .i64 (rnZ req).1.1,v,u,.string ⟨(rnV req).1.toArray⟩,.int .i64 (rnN req 0),.int .i64 (rnN req 1),.int .i64 (rnN req 2),.int .i64 (rnN req 3)]
set_option maxHeartbeats 2000000 in
theorem readNext_any (S : Source) (req : List UInt8) (n : Nat) (ao : Option Addr) (cap : Nat) (w : World) (hn : Hid (req.length = n)) (hs : At w S.1 S.2) (h : Bs S (.slice ao n cap) req) :
  Calls Tryz.prog 69 #[.slice ao n cap] w fun e w' => ∃ cs,e = .returned (.tuple #[.agg cs,.bool (rnOk req)]) ∧ (rnOk req = true → ∃ v u,cs = (nextCs req v u).toArray ∧ Bs S v (rnZ req).1.2 ∧ Bs S u (rnP req).1) ∧ (cs.size = 9 ∧ cs.toList.all (·.oneCell') = true) ∧ w.grownBy w' none := by
 have G0 := World.grownBy_alloc w (.cells nextZ 172) none
 have s0 : (w.alloc (.cells nextZ 172)).heap.size = w.heap.size + 1 := World.size_alloc _ _
 have HL := hid (begin_any S req n ao cap 12 _ hn (hs.below G0) h)
 have HB0 := hid (And.intro (Blk.new w nextZ 172) G0)
 have HS0 := hid hs
 have hbad := beginM_bad req 12
 obtain ⟨q0,h0⟩ : ∃ q,beginM req 12 = q := ⟨_,rfl⟩
 obtain ⟨qT,hT⟩ : ∃ q,takeM 48 q0.1 q0.2 = q := ⟨_,rfl⟩
 obtain ⟨qS,hS⟩ : ∃ q,nameM (qT.1,qT.2.2) = q := ⟨_,rfl⟩
 obtain ⟨qZ,hZ⟩ : ∃ q,sealedM qS.2 = q := ⟨_,rfl⟩
 obtain ⟨qP,hP⟩ : ∃ q,takeM 4 qT.2.1 qT.2.2 = q := ⟨_,rfl⟩
 obtain ⟨qV,hV⟩ : ∃ q,nameM qP.2 = q := ⟨_,rfl⟩
 obtain ⟨N,hN⟩ : ∃ N : Nat → Int,∀ j,(stepN (stN qV.2 j)).1 = N j := ⟨_,fun _ => rfl⟩
 obtain ⟨qE,hE⟩ : ∃ q,stN qV.2 4 = q := ⟨_,rfl⟩
 have HRT : Hid (rnT req = qT) := by show _ = _; rw [rnT,h0,hT]
 have HRS : Hid (rnS req = qS) := by show _ = _; rw [rnS,HRT.out,hS]
 have HRZ : Hid (rnZ req = qZ) := by show _ = _; rw [rnZ,HRS.out,hZ]
 have HRP : Hid (rnP req = qP) := by show _ = _; rw [rnP,HRT.out,hP]
 have HRV : Hid (rnV req = qV) := by show _ = _; rw [rnV,HRP.out,hV]
 have HRN : Hid (∀ j,rnN req j = N j) := fun j => by rw [rnN,HRV.out,hN]
 have HOK : Hid (rnOk req = ((!qZ.2.2 && decide (qZ.2.1 = [])) && (!qE.2 && decide (qE.1 = [])))) := by show _ = _; rw [rnOk,HRZ.out,HRV.out,hE]
 have HQ := hid (And.intro hT (And.intro hS (And.intro hZ (And.intro hP (And.intro hV (And.intro hN hE))))))
 rw [h0] at HL hbad
 clear hs h G0 h0 hT hS hZ hP hV hN hE hn
 go_enter Tryz.func69,Tryz.ntmps69
 go_wp2_with fail
 refine HL.out.mono ?_
 rintro e w1 ⟨v,rfl,b1,g1⟩
 obtain ⟨a1,c1,rfl,_⟩ := id b1
 have rs1 : RS w (w1.alloc (.cells #[.slice a1 q0.1.length c1,.bool q0.2] 197)) (fun _ _ => False) S w1.heap.size q0 w.heap.size nextZ := by
  have z := g1.size
  have hs1 := (HS0.out.below HB0.out.2).below g1
  exact ⟨Rd.new (w := w1) b1 hbad _,(HB0.out.1.grown g1 (by simp)).alloc _,CF.of_gb (gb_alloc (gb_trans HB0.out.2 g1) _) _,hs1.below (World.grownBy_alloc _ _ none),NotAt.new hs1 (Nat.le_refl _),NotAt.new HS0.out (Nat.le_refl _),Nat.le_refl _,by omega,by omega⟩
 have HT1 := hid (list_any S w1.heap.size q0.1 q0.2 _ rs1.src rs1.rd)
 have HbT := hid (takeM_bad 48 q0.1 q0.2 hbad)
 rw [HQ.out.1] at HT1 HbT
 have H1 := hid rs1
 clear b1 g1 HB0 HL rs1 hbad s0
 go_wp2_with fail
 refine HT1.out.mono ?_
 rintro e w2 ⟨v2,rfl,b2,r2,f2⟩
 obtain ⟨aT,cT,rfl,_⟩ := id b2
 have rs2 : RS w w2 (fun _ _ => False) S w1.heap.size qT.2 w.heap.size nextZ := H1.out.read f2 r2
 have z2 := rs2.size
 have rp2 := Rd.new (w := w2) b2 (fun e => (HbT.out e).1) 197
 have HNt := hid (NotAt.new rs2.src (Nat.le_refl w2.heap.size))
 have rs2a := rs2.alloc (.cells #[.slice aT qT.1.length cT,.bool qT.2.2] 197)
 have rt2 : RS w (w2.alloc (.cells #[.slice aT qT.1.length cT,.bool qT.2.2] 197)) (fun _ _ => False) S w2.heap.size (qT.1,qT.2.2) w.heap.size nextZ := ⟨rp2,rs2a.blk,rs2a.cf,rs2a.src,HNt.out,rs2a.nf,Nat.le_refl _,by omega,by omega⟩
 have HT2 := hid (takeName_s S w2.heap.size (qT.1,qT.2.2) _ rt2.src rt2.ng rt2.rd)
 rw [HQ.out.2.1] at HT2
 have H2 := hid (And.intro rs2a rt2)
 have zz : w.heap.size < w2.heap.size ∧ w1.heap.size < w2.heap.size := by omega
 clear b2 r2 f2 HT1 H1 HbT rs2 rs2a rt2 rp2 z2
 go_wp2_with fail
 refine HT2.out.mono ?_
 rintro e w4 ⟨rfl,r4,f4⟩
 have ri4 := H2.out.1.other f4 HNt.out (by omega) (by omega) (by omega)
 have rt4 : RS w w4 (fun _ _ => False) S w2.heap.size qS.2 w.heap.size nextZ := H2.out.2.read f4 r4
 obtain ⟨⟨d4,hd4⟩,hz4⟩ := ri4.slot 0 (by show 0 < 9; decide)
 have ri5 : RS w (w4.setCell ⟨w.heap.size,0,none⟩ (.string ⟨qS.1.toArray⟩)) (fun _ _ => False) S w1.heap.size qT.2 w.heap.size #[.string ⟨qS.1.toArray⟩,.int .i64 0,.slice none 0 0,.slice none 0 0,.string ⟨#[]⟩,.int .i64 0,.int .i64 0,.int .i64 0,.int .i64 0] := ri4.store 0 _
 have rt5 : RS w (w4.setCell ⟨w.heap.size,0,none⟩ (.string ⟨qS.1.toArray⟩)) (fun _ _ => False) S w2.heap.size qS.2 w.heap.size #[.string ⟨qS.1.toArray⟩,.int .i64 0,.slice none 0 0,.slice none 0 0,.string ⟨#[]⟩,.int .i64 0,.int .i64 0,.int .i64 0,.int .i64 0] := rt4.store 0 _
 have HT3 := hid (takeSealed_s S w2.heap.size qS.2 _ rt5.src rt5.ng rt5.rd)
 rw [HQ.out.2.2.1] at HT3
 have H3 := hid (And.intro ri5 rt5)
 clear r4 f4 HT2 H2 ri4 rt4 ri5 rt5
 go_wp2_with fail
 refine HT3.out.mono ?_
 rintro e w5 ⟨v5,rfl,b5,r5,f5⟩
 obtain ⟨aZ,cZ,rfl,_⟩ := id b5
 have ri5 := H3.out.1.other f5 HNt.out (by omega) (by omega) (by omega)
 have rt5 : RS w w5 (fun _ _ => False) S w2.heap.size qZ.2 w.heap.size #[.string ⟨qS.1.toArray⟩,.int .i64 0,.slice none 0 0,.slice none 0 0,.string ⟨#[]⟩,.int .i64 0,.int .i64 0,.int .i64 0,.int .i64 0] := H3.out.2.read f5 r5
 obtain ⟨⟨d5,hd5⟩,hz5⟩ := ri5.slot 1 (by show 1 < 9; decide)
 obtain ⟨⟨d5',hd5'⟩,hz5'⟩ := ri5.slot 2 (by show 2 < 9; decide)
 have ri6 : RS w ((w5.setCell ⟨w.heap.size,1,none⟩ (.int .i64 qZ.1.1)).setCell ⟨w.heap.size,2,none⟩ (.slice aZ qZ.1.2.length cZ)) (fun _ _ => False) S w1.heap.size qT.2 w.heap.size #[.string ⟨qS.1.toArray⟩,.int .i64 qZ.1.1,.slice aZ qZ.1.2.length cZ,.slice none 0 0,.string ⟨#[]⟩,.int .i64 0,.int .i64 0,.int .i64 0,.int .i64 0] := (ri5.store 1 _).store 2 _
 have rt6 : RS w ((w5.setCell ⟨w.heap.size,1,none⟩ (.int .i64 qZ.1.1)).setCell ⟨w.heap.size,2,none⟩ (.slice aZ qZ.1.2.length cZ)) (fun _ _ => False) S w2.heap.size qZ.2 w.heap.size #[.string ⟨qS.1.toArray⟩,.int .i64 qZ.1.1,.slice aZ qZ.1.2.length cZ,.slice none 0 0,.string ⟨#[]⟩,.int .i64 0,.int .i64 0,.int .i64 0,.int .i64 0] := (rt5.store 1 _).store 2 _
 have HBZ := hid b5
 have HT4 := hid (text_any S w1.heap.size qT.2.1 qT.2.2 _ ri6.src ri6.rd)
 rw [HQ.out.2.2.2.1] at HT4
 have H4 := hid (And.intro ri6 rt6)
 clear r5 f5 b5 HT3 H3 ri5 rt5 ri6 rt6 hd4 hz4
 go_wp2_with fail
 refine HT4.out.mono ?_
 rintro e w6 ⟨v6,rfl,b6,r6,f6⟩
 obtain ⟨aP,cP,rfl,_⟩ := id b6
 have ri6 : RS w w6 (fun _ _ => False) S w1.heap.size qP.2 w.heap.size #[.string ⟨qS.1.toArray⟩,.int .i64 qZ.1.1,.slice aZ qZ.1.2.length cZ,.slice none 0 0,.string ⟨#[]⟩,.int .i64 0,.int .i64 0,.int .i64 0,.int .i64 0] := H4.out.1.read f6 r6
 have rt6 := H4.out.2.other f6 H4.out.1.ng (by omega) (fun e => H4.out.1.ne e.symm) H4.out.1.hg
 obtain ⟨⟨d6,hd6⟩,hz6⟩ := ri6.slot 3 (by show 3 < 9; decide)
 have ri7 : RS w (w6.setCell ⟨w.heap.size,3,none⟩ (.slice aP qP.1.length cP)) (fun _ _ => False) S w1.heap.size qP.2 w.heap.size #[.string ⟨qS.1.toArray⟩,.int .i64 qZ.1.1,.slice aZ qZ.1.2.length cZ,.slice aP qP.1.length cP,.string ⟨#[]⟩,.int .i64 0,.int .i64 0,.int .i64 0,.int .i64 0] := ri6.store 3 _
 have rt7 : RS w (w6.setCell ⟨w.heap.size,3,none⟩ (.slice aP qP.1.length cP)) (fun _ _ => False) S w2.heap.size qZ.2 w.heap.size #[.string ⟨qS.1.toArray⟩,.int .i64 qZ.1.1,.slice aZ qZ.1.2.length cZ,.slice aP qP.1.length cP,.string ⟨#[]⟩,.int .i64 0,.int .i64 0,.int .i64 0,.int .i64 0] := rt6.store 3 _
 have HBP := hid b6
 have HT5 := hid (takeName_s S w1.heap.size qP.2 _ ri7.src ri7.ng ri7.rd)
 rw [HQ.out.2.2.2.2.1] at HT5
 have H5 := hid (And.intro ri7 rt7)
 clear r6 f6 b6 HT4 H4 ri6 rt6 ri7 rt7 hd5 hz5 hd5' hz5'
 go_wp2_with fail
 refine HT5.out.mono ?_
 rintro e w7 ⟨rfl,r7,f7⟩
 have ri7 : RS w w7 (fun _ _ => False) S w1.heap.size qV.2 w.heap.size #[.string ⟨qS.1.toArray⟩,.int .i64 qZ.1.1,.slice aZ qZ.1.2.length cZ,.slice aP qP.1.length cP,.string ⟨#[]⟩,.int .i64 0,.int .i64 0,.int .i64 0,.int .i64 0] := H5.out.1.read f7 r7
 have rt7 := H5.out.2.other f7 H5.out.1.ng (by omega) (fun e => H5.out.1.ne e.symm) H5.out.1.hg
 obtain ⟨⟨d7,hd7⟩,hz7⟩ := ri7.slot 4 (by show 4 < 9; decide)
 have ri8 : RS w (w7.setCell ⟨w.heap.size,4,none⟩ (.string ⟨qV.1.toArray⟩)) (fun _ _ => False) S w1.heap.size qV.2 w.heap.size #[.string ⟨qS.1.toArray⟩,.int .i64 qZ.1.1,.slice aZ qZ.1.2.length cZ,.slice aP qP.1.length cP,.string ⟨qV.1.toArray⟩,.int .i64 0,.int .i64 0,.int .i64 0,.int .i64 0] := ri7.store 4 _
 have rt8 : RS w (w7.setCell ⟨w.heap.size,4,none⟩ (.string ⟨qV.1.toArray⟩)) (fun _ _ => False) S w2.heap.size qZ.2 w.heap.size #[.string ⟨qS.1.toArray⟩,.int .i64 qZ.1.1,.slice aZ qZ.1.2.length cZ,.slice aP qP.1.length cP,.string ⟨qV.1.toArray⟩,.int .i64 0,.int .i64 0,.int .i64 0,.int .i64 0] := rt7.store 4 _
 have HB7 := hid (And.intro HBZ.out HBP.out)
 have pl := ri8.places [5,6,7,8] (fun j hj => by show j < 9; simp at hj; omega) (by decide) 202
 rw [World.size_setCell] at pl
 have ri8a := ri8.alloc (.cells #[.pointer (some ⟨w.heap.size,5,none⟩),.pointer (some ⟨w.heap.size,6,none⟩),.pointer (some ⟨w.heap.size,7,none⟩),.pointer (some ⟨w.heap.size,8,none⟩)] 202)
 have rt8a := rt8.alloc (.cells #[.pointer (some ⟨w.heap.size,5,none⟩),.pointer (some ⟨w.heap.size,6,none⟩),.pointer (some ⟨w.heap.size,7,none⟩),.pointer (some ⟨w.heap.size,8,none⟩)] 202)
 have HT6 := hid (takeNumbers_s S w1.heap.size w7.heap.size _ 4 qV.2 _ (hid rfl) (by omega) (ri8a.stays [5,6,7,8]) ri8a.rd pl)
 simp only [HQ.out.2.2.2.2.2.1] at HT6
 rw [HQ.out.2.2.2.2.2.2] at HT6
 have H6 := hid (And.intro ri8a rt8a)
 clear r7 f7 ri7 rt7 ri8 rt8 HT5 H5 pl ri8a rt8a hd6 hz6 HBZ HBP
 go_wp2_with fail
 refine HT6.out.mono ?_
 rintro e w8 ⟨rfl,r8,c8,f8⟩
 have hps : ∀ p ∈ ([5,6,7,8].map fun j => (w.heap.size,j)),p.1 = w.heap.size := fun p hp => by
  obtain ⟨j,_,rfl⟩ := List.mem_map.1 hp
  rfl
 have ri9 : RS w w8 (fun _ _ => False) S w1.heap.size qE w.heap.size #[.string ⟨qS.1.toArray⟩,.int .i64 qZ.1.1,.slice aZ qZ.1.2.length cZ,.slice aP qP.1.length cP,.string ⟨qV.1.toArray⟩,.int .i64 (N 0),.int .i64 (N 1),.int .i64 (N 2),.int .i64 (N 3)] := by
  refine H6.out.1.nums f8 r8 hps rfl (fun j hj => ?_)
  ·have hj' : j < 9 := hj
   match j,hj' with
   | 0,_ => exact f8.cell (H6.out.1.blk.cell 0) (fun e => by rcases e with e | e; exact H6.out.1.ne e; simp at e)
   | 1,_ => exact f8.cell (H6.out.1.blk.cell 1) (fun e => by rcases e with e | e; exact H6.out.1.ne e; simp at e)
   | 2,_ => exact f8.cell (H6.out.1.blk.cell 2) (fun e => by rcases e with e | e; exact H6.out.1.ne e; simp at e)
   | 3,_ => exact f8.cell (H6.out.1.blk.cell 3) (fun e => by rcases e with e | e; exact H6.out.1.ne e; simp at e)
   | 4,_ => exact f8.cell (H6.out.1.blk.cell 4) (fun e => by rcases e with e | e; exact H6.out.1.ne e; simp at e)
   | 5,_ => exact c8 0 (w.heap.size,5) rfl
   | 6,_ => exact c8 1 (w.heap.size,6) rfl
   | 7,_ => exact c8 2 (w.heap.size,7) rfl
   | 8,_ => exact c8 3 (w.heap.size,8) rfl
 have rt9 := H6.out.2.beside ri9 f8 hps (by omega)
 have HB8 := hid HB7.out
 have HT := hid (And.intro ri9 rt9)
 clear r8 c8 f8 ri9 rt9 hps HT6 H6 HB7 HQ hd7 hz7
 obtain ⟨y0,y1,y2,y3,y4,y5,y6,y7,y8⟩ := HT.out.1.blk.nine
 have zz0 := (HT.out.1.slot 0 (by show 0 < 9; decide)).2
 have zz1 := (HT.out.1.slot 1 (by show 1 < 9; decide)).2
 have zz2 := (HT.out.1.slot 2 (by show 2 < 9; decide)).2
 have zz3 := (HT.out.1.slot 3 (by show 3 < 9; decide)).2
 have zz4 := (HT.out.1.slot 4 (by show 4 < 9; decide)).2
 have zz5 := (HT.out.1.slot 5 (by show 5 < 9; decide)).2
 have zz6 := (HT.out.1.slot 6 (by show 6 < 9; decide)).2
 have zz7 := (HT.out.1.slot 7 (by show 7 < 9; decide)).2
 have zz8 := (HT.out.1.slot 8 (by show 8 < 9; decide)).2
 have HD1 := hid (done_any S w2.heap.size _ _ _ HT.out.2.rd)
 have HD2 := hid (done_any S w1.heap.size _ _ _ HT.out.1.rd)
 have HZ := hid (HT.out.1.set9 (.string ⟨#[]⟩) (.int .i64 0) (.slice none 0 0) (.slice none 0 0) (.string ⟨#[]⟩) (.int .i64 0) (.int .i64 0) (.int .i64 0) (.int .i64 0))
 have HY := hid (HT.out.1.set9 (.string ⟨qS.1.toArray⟩) (.int .i64 qZ.1.1) (.slice aZ qZ.1.2.length cZ) (.slice aP qP.1.length cP) (.string ⟨qV.1.toArray⟩) (.int .i64 (N 0)) (.int .i64 (N 1)) (.int .i64 (N 2)) (.int .i64 (N 3)))
 unfold set9 at HZ HY
 cases hq1 : (!qZ.2.2 && decide (qZ.2.1 = []))
 ·have HOk : Hid (rnOk req = false) := by show _ = _; rw [HOK.out,hq1]; rfl
  rw [hq1] at HD1
  go_wp2_with fail
  refine HD1.out.mono ?_
  rintro e w9 ⟨rfl,rfl⟩
  clear HD1 HD2 HY hq1
  go_wp2
  refine bodyPost_ret (results_celltmp Tryz.results69 _ _ _ w.heap.size rfl _ HZ.out.load9) rfl ⟨_,by rw [HOk.out]; rfl,fun e => (by rw [HOk.out] at e; cases e),⟨rfl,rfl⟩,HZ.out.cf.gb (fun _ _ _ e => e)⟩
 ·rw [hq1] at HD1
  cases hq2 : (!qE.2 && decide (qE.1 = []))
  ·have HOk : Hid (rnOk req = false) := by show _ = _; rw [HOK.out,hq1,hq2]; rfl
   rw [hq2] at HD2
   go_wp2_with fail
   refine HD1.out.mono ?_
   rintro e w9 ⟨rfl,rfl⟩
   go_wp2_with fail
   refine HD2.out.mono ?_
   rintro e w9 ⟨rfl,rfl⟩
   clear HD1 HD2 HY hq1 hq2
   go_wp2
   refine bodyPost_ret (results_celltmp Tryz.results69 _ _ _ w.heap.size rfl _ HZ.out.load9) rfl ⟨_,by rw [HOk.out]; rfl,fun e => (by rw [HOk.out] at e; cases e),⟨rfl,rfl⟩,HZ.out.cf.gb (fun _ _ _ e => e)⟩
  ·have HOk : Hid (rnOk req = true) := by show _ = _; rw [HOK.out,hq1,hq2]; rfl
   rw [hq2] at HD2
   go_wp2_with fail
   refine HD1.out.mono ?_
   rintro e w9 ⟨rfl,rfl⟩
   go_wp2_with fail
   refine HD2.out.mono ?_
   rintro e w9 ⟨rfl,rfl⟩
   clear HD1 HD2 HZ hq1 hq2
   go_wp2
   refine bodyPost_ret (results_celltmp Tryz.results69 _ _ _ w.heap.size rfl _ HY.out.load9) rfl ⟨_,by rw [HOk.out]; rfl,fun _ => ?_,⟨rfl,rfl⟩,HY.out.cf.gb (fun _ _ _ e => e)⟩
   refine ⟨_,_,by rw [nextCs,HRS.out,HRZ.out,HRV.out,HRN.out,HRN.out,HRN.out,HRN.out],?_,?_⟩
   ·rw [HRZ.out]; exact HB8.out.1
   ·rw [HRP.out]; exact HB8.out.2
end Go.Proofs.YtpijkgbafjccaaaGreatDoor
namespace Go.Proofs.YtpijkgbafjccaaaGreatDoor
open Go.RowKit
set_option maxRecDepth 100000
def nextR : List Pie → Option NQ := nextP pTicket fun c => nextP pText fun p => nextP pName fun s => nextP pNum fun n => nextP pNum fun t => nextP pNum fun r => nextP pNum fun o => endP ⟨c.1,c.2.1,c.2.2,p,s,n,t,r,o⟩
def nextT : List UInt8 → Option NQ := nextS pTicket fun c => nextS pText fun p => nextS pName fun s => nextS pNum fun n => nextS pNum fun t => nextS pNum fun r => nextS pNum fun o => endS ⟨c.1,c.2.1,c.2.2,p,s,n,t,r,o⟩
theorem nextT_eq (l : List UInt8) : nextT l = (Box.cutsL l).bind nextR :=
 nextS_eq _ _ _ (fun c l => nextS_eq _ _ _ (fun p l => nextS_eq _ _ _ (fun s l => nextS_eq _ _ _ (fun n l => nextS_eq _ _ _ (fun t l => nextS_eq _ _ _ (fun r l => nextS_eq _ _ _ (fun o l => endS_eq (⟨c.1,c.2.1,c.2.2,p,s,n,t,r,o⟩ : NQ) l) l) l) l) l) l) l) l
def ticketS : List UInt8 → Option (List UInt8 × Int × List UInt8) := nextS pName fun s => nextS pNum fun n => nextS pText fun z => endS (s,n,z)
theorem ticketS_eq (l : List UInt8) : ticketS l = (Box.cutsL l).bind ticketP :=
 nextS_eq _ _ _ (fun s l => nextS_eq _ _ _ (fun n l => nextS_eq _ _ _ (fun z l => endS_eq (s,n,z) l) l) l) l
theorem ticket_list (t : UInt8) (i : List UInt8) : pTicket (t,i) = if t.toNat = 48 then ticketS i else none := by
 unfold pTicket pList
 by_cases e : t.toNat = 48
 ·simp only [e,if_true]; exact (ticketS_eq i).symm
 ·simp only [e,if_false]; rfl
def rnQ (req : List UInt8) : NQ := ⟨(rnS req).1,(rnZ req).1.1,(rnZ req).1.2,(rnP req).1,(rnV req).1,rnN req 0,rnN req 1,rnN req 2,rnN req 3⟩
theorem bind_swap {α β γ : Type} (x : Option α) (y : Option β) (f : β → α → Option γ) : x.bind (fun a => y.bind fun b => f b a) = y.bind fun b => x.bind (f b) := by cases x <;> cases y <;> rfl
theorem next_core {q0 sp s0 s1 s2 s3 s4 t1 : List UInt8 × Bool} {qT : List UInt8 × (List UInt8 × Bool)} {a : List UInt8} {qZ : (Int × List UInt8) × (List UInt8 × Bool)} {p v : List UInt8} {n0 n1 n2 n3 : Int} (h0 : Bad q0) (hT : takeM 48 q0.1 q0.2 = qT) (hS : nameM (qT.1,qT.2.2) = (a,t1)) (hZ : sealedM t1 = qZ) (hP : takeM 4 qT.2.1 qT.2.2 = (p,sp)) (hV : nameM sp = (v,s0)) (e0 : stepN s0 = (n0,s1)) (e1 : stepN s1 = (n1,s2)) (e2 : stepN s2 = (n2,s3)) (e3 : stepN s3 = (n3,s4)) :
  (st q0).bind nextT = if ((!qZ.2.2 && decide (qZ.2.1 = [])) && (!s4.2 && decide (s4.1 = []))) = true then some ⟨a,qZ.1.1,qZ.1.2,p,v,n0,n1,n2,n3⟩ else none := by
 have bT : Bad (qT.1,qT.2.2) := fun e => by rw [← hT] at e ⊢; exact (takeM_bad 48 _ _ h0 e).1
 have bT2 : Bad qT.2 := by have := h0.take 48; rw [hT] at this; exact this
 have b1 : Bad t1 := by have := bT.name; rw [hS] at this; exact this
 have bp : Bad sp := by have := bT2.take 4; rw [hP] at this; exact this
 have c0 : Bad s0 := by have := bp.name; rw [hV] at this; exact this
 have c1 : Bad s1 := by have := c0.step; rw [e0] at this; exact this
 have c2 : Bad s2 := by have := c1.step; rw [e1] at this; exact this
 have c3 : Bad s3 := by have := c2.step; rw [e2] at this; exact this
 have hin : ∀ c : List UInt8 × Int × List UInt8,(st qT.2).bind (nextS pText fun p => nextS pName fun s => nextS pNum fun n => nextS pNum fun t => nextS pNum fun r => nextS pNum fun o => endS (⟨c.1,c.2.1,c.2.2,p,s,n,t,r,o⟩ : NQ)) = if (!s4.2 && decide (s4.1 = [])) = true then some ⟨c.1,c.2.1,c.2.2,p,v,n0,n1,n2,n3⟩ else none := by
  intro c
  rw [st_text bT2,hP,st_name bp,hV,st_num c0,e0,st_num c1,e1,st_num c2,e2,st_num c3,e3,st_end]
 have htk : (st (qT.1,qT.2.2)).bind ticketS = if (!qZ.2.2 && decide (qZ.2.1 = [])) = true then some (a,qZ.1.1,qZ.1.2) else none := by
  unfold ticketS
  rw [st_name bT,hS,st_sealed b1 (fun c => endS (a,c.1,c.2)),hZ,st_end]
 unfold nextT
 rw [st_list h0 pTicket ticketS ticket_list,hT,bind_swap]
 cases hf : qT.2.2
 ·have e5 : ticketS qT.1 = (st (qT.1,qT.2.2)).bind ticketS := by rw [hf]; rfl
  rw [e5,htk]
  cases hd : (!qZ.2.2 && decide (qZ.2.1 = []))
  ·simp only [Bool.false_and,Bool.false_eq_true,if_false]; rfl
  ·simp only [Bool.true_and,if_true]
   exact hin (a,qZ.1.1,qZ.1.2)
 ·have e5 : (st (qT.1,qT.2.2)) = none := by rw [hf]; rfl
  rw [e5] at htk
  have hd : (!qZ.2.2 && decide (qZ.2.1 = [])) = false := by
   cases hd : (!qZ.2.2 && decide (qZ.2.1 = []))
   ·rfl
   ·rw [hd] at htk; simp at htk
  rw [hd]
  have e6 : st qT.2 = none := by rw [st,if_pos hf]
  rw [e6]
  simp only [Bool.false_and,Bool.false_eq_true,if_false]
  cases ticketS qT.1 <;> rfl
theorem next_is (req : List UInt8) : nextOf req = (st (beginM req 12)).bind nextT := by
 rw [← st_begin req 12 nextR nextT nextT_eq]
 rfl
theorem next_same (req : List UInt8) : nextOf req = if rnOk req = true then some (rnQ req) else none := by
 have e0 := next_is req
 have bb := begin_Bad req 12
 have hT : takeM 48 (beginM req 12).1 (beginM req 12).2 = rnT req := rfl
 have hS : nameM ((rnT req).1,(rnT req).2.2) = rnS req := rfl
 have hZ : sealedM (rnS req).2 = rnZ req := rfl
 have hP : takeM 4 (rnT req).2.1 (rnT req).2.2 = rnP req := rfl
 have hV : nameM (rnP req).2 = rnV req := rfl
 have hN0 : stepN (rnV req).2 = (rnN req 0,stN (rnV req).2 1) := nums_zero _
 have hN1 : stepN (stN (rnV req).2 1) = (rnN req 1,stN (rnV req).2 2) := nums_eq _ 1
 have hN2 : stepN (stN (rnV req).2 2) = (rnN req 2,stN (rnV req).2 3) := nums_eq _ 2
 have hN3 : stepN (stN (rnV req).2 3) = (rnN req 3,stN (rnV req).2 4) := nums_eq _ 3
 have hO : rnOk req = ((!(rnZ req).2.2 && decide ((rnZ req).2.1 = [])) && (!(stN (rnV req).2 4).2 && decide ((stN (rnV req).2 4).1 = []))) := rfl
 have hQ : rnQ req = ⟨(rnS req).1,(rnZ req).1.1,(rnZ req).1.2,(rnP req).1,(rnV req).1,rnN req 0,rnN req 1,rnN req 2,rnN req 3⟩ := rfl
 generalize stN (rnV req).2 1 = s1 at *
 generalize stN (rnV req).2 2 = s2 at *
 generalize stN (rnV req).2 3 = s3 at *
 generalize stN (rnV req).2 4 = s4 at *
 generalize rnN req 0 = n0 at *
 generalize rnN req 1 = n1 at *
 generalize rnN req 2 = n2 at *
 generalize rnN req 3 = n3 at *
 generalize rnQ req = Q at *
 generalize rnOk req = ok at *
 generalize rnV req = qV at *
 generalize rnP req = qP at *
 generalize rnZ req = qZ at *
 generalize rnS req = qS at *
 generalize rnT req = qT at *
 generalize beginM req 12 = q0 at *
 obtain ⟨a,t1⟩ := qS
 obtain ⟨p,sp⟩ := qP
 obtain ⟨v,s0⟩ := qV
 rw [e0,next_core bb hT hS hZ hP hV hN0 hN1 hN2 hN3,hO,hQ]
end Go.Proofs.YtpijkgbafjccaaaGreatDoor
