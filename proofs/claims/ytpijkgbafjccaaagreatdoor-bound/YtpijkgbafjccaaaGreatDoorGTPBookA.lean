/-
  
  
-/
import Derived.Test.YtpijkgbafjccaaaGreatDoorGTPNames
import Derived.Test.YtpijkgbafjccaaaGreatDoorGTMem
import Derived.Test.YtpijkgbafjccaaaGreatDoorGTShelf
import Derived.Test.YtpijkgbafjccaaaGreatDoorGTIns
import Derived.Deep.RegionWith
import Derived.Deep.QuietTactic
import Derived.BigQuiet
namespace Go.Proofs.YtpijkgbafjccaaaGreatDoor
open Go.RowKit
set_option maxRecDepth 100000
def BE.pcells (e : BE) : List Value := [.string ⟨e.name.toArray⟩,.int .i64 e.number,.int .u64 (e.key.toNat : Int),.int .u64 (e.before.toNat : Int),.int .i64 e.life,.int .i64 e.renew,.int .i64 e.expire,.int .i64 e.flags]
def beCells (l : List BE) : List Value := (l.map BE.pcells).flatten
theorem beCells_length (l : List BE) : (beCells l).length = l.length * 8 := by
 induction l with
 | nil => rfl
 | cons x l ih => simp only [beCells,List.map_cons,List.flatten_cons,List.length_append,List.length_cons] at *; rw [ih]; show 8 + _ = _; omega
theorem beCells_append (a b : List BE) : beCells (a ++ b) = beCells a ++ beCells b := by simp [beCells]
theorem beCells_get (l : List BE) : ∀ (k j : Nat) (hk : k < l.length),j < 8 → (beCells l)[k * 8 + j]? = (l[k]).pcells[j]? := by
 induction l with
 | nil => intro k j hk; simp at hk
 | cons x l ih =>
  intro k j hk hj
  have e : beCells (x :: l) = x.pcells ++ beCells l := by simp [beCells]
  rw [e]
  cases k with
  | zero => rw [Nat.zero_mul,Nat.zero_add,List.getElem?_append_left (by show j < 8; exact hj)]; rfl
  | succ k =>
   rw [List.getElem?_append_right (by show 8 ≤ (k + 1) * 8 + j; omega),show (k + 1) * 8 + j - x.pcells.length = k * 8 + j from by show (k + 1) * 8 + j - 8 = k * 8 + j; omega]
   exact ih k j (by simpa using hk) hj
structure BookAt (w : World) (g o : Nat) (es : List BE) : Prop where
 live : Live w g (o + 161)
 room : w.rangeAt g o (beCells es)
 count : w.cell? ⟨g,o + 160,none⟩ = some (.int .i64 es.length)
 len : es.length ≤ 20
theorem BookAt.cf {w w' : World} {ex : Nat → Nat → Prop} {g o : Nat} {es : List BE} (h : BookAt w g o es) (k : CF w w' ex) (hx : ∀ j,o ≤ j → j < o + 161 → ¬ ex g j) : BookAt w' g o es :=
 ⟨h.live.cf k,k.range h.room (fun j hj => hx _ (by omega) (by have := h.len; rw [beCells_length] at hj; omega)),k.cell h.count (hx _ (by omega) (by omega)),h.len⟩
theorem BookAt.grown {w w' : World} {g o : Nat} {es : List BE} (h : BookAt w g o es) (k : w.grownBy w' none) : BookAt w' g o es := h.cf (CF.of_gb k (fun _ _ => False)) (fun _ _ _ e => e)
theorem BookAt.drewN {w : World} {g o : Nat} {es : List BE} (h : BookAt w g o es) (n : Nat) : BookAt (w.drewN n) g o es := h.grown (gb_drewN (World.grownBy.refl w none) n)
theorem BookAt.entry {w : World} {g o : Nat} {es : List BE} (h : BookAt w g o es) (k : Nat) (hk : k < es.length) : w.rangeAt g (o + k * 8) es[k].pcells := by
 intro j u hu
 have hj : j < 8 := (List.getElem?_eq_some_iff.1 hu).1
 have := h.room (k * 8 + j) u (by rw [beCells_get es k j hk hj]; exact hu)
 rw [← Nat.add_assoc] at this
 exact this
theorem cmp_less : ∀ a b : List UInt8,(Lib.compareBytes a b < 0) ↔ Op.bytesLess a b = true := by
 intro a
 induction a with
 | nil => intro b; cases b <;> simp [Lib.compareBytes,Op.bytesLess]
 | cons x a ih =>
  intro b
  cases b with
  | nil => simp [Lib.compareBytes,Op.bytesLess]
  | cons y b =>
   simp only [Lib.compareBytes,Op.bytesLess,Bool.or_eq_true,Bool.and_eq_true,decide_eq_true_eq,beq_iff_eq]
   by_cases h1 : x < y
   ·simp [h1]
   ·by_cases h2 : y < x
    ·have h3 : x ≠ y := fun e => by subst e; exact absurd h2 (UInt8.lt_irrefl x)
     simp [h1,h2,h3]
    ·have h3 : x = y := by
      by_cases e : x = y
      ·exact e
      ·rcases UInt8.lt_or_lt_of_ne e with h | h
       ·exact absurd h h1
       ·exact absurd h h2
     subst h3
     simp [UInt8.lt_irrefl,ih b]
theorem cmp_zero : ∀ a b : List UInt8,(Lib.compareBytes a b = 0) ↔ a = b := by
 intro a
 induction a with
 | nil => intro b; cases b <;> simp [Lib.compareBytes]
 | cons x a ih =>
  intro b
  cases b with
  | nil => simp [Lib.compareBytes]
  | cons y b =>
   simp only [Lib.compareBytes]
   by_cases h1 : x < y
   ·have h3 : x ≠ y := fun e => by subst e; exact absurd h1 (UInt8.lt_irrefl x)
    simp [h1,h3]
   ·by_cases h2 : y < x
    ·have h3 : x ≠ y := fun e => by subst e; exact absurd h2 (UInt8.lt_irrefl x)
     simp [h1,h2,h3]
    ·have h3 : x = y := by
      by_cases e : x = y
      ·exact e
      ·rcases UInt8.lt_or_lt_of_ne e with h | h
       ·exact absurd h h1
       ·exact absurd h h2
     simp [h3,ih b]
theorem cmp_range : ∀ a b : List UInt8,-1 ≤ Lib.compareBytes a b ∧ Lib.compareBytes a b ≤ 1 := by
 intro a
 induction a with
 | nil => intro b; cases b <;> simp [Lib.compareBytes]
 | cons x a ih =>
  intro b
  cases b with
  | nil => simp [Lib.compareBytes]
  | cons y b =>
   simp only [Lib.compareBytes]
   split
   ·omega
   ·split
    ·omega
    ·exact ih b
theorem ins_of (l : List UInt8) : ∀ (es : List BE) (k : Nat),k ≤ es.length → (∀ j (hj : j < es.length),j < k → Op.bytesLess es[j].name l = true) → (∀ h : k < es.length,Op.bytesLess es[k].name l = false) → BE.ins es l = k := by
 intro es
 induction es with
 | nil => intro k hk _ _; simp at hk; subst hk; rfl
 | cons x es ih =>
  intro k hk h1 h2
  cases k with
  | zero =>
   have := h2 (by simp)
   simp only [List.getElem_cons_zero] at this
   simp [BE.ins,this]
  | succ k =>
   have h0 := h1 0 (by simp) (by omega)
   simp only [List.getElem_cons_zero] at h0
   rw [BE.ins,if_pos h0,ih k (by simpa using hk) (fun j hj hjk => by have := h1 (j + 1) (by simpa using hj) (by omega); simpa using this) (fun h => by have := h2 (by simpa using h); simpa using this)]
theorem at_ins {es : List BE} (hs : es.Pairwise (fun x y => Op.bytesLess x.name y.name = true)) (l : List UInt8) : BE.at? es l = if h : BE.ins es l < es.length then (if es[BE.ins es l].name = l then some (BE.ins es l) else none) else none := by
 have hle := ins_le es l
 have hfront := ins_front l es
 cases h : BE.at? es l with
 | none =>
  have hno := at_none h
  split
  ·rename_i hi
   rw [if_neg (hno _ (List.getElem_mem hi))]
  ·rfl
 | some i =>
  obtain ⟨hi,he⟩ := at_some h
  have hk : BE.ins es l = i := by
   refine ins_of l es i (by omega) (fun j hj hji => ?_) (fun hh => ?_)
   ·have := List.pairwise_iff_getElem.1 hs j i hj hi hji
    rw [he] at this
    exact this
   ·rw [he]; exact bl_irrefl l
  rw [dif_pos (by rw [hk]; exact hi),if_pos (by simp only [hk]; exact he),hk]
set_option maxHeartbeats 400000 in
theorem entries_any (g o : Nat) (es : List BE) (w : World) (h : BookAt w g o es) :
  Calls Tryz.prog 59 #[.pointer (some ⟨g,o,none⟩)] w fun e w' => e = .returned (.slice (some ⟨g,o,none⟩) es.length 20) ∧ ∃ q,w' = w.drewN q := by
 have hc := h.count
 have hl := h.len
 clear h
 generalize es.length = n at *
 have hlI : (n : Int) ≤ 20 := by omega
 have hl0 : (0 : Int) ≤ (n : Int) := by omega
 go_enter Tryz.func59,Tryz.ntmps59
 go_wp2_with fail
 go_quiet (fail)
 go_wp2
 go_ret
 exact ⟨rfl,_,rfl⟩
theorem Tryz.sizeEntry : (Tryz.prog.info? 90).map (·.size) = some 8 := by kernel_rfl
set_option maxHeartbeats 400000 in
theorem cmp_any (x : BE) (l : List UInt8) (S : ByteArray) (w : World) (hS : Hid (S = ⟨l.toArray⟩)) :
  Calls Tryz.prog 117 #[.agg x.pcells.toArray,.string S] w fun e w' => e = .returned (.int .i64 (Lib.compareBytes x.name l)) ∧ w.grownBy w' none := by
 obtain ⟨name,number,key,before,life,renew,expire,flags⟩ := x
 have h1 : (⟨name.toArray⟩ : ByteArray).data.toList = name := by simp
 have h2 : S.data.toList = l := by rw [hS.out]
 have C := fun w => Tryz.strings_Compare (⟨name.toArray⟩ : ByteArray) S w
 rw [h1,h2] at C
 have G := World.grownBy_alloc w (.cells (BE.pcells ⟨name,number,key,before,life,renew,expire,flags⟩).toArray 90) none
 simp only [BE.pcells] at G ⊢
 clear h1 h2
 go_enter Tryz.func117,Tryz.ntmps117
 go_wp2_with (go_at_call 118; refine (C _).mono ?_; rintro e w' ⟨rfl,rfl⟩)
 go_ret
 exact ⟨rfl,G⟩
end Go.Proofs.YtpijkgbafjccaaaGreatDoor
namespace Go.Proofs.YtpijkgbafjccaaaGreatDoor
open Go.RowKit
set_option maxRecDepth 100000
set_option maxHeartbeats 2000000 in
theorem bsearch_any (g o : Nat) (es : List BE) (l : List UInt8) (n : Nat) (S : ByteArray) (w : World) (h : BookAt w g o es) (hn : Hid (es.length = n)) (hs : es.Pairwise (fun x y => Op.bytesLess x.name y.name = true)) (hS : Hid (S = ⟨l.toArray⟩)) :
  Calls Tryz.prog 116 #[.slice (some ⟨g,o,none⟩) n 20,.string S,.func (.func 117) #[] #[]] w fun e w' => e = .returned (.tuple #[.int .i64 (BE.ins es l),.bool (BE.at? es l).isSome]) ∧ w.grownBy w' none := by
 have hlen := h.len
 rw [hn.out] at hlen
 have HSo : Hid (es.Pairwise (fun x y => Op.bytesLess x.name y.name = true)) := hs
 clear hs
 go_enter Tryz.func116,Tryz.ntmps116
 go_wp2
 go_loopw [9,10,11] (fun a b _ wr => ∃ i j : Nat,i ≤ j ∧ j ≤ n ∧ a = .int .i64 i ∧ b = .int .i64 j ∧ Hid (∀ k (hk : k < es.length),k < i → Op.bytesLess es[k].name l = true) ∧ Hid (∀ k (hk : k < es.length),j ≤ k → Op.bytesLess es[k].name l = false) ∧ w.grownBy wr none) (fun a b _ _ => (intOf b - intOf a).toNat)
 case atStart => exact ⟨0,n,Nat.zero_le _,Nat.le_refl _,rfl,rfl,hid (fun k _ hk => by omega),hid (fun k hk hj => by rw [hn.out] at hk; omega),World.grownBy.refl _ _⟩
 case round =>
  obtain ⟨i,j,hij,hjn,rfl,rfl,HA,HB,hgr⟩ := hrel
  have hr := h.grown hgr
  by_cases hlt : i < j
  ·have hltI : (i : Int) < (j : Int) := by omega
   have hm : (i + j) / 2 < n := by omega
   have hml : (i + j) / 2 < es.length := by rw [hn.out]; exact hm
   have him : i ≤ (i + j) / 2 := by omega
   have hmj : (i + j) / 2 < j := by omega
   have hent := hid (hr.entry _ hml)
   obtain ⟨x,HX⟩ : ∃ x,Hid (x = es[(i + j) / 2]) := ⟨_,hid rfl⟩
   rw [← HX.out] at hent
   have hlI : ((i : Int) + (j : Int)) ≤ 40 := by omega
   have HCL := hid (cmp_less x.name l)
   have HR := hid (cmp_range x.name l)
   clear hr
   go_wp2_with (refine wpList_load_mid rfl 90 _ rfl g (o + (i + j) / 2 * 8) rfl x.pcells _ hent.out Tryz.underlying90 rfl Tryz.sizeEntry ?_)
   refine (cmp_any x l S _ hS).mono ?_
   rintro e w1 ⟨rfl,hg1⟩
   have G1 := gb_trans hgr hg1
   clear hent hgr hg1
   obtain ⟨c,HC⟩ : ∃ c,Hid (c = Lib.compareBytes x.name l) := ⟨_,hid rfl⟩
   rw [← HC.out] at HCL HR ⊢
   have hc1 : -1 ≤ c := HR.out.1
   have hc2 : c ≤ 1 := HR.out.2
   by_cases hc : c < 0
   ·have HL := hid (HCL.out.1 hc)
    go_wp2
    go_roundw
    case rel =>
     refine ⟨(i + j) / 2 + 1,j,by omega,hjn,by go_num,rfl,hid (fun k hk hki => ?_),HB,G1⟩
     rcases Nat.lt_or_ge k ((i + j) / 2) with hk1 | hk1
     ·exact bl_trans (List.pairwise_iff_getElem.1 HSo.out k _ hk hml hk1) (by rw [← HX.out]; exact HL.out)
     ·have : k = (i + j) / 2 := by omega
      subst this
      rw [← HX.out]
      exact HL.out
    case measure => simp [intOf]; omega
   ·have HL : Hid (Op.bytesLess x.name l = false) := by
     cases hb : Op.bytesLess x.name l with
     | false => exact rfl
     | true => exact absurd (HCL.out.2 hb) hc
    go_wp2
    go_roundw
    case rel =>
     refine ⟨i,(i + j) / 2,him,by omega,rfl,by go_num,HA,hid (fun k hk hki => ?_),G1⟩
     rcases Nat.lt_or_ge ((i + j) / 2) k with hk1 | hk1
     ·cases hb : Op.bytesLess es[k].name l with
      | false => rfl
      | true =>
       have h1 := bl_trans (List.pairwise_iff_getElem.1 HSo.out _ k hml hk hk1) hb
       rw [← HX.out,HL.out] at h1
       cases h1
     ·have : k = (i + j) / 2 := by omega
      subst this
      rw [← HX.out]
      exact HL.out
    case measure => simp [intOf]; omega
  ·have hijE : i = j := by omega
   subst hijE
   have HI : Hid (BE.ins es l = i) := by
    refine ins_of l es i (by rw [hn.out]; exact hjn) (fun k hk hki => HA.out k hk hki) (fun hk => HB.out i hk (Nat.le_refl _))
   have HAT := hid (at_ins HSo.out l)
   clear HA HB
   have hltI : ¬ (i : Int) < (i : Int) := by omega
   by_cases hin : i < n
   ·have hil : i < es.length := by rw [hn.out]; exact hin
    have hinI : (i : Int) < (n : Int) := by omega
    have hi0 : (0 : Int) ≤ (i : Int) := by omega
    have hent := hid (hr.entry _ hil)
    obtain ⟨x,HX⟩ : ∃ x,Hid (x = es[i]) := ⟨_,hid rfl⟩
    rw [← HX.out] at hent
    have HF : Hid ((BE.at? es l).isSome = (Lib.compareBytes x.name l == 0)) := by
     show _ = _
     rw [HAT.out]
     simp only [HI.out]
     rw [dif_pos hil,← HX.out]
     by_cases e : x.name = l
     ·rw [if_pos e,(cmp_zero x.name l).2 e]; rfl
     ·rw [if_neg e]
      have : ¬ Lib.compareBytes x.name l = 0 := fun h => e ((cmp_zero x.name l).1 h)
      simp [this]
    clear hr HAT HX
    obtain ⟨name,number,key,before,life,renew,expire,flags⟩ := x
    have k0 : wr.cell? ⟨g,o + i * 8,none⟩ = some (.string ⟨name.toArray⟩) := hent.out 0 _ rfl
    have k1 : wr.cell? ⟨g,o + i * 8 + 1,none⟩ = some (.int .i64 number) := hent.out 1 _ rfl
    have k2 : wr.cell? ⟨g,o + i * 8 + 2,none⟩ = some (.int .u64 (key.toNat : Int)) := hent.out 2 _ rfl
    have k3 : wr.cell? ⟨g,o + i * 8 + 3,none⟩ = some (.int .u64 (before.toNat : Int)) := hent.out 3 _ rfl
    have k4 : wr.cell? ⟨g,o + i * 8 + 4,none⟩ = some (.int .i64 life) := hent.out 4 _ rfl
    have k5 : wr.cell? ⟨g,o + i * 8 + 5,none⟩ = some (.int .i64 renew) := hent.out 5 _ rfl
    have k6 : wr.cell? ⟨g,o + i * 8 + 6,none⟩ = some (.int .i64 expire) := hent.out 6 _ rfl
    have k7 : wr.cell? ⟨g,o + i * 8 + 7,none⟩ = some (.int .i64 flags) := hent.out 7 _ rfl
    go_wp2_with fail
    refine (cmp_any ⟨name,number,key,before,life,renew,expire,flags⟩ l S _ hS).mono ?_
    rintro e w1 ⟨rfl,hg1⟩
    clear k0 k1 k2 k3 k4 k5 k6 k7
    have G1 := gb_trans hgr hg1
    clear hent hgr hg1
    go_wp2
    go_ret2
    exact ⟨by rw [HI.out,HF.out]; rfl,G1⟩
   ·have hinI : ¬ (i : Int) < (n : Int) := by omega
    have HF : Hid ((BE.at? es l).isSome = false) := by
     show _ = _
     rw [HAT.out]
     simp only [HI.out]
     rw [dif_neg (by rw [hn.out]; exact hin)]
     rfl
    clear hr HAT
    go_wp2
    go_ret2
    exact ⟨by rw [HI.out,HF.out]; rfl,hgr⟩
set_option maxHeartbeats 400000 in
theorem place_any (g o : Nat) (es : List BE) (l : List UInt8) (S : ByteArray) (w : World) (h : BookAt w g o es) (hs : es.Pairwise (fun x y => Op.bytesLess x.name y.name = true)) (hS : Hid (S = ⟨l.toArray⟩)) :
  Calls Tryz.prog 74 #[.pointer (some ⟨g,o,none⟩),.string S] w fun e w' => e = .returned (.tuple #[.int .i64 (BE.ins es l),.bool (BE.at? es l).isSome]) ∧ w.grownBy w' none := by
 have HSo := hid hs
 clear hs
 go_enter Tryz.func74,Tryz.ntmps74
 go_wp2_with fail
 refine (entries_any g o es w h).mono ?_
 rintro e w' ⟨rfl,q,rfl⟩
 have hq := h.drewN q
 have G0 := gb_drewN (World.grownBy.refl w none) q
 go_wp2_with fail
 refine (bsearch_any g o es l es.length S _ hq (hid rfl) HSo.out hS).mono ?_
 rintro e w1 ⟨rfl,hg1⟩
 have G := gb_trans G0 hg1
 clear hg1 hq
 go_wp2
 go_ret2
 exact ⟨rfl,G⟩
end Go.Proofs.YtpijkgbafjccaaaGreatDoor
