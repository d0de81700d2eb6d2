/-
  
  
  
  
-/
import Derived.Test.YtpijkgbafjccaaaGreatDoorGTPWriteB
import Derived.Deep.RegionHeld3
namespace Go.Proofs.YtpijkgbafjccaaaGreatDoor
open Go.RowKit
set_option maxRecDepth 100000
structure RP where
 t : TK
 service : List UInt8
 snum : Int
 skey : UInt64
 tdraw : UInt64
 nonce : Int
 pnum : Int
 pkey : UInt64
 pdraw : UInt64
def RP.cells (r : RP) : List Value := [.int .i64 r.t.flags,.int .u64 (r.t.session.toNat : Int),.string ⟨r.t.client.toArray⟩,.int .i64 r.t.auth,.int .i64 r.t.start,.int .i64 r.t.fin,.int .i64 r.t.renew,.string ⟨r.service.toArray⟩,.int .i64 r.snum,.int .u64 (r.skey.toNat : Int),.int .u64 (r.tdraw.toNat : Int),.int .i64 r.nonce,.int .i64 r.pnum,.int .u64 (r.pkey.toNat : Int),.int .u64 (r.pdraw.toNat : Int)]
structure RP.Fits (r : RP) : Prop where
 flags : In64 r.t.flags
 auth : In64 r.t.auth
 start : In64 r.t.start
 fin : In64 r.t.fin
 renew : In64 r.t.renew
 snum : In64 r.snum
 nonce : In64 r.nonce
 pnum : In64 r.pnum
 client : r.t.client.length ≤ 1000
 service : r.service.length ≤ 1000
def RpAt (w : World) (b : Nat) (r : RP) : Prop := w.rangeAt b 0 r.cells
def Off (p : Option Pl) (b : Nat) : Prop := ∀ q,p = some q → b ≠ q.g
theorem RpAt.at {w : World} {b : Nat} {r : RP} (h : RpAt w b r) (k : Nat) (v : Value) (hv : r.cells[k]? = some v) : w.cell? ⟨b,k,none⟩ = some v := by
 have := h k v hv
 rwa [Nat.zero_add] at this
theorem RpAt.cf {w w' : World} {b : Nat} {r : RP} {p : Option Pl} (h : RpAt w b r) (k : CF w w' (Pl.has p)) (o : Off p b) : RpAt w' b r :=
 k.range h (fun j _ => by rintro ⟨q,hq,e,_⟩; exact o q hq e)
theorem RpAt.grown {w w' : World} {b : Nat} {r : RP} (h : RpAt w b r) (k : w.grownBy w' none) : RpAt w' b r :=
 (CF.of_gb k (fun _ _ => False)).range h (fun _ _ e => e)
def Ctx (w : World) (b : Nat) (r : RP) (p : Option Pl) (W : World) (v : Value) (bs : List UInt8) : Prop :=
 ∃ p1,Out W v p1 bs ∧ (CF w W (Pl.has p) ∧ (p1 = p ∨ Pl.fresh w.heap.size p1) ∧ ∀ q,p = some q → bs.length ≤ q.cap → p1 = p) ∧ RpAt W b r ∧ Off p1 b ∧ b < w.heap.size ∧ Off p b
theorem Ctx.start {w : World} {b : Nat} {r : RP} {p : Option Pl} {v : Value} {bs : List UInt8} (h : Out w v p bs) (hr : RpAt w b r) (hb : b < w.heap.size) (o : Off p b) : Ctx w b r p w v bs :=
 ⟨p,h,⟨CF.refl _ _,.inl rfl,fun _ _ _ => rfl⟩,hr,o,hb,o⟩
theorem Ctx.more {w : World} {b : Nat} {r : RP} {p : Option Pl} {W : World} {v : Value} {bs : List UInt8} (h : Ctx w b r p W v bs) : OutMore w W v p bs := by
 obtain ⟨p1,h1,h2,_⟩ := h
 exact ⟨p1,h1,h2⟩
theorem Ctx.rp {w : World} {b : Nat} {r : RP} {p : Option Pl} {W : World} {v : Value} {bs : List UInt8} (h : Ctx w b r p W v bs) : RpAt W b r := by
 obtain ⟨p1,h1,h2,h3,_⟩ := h
 exact h3
theorem Ctx.call {P : Program} {f : Nat} {args : Array Value} {w : World} {b : Nat} {r : RP} {p : Option Pl} {W : World} {v : Value} {bs bs' : List UInt8} (h : Ctx w b r p W v bs) (hl : bs.length ≤ bs'.length)
  (k : ∀ p1,Out W v p1 bs → Off p1 b → b < W.heap.size → RpAt W b r → Calls P f args W fun e W' => ∃ v',e = .returned v' ∧ OutMore W W' v' p1 bs') :
  Calls P f args W fun e W' => ∃ v',e = .returned v' ∧ Ctx w b r p W' v' bs' := by
 obtain ⟨p1,h1,h2,h3,h4,h5,h6⟩ := h
 have h7 : b < W.heap.size := Nat.lt_of_lt_of_le h5 h2.1.size
 refine (k p1 h1 h4 h7 h3).mono ?_
 rintro e W' ⟨v',rfl,R⟩
 refine ⟨v',rfl,?_⟩
 have hcf := R.cf
 obtain ⟨p2,k1,k2⟩ := OutMore.comp h2 R hl
 refine ⟨p2,k1,k2,h3.cf hcf h4,?_,h5,h6⟩
 rcases k2.2.1 with e | e
 ·rw [e]; exact h6
 ·intro q hq
  have := e q hq
  omega
theorem Ctx.shape {w : World} {b : Nat} {r : RP} {p : Option Pl} {W : World} {v : Value} {bs : List UInt8} {n : Nat} (h : Ctx w b r p W v bs) (hn : Hid (bs.length = n)) : ∃ ao cap,v = .slice ao n cap ∧ n ≤ cap ∧ cap ≤ 9223372036854775807 := by
 obtain ⟨p1,h1,_⟩ := h
 obtain ⟨ao,cap,h1,h2,h3,_⟩ := h1.open hn
 exact ⟨ao,cap,h1,h2,h3⟩
theorem Ctx.drewN {w : World} {b : Nat} {r : RP} {p : Option Pl} {W : World} {v : Value} {bs : List UInt8} (h : Ctx w b r p W v bs) (n : Nat) : Ctx w b r p (W.drewN n) v bs := by
 obtain ⟨p1,h1,h2,h3,h4⟩ := h
 exact ⟨p1,h1,⟨h2.1.drewN n,h2.2⟩,h3,h4⟩
theorem Ctx.cast {w : World} {b : Nat} {r : RP} {p : Option Pl} {W : World} {v : Value} {bs bs' : List UInt8} (h : Ctx w b r p W v bs) (e : bs = bs') : Ctx w b r p W v bs' := e ▸ h
set_option maxHeartbeats 1000000 in
theorem appendTimes_out (ov : Value) (p : Option Pl) (bs : List UInt8) (b : Nat) (r : RP) (w : World) (hb : Out w ov p bs) (hr : RpAt w b r) (ho : Off p b) (hf : r.Fits) (hl : bs.length ≤ 700000) :
  Calls Tryz.prog 185 #[.pointer (some ⟨b,0,none⟩),ov] w fun e w' => ∃ v',e = .returned v' ∧ OutMore w w' v' p (bs ++ numsCat [r.t.auth,r.t.start,r.t.fin,r.t.renew]) := by
 have c3 := hr.at 3 _ rfl
 have c4 := hr.at 4 _ rfl
 have c5 := hr.at 5 _ rfl
 have c6 := hr.at 6 _ rfl
 have HA : Hid (∀ W g,w.grownBy W none → W.rangeAt g 0 ([r.t.auth,r.t.start,r.t.fin,r.t.renew].map I64V) → w.heap.size ≤ g → Calls Tryz.prog 152 #[ov,.slice (some ⟨g,0,none⟩) 4 4] W fun e w' => ∃ v',e = .returned v' ∧ OutMore w w' v' p (bs ++ numsCat [r.t.auth,r.t.start,r.t.fin,r.t.renew])) := by
  intro W g hG hR hg
  refine (appendNumbers_out _ p bs _ g 4 4 W (hb.grown hG) hR (fun q hq e => ?_) (hid rfl) ?_ (by omega) (by omega)).mono (fun e w' ⟨v',e1,e2⟩ => ⟨v',e1,e2.before hG⟩)
  ·have := hb.ltg q hq; omega
  ·intro x hx
   simp at hx
   rcases hx with rfl | rfl | rfl | rfl
   ·exact hf.auth
   ·exact hf.start
   ·exact hf.fin
   ·exact hf.renew
 have HK : Hid (∀ W,CF w W (Pl.has p) → W.cell? ⟨b,3,none⟩ = some (.int .i64 r.t.auth) ∧ W.cell? ⟨b,4,none⟩ = some (.int .i64 r.t.start) ∧ W.cell? ⟨b,5,none⟩ = some (.int .i64 r.t.fin) ∧ W.cell? ⟨b,6,none⟩ = some (.int .i64 r.t.renew)) :=
  fun W k => ⟨(hr.cf k ho).at 3 _ rfl,(hr.cf k ho).at 4 _ rfl,(hr.cf k ho).at 5 _ rfl,(hr.cf k ho).at 6 _ rfl⟩
 obtain ⟨a1,ha1⟩ : ∃ x,r.t.auth = x := ⟨_,rfl⟩
 obtain ⟨a2,ha2⟩ : ∃ x,r.t.start = x := ⟨_,rfl⟩
 obtain ⟨a3,ha3⟩ : ∃ x,r.t.fin = x := ⟨_,rfl⟩
 obtain ⟨a4,ha4⟩ : ∃ x,r.t.renew = x := ⟨_,rfl⟩
 rw [ha1] at c3
 rw [ha2] at c4
 rw [ha3] at c5
 rw [ha4] at c6
 rw [ha1,ha2,ha3,ha4] at HA HK
 rw [ha1,ha2,ha3,ha4]
 clear ha1 ha2 ha3 ha4 hr hf hb ho
 go_enter Tryz.func185,Tryz.ntmps185
 go_wp2_with fail
 go_region_held3 (fun w' => w'.cell? ⟨b,3,none⟩ = some (.int .i64 a1) ∧ w'.cell? ⟨b,4,none⟩ = some (.int .i64 a2) ∧ w'.cell? ⟨b,5,none⟩ = some (.int .i64 a3) ∧ w'.cell? ⟨b,6,none⟩ = some (.int .i64 a4)) (go_keep) (first | (go_at_call 152; refine (HA.out _ _ ?gg ?gr ?gl).mono ?_; (case gg => exact gb_drewN (World.grownBy_alloc _ _ none) _); (case gr => exact cells_range _ _ _); (case gl => exact Nat.le_refl _); rintro e w2 ⟨v2,rfl,R2⟩; obtain ⟨e3,e4,e5,e6⟩ := HK.out w2 R2.cf; have HR2 := hid R2; clear R2))
 go_wp2
 go_ret
 exact ⟨_,rfl,HR2.out⟩
end Go.Proofs.YtpijkgbafjccaaaGreatDoor
namespace Go.Proofs.YtpijkgbafjccaaaGreatDoor
open Go.RowKit
set_option maxRecDepth 100000
theorem txt_most (l : List UInt8) : (txtBox l).length ≤ l.length + 4 := box_most 4 l
theorem key_most (k : UInt64) : (keyBox k).length ≤ 12 := by
 have := txt_most (Pure.be k 8)
 rw [Pure.be_length] at this
 exact this
theorem le_app (a b : List UInt8) : a.length ≤ (a ++ b).length := by rw [List.length_append]; omega
def RP.times (r : RP) : List UInt8 := numsCat [r.t.auth,r.t.start,r.t.fin,r.t.renew]
theorem RP.times_most (r : RP) : r.times.length ≤ 40 := numsCat_length _
def RP.inTicket (r : RP) : List UInt8 := numBox r.t.flags ++ (keyBox r.t.session ++ (txtBox r.t.client ++ r.times))
def RP.inPart (r : RP) : List UInt8 := keyBox r.t.session ++ (numsCat [r.nonce,r.t.flags] ++ (r.times ++ txtBox r.service))
def RP.ticket (r : RP) : List UInt8 := Box.box 48 (txtBox r.service ++ (numBox r.snum ++ txtBox (Pure.sealL r.skey 2 r.tdraw (Box.box 48 r.inTicket))))
def RP.part (r : RP) (use : UInt64) : List UInt8 := Box.box 48 (numBox r.pnum ++ txtBox (Pure.sealL r.pkey use r.pdraw (Box.box 48 r.inPart)))
set_option maxHeartbeats 2000000 in
theorem appendTicket_out (ov : Value) (p : Option Pl) (bs : List UInt8) (b : Nat) (r : RP) (w : World) (hb : Out w ov p bs) (hr : RpAt w b r) (hlt : b < w.heap.size) (ho : Off p b) (hf : r.Fits) (hl : bs.length ≤ 400000) :
  Calls Tryz.prog 169 #[.pointer (some ⟨b,0,none⟩),ov] w fun e w' => ∃ v',e = .returned v' ∧ OutMore w w' v' p (bs ++ r.ticket) := by
 have HF := hid hf
 obtain ⟨n0,hn0⟩ : ∃ n,bs.length = n := ⟨_,rfl⟩
 obtain ⟨n2,hn2⟩ : ∃ n,(bs ++ txtBox r.service ++ numBox r.snum).length = n := ⟨_,rfl⟩
 have HN0 := hid hn0
 have HN2 := hid hn2
 have hL : (txtBox r.service).length ≤ 1004 ∧ (numBox r.snum).length ≤ 10 ∧ (numBox r.t.flags).length ≤ 10 ∧ (keyBox r.t.session).length ≤ 12 ∧ (txtBox r.t.client).length ≤ 1004 ∧ r.times.length ≤ 40 :=
  ⟨by have := txt_most r.service; have := hf.service; omega,(numBox_length _).2,(numBox_length _).2,key_most _,by have := txt_most r.t.client; have := hf.client; omega,r.times_most⟩
 obtain ⟨l1,l2,l3,l4,l5,l6⟩ := hL
 have hn2b : n2 ≤ 402000 := by rw [← hn2]; simp only [List.length_append]; omega
 have hn0b : n0 ≤ 400000 := by omega
 have HL := hid (And.intro hl (And.intro l1 (And.intro l2 (And.intro l3 (And.intro l4 (And.intro l5 l6))))))
 have C0 := hid (Ctx.start hb hr hlt ho)
 have c0 := hr.at 7 _ rfl
 obtain ⟨ao,cap,rfl,hcap,hcm,hat,_⟩ := hb.open HN0
 clear hb hr hat hn0 hn2 hl l1 l2 l3 l4 l5 l6 hf
 go_enter Tryz.func169,Tryz.ntmps169
 go_wp2_with (first
  | (go_at_call 168; refine (C0.out.call (le_app _ (txtBox r.service)) (fun p1 o1 h1 h2 h3 => appendText_out _ p1 _ _ _ o1 (by have := HF.out.service; omega) (by have := HL.out.1; omega))).mono ?_; clear C0; rintro e w1 ⟨v1,rfl,C1'⟩; have c1 := C1'.rp.at 8 _ rfl; have C1 := hid C1'; clear C1')
  | (go_at_call 167; refine (C1.out.call (le_app _ (numBox r.snum)) (fun p1 o1 h1 h2 h3 => appendNumberI_out _ p1 _ _ _ o1 HF.out.snum.1 HF.out.snum.2 (by have := HL.out; simp only [List.length_append]; omega))).mono ?_; clear C1; rintro e w2 ⟨v2,rfl,C2'⟩; have c2 := C2'.rp.at 0 _ rfl; have C2 := hid C2'; obtain ⟨ao2,cap2,rfl,hc2,hm2⟩ := C2'.shape HN2; clear C2')
  | (go_at_call 178; refine (C2.out.call (le_app _ (numBox r.t.flags)) (fun p1 o1 h1 h2 h3 => appendNumberI64_out _ p1 _ _ _ o1 HF.out.flags.1 HF.out.flags.2 (by have := HL.out; simp only [List.length_append]; omega))).mono ?_; clear C2; rintro e w3 ⟨v3,rfl,C3'⟩; have c3 := C3'.rp.at 1 _ rfl; have C3 := hid C3'; clear C3')
  | (go_at_call 184; refine (C3.out.call (le_app _ (keyBox r.t.session)) (fun p1 o1 h1 h2 h3 => appendKey_out _ p1 _ _ _ o1 (by have := HL.out; simp only [List.length_append]; omega))).mono ?_; clear C3; rintro e w4 ⟨v4,rfl,C4'⟩; have c4 := C4'.rp.at 2 _ rfl; have C4 := hid C4'; clear C4')
  | (go_at_call 168; refine (C4.out.call (le_app _ (txtBox r.t.client)) (fun p1 o1 h1 h2 h3 => appendText_out _ p1 _ _ _ o1 (by have := HF.out.client; omega) (by have := HL.out; simp only [List.length_append]; omega))).mono ?_; clear C4; rintro e w5 ⟨v5,rfl,C5'⟩; have C5 := hid C5'; clear C5')
  | (go_at_call 185; refine (C5.out.call (le_app _ r.times) (fun p1 o1 h1 h2 h3 => appendTimes_out _ p1 _ _ _ _ o1 h3 h1 HF.out (by have := HL.out; simp only [List.length_append]; omega))).mono ?_; clear C5; rintro e w6 ⟨v6,rfl,C6'⟩; have c6 := C6'.rp.at 9 _ rfl; have c7 := C6'.rp.at 10 _ rfl; have C6 := hid C6'; clear C6'))
 have HZ : Hid (∀ k,Calls Tryz.prog 186 #[v6,.int .i64 (n2 : Int),.int .u64 (r.skey.toNat : Int),.int .i64 2,.int .u64 (r.tdraw.toNat : Int)] (w6.drewN k) fun e W' => ∃ v',e = .returned v' ∧ Ctx w b r p W' v' (bs ++ txtBox r.service ++ numBox r.snum ++ txtBox (Pure.sealL r.skey 2 r.tdraw (Box.box 48 r.inTicket)))) := by
  intro k
  have hin : r.inTicket.length ≤ 3000 := by have := HL.out; unfold RP.inTicket; simp only [List.length_append]; omega
  refine ((C6.out.drewN k).cast (bs' := bs ++ txtBox r.service ++ numBox r.snum ++ r.inTicket) (by simp [RP.inTicket,List.append_assoc])).call ?_ (fun p1 o1 h1 h2 h3 => wrapSealed_out _ p1 _ _ r.skey 2 r.tdraw _ _ n2 _ o1 HN2 rfl (hid rfl) (by decide) (by omega) (by have := HN2.out; omega))
  have h1 := box_ge 4 (Pure.sealL r.skey 2 r.tdraw (Box.box 48 r.inTicket))
  have h2 := box_ge 48 r.inTicket
  rw [Pure.sealL_length] at h1
  unfold txtBox
  simp only [List.length_append]
  omega
 clear C6
 go_region_held3 (fun w' => w'.cell? ⟨b,9,none⟩ = some (.int .u64 (r.skey.toNat : Int)) ∧ w'.cell? ⟨b,10,none⟩ = some (.int .u64 (r.tdraw.toNat : Int))) (go_keep) (first | (go_at_call 186; refine (HZ.out _).mono ?_; rintro e w7 ⟨v7,rfl,C7'⟩; have d0 := C7'.rp.at 9 _ rfl; have d1 := C7'.rp.at 10 _ rfl; have C7 := hid C7'; clear C7'))
 have HW : Hid (∀ W,Ctx w b r p W v7 (bs ++ txtBox r.service ++ numBox r.snum ++ txtBox (Pure.sealL r.skey 2 r.tdraw (Box.box 48 r.inTicket))) → Calls Tryz.prog 153 #[v7,.int .i64 (n0 : Int),.int .u8 48] W fun e W' => ∃ v',e = .returned v' ∧ Ctx w b r p W' v' (bs ++ r.ticket)) := by
  intro W hC
  obtain ⟨Z,hZ⟩ : ∃ Z,txtBox r.service ++ (numBox r.snum ++ txtBox (Pure.sealL r.skey 2 r.tdraw (Box.box 48 r.inTicket))) = Z := ⟨_,rfl⟩
  have hZl : Z.length ≤ 6000 := by
   have := HL.out
   have h1 := box_most 4 (Pure.sealL r.skey 2 r.tdraw (Box.box 48 r.inTicket))
   have h2 := box_most 48 r.inTicket
   rw [Pure.sealL_length] at h1
   have hin : r.inTicket.length ≤ 3000 := by unfold RP.inTicket; simp only [List.length_append]; omega
   rw [← hZ]
   unfold txtBox at *
   simp only [List.length_append]
   omega
  have e : bs ++ r.ticket = bs ++ Box.box 48 Z := by rw [RP.ticket,hZ]
  rw [e]
  refine (hC.cast (bs' := bs ++ Z) (by rw [← hZ]; simp only [List.append_assoc])).call ?_ (fun p1 o1 h1 h2 h3 => bwrap_out _ p1 bs Z 48 n0 _ _ o1 HN0 rfl (by omega) (by have := HN0.out; omega))
  rw [List.length_append,List.length_append]
  exact Nat.add_le_add_left (box_ge 48 Z) _
 clear HZ
 go_wp2_with (go_at_call 153; (first | refine (HW.out _ C7.out).mono ?_ | refine (HW.out _ (C7.out.drewN _)).mono ?_); rintro e w8 ⟨v8,rfl,C8'⟩; have C8 := hid C8'; clear C8')
 go_wp2
 go_ret
 exact ⟨_,rfl,C8.out.more⟩
end Go.Proofs.YtpijkgbafjccaaaGreatDoor
namespace Go.Proofs.YtpijkgbafjccaaaGreatDoor
open Go.RowKit
set_option maxRecDepth 100000
theorem Ctx.callG {P : Program} {f : Nat} {args : Array Value} {w : World} {b : Nat} {r : RP} {p : Option Pl} {W W2 : World} {v : Value} {bs bs' : List UInt8} (h : Ctx w b r p W v bs) (hG : W.grownBy W2 none) (hl : bs.length ≤ bs'.length)
  (k : ∀ p1,Out W2 v p1 bs → (∀ q,p1 = some q → q.g < W.heap.size) → Calls P f args W2 fun e W' => ∃ v',e = .returned v' ∧ OutMore W2 W' v' p1 bs') :
  Calls P f args W2 fun e W' => ∃ v',e = .returned v' ∧ Ctx w b r p W' v' bs' := by
 obtain ⟨p1,h1,h2,h3,h4,h5,h6⟩ := h
 refine (k p1 (h1.grown hG) (fun q hq => h1.ltg q hq)).mono ?_
 rintro e W' ⟨v',rfl,R⟩
 refine ⟨v',rfl,?_⟩
 have hcf := R.cf
 obtain ⟨p2,k1,k2⟩ := OutMore.comp h2 (R.before hG) hl
 refine ⟨p2,k1,k2,(h3.grown hG).cf hcf h4,?_,h5,h6⟩
 rcases k2.2.1 with e | e
 ·rw [e]; exact h6
 ·intro q hq
  have := e q hq
  omega
set_option maxHeartbeats 2000000 in
theorem appendPart_out (ov : Value) (p : Option Pl) (bs : List UInt8) (b : Nat) (r : RP) (use : UInt64) (x : Int) (w : World) (hb : Out w ov p bs) (hr : RpAt w b r) (hlt : b < w.heap.size) (ho : Off p b) (hf : r.Fits) (hu : Hid (x = use.toNat)) (hux : use.toNat < 9223372036854775808) (hl : bs.length ≤ 400000) :
  Calls Tryz.prog 170 #[.pointer (some ⟨b,0,none⟩),ov,.int .i64 x] w fun e w' => ∃ v',e = .returned v' ∧ OutMore w w' v' p (bs ++ r.part use) := by
 have HF := hid hf
 have HU := hid hux
 obtain ⟨n0,hn0⟩ : ∃ n,bs.length = n := ⟨_,rfl⟩
 obtain ⟨n1,hn1⟩ : ∃ n,(bs ++ numBox r.pnum).length = n := ⟨_,rfl⟩
 have HN0 := hid hn0
 have HN1 := hid hn1
 have hL : (txtBox r.service).length ≤ 1004 ∧ (numBox r.pnum).length ≤ 10 ∧ (numsCat [r.nonce,r.t.flags]).length ≤ 20 ∧ (keyBox r.t.session).length ≤ 12 ∧ r.times.length ≤ 40 :=
  ⟨by have := txt_most r.service; have := hf.service; omega,(numBox_length _).2,numsCat_length _,key_most _,r.times_most⟩
 obtain ⟨l1,l2,l3,l4,l6⟩ := hL
 have hn1b : n1 ≤ 402000 := by rw [← hn1]; simp only [List.length_append]; omega
 have hn0b : n0 ≤ 400000 := by omega
 have HL := hid (And.intro hl (And.intro l1 (And.intro l2 (And.intro l3 (And.intro l4 l6)))))
 have C0 := hid (Ctx.start hb hr hlt ho)
 have c0 := hr.at 12 _ rfl
 obtain ⟨ao,cap,rfl,hcap,hcm,hat,_⟩ := hb.open HN0
 clear hb hr hat hn0 hn1 hl l1 l2 l3 l4 l6 hf hux
 go_enter Tryz.func170,Tryz.ntmps170
 go_wp2_with (first
  | (go_at_call 167; refine (C0.out.call (le_app _ (numBox r.pnum)) (fun p1 o1 h1 h2 h3 => appendNumberI_out _ p1 _ _ _ o1 HF.out.pnum.1 HF.out.pnum.2 (by have := HL.out; omega))).mono ?_; clear C0; rintro e w2 ⟨v2,rfl,C2'⟩; have c2 := C2'.rp.at 1 _ rfl; have C2 := hid C2'; obtain ⟨ao2,cap2,rfl,hc2,hm2⟩ := C2'.shape HN1; clear C2')
  | (go_at_call 184; refine (C2.out.call (le_app _ (keyBox r.t.session)) (fun p1 o1 h1 h2 h3 => appendKey_out _ p1 _ _ _ o1 (by have := HL.out; simp only [List.length_append]; omega))).mono ?_; clear C2; rintro e w4 ⟨v4,rfl,C4'⟩; have c4 := C4'.rp.at 11 _ rfl; have c5 := C4'.rp.at 0 _ rfl; have C4 := hid C4'; clear C4'))
 have HA : Hid (∀ W g,w4.grownBy W none → W.rangeAt g 0 ([r.nonce,r.t.flags].map I64V) → w4.heap.size ≤ g → Calls Tryz.prog 152 #[v4,.slice (some ⟨g,0,none⟩) 2 2] W fun e w' => ∃ v',e = .returned v' ∧ Ctx w b r p w' v' (bs ++ numBox r.pnum ++ keyBox r.t.session ++ numsCat [r.nonce,r.t.flags])) := by
  intro W g hG hR hg
  refine C4.out.callG hG (le_app _ _) (fun p1 o1 h1 => appendNumbers_out _ p1 _ _ g 2 2 W o1 hR (fun q hq e => ?_) (hid rfl) ?_ (by omega) ?_)
  ·have := h1 q hq; omega
  ·intro y hy
   simp at hy
   rcases hy with rfl | rfl
   ·exact HF.out.nonce
   ·exact HF.out.flags
  ·have := HL.out; simp only [List.length_append]; omega
 clear C4
 obtain ⟨nn,hnn⟩ : ∃ y,r.nonce = y := ⟨_,rfl⟩
 obtain ⟨ff,hff⟩ : ∃ y,r.t.flags = y := ⟨_,rfl⟩
 rw [hnn] at c4
 rw [hff] at c5
 have HNF := hid (And.intro hnn hff)
 clear hnn hff
 go_region_held3 (fun w' => w'.cell? ⟨b,11,none⟩ = some (.int .i64 nn) ∧ w'.cell? ⟨b,0,none⟩ = some (.int .i64 ff)) (go_keep) (first | (go_at_call 152; refine (HA.out _ _ ?gg ?gr ?gl).mono ?_; (case gg => exact gb_drewN (World.grownBy_alloc _ _ none) _); (case gr => rw [HNF.out.1,HNF.out.2]; exact cells_range _ _ _); (case gl => exact Nat.le_refl _); rintro e w5 ⟨v5,rfl,C5'⟩; have d0 := C5'.rp.at 11 _ rfl; have d1 := C5'.rp.at 0 _ rfl; rw [HNF.out.1] at d0; rw [HNF.out.2] at d1; have C5 := hid C5'; clear C5'))
 clear HA
 go_wp2_with (first
  | (go_at_call 185; (first | refine (C5.out.call (le_app _ r.times) (fun p1 o1 h1 h2 h3 => appendTimes_out _ p1 _ _ _ _ o1 h3 h1 HF.out (by have := HL.out; simp only [List.length_append]; omega))).mono ?_ | refine ((C5.out.drewN _).call (le_app _ r.times) (fun p1 o1 h1 h2 h3 => appendTimes_out _ p1 _ _ _ _ o1 h3 h1 HF.out (by have := HL.out; simp only [List.length_append]; omega))).mono ?_); clear C5; rintro e w6 ⟨v6,rfl,C6'⟩; have e7 := C6'.rp.at 7 _ rfl; have C6 := hid C6'; clear C6')
  | (go_at_call 168; refine (C6.out.call (le_app _ (txtBox r.service)) (fun p1 o1 h1 h2 h3 => appendText_out _ p1 _ _ _ o1 (by have := HF.out.service; omega) (by have := HL.out; simp only [List.length_append]; omega))).mono ?_; clear C6; rintro e w7 ⟨v7,rfl,C7'⟩; have e8 := C7'.rp.at 13 _ rfl; have e9 := C7'.rp.at 14 _ rfl; have C7 := hid C7'; clear C7'))
 have HZ : Hid (∀ k,Calls Tryz.prog 186 #[v7,.int .i64 (n1 : Int),.int .u64 (r.pkey.toNat : Int),.int .i64 x,.int .u64 (r.pdraw.toNat : Int)] (w7.drewN k) fun e W' => ∃ v',e = .returned v' ∧ Ctx w b r p W' v' (bs ++ numBox r.pnum ++ txtBox (Pure.sealL r.pkey use r.pdraw (Box.box 48 r.inPart)))) := by
  intro k
  have hin : r.inPart.length ≤ 3000 := by have := HL.out; unfold RP.inPart; simp only [List.length_append]; omega
  refine ((C7.out.drewN k).cast (bs' := bs ++ numBox r.pnum ++ r.inPart) (by simp [RP.inPart,List.append_assoc])).call ?_ (fun p1 o1 h1 h2 h3 => wrapSealed_out _ p1 _ _ r.pkey use r.pdraw _ _ n1 _ o1 HN1 rfl hu HU.out (by omega) (by have := HN1.out; omega))
  have h1 := box_ge 4 (Pure.sealL r.pkey use r.pdraw (Box.box 48 r.inPart))
  have h2 := box_ge 48 r.inPart
  rw [Pure.sealL_length] at h1
  unfold txtBox
  simp only [List.length_append]
  omega
 clear C7
 go_region_held3 (fun w' => w'.cell? ⟨b,13,none⟩ = some (.int .u64 (r.pkey.toNat : Int)) ∧ w'.cell? ⟨b,14,none⟩ = some (.int .u64 (r.pdraw.toNat : Int))) (go_keep) (first | (go_at_call 186; refine (HZ.out _).mono ?_; rintro e w8 ⟨v8,rfl,C8'⟩; have f0 := C8'.rp.at 13 _ rfl; have f1 := C8'.rp.at 14 _ rfl; have C8 := hid C8'; clear C8'))
 have HW : Hid (∀ W,Ctx w b r p W v8 (bs ++ numBox r.pnum ++ txtBox (Pure.sealL r.pkey use r.pdraw (Box.box 48 r.inPart))) → Calls Tryz.prog 153 #[v8,.int .i64 (n0 : Int),.int .u8 48] W fun e W' => ∃ v',e = .returned v' ∧ Ctx w b r p W' v' (bs ++ r.part use)) := by
  intro W hC
  obtain ⟨Z,hZ⟩ : ∃ Z,numBox r.pnum ++ txtBox (Pure.sealL r.pkey use r.pdraw (Box.box 48 r.inPart)) = Z := ⟨_,rfl⟩
  have hZl : Z.length ≤ 6000 := by
   have := HL.out
   have h1 := box_most 4 (Pure.sealL r.pkey use r.pdraw (Box.box 48 r.inPart))
   have h2 := box_most 48 r.inPart
   rw [Pure.sealL_length] at h1
   have hin : r.inPart.length ≤ 3000 := by unfold RP.inPart; simp only [List.length_append]; omega
   rw [← hZ]
   unfold txtBox at *
   simp only [List.length_append]
   omega
  have e : bs ++ r.part use = bs ++ Box.box 48 Z := by rw [RP.part,hZ]
  rw [e]
  refine (hC.cast (bs' := bs ++ Z) (by rw [← hZ]; simp only [List.append_assoc])).call ?_ (fun p1 o1 h1 h2 h3 => bwrap_out _ p1 bs Z 48 n0 _ _ o1 HN0 rfl (by omega) (by have := HN0.out; omega))
  rw [List.length_append,List.length_append]
  exact Nat.add_le_add_left (box_ge 48 Z) _
 clear HZ
 go_wp2_with (go_at_call 153; (first | refine (HW.out _ C8.out).mono ?_ | refine (HW.out _ (C8.out.drewN _)).mono ?_); rintro e w9 ⟨v9,rfl,C9'⟩; have C9 := hid C9'; clear C9')
 go_wp2
 go_ret
 exact ⟨_,rfl,C9.out.more⟩
end Go.Proofs.YtpijkgbafjccaaaGreatDoor
namespace Go.Proofs.YtpijkgbafjccaaaGreatDoor
open Go.RowKit
set_option maxRecDepth 100000
def RP.reply (r : RP) (kind : Int) (use : UInt64) : List UInt8 := Box.box 48 (numBox kind ++ (txtBox r.t.client ++ (r.ticket ++ r.part use)))
theorem RP.reply_give (t : TK) (s : BE) (nonce number : Int) (key use a b : UInt64) (kind : Int) : (RP.mk t s.name s.number s.key a nonce number key b).reply kind use = giveBox kind t s nonce number key use a b := by
 simp [RP.reply,RP.ticket,RP.part,RP.inTicket,RP.inPart,RP.times,giveBox,ticketBox,partPlain,TK.plain,lstBox,numsCat]
theorem RP.lens (r : RP) (use : UInt64) (hf : r.Fits) : r.ticket.length ≤ 7000 ∧ (r.part use).length ≤ 7000 ∧ (txtBox r.t.client).length ≤ 1004 := by
 have l1 := txt_most r.service
 have l2 := txt_most r.t.client
 have l3 := key_most r.t.session
 have l4 := r.times_most
 have l5 := (numBox_length r.t.flags).2
 have l6 := (numBox_length r.snum).2
 have l7 := (numBox_length r.pnum).2
 have l8 := numsCat_length [r.nonce,r.t.flags]
 have k1 := hf.service
 have k2 := hf.client
 simp only [List.length_cons,List.length_nil] at l8
 have hin : r.inTicket.length ≤ 3000 := by unfold RP.inTicket; simp only [List.length_append]; omega
 have hip : r.inPart.length ≤ 3000 := by unfold RP.inPart; simp only [List.length_append]; omega
 refine ⟨?_,?_,by omega⟩
 ·unfold RP.ticket
  have h1 := txt_most (Pure.sealL r.skey 2 r.tdraw (Box.box 48 r.inTicket))
  have h2 := box_most 48 r.inTicket
  rw [Pure.sealL_length] at h1
  refine Nat.le_trans (box_most _ _) ?_
  simp only [List.length_append]
  omega
 ·unfold RP.part
  have h1 := txt_most (Pure.sealL r.pkey use r.pdraw (Box.box 48 r.inPart))
  have h2 := box_most 48 r.inPart
  rw [Pure.sealL_length] at h1
  refine Nat.le_trans (box_most _ _) ?_
  simp only [List.length_append]
  omega
set_option maxHeartbeats 2000000 in
theorem appendTo_out (ov : Value) (p : Option Pl) (bs : List UInt8) (b : Nat) (r : RP) (use : UInt64) (kind x : Int) (w : World) (hb : Out w ov p bs) (hr : RpAt w b r) (hlt : b < w.heap.size) (ho : Off p b) (hf : r.Fits) (hk : In64 kind) (hu : Hid (x = use.toNat)) (hux : use.toNat < 9223372036854775808) (hl : bs.length ≤ 300000) :
  Calls Tryz.prog 140 #[.pointer (some ⟨b,0,none⟩),ov,.int .i64 kind,.int .i64 x] w fun e w' => ∃ v',e = .returned v' ∧ OutMore w w' v' p (bs ++ r.reply kind use) := by
 have HF := hid hf
 have HU := hid hux
 have HKi := hid hk
 obtain ⟨n0,hn0⟩ : ∃ n,bs.length = n := ⟨_,rfl⟩
 have HN0 := hid hn0
 have hn0b : n0 ≤ 300000 := by omega
 have HL := hid (And.intro hl (And.intro (numBox_length kind).2 (r.lens use hf)))
 have C0 := hid (Ctx.start hb hr hlt ho)
 obtain ⟨ao,cap,rfl,hcap,hcm,hat,_⟩ := hb.open HN0
 clear hb hr hat hn0 hl hf hux hk
 have HW : Hid (∀ v8 W,Ctx w b r p W v8 (bs ++ numBox kind ++ txtBox r.t.client ++ r.ticket ++ r.part use) → Calls Tryz.prog 153 #[v8,.int .i64 (n0 : Int),.int .u8 48] W fun e W' => ∃ v',e = .returned v' ∧ Ctx w b r p W' v' (bs ++ r.reply kind use)) := by
  intro v8 W hC
  obtain ⟨Z,hZ⟩ : ∃ Z,numBox kind ++ (txtBox r.t.client ++ (r.ticket ++ r.part use)) = Z := ⟨_,rfl⟩
  have hZl : Z.length ≤ 20000 := by
   have := HL.out
   rw [← hZ]
   simp only [List.length_append]
   omega
  have e : bs ++ r.reply kind use = bs ++ Box.box 48 Z := by rw [RP.reply,hZ]
  rw [e]
  refine (hC.cast (bs' := bs ++ Z) (by rw [← hZ]; simp only [List.append_assoc])).call ?_ (fun p1 o1 h1 h2 h3 => bwrap_out _ p1 bs Z 48 n0 _ _ o1 HN0 rfl (by omega) (by have := HN0.out; omega))
  rw [List.length_append,List.length_append]
  exact Nat.add_le_add_left (box_ge 48 Z) _
 go_enter Tryz.func140,Tryz.ntmps140
 go_wp2_with (first
  | (go_at_call 167; refine (C0.out.call (le_app _ (numBox kind)) (fun p1 o1 h1 h2 h3 => appendNumberI_out _ p1 _ _ _ o1 HKi.out.1 HKi.out.2 (by have := HL.out; omega))).mono ?_; clear C0; rintro e w1 ⟨v1,rfl,C1'⟩; have c1 := C1'.rp.at 2 _ rfl; have C1 := hid C1'; clear C1')
  | (go_at_call 168; refine (C1.out.call (le_app _ (txtBox r.t.client)) (fun p1 o1 h1 h2 h3 => appendText_out _ p1 _ _ _ o1 (by have := HF.out.client; omega) (by have := HL.out; simp only [List.length_append]; omega))).mono ?_; clear C1; rintro e w2 ⟨v2,rfl,C2'⟩; have C2 := hid C2'; clear C2')
  | (go_at_call 169; refine (C2.out.call (le_app _ r.ticket) (fun p1 o1 h1 h2 h3 => appendTicket_out _ p1 _ _ _ _ o1 h3 h2 h1 HF.out (by have := HL.out; simp only [List.length_append]; omega))).mono ?_; clear C2; rintro e w3 ⟨v3,rfl,C3'⟩; have C3 := hid C3'; clear C3')
  | (go_at_call 170; refine (C3.out.call (le_app _ (r.part use)) (fun p1 o1 h1 h2 h3 => appendPart_out _ p1 _ _ _ use x _ o1 h3 h2 h1 HF.out hu HU.out (by have := HL.out; simp only [List.length_append]; omega))).mono ?_; clear C3; rintro e w4 ⟨v4,rfl,C4'⟩; have C4 := hid C4'; clear C4')
  | (go_at_call 153; refine (HW.out _ _ C4.out).mono ?_; rintro e w9 ⟨v9,rfl,C9'⟩; have C9 := hid C9'; clear C9'))
 go_wp2
 go_ret
 exact ⟨_,rfl,C9.out.more⟩
set_option maxHeartbeats 400000 in
theorem appendToFirst_out (ov : Value) (p : Option Pl) (bs : List UInt8) (b : Nat) (r : RP) (w : World) (hb : Out w ov p bs) (hr : RpAt w b r) (hlt : b < w.heap.size) (ho : Off p b) (hf : r.Fits) (hl : bs.length ≤ 300000) :
  Calls Tryz.prog 103 #[.pointer (some ⟨b,0,none⟩),ov] w fun e w' => ∃ v',e = .returned v' ∧ OutMore w w' v' p (bs ++ r.reply 11 3) := by
 have HA := hid (appendTo_out ov p bs b r 3 11 3 w hb hr hlt ho hf (by constructor <;> decide) (hid rfl) (by decide) hl)
 clear hb hr ho hf
 go_enter Tryz.func103,Tryz.ntmps103
 go_wp2_with (go_at_call 140; refine HA.out.mono ?_; rintro e w2 ⟨v2,rfl,R2⟩)
 go_wp2
 go_ret
 exact ⟨_,rfl,R2⟩
set_option maxHeartbeats 400000 in
theorem appendToNext_out (ov : Value) (p : Option Pl) (bs : List UInt8) (b : Nat) (r : RP) (w : World) (hb : Out w ov p bs) (hr : RpAt w b r) (hlt : b < w.heap.size) (ho : Off p b) (hf : r.Fits) (hl : bs.length ≤ 300000) :
  Calls Tryz.prog 109 #[.pointer (some ⟨b,0,none⟩),ov] w fun e w' => ∃ v',e = .returned v' ∧ OutMore w w' v' p (bs ++ r.reply 13 5) := by
 have HA := hid (appendTo_out ov p bs b r 5 13 5 w hb hr hlt ho hf (by constructor <;> decide) (hid rfl) (by decide) hl)
 clear hb hr ho hf
 go_enter Tryz.func109,Tryz.ntmps109
 go_wp2_with (go_at_call 140; refine HA.out.mono ?_; rintro e w2 ⟨v2,rfl,R2⟩)
 go_wp2
 go_ret
 exact ⟨_,rfl,R2⟩
end Go.Proofs.YtpijkgbafjccaaaGreatDoor
