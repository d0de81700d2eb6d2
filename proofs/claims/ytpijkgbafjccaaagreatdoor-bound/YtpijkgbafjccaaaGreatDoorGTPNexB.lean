/-
  
-/
import Derived.Test.YtpijkgbafjccaaaGreatDoorGTPNexA
import Derived.Deep.CutBlock
namespace Go.Proofs.YtpijkgbafjccaaaGreatDoor
open Go.RowKit
set_option maxRecDepth 100000
theorem adm_keeps (M : DM) (now : Int) (q : NQ) : (admM M now q).2.book = M.book ∧ (admM M now q).2.skew = M.skew ∧ (admM M now q).2.draws = M.draws := by
 unfold admM
 cases nextOpen M now q with
 | error c => exact ⟨rfl,rfl,rfl⟩
 | ok a =>
  obtain ⟨t,p⟩ := a
  simp only []
  split <;> exact ⟨rfl,rfl,rfl⟩
theorem adm_old {M : DM} {now : Int} {q : NQ} {t : TK} (h : (admM M now q).1 = .ok t) : t.In := by
 unfold admM nextOpen at h
 split at h
 ·cases h
 ·rename_i t' p hc
  have ht : t' = t := by
   by_cases h0 : proofCode M.skew now M.proofs p ≠ 0
   ·rw [if_pos h0] at h; cases h
   ·rw [if_neg h0] at h; injection h
  subst ht
  split at hc
  ·cases hc
  ·split at hc
   ·cases hc
   ·split at hc
    ·cases hc
    ·rename_i key _
     split at hc
     ·cases hc
     ·rename_i t2 h2
      have e2 : t2.In := by
       rw [ticket_same] at h2
       split at h2
       ·injection h2 with h2
        rw [← h2]
        exact tkQ_in _
       ·cases h2
      split at hc
      ·cases hc
      ·split at hc
       ·cases hc
       ·split at hc
        ·cases hc
        ·injection hc with hc
         injection hc with hc _
         rw [← hc]
         exact e2
theorem grant_codes {now c : Int} {q : NQ} {old : TK} {x s : BE} (h : grantM now q old x s = .error c) : c = 33 ∨ c = 32 ∨ c = 11 := by
 unfold grantM validM renewM derM at h
 by_cases h32 : wayM q.opts = 32
 ·rw [if_pos h32] at h
  split at h
  ·injection h with h; omega
  ·cases h
 ·rw [if_neg h32] at h
  by_cases h16 : wayM q.opts = 16
  ·rw [if_pos h16] at h
   split at h
   ·injection h with h; omega
   ·cases h
  ·rw [if_neg h16] at h
   split at h
   ·injection h with h; omega
   ·cases h
theorem nfin_give {w W W1 W2 : World} {hb g base T rb : Nat} {fv rv v' : Value} {po pr dp : Option Pl} {J : World → Prop} {exF exJ : Nat → Nat → Prop} {M' : DM} {es : List BE} {bs : List UInt8} {qd dp' : Pl} (hbig : w.heap.size ≤ W.heap.size) (hcf : CF w W (exA g po exF)) (k : CF W W1 (fun b y => b = g ∧ y = 1 ∨ b = rb)) (hrb : w.heap.size ≤ rb) (hbase : base ≤ w.heap.size) (hj : J W) (h : OutMore W1 W2 v' pr bs) (S : HS hb g base T fv rv po pr dp J exF exJ es) (hd : DeskAt W1 g 0 (some dp') M') (hdp : dp = some qd) (hg : dp'.g = qd.g) : Fin w W2 g po pr dp exF v' (bs,M') ∧ J W2 := by
 obtain ⟨p',h1,h2,h3,_⟩ := h
 refine ⟨?_,S.finds.stay _ _ (S.finds.stay _ _ hj (k.mono (fun b y _ e => by rcases e with e | e; rw [e.1,e.2]; exact S.drawJ; rw [e]; exact S.newJ _ _ (by omega)))) (h2.mono (fun b y _ e => S.prJ b y e))⟩
 refine ⟨⟨p',h1,h3.imp id (fun q => fresh_mono q (Nat.le_trans hbig k.size))⟩,⟨some dp',hd.cf h2 (fun j _ hj e => S.prG j (by omega) e) (fun q hq j _ e => ?_),fun q' hq' => ⟨qd,hdp,?_⟩⟩,?_⟩
 ·injection hq with hq
  subst hq
  rw [hg] at e
  exact ((S.dpF qd hdp).2.2.2 _).2.2 e
 ·injection hq' with hq'
  subst hq'
  exact hg.symm
 ·exact ((hcf.mono (fun _ _ _ e => by rcases e with e | e; exact .inr (.inl e); exact .inl ⟨e.1,.inr e.2⟩)).trans k (fun i o hi e => by rcases e with e | e; exact .inl ⟨e.1,.inl e.2⟩; omega)).trans h2 (fun _ _ _ e => .inr (.inr e))
theorem ByteAt.grown {w w' : World} {po : Option Pl} {exF : Nat → Nat → Prop} {z : List UInt8} {v : Value} (h : ByteAt w po exF z v) (k : w.grownBy w' none) : ByteAt w' po exF z v := by
 obtain ⟨ao,cap,h1,h2,h3,h4⟩ := h
 exact ⟨ao,cap,h1,h2,h3.below k,fun b off e j hj => ⟨(h4 b off e j hj).1,(h4 b off e j hj).2.1,Nat.lt_of_lt_of_le (h4 b off e j hj).2.2 k.size⟩⟩
theorem live7 {w : World} {b : Nat} (h : Live w b 7) : (∃ d,w.cell? ⟨b,0,none⟩ = some d) ∧ (∃ d,w.cell? ⟨b,1,none⟩ = some d) ∧ (∃ d,w.cell? ⟨b,2,none⟩ = some d) ∧ (∃ d,w.cell? ⟨b,3,none⟩ = some d) ∧ (∃ d,w.cell? ⟨b,4,none⟩ = some d) ∧ (∃ d,w.cell? ⟨b,5,none⟩ = some d) ∧ (∃ d,w.cell? ⟨b,6,none⟩ = some d) ∧ w.frozen? ⟨b,0,none⟩ = false ∧ w.frozen? ⟨b,1,none⟩ = false ∧ w.frozen? ⟨b,2,none⟩ = false ∧ w.frozen? ⟨b,3,none⟩ = false ∧ w.frozen? ⟨b,4,none⟩ = false ∧ w.frozen? ⟨b,5,none⟩ = false ∧ w.frozen? ⟨b,6,none⟩ = false := by
 have hc : ∀ j,j < 7 → ∃ v,w.cell? ⟨b,j,none⟩ = some v := fun j hj => Option.isSome_iff_exists.1 (h.some j hj)
 exact ⟨hc 0 (by decide),hc 1 (by decide),hc 2 (by decide),hc 3 (by decide),hc 4 (by decide),hc 5 (by decide),hc 6 (by decide),h.frozen 0,h.frozen 1,h.frozen 2,h.frozen 3,h.frozen 4,h.frozen 5,h.frozen 6⟩
set_option maxHeartbeats 20000000 in
theorem answerNext_any (hb g base T : Nat) (fv rv ro rr : Value) (po pr dp : Option Pl) (J : World → Prop) (exF exJ : Nat → Nat → Prop) (M : DM) (now : Int) (q : NQ) (v u : Value) (w : World) (S : HS hb g base T fv rv po pr dp J exF exJ M.book) (h : Hear w hb g T fv ro rr now) (hd : DeskAt w g 0 dp M) (hJ : J w) (ho : Out w ro po []) (hr : Out w rr pr []) (hv : ByteAt w po exF q.tsealed v) (hu : ByteAt w po exF q.proof u) (hnow : In64 now) (hsk : In64 M.skew) (htm : ∀ y ∈ M.proofs,In64 y.time) (hq1 : In64 q.nonce) (hq2 : In64 q.till) (hq3 : In64 q.rtime) (hq4 : In64 q.opts) (hbase : base ≤ w.heap.size) :
  Calls Tryz.prog 70 #[.pointer (some ⟨hb,0,none⟩),.agg (q.cells v u).toArray] w fun e w' => ∃ v',e = .returned v' ∧ Fin w w' g po pr dp exF v' (nextM M now q) ∧ J w' := by
 have hbb := S.hbb
 have hgb := S.gb
 obtain ⟨W0,hW0⟩ : ∃ W,W = ((w.alloc (.cells (q.cells v u).toArray 172)).alloc (.cells noGrant 219)).alloc (.cells noGrant 219) := ⟨_,rfl⟩
 have G0 : w.grownBy W0 none := by rw [hW0]; exact gb_alloc (gb_alloc (World.grownBy_alloc w _ none) _) _
 have RQ : W0.rangeAt w.heap.size 0 (q.cells v u) := by rw [hW0]; exact range_gb (cells_range w (q.cells v u).toArray _) (gb_alloc (World.grownBy_alloc _ _ none) _)
 have L1 : Live W0 (w.heap.size + 1) 7 := by
  have h := (Live.new (w.alloc (.cells (q.cells v u).toArray 172)) noGrant 219).grown (World.grownBy_alloc _ (.cells noGrant 219) none)
  rw [World.size_alloc] at h
  rw [hW0]
  exact h
 have L2 : Live W0 (w.heap.size + 2) 7 := by
  have h := Live.new ((w.alloc (.cells (q.cells v u).toArray 172)).alloc (.cells noGrant 219)) noGrant 219
  rw [World.size_alloc,World.size_alloc] at h
  rw [hW0]
  exact h
 have hpo : ∀ b y,Pl.has po b y → b < w.heap.size := fun b y e => ho.lt e
 have hprg : ∀ p,pr = some p → p.g < w.heap.size := fun p hp => hr.ltg p hp
 obtain ⟨AR,hAR⟩ : ∃ R,admM M now q = R := ⟨_,rfl⟩
 have hAd := admit_any hb g base T fv rv ro rr po pr dp J exF exJ M now q v u W0 S (h.grown G0) (hd.grown G0) (S.finds.stay _ _ hJ (CF.of_gb G0 _)) (ho.grown G0) (hr.grown G0) (hv.grown G0) (hu.grown G0) hnow htm (Nat.le_trans hbase G0.size)
 rw [hAR] at hAd
 obtain ⟨m0,m1,m2,m3,m4,m5,m6,m7,hm⟩ := madeV_seven AR.1
 rw [hm] at hAd
 have hNX : ∀ W,DeskAt W g 0 dp AR.2 → CF W0 W (fun b y => exA g po exF b y ∨ b = w.heap.size + 1) → J W → ∀ old,W.rangeAt (w.heap.size + 1) 0 old → NXJ J w W hb g T fv ro rr po pr dp exF AR.2 now (q.cells v u) old := by
  intro W hD hC hjW old hO
  refine ⟨⟨(h.grown G0).cf hC ?_,hD,(ho.grown G0).cf hC (fun _ _ j hj => absurd hj (by simp)),(hr.grown G0).cf hC (fun _ _ j hj => absurd hj (by simp)),hC.range RQ ?_,hO,L2.cf hC,Nat.le_trans G0.size hC.size,(CF.before G0 hC).mono (fun b _ hb e => by rcases e with e | e; exact e; omega)⟩,hjW⟩
  ·rintro y (((e | e) | e) | e)
   ·exact S.hbF y e
   ·exact off_has S.poH y e
   ·exact S.hbg e.1
   ·omega
  ·rintro j _ (((e | e) | e) | e)
   ·exact S.newF _ _ (by omega) e
   ·have := hpo _ _ e; omega
   ·omega
   ·omega
 have HStep : Hid (∀ W W' M1 old,NXJ J w W hb g T fv ro rr po pr dp exF M1 now (q.cells v u) old → CF W W' (fun b y => Pl.has po b y ∨ w.heap.size + 1 < b) → NXJ J w W' hb g T fv ro rr po pr dp exF M1 now (q.cells v u) old) := fun W W' M1 old h k => h.step S k hbase hpo
 have HStepF : Hid (∀ W W' M1 old,NXJ J w W hb g T fv ro rr po pr dp exF M1 now (q.cells v u) old → CF W W' exF → J W' → NXJ J w W' hb g T fv ro rr po pr dp exF M1 now (q.cells v u) old) := fun W W' M1 old h k j => ⟨h.toNX.step S (k.mono (fun _ _ _ e => .inl (.inl e))) hbase hpo,j⟩
 have HBase := hid hbase
 have HNX := hid hNX
 have HAd := hid hAd
 have HM := hid hm
 have HAR := hid hAR
 have HL1 := hid L1
 have HST := hid S.finds.stay
 have HS' := hid S
 have HW0 := hid hW0
 have HG0 := hid G0
 have HPo := hid hpo
 have HPrg := hid hprg
 have HKeep : Hid (AR.2.book = M.book ∧ AR.2.skew = M.skew ∧ AR.2.draws = M.draws) := by rw [← hAR]; exact hid (adm_keeps M now q)
 have HQ : Hid (In64 now ∧ In64 M.skew ∧ In64 q.nonce ∧ In64 q.till ∧ In64 q.rtime ∧ In64 q.opts) := ⟨hnow,hsk,hq1,hq2,hq3,hq4⟩
 have HN : Hid (hb < w.heap.size ∧ g < w.heap.size) := ⟨by omega,by omega⟩
 have HR0 := hid RQ
 obtain ⟨FR,hFR⟩ : ∃ R,nextM M now q = R := ⟨_,rfl⟩
 rw [hFR]
 have HFR := hid hFR
 have hNA := next_adm M now q
 rw [hFR,hAR] at hNA
 have HNA := hid hNA
 clear hNA hFR hAR hm hAd hNX h hd hJ ho hr hv hu hnow hsk htm hq1 hq2 hq3 hq4 hW0 G0 RQ L1 L2 hpo hprg S
 go_enter Tryz.func70,Tryz.ntmps70
 go_wp2_with fail
 go_step3
 go_wp2_with fail
 go_step3
 go_upto_block 0 with fail
 go_cut [5] (fun c wx => ∃ code M1,c = .int .i64 code ∧ In64 code ∧ FR = (refusalBox now code,M1) ∧ Hear wx hb g T fv ro rr now ∧ DeskAt wx g 0 dp M1 ∧ Out wx rr pr [] ∧ w.heap.size ≤ wx.heap.size ∧ CF w wx (exA g po exF) ∧ J wx)
 case first =>
  go_upto_region 3 with fail
  rw [← HW0.out]
  obtain ⟨k0,k1,k2,k3,k4,k5,k6,k7,k8⟩ := nine_cells HR0.out
  go_cut [5] (fun c wx => c = .int .i64 m7 ∧ NXJ J w wx hb g T fv ro rr po pr dp exF AR.2 now (q.cells v u) [.int .i64 m0,.int .u64 m1,.string m2,.int .i64 m3,.int .i64 m4,.int .i64 m5,.int .i64 m6] ∧ J wx)
  case first =>
   go_wp2_with (first | (go_at_call 105; refine HAd.out.mono ?_; clear HAd; rintro r w1 ⟨rfl,D1,j1,C1⟩; have HD1 := hid D1; have HJ1 := hid j1; have HC1 := hid C1; have HLv := hid (HL1.out.cf C1); clear D1 j1 C1; obtain ⟨⟨d0,q0⟩,⟨d1,q1⟩,⟨d2,q2⟩,⟨d3,q3⟩,⟨d4,q4⟩,⟨d5,q5⟩,⟨d6,q6⟩,f0,f1,f2,f3,f4,f5,f6⟩ := live7 HLv.out))
   go_meet
   have C2 := seven_cf w1 (w.heap.size + 1) (.int .i64 m0) (.int .u64 m1) (.string m2) (.int .i64 m3) (.int .i64 m4) (.int .i64 m5) (.int .i64 m6)
   have J2 : J _ := HST.out _ _ HJ1.out (C2.mono (fun b y _ e => HS'.out.newJ b y (by omega)))
   refine ⟨rfl,HNX.out _ ?_ ?_ J2 _ (live_range [.int .i64 m0,.int .u64 m1,.string m2,.int .i64 m3,.int .i64 m4,.int .i64 m5,.int .i64 m6] 0 w1 (w.heap.size + 1) 7 HLv.out (Nat.le_refl 7)),?_⟩
   ·exact HD1.out.cf C2 (fun j _ _ e => by have := HN.out.2; omega) (fun p hp j _ e => by have := (HS'.out.dpF p hp).2.2.1; omega)
   ·exact (HC1.out.mono (fun _ _ _ e => .inl e)).trans C2 (fun _ _ _ e => .inr e)
   ·exact J2
  case rest =>
   obtain ⟨rfl,hX,hj⟩ := hcut
   have HX1 := hid hX
   have HJ1 := hid hj
   clear hX hj k0 k1 k2 k3 k4 k5 k6 k7 k8 HAd HNX HL1 HW0 HG0 HR0
   obtain ⟨A1,M',hA⟩ : ∃ a b,AR = (a,b) := ⟨AR.1,AR.2,rfl⟩
   subst hA
   cases A1 with
   | error cd =>
    have hcs := adm_codes (c := cd) (by rw [HAR.out])
    have hFE : FR = (refusalBox now cd,M') := HNA.out
    have hm7 : m7 = cd := by
     have := HM.out
     simp only [madeV] at this
     injection this with this
     have h2 := congrArg (fun a : Array Value => a[1]?) this
     simpa using h2.symm
    subst hm7
    have HFE := hid hFE
    clear hFE HM HNA HAR
    rcases hcs with rfl | rfl | rfl | rfl | rfl | rfl | rfl
    all_goals
     go_wp2_with fail
     go_meet
     exact ⟨_,_,rfl,⟨by decide,by decide⟩,HFE.out,HX1.out.hear,HX1.out.desk,HX1.out.r,HX1.out.big,HX1.out.cf,HX1.out.j⟩
   | ok t =>
    have hm := HM.out
    simp only [madeV] at hm
    have HTI := hid (adm_old (t := t) (by rw [HAR.out]))
    have hFE : FR = finishM M' now (nextRest M' now q t) := HNA.out
    have HFE := hid hFE
    injection hm with hm
    have e0 : Value.agg t.cells.toArray = Value.agg #[.int .i64 m0,.int .u64 m1,.string m2,.int .i64 m3,.int .i64 m4,.int .i64 m5,.int .i64 m6] := Option.some.inj (congrArg (fun a : Array Value => a[0]?) hm)
    have e1 : Value.int .i64 0 = Value.int .i64 m7 := Option.some.inj (congrArg (fun a : Array Value => a[1]?) hm)
    injection e0 with e0
    injection e1 with _ e1
    have e0 : t.cells = [.int .i64 m0,.int .u64 m1,.string m2,.int .i64 m3,.int .i64 m4,.int .i64 m5,.int .i64 m6] := congrArg Array.toList e0
    subst e1
    rw [← e0] at HX1
    clear hm e0 hFE HM HNA
    have HX1 : Hid (NXJ J w wc hb g T fv ro rr po pr dp exF M' now (q.cells v u) t.cells) := HX1.out
    have hkp : M'.book = M.book ∧ M'.skew = M.skew ∧ M'.draws = M.draws := HKeep.out
    have HKp := hid hkp
    clear hkp HKeep HAR
    have HAh : Hid (∀ W,NXJ J w W hb g T fv ro rr po pr dp exF M' now (q.cells v u) t.cells → Calls Tryz.prog 106 #[.pointer (some ⟨hb,0,none⟩),.int .i64 t.start] W fun e w' => e = .returned (.bool (decide (satAdd now M.skew < t.start))) ∧ ∃ m,w' = W.drewN m) := fun W X => by
     have hs := X.desk.skew
     rw [HKp.out.2.1] at hs
     exact isAhead_any hb g now M.skew t.start W X.hear.c3 X.hear.c4 hs HQ.out.1 HQ.out.2.1
    obtain ⟨k0,k1,k2,k3,k4,k5,k6,k7,k8⟩ := nine_cells HX1.out.ask
    have t0 : wc.cell? ⟨w.heap.size + 1,0,none⟩ = some (.int .i64 t.flags) := HX1.out.old 0 _ rfl
    have t4 : wc.cell? ⟨w.heap.size + 1,4,none⟩ = some (.int .i64 t.start) := HX1.out.old 4 _ rfl
    have HQ16 := hid (and_one0 t.flags 16 4 (by decide) (by decide))
    have HQ32 := hid (and_one0 q.opts 32 5 (by decide) (by decide))
    obtain ⟨er,her⟩ : ∃ b,(bitB t.flags 16 && !bitB q.opts 32 || decide (satAdd now M.skew < t.start)) = b := ⟨_,rfl⟩
    have HER := hid her
    clear her
    go_upto_region 6 with fail
    go_cut [33] (fun c wx => c = .bool er ∧ NXJ J w wx hb g T fv ro rr po pr dp exF M' now (q.cells v u) t.cells ∧ J wx)
    case first =>
     have h16 := HQ16.out
     have h32 := HQ32.out
     have hAh := HAh.out wc HX1.out
     obtain ⟨ah,hah⟩ : ∃ b,decide (satAdd now M.skew < t.start) = b := ⟨_,rfl⟩
     rw [hah] at hAh HER
     have HAh2 := hid hAh
     clear hAh hah
     generalize bitB t.flags 16 = b16 at *
     generalize bitB q.opts 32 = b32 at *
     cases b16 with
     | true =>
      rw [Bool.not_true] at h16
      have p16 := beq_eq_false_iff_ne.1 h16
      cases b32 with
      | false =>
       rw [Bool.not_false] at h32
       have p32 := beq_iff_eq.1 h32
       clear h16 h32
       go_wp2_with fail
       go_meet
       exact ⟨by rw [← HER.out]; rfl,HX1.out,HJ1.out⟩
      | true =>
       rw [Bool.not_true] at h32
       have p32 := beq_eq_false_iff_ne.1 h32
       clear h16 h32
       go_wp2_with (first | (go_at_call 106; refine HAh2.out.mono ?_; clear HAh2; rintro r w2 ⟨rfl,m,hw2⟩; have HG2 : Hid (wc.grownBy w2 none) := (by rw [hw2]; exact gb_drewN (World.grownBy.refl _ _) m); clear hw2))
       go_meet
       exact ⟨by rw [← HER.out]; simp [p32],HStep.out _ _ _ _ HX1.out (CF.of_gb HG2.out _),HST.out _ _ HJ1.out (CF.of_gb HG2.out _)⟩
     | false =>
      rw [Bool.not_false] at h16
      have p16 := beq_iff_eq.1 h16
      clear h16 h32
      go_wp2_with (first | (go_at_call 106; refine HAh2.out.mono ?_; clear HAh2; rintro r w2 ⟨rfl,m,hw2⟩; have HG2 : Hid (wc.grownBy w2 none) := (by rw [hw2]; exact gb_drewN (World.grownBy.refl _ _) m); clear hw2))
      go_meet
      exact ⟨by rw [← HER.out]; simp,HStep.out _ _ _ _ HX1.out (CF.of_gb HG2.out _),HST.out _ _ HJ1.out (CF.of_gb HG2.out _)⟩
    case rest =>
     obtain ⟨rfl,hX,hj⟩ := hcut
     have HX2 := hid hX
     have HJ2 := hid hj
     clear hX hj HX1 HJ1 k0 k1 k2 k3 k4 k5 k6 k7 k8 t0 t4 HQ16 HQ32 HAh
     obtain ⟨k0,k1,k2,k3,k4,k5,k6,k7,k8⟩ := nine_cells HX2.out.ask
     cases er with
     | true =>
      have HF2 : Hid (FR = (refusalBox now 33,M')) := by
       rw [HFE.out,rest_early]
       ·exact rfl
       ·have := HER.out
        rw [HKp.out.2.1]
        simpa using this
      go_wp2_with fail
      go_meet
      exact ⟨_,_,rfl,⟨by decide,by decide⟩,HF2.out,HX2.out.hear,HX2.out.desk,HX2.out.r,HX2.out.big,HX2.out.cf,HX2.out.j⟩
     | false =>
      have HNE : Hid (¬ (bitB t.flags 16 = true ∧ bitB q.opts 32 = false ∨ satAdd now M'.skew < t.start)) := by
       refine hid ?_
       have := HER.out
       rw [HKp.out.2.1]
       simpa using this
      have t5 : wc.cell? ⟨w.heap.size + 1,5,none⟩ = some (.int .i64 t.fin) := HX2.out.old 5 _ rfl
      have c4 := HX2.out.hear.c4
      by_cases hlate : t.fin < now
      ·have HF2 : Hid (FR = (refusalBox now 32,M')) := by rw [HFE.out,rest_late HNE.out hlate]; exact rfl
       go_wp2_with fail
       go_quiet (fail)
       go_wp2
       go_meet
       have hS := HStep.out wc (wc.drewN nq) _ _ HX2.out (CF.of_gb (gb_drewN (World.grownBy.refl _ _) nq) _)
       exact ⟨_,_,rfl,⟨by decide,by decide⟩,HF2.out,hS.hear,hS.desk,hS.r,hS.big,hS.cf,hS.j⟩
      ·have HLate := hid hlate
       go_wp2_with fail
       go_quiet (fail)
       go_wp2_with fail
       obtain ⟨W2,hW2⟩ : ∃ W,W = (wc.drewN nq).alloc (.cells noPair 207) := ⟨_,rfl⟩
       have G2 : wc.grownBy W2 none := by rw [hW2]; exact gb_alloc (gb_drewN (World.grownBy.refl _ _) nq) _
       obtain ⟨pb,hpb⟩ : ∃ n,n = wc.heap.size := ⟨_,rfl⟩
       have LP : Live W2 pb 16 := by rw [hW2,hpb]; exact Live.new (wc.drewN nq) noPair _
       have hpbs : w.heap.size + 2 < pb := by rw [hpb]; exact HX2.out.made.lt
       have HX3 := hid (HStep.out _ _ _ _ HX2.out (CF.of_gb G2 _))
       have HJ3 := hid (HST.out _ _ HJ2.out (CF.of_gb G2 _))
       have HLP := hid LP
       rw [← hW2,← hpb]
       clear hW2 G2 LP hpb HX2 HJ2 k0 k1 k2 k3 k4 k5 k6 k7 k8 t5 c4
       obtain ⟨y,hy⟩ : ∃ y,BE.find M.book q.service = y := ⟨_,rfl⟩
       obtain ⟨x,hx⟩ : ∃ x,BE.find M.book t.client = x := ⟨_,rfl⟩
       have hFd : ∀ W,J W → NXJ J w W hb g T fv ro rr po pr dp exF M' now (q.cells v u) t.cells → Calls Tryz.prog 93 #[.pointer (some ⟨hb,0,none⟩),.agg #[.string ⟨q.service.toArray⟩,.int .i64 7,.int .i64 2],.agg #[.string ⟨t.client.toArray⟩,.int .i64 6,.int .i64 1]] W fun e w' => e = .returned (.tuple #[.agg (foundC y).toArray,.agg (foundC x).toArray,.int .i64 (pairCode y x now 7 6 2 1)]) ∧ J w' ∧ CF W w' exF := by
        intro W hJW XW
        have := hfind_any hb base T fv rv J exF exJ M.book q.service t.client 7 2 6 1 now W HS'.out.meth HS'.out.finds hJW XW.hear.c0 XW.hear.c4 HS'.out.hbF HS'.out.newF HS'.out.newJ (Nat.le_trans hbase XW.big)
        rw [hy,hx] at this
        exact this
       obtain ⟨v0,v1,v2,v3,v4,v5,v6,v7,hv⟩ := foundC_eight x
       obtain ⟨u0,u1,u2,u3,u4,u5,u6,u7,hu⟩ := foundC_eight y
       rw [hv,hu] at hFd
       have HFd := hid hFd
       have HV := hid hv
       have HU := hid hu
       have HXY := hid (And.intro hx hy)
       clear hFd hv hu hx hy
       have na : pb ≠ w.heap.size := by omega
       have nb : pb ≠ w.heap.size + 1 := by omega
       have a0 : W2.cell? ⟨w.heap.size,4,none⟩ = some (.string ⟨q.service.toArray⟩) := HX3.out.ask 4 _ rfl
       have a1 : W2.cell? ⟨w.heap.size + 1,2,none⟩ = some (.string ⟨t.client.toArray⟩) := HX3.out.old 2 _ rfl
       go_cut [5] (fun c wx => c = .int .i64 (pairCode y x now 7 6 2 1) ∧ wx.rangeAt pb 0 [.string v0,.int .i64 v1,.int .u64 v2,.int .u64 v3,.int .i64 v4,.int .i64 v5,.int .i64 v6,.int .i64 v7] ∧ wx.rangeAt pb 8 [.string u0,.int .i64 u1,.int .u64 u2,.int .u64 u3,.int .i64 u4,.int .i64 u5,.int .i64 u6,.int .i64 u7] ∧ NXJ J w wx hb g T fv ro rr po pr dp exF M' now (q.cells v u) t.cells ∧ J wx)
       case first =>
        go_region_held3 (fun w' => w'.cell? ⟨w.heap.size,4,none⟩ = some (.string ⟨q.service.toArray⟩) ∧ w'.cell? ⟨w.heap.size + 1,2,none⟩ = some (.string ⟨t.client.toArray⟩)) (go_keep) (first
         | (go_at_call 95; refine (asService_any _ _).mono ?_; rintro e w4 ⟨rfl,g4⟩; have HG4 := hid (gb_undrew g4); have HX4 := hid (HStep.out _ _ _ _ HX3.out (CF.of_gb (gb_undrew g4) _)); clear g4; have a0' := HX4.out.ask 4 _ rfl; have a1' : w4.cell? ⟨w.heap.size + 1,2,none⟩ = some (.string ⟨t.client.toArray⟩) := HX4.out.old 2 _ rfl)
         | (go_at_call 94; refine (asClient_any _ _).mono ?_; rintro e w5 ⟨rfl,g5⟩; have HG5 := hid (gb_trans HG4.out g5); have HX5 := hid (HStep.out _ _ _ _ HX4.out (CF.of_gb g5 _)); clear g5; have b0' := HX5.out.ask 4 _ rfl; have b1' : w5.cell? ⟨w.heap.size + 1,2,none⟩ = some (.string ⟨t.client.toArray⟩) := HX5.out.old 2 _ rfl)
         | (go_at_call 93; refine (HFd.out _ (HST.out _ _ HJ3.out (CF.of_gb HG5.out _)) HX5.out).mono ?_; rintro e w6 ⟨rfl,j6,C6⟩; have HJ6 := hid j6; have HX6 := hid (HStepF.out _ _ _ _ HX5.out C6 j6); have HL6 := hid ((HLP.out.grown HG5.out).cf C6); clear C6 j6; have c0' := HX6.out.ask 4 _ rfl; have c1' : w6.cell? ⟨w.heap.size + 1,2,none⟩ = some (.string ⟨t.client.toArray⟩) := HX6.out.old 2 _ rfl; have L16 := live_sixteen HL6.out; obtain ⟨d0,q0⟩ := L16.1 0 (by decide); have f0 := L16.2 0; obtain ⟨d1,q1⟩ := L16.1 1 (by decide); have f1 := L16.2 1; obtain ⟨d2,q2⟩ := L16.1 2 (by decide); have f2 := L16.2 2; obtain ⟨d3,q3⟩ := L16.1 3 (by decide); have f3 := L16.2 3; obtain ⟨d4,q4⟩ := L16.1 4 (by decide); have f4 := L16.2 4; obtain ⟨d5,q5⟩ := L16.1 5 (by decide); have f5 := L16.2 5; obtain ⟨d6,q6⟩ := L16.1 6 (by decide); have f6 := L16.2 6; obtain ⟨d7,q7⟩ := L16.1 7 (by decide); have f7 := L16.2 7; obtain ⟨d8,q8⟩ := L16.1 8 (by decide); have f8 := L16.2 8; obtain ⟨d9,q9⟩ := L16.1 9 (by decide); have f9 := L16.2 9; obtain ⟨d10,q10⟩ := L16.1 10 (by decide); have f10 := L16.2 10; obtain ⟨d11,q11⟩ := L16.1 11 (by decide); have f11 := L16.2 11; obtain ⟨d12,q12⟩ := L16.1 12 (by decide); have f12 := L16.2 12; obtain ⟨d13,q13⟩ := L16.1 13 (by decide); have f13 := L16.2 13; obtain ⟨d14,q14⟩ := L16.1 14 (by decide); have f14 := L16.2 14; obtain ⟨d15,q15⟩ := L16.1 15 (by decide); have f15 := L16.2 15; clear L16))
        go_wp2
        go_meet
        have R8 := live_range [.string u0,.int .i64 u1,.int .u64 u2,.int .u64 u3,.int .i64 u4,.int .i64 u5,.int .i64 u6,.int .i64 u7] 8 w6 pb 16 HL6.out (by simp)
        have C8 : CF w6 (w6.setCells pb 8 [.string u0,.int .i64 u1,.int .u64 u2,.int .u64 u3,.int .i64 u4,.int .i64 u5,.int .i64 u6,.int .i64 u7]) (fun b _ => b = pb) := CF.setCells pb _ 8 w6 (CF.refl _ _) (fun _ _ _ => rfl)
        have C0 : CF (w6.setCells pb 8 [.string u0,.int .i64 u1,.int .u64 u2,.int .u64 u3,.int .i64 u4,.int .i64 u5,.int .i64 u6,.int .i64 u7]) ((w6.setCells pb 8 [.string u0,.int .i64 u1,.int .u64 u2,.int .u64 u3,.int .i64 u4,.int .i64 u5,.int .i64 u6,.int .i64 u7]).setCells pb 0 [.string v0,.int .i64 v1,.int .u64 v2,.int .u64 v3,.int .i64 v4,.int .i64 v5,.int .i64 v6,.int .i64 v7]) (fun b y => b = pb ∧ y < 8) := CF.setCells pb _ 0 _ (CF.refl _ _) (fun j hj _ => ⟨rfl,by simp at hj; omega⟩)
        have R0 := live_range [.string v0,.int .i64 v1,.int .u64 v2,.int .u64 v3,.int .i64 v4,.int .i64 v5,.int .i64 v6,.int .i64 v7] 0 _ pb 16 (HL6.out.cf C8) (by simp)
        refine ⟨rfl,R0,C0.range R8 (fun _ _ e => by omega),HStep.out _ _ _ _ HX6.out ((C8.mono (fun b _ _ e => .inr (by omega))).trans C0 (fun _ _ _ e => .inr (by omega))),?_⟩
        exact HST.out _ _ HJ6.out ((C8.mono (fun b y _ e => HS'.out.newJ b y (by omega))).trans C0 (fun b y _ e => HS'.out.newJ b y (by omega)))
       case rest =>
        obtain ⟨rfl,hrA,hrB,hX,hj⟩ := hcut
        have HX7 := hid hX
        have HJ7 := hid hj
        have HRA := hid hrA
        have HRB := hid hrB
        clear hX hj hrA hrB a0 a1 HX3 HJ3 HLP HFd
        obtain ⟨k0,k1,k2,k3,k4,k5,k6,k7,k8⟩ := nine_cells HX7.out.ask
        have t0 : wc.cell? ⟨w.heap.size + 1,0,none⟩ = some (.int .i64 t.flags) := HX7.out.old 0 _ rfl
        by_cases hpc : pairCode y x now 7 6 2 1 = 0
        ·obtain ⟨sv,cl,rfl,rfl⟩ := pair_zero (by decide) (by decide) hpc
         have hP : PairAt wc pb cl sv := ⟨by have h := HRA.out; rw [← HV.out] at h; exact h,by have h := HRB.out; rw [← HU.out] at h; exact h⟩
         have HP7 := hid hP
         have HPC := hid hpc
         rw [hpc]
         clear hpc hP HRA HRB HV HU
         have HMy := hid (deskMay_any q.opts t.flags wc HQ.out.2.2.2.2.2)
         cases hok : optsOk q.opts t.flags with
         | false =>
          rw [hok] at HMy
          have HF2 : Hid (FR = (refusalBox now 13,M')) := by
           rw [HFE.out,rest_opts HNE.out (Int.not_lt.2 HLate.out) (by rw [HKp.out.1]; exact HXY.out.2) (by rw [HKp.out.1]; exact HXY.out.1) HPC.out hok]
           exact rfl
          clear hok
          go_wp2_with (first | (go_at_call 107; refine HMy.out.mono ?_; clear HMy; rintro r w8 ⟨rfl,rfl⟩))
          go_meet
          exact ⟨_,_,rfl,⟨by decide,by decide⟩,HF2.out,HX7.out.hear,HX7.out.desk,HX7.out.r,HX7.out.big,HX7.out.cf,HX7.out.j⟩
         | true =>
          rw [hok] at HMy
          have HOk := hid hok
          clear hok
          go_wp2_with (first | (go_at_call 107; refine HMy.out.mono ?_; clear HMy; rintro r w8 ⟨rfl,rfl⟩))
          clear k0 k1 k2 k3 k4 k5 k6 k7 k8 t0
          have HGr : Hid (∀ W,PairAt W pb cl sv → Calls Tryz.prog 108 #[.pointer (some ⟨pb,0,none⟩),.int .i64 now,.agg (q.cells v u).toArray,.agg t.cells.toArray] W fun e w' => e = .returned (madeV (grantM now q t cl sv)) ∧ W.grownBy w' none) := fun W P => by
           have i1 := HS'.out.bookOk cl (find_mem HXY.out.1)
           have i2 := HS'.out.bookOk sv (find_mem HXY.out.2)
           exact grant_any pb now q v u t cl sv W P HQ.out.1 i1.life i2.life i1.renew i2.renew HTI.out
          obtain ⟨GM,hGM⟩ : ∃ m,grantM now q t cl sv = m := ⟨_,rfl⟩
          obtain ⟨n0,n1,n2,n3,n4,n5,n6,n7,hn⟩ := madeV_seven GM
          rw [hGM,hn] at HGr
          have HGM := hid hGM
          have HNn := hid hn
          clear hGM hn
          have HS17 : Hid (∀ W,NXJ J w W hb g T fv ro rr po pr dp exF M' now (q.cells v u) t.cells → W.cell? ⟨hb,4,none⟩ = some (.int .i64 now) ∧ W.cell? ⟨w.heap.size,0,none⟩ = some (.string ⟨q.tsvc.toArray⟩) ∧ W.cell? ⟨w.heap.size,1,none⟩ = some (.int .i64 q.tnum) ∧ W.cell? ⟨w.heap.size,2,none⟩ = some (v) ∧ W.cell? ⟨w.heap.size,3,none⟩ = some (u) ∧ W.cell? ⟨w.heap.size,4,none⟩ = some (.string ⟨q.service.toArray⟩) ∧ W.cell? ⟨w.heap.size,5,none⟩ = some (.int .i64 q.nonce) ∧ W.cell? ⟨w.heap.size,6,none⟩ = some (.int .i64 q.till) ∧ W.cell? ⟨w.heap.size,7,none⟩ = some (.int .i64 q.rtime) ∧ W.cell? ⟨w.heap.size,8,none⟩ = some (.int .i64 q.opts) ∧ W.cell? ⟨w.heap.size + 1,0,none⟩ = some (.int .i64 t.flags) ∧ W.cell? ⟨w.heap.size + 1,1,none⟩ = some (.int .u64 (t.session.toNat : Int)) ∧ W.cell? ⟨w.heap.size + 1,2,none⟩ = some (.string ⟨t.client.toArray⟩) ∧ W.cell? ⟨w.heap.size + 1,3,none⟩ = some (.int .i64 t.auth) ∧ W.cell? ⟨w.heap.size + 1,4,none⟩ = some (.int .i64 t.start) ∧ W.cell? ⟨w.heap.size + 1,5,none⟩ = some (.int .i64 t.fin) ∧ W.cell? ⟨w.heap.size + 1,6,none⟩ = some (.int .i64 t.renew)) := fun W X => ⟨X.hear.c4,X.ask 0 _ rfl,X.ask 1 _ rfl,X.ask 2 _ rfl,X.ask 3 _ rfl,X.ask 4 _ rfl,X.ask 5 _ rfl,X.ask 6 _ rfl,X.ask 7 _ rfl,X.ask 8 _ rfl,X.old 0 _ rfl,X.old 1 _ rfl,X.old 2 _ rfl,X.old 3 _ rfl,X.old 4 _ rfl,X.old 5 _ rfl,X.old 6 _ rfl⟩
          have HK17 : Hid (∀ W,NXJ J w W hb g T fv ro rr po pr dp exF M' now (q.cells v u) t.cells → (((((((W.setCell ⟨w.heap.size + 2,0,none⟩ (.int .i64 n0)).setCell ⟨w.heap.size + 2,1,none⟩ (.int .u64 n1)).setCell ⟨w.heap.size + 2,2,none⟩ (.string n2)).setCell ⟨w.heap.size + 2,3,none⟩ (.int .i64 n3)).setCell ⟨w.heap.size + 2,4,none⟩ (.int .i64 n4)).setCell ⟨w.heap.size + 2,5,none⟩ (.int .i64 n5)).setCell ⟨w.heap.size + 2,6,none⟩ (.int .i64 n6)).cell? ⟨hb,4,none⟩ = some (.int .i64 now) ∧ (((((((W.setCell ⟨w.heap.size + 2,0,none⟩ (.int .i64 n0)).setCell ⟨w.heap.size + 2,1,none⟩ (.int .u64 n1)).setCell ⟨w.heap.size + 2,2,none⟩ (.string n2)).setCell ⟨w.heap.size + 2,3,none⟩ (.int .i64 n3)).setCell ⟨w.heap.size + 2,4,none⟩ (.int .i64 n4)).setCell ⟨w.heap.size + 2,5,none⟩ (.int .i64 n5)).setCell ⟨w.heap.size + 2,6,none⟩ (.int .i64 n6)).cell? ⟨w.heap.size,0,none⟩ = some (.string ⟨q.tsvc.toArray⟩) ∧ (((((((W.setCell ⟨w.heap.size + 2,0,none⟩ (.int .i64 n0)).setCell ⟨w.heap.size + 2,1,none⟩ (.int .u64 n1)).setCell ⟨w.heap.size + 2,2,none⟩ (.string n2)).setCell ⟨w.heap.size + 2,3,none⟩ (.int .i64 n3)).setCell ⟨w.heap.size + 2,4,none⟩ (.int .i64 n4)).setCell ⟨w.heap.size + 2,5,none⟩ (.int .i64 n5)).setCell ⟨w.heap.size + 2,6,none⟩ (.int .i64 n6)).cell? ⟨w.heap.size,1,none⟩ = some (.int .i64 q.tnum) ∧ (((((((W.setCell ⟨w.heap.size + 2,0,none⟩ (.int .i64 n0)).setCell ⟨w.heap.size + 2,1,none⟩ (.int .u64 n1)).setCell ⟨w.heap.size + 2,2,none⟩ (.string n2)).setCell ⟨w.heap.size + 2,3,none⟩ (.int .i64 n3)).setCell ⟨w.heap.size + 2,4,none⟩ (.int .i64 n4)).setCell ⟨w.heap.size + 2,5,none⟩ (.int .i64 n5)).setCell ⟨w.heap.size + 2,6,none⟩ (.int .i64 n6)).cell? ⟨w.heap.size,2,none⟩ = some (v) ∧ (((((((W.setCell ⟨w.heap.size + 2,0,none⟩ (.int .i64 n0)).setCell ⟨w.heap.size + 2,1,none⟩ (.int .u64 n1)).setCell ⟨w.heap.size + 2,2,none⟩ (.string n2)).setCell ⟨w.heap.size + 2,3,none⟩ (.int .i64 n3)).setCell ⟨w.heap.size + 2,4,none⟩ (.int .i64 n4)).setCell ⟨w.heap.size + 2,5,none⟩ (.int .i64 n5)).setCell ⟨w.heap.size + 2,6,none⟩ (.int .i64 n6)).cell? ⟨w.heap.size,3,none⟩ = some (u) ∧ (((((((W.setCell ⟨w.heap.size + 2,0,none⟩ (.int .i64 n0)).setCell ⟨w.heap.size + 2,1,none⟩ (.int .u64 n1)).setCell ⟨w.heap.size + 2,2,none⟩ (.string n2)).setCell ⟨w.heap.size + 2,3,none⟩ (.int .i64 n3)).setCell ⟨w.heap.size + 2,4,none⟩ (.int .i64 n4)).setCell ⟨w.heap.size + 2,5,none⟩ (.int .i64 n5)).setCell ⟨w.heap.size + 2,6,none⟩ (.int .i64 n6)).cell? ⟨w.heap.size,4,none⟩ = some (.string ⟨q.service.toArray⟩) ∧ (((((((W.setCell ⟨w.heap.size + 2,0,none⟩ (.int .i64 n0)).setCell ⟨w.heap.size + 2,1,none⟩ (.int .u64 n1)).setCell ⟨w.heap.size + 2,2,none⟩ (.string n2)).setCell ⟨w.heap.size + 2,3,none⟩ (.int .i64 n3)).setCell ⟨w.heap.size + 2,4,none⟩ (.int .i64 n4)).setCell ⟨w.heap.size + 2,5,none⟩ (.int .i64 n5)).setCell ⟨w.heap.size + 2,6,none⟩ (.int .i64 n6)).cell? ⟨w.heap.size,5,none⟩ = some (.int .i64 q.nonce) ∧ (((((((W.setCell ⟨w.heap.size + 2,0,none⟩ (.int .i64 n0)).setCell ⟨w.heap.size + 2,1,none⟩ (.int .u64 n1)).setCell ⟨w.heap.size + 2,2,none⟩ (.string n2)).setCell ⟨w.heap.size + 2,3,none⟩ (.int .i64 n3)).setCell ⟨w.heap.size + 2,4,none⟩ (.int .i64 n4)).setCell ⟨w.heap.size + 2,5,none⟩ (.int .i64 n5)).setCell ⟨w.heap.size + 2,6,none⟩ (.int .i64 n6)).cell? ⟨w.heap.size,6,none⟩ = some (.int .i64 q.till) ∧ (((((((W.setCell ⟨w.heap.size + 2,0,none⟩ (.int .i64 n0)).setCell ⟨w.heap.size + 2,1,none⟩ (.int .u64 n1)).setCell ⟨w.heap.size + 2,2,none⟩ (.string n2)).setCell ⟨w.heap.size + 2,3,none⟩ (.int .i64 n3)).setCell ⟨w.heap.size + 2,4,none⟩ (.int .i64 n4)).setCell ⟨w.heap.size + 2,5,none⟩ (.int .i64 n5)).setCell ⟨w.heap.size + 2,6,none⟩ (.int .i64 n6)).cell? ⟨w.heap.size,7,none⟩ = some (.int .i64 q.rtime) ∧ (((((((W.setCell ⟨w.heap.size + 2,0,none⟩ (.int .i64 n0)).setCell ⟨w.heap.size + 2,1,none⟩ (.int .u64 n1)).setCell ⟨w.heap.size + 2,2,none⟩ (.string n2)).setCell ⟨w.heap.size + 2,3,none⟩ (.int .i64 n3)).setCell ⟨w.heap.size + 2,4,none⟩ (.int .i64 n4)).setCell ⟨w.heap.size + 2,5,none⟩ (.int .i64 n5)).setCell ⟨w.heap.size + 2,6,none⟩ (.int .i64 n6)).cell? ⟨w.heap.size,8,none⟩ = some (.int .i64 q.opts) ∧ (((((((W.setCell ⟨w.heap.size + 2,0,none⟩ (.int .i64 n0)).setCell ⟨w.heap.size + 2,1,none⟩ (.int .u64 n1)).setCell ⟨w.heap.size + 2,2,none⟩ (.string n2)).setCell ⟨w.heap.size + 2,3,none⟩ (.int .i64 n3)).setCell ⟨w.heap.size + 2,4,none⟩ (.int .i64 n4)).setCell ⟨w.heap.size + 2,5,none⟩ (.int .i64 n5)).setCell ⟨w.heap.size + 2,6,none⟩ (.int .i64 n6)).cell? ⟨w.heap.size + 1,0,none⟩ = some (.int .i64 t.flags) ∧ (((((((W.setCell ⟨w.heap.size + 2,0,none⟩ (.int .i64 n0)).setCell ⟨w.heap.size + 2,1,none⟩ (.int .u64 n1)).setCell ⟨w.heap.size + 2,2,none⟩ (.string n2)).setCell ⟨w.heap.size + 2,3,none⟩ (.int .i64 n3)).setCell ⟨w.heap.size + 2,4,none⟩ (.int .i64 n4)).setCell ⟨w.heap.size + 2,5,none⟩ (.int .i64 n5)).setCell ⟨w.heap.size + 2,6,none⟩ (.int .i64 n6)).cell? ⟨w.heap.size + 1,1,none⟩ = some (.int .u64 (t.session.toNat : Int)) ∧ (((((((W.setCell ⟨w.heap.size + 2,0,none⟩ (.int .i64 n0)).setCell ⟨w.heap.size + 2,1,none⟩ (.int .u64 n1)).setCell ⟨w.heap.size + 2,2,none⟩ (.string n2)).setCell ⟨w.heap.size + 2,3,none⟩ (.int .i64 n3)).setCell ⟨w.heap.size + 2,4,none⟩ (.int .i64 n4)).setCell ⟨w.heap.size + 2,5,none⟩ (.int .i64 n5)).setCell ⟨w.heap.size + 2,6,none⟩ (.int .i64 n6)).cell? ⟨w.heap.size + 1,2,none⟩ = some (.string ⟨t.client.toArray⟩) ∧ (((((((W.setCell ⟨w.heap.size + 2,0,none⟩ (.int .i64 n0)).setCell ⟨w.heap.size + 2,1,none⟩ (.int .u64 n1)).setCell ⟨w.heap.size + 2,2,none⟩ (.string n2)).setCell ⟨w.heap.size + 2,3,none⟩ (.int .i64 n3)).setCell ⟨w.heap.size + 2,4,none⟩ (.int .i64 n4)).setCell ⟨w.heap.size + 2,5,none⟩ (.int .i64 n5)).setCell ⟨w.heap.size + 2,6,none⟩ (.int .i64 n6)).cell? ⟨w.heap.size + 1,3,none⟩ = some (.int .i64 t.auth) ∧ (((((((W.setCell ⟨w.heap.size + 2,0,none⟩ (.int .i64 n0)).setCell ⟨w.heap.size + 2,1,none⟩ (.int .u64 n1)).setCell ⟨w.heap.size + 2,2,none⟩ (.string n2)).setCell ⟨w.heap.size + 2,3,none⟩ (.int .i64 n3)).setCell ⟨w.heap.size + 2,4,none⟩ (.int .i64 n4)).setCell ⟨w.heap.size + 2,5,none⟩ (.int .i64 n5)).setCell ⟨w.heap.size + 2,6,none⟩ (.int .i64 n6)).cell? ⟨w.heap.size + 1,4,none⟩ = some (.int .i64 t.start) ∧ (((((((W.setCell ⟨w.heap.size + 2,0,none⟩ (.int .i64 n0)).setCell ⟨w.heap.size + 2,1,none⟩ (.int .u64 n1)).setCell ⟨w.heap.size + 2,2,none⟩ (.string n2)).setCell ⟨w.heap.size + 2,3,none⟩ (.int .i64 n3)).setCell ⟨w.heap.size + 2,4,none⟩ (.int .i64 n4)).setCell ⟨w.heap.size + 2,5,none⟩ (.int .i64 n5)).setCell ⟨w.heap.size + 2,6,none⟩ (.int .i64 n6)).cell? ⟨w.heap.size + 1,5,none⟩ = some (.int .i64 t.fin) ∧ (((((((W.setCell ⟨w.heap.size + 2,0,none⟩ (.int .i64 n0)).setCell ⟨w.heap.size + 2,1,none⟩ (.int .u64 n1)).setCell ⟨w.heap.size + 2,2,none⟩ (.string n2)).setCell ⟨w.heap.size + 2,3,none⟩ (.int .i64 n3)).setCell ⟨w.heap.size + 2,4,none⟩ (.int .i64 n4)).setCell ⟨w.heap.size + 2,5,none⟩ (.int .i64 n5)).setCell ⟨w.heap.size + 2,6,none⟩ (.int .i64 n6)).cell? ⟨w.heap.size + 1,6,none⟩ = some (.int .i64 t.renew)) := fun W X => HS17.out _ (HStep.out _ _ _ _ X ((seven_cf W (w.heap.size + 2) _ _ _ _ _ _ _).mono (fun b _ _ e => .inr (by omega))))
          obtain ⟨x4,xa0,xa1,xa2,xa3,xa4,xa5,xa6,xa7,xa8,xo0,xo1,xo2,xo3,xo4,xo5,xo6⟩ := HS17.out _ HX7.out
          obtain ⟨W7,hW7⟩ : ∃ W,W = w8 := ⟨_,rfl⟩
          rw [← hW7] at HX7 HJ7 HP7 x4 xa0 xa1 xa2 xa3 xa4 xa5 xa6 xa7 xa8 xo0 xo1 xo2 xo3 xo4 xo5 xo6
          rw [← hW7]
          clear hW7
          go_cut [5] (fun c wx => c = .int .i64 n7 ∧ wx.rangeAt (w.heap.size + 2) 0 [.int .i64 n0,.int .u64 n1,.string n2,.int .i64 n3,.int .i64 n4,.int .i64 n5,.int .i64 n6] ∧ NXJ J w wx hb g T fv ro rr po pr dp exF M' now (q.cells v u) t.cells ∧ PairAt wx pb cl sv)
          case first =>
           have hPd := HP7.out.grown (gb_drew (World.grownBy.refl _ _))
           have HG9 := hid (HGr.out _ hPd)
           clear hPd
           go_region_held3 (fun w' => w'.cell? ⟨hb,4,none⟩ = some (.int .i64 now) ∧ w'.cell? ⟨w.heap.size,0,none⟩ = some (.string ⟨q.tsvc.toArray⟩) ∧ w'.cell? ⟨w.heap.size,1,none⟩ = some (.int .i64 q.tnum) ∧ w'.cell? ⟨w.heap.size,2,none⟩ = some (v) ∧ w'.cell? ⟨w.heap.size,3,none⟩ = some (u) ∧ w'.cell? ⟨w.heap.size,4,none⟩ = some (.string ⟨q.service.toArray⟩) ∧ w'.cell? ⟨w.heap.size,5,none⟩ = some (.int .i64 q.nonce) ∧ w'.cell? ⟨w.heap.size,6,none⟩ = some (.int .i64 q.till) ∧ w'.cell? ⟨w.heap.size,7,none⟩ = some (.int .i64 q.rtime) ∧ w'.cell? ⟨w.heap.size,8,none⟩ = some (.int .i64 q.opts) ∧ w'.cell? ⟨w.heap.size + 1,0,none⟩ = some (.int .i64 t.flags) ∧ w'.cell? ⟨w.heap.size + 1,1,none⟩ = some (.int .u64 (t.session.toNat : Int)) ∧ w'.cell? ⟨w.heap.size + 1,2,none⟩ = some (.string ⟨t.client.toArray⟩) ∧ w'.cell? ⟨w.heap.size + 1,3,none⟩ = some (.int .i64 t.auth) ∧ w'.cell? ⟨w.heap.size + 1,4,none⟩ = some (.int .i64 t.start) ∧ w'.cell? ⟨w.heap.size + 1,5,none⟩ = some (.int .i64 t.fin) ∧ w'.cell? ⟨w.heap.size + 1,6,none⟩ = some (.int .i64 t.renew)) (first | (with_reducible exact HK17.out _ HX9.out) | go_keep) (first
            | (go_at_call 108; refine HG9.out.mono ?_; clear HG9; rintro r w9 ⟨rfl,g9⟩; have HX9 := hid (HStep.out _ _ _ _ HX7.out (CF.of_gb (gb_undrew g9) _)); have HP9 := hid (HP7.out.grown (gb_undrew g9)); clear g9; obtain ⟨y4,ya0,ya1,ya2,ya3,ya4,ya5,ya6,ya7,ya8,yo0,yo1,yo2,yo3,yo4,yo5,yo6⟩ := HS17.out _ HX9.out; obtain ⟨⟨d0,q0⟩,⟨d1,q1⟩,⟨d2,q2⟩,⟨d3,q3⟩,⟨d4,q4⟩,⟨d5,q5⟩,⟨d6,q6⟩,f0,f1,f2,f3,f4,f5,f6⟩ := live7 HX9.out.made))
           go_wp2
           go_meet
           have C9 := seven_cf w9 (w.heap.size + 2) (.int .i64 n0) (.int .u64 n1) (.string n2) (.int .i64 n3) (.int .i64 n4) (.int .i64 n5) (.int .i64 n6)
           exact ⟨rfl,live_range [.int .i64 n0,.int .u64 n1,.string n2,.int .i64 n3,.int .i64 n4,.int .i64 n5,.int .i64 n6] 0 w9 (w.heap.size + 2) 7 HX9.out.made (Nat.le_refl 7),HStep.out _ _ _ _ HX9.out (C9.mono (fun b _ _ e => .inr (by omega))),HP9.out.cf C9 (fun _ e => by omega)⟩
          case rest =>
           obtain ⟨rfl,hM,hX,hP⟩ := hcut
           have HX9 := hid hX
           have HP9 := hid hP
           have HM9 := hid hM
           clear hX hP hM x4 xa0 xa1 xa2 xa3 xa4 xa5 xa6 xa7 xa8 xo0 xo1 xo2 xo3 xo4 xo5 xo6 HX7 HP7 HGr
           cases GM with
           | error cd =>
            have hm7 : n7 = cd := by
             have := HNn.out
             simp only [madeV] at this
             injection this with this
             have h2 := congrArg (fun a : Array Value => a[1]?) this
             simpa using h2.symm
            subst hm7
            have HF2 : Hid (FR = (refusalBox now n7,M')) := by
             rw [HFE.out,rest_bad HNE.out (Int.not_lt.2 HLate.out) (by rw [HKp.out.1]; exact HXY.out.2) (by rw [HKp.out.1]; exact HXY.out.1) HPC.out HOk.out HGM.out]
             exact rfl
            have hcs := grant_codes HGM.out
            clear HNn HGM
            rcases hcs with rfl | rfl | rfl
            all_goals
             go_wp2_with fail
             go_meet
             exact ⟨_,_,rfl,⟨by decide,by decide⟩,HF2.out,HX9.out.hear,HX9.out.desk,HX9.out.r,HX9.out.big,HX9.out.cf,HX9.out.j⟩
           | ok t' =>
            have hm := HNn.out
            simp only [madeV] at hm
            injection hm with hm
            have e0 : Value.agg t'.cells.toArray = Value.agg #[.int .i64 n0,.int .u64 n1,.string n2,.int .i64 n3,.int .i64 n4,.int .i64 n5,.int .i64 n6] := Option.some.inj (congrArg (fun a : Array Value => a[0]?) hm)
            have e1 : Value.int .i64 0 = Value.int .i64 n7 := Option.some.inj (congrArg (fun a : Array Value => a[1]?) hm)
            injection e0 with e0
            injection e1 with _ e1
            have e0 : t'.cells = [.int .i64 n0,.int .u64 n1,.string n2,.int .i64 n3,.int .i64 n4,.int .i64 n5,.int .i64 n6] := congrArg Array.toList e0
            subst e1
            rw [← e0] at HM9
            have HOkk := hid (rest_ok HNE.out (Int.not_lt.2 HLate.out) (by rw [HKp.out.1]; exact HXY.out.2) (by rw [HKp.out.1]; exact HXY.out.1) HPC.out HOk.out HGM.out)
            have HGI := hid (grant_in HTI.out HQ.out.1 HQ.out.2.2.2.1 HQ.out.2.2.2.2.1 HGM.out)
            rw [← HFE.out] at HOkk
            clear hm e0 HNn HGM HFE HNE HLate HER HS17 HK17
            have HS10 : Hid (∀ W,wc.grownBy W none → W.cell? ⟨w.heap.size + 2,0,none⟩ = some (.int .i64 t'.flags) ∧ W.cell? ⟨w.heap.size + 2,1,none⟩ = some (.int .u64 (t'.session.toNat : Int)) ∧ W.cell? ⟨w.heap.size + 2,2,none⟩ = some (.string ⟨t'.client.toArray⟩) ∧ W.cell? ⟨w.heap.size + 2,3,none⟩ = some (.int .i64 t'.auth) ∧ W.cell? ⟨w.heap.size + 2,4,none⟩ = some (.int .i64 t'.start) ∧ W.cell? ⟨w.heap.size + 2,5,none⟩ = some (.int .i64 t'.fin) ∧ W.cell? ⟨w.heap.size + 2,6,none⟩ = some (.int .i64 t'.renew) ∧ W.cell? ⟨w.heap.size,4,none⟩ = some (.string ⟨q.service.toArray⟩) ∧ W.cell? ⟨w.heap.size,5,none⟩ = some (.int .i64 q.nonce) ∧ W.cell? ⟨w.heap.size + 1,1,none⟩ = some (.int .u64 (t.session.toNat : Int))) := fun W hW => ⟨hW.cell (HM9.out 0 _ rfl) (by simp),hW.cell (HM9.out 1 _ rfl) (by simp),hW.cell (HM9.out 2 _ rfl) (by simp),hW.cell (HM9.out 3 _ rfl) (by simp),hW.cell (HM9.out 4 _ rfl) (by simp),hW.cell (HM9.out 5 _ rfl) (by simp),hW.cell (HM9.out 6 _ rfl) (by simp),hW.cell (HX9.out.ask 4 _ rfl) (by simp),hW.cell (HX9.out.ask 5 _ rfl) (by simp),hW.cell (HX9.out.old 1 _ rfl) (by simp)⟩
            obtain ⟨x0,x1,x2,x3,x4,x5,x6,x7,x8,x9⟩ := HS10.out _ (World.grownBy.refl _ _)
            go_wp2_with fail
            obtain ⟨W9,hW9⟩ : ∃ W,W = wc := ⟨_,rfl⟩
            rw [← hW9] at HX9 HP9 HM9 HS10 x0 x1 x2 x3 x4 x5 x6 x7 x8 x9
            rw [← hW9]
            clear hW9
            go_cut [9] (fun p wx => ∃ rb,p = .pointer (some ⟨rb,0,none⟩) ∧ w.heap.size + 2 < rb ∧ Blk wx rb #[.int .i64 t'.flags,.int .u64 (t'.session.toNat : Int),.string ⟨t'.client.toArray⟩,.int .i64 t'.auth,.int .i64 t'.start,.int .i64 t'.fin,.int .i64 t'.renew,.string ⟨q.service.toArray⟩,.int .i64 sv.number,.int .u64 (sv.key.toNat : Int),.int .u64 0,.int .i64 q.nonce,.int .i64 0,.int .u64 (t.session.toNat : Int),.int .u64 0] ∧ NXJ J w wx hb g T fv ro rr po pr dp exF M' now (q.cells v u) t.cells)
            case first =>
             have hb9 : w.heap.size + 2 < W9.heap.size := HX9.out.made.lt
             have nea : w.heap.size ≠ W9.heap.size := by omega
             have neb : w.heap.size + 1 ≠ W9.heap.size := by omega
             have nec : w.heap.size + 2 ≠ W9.heap.size := by omega
             have hK8 : ∀ W,W9.grownBy W none → Calls Tryz.prog 99 #[.pointer (some ⟨pb,8,none⟩)] W fun r w' => r = .returned (.agg #[.int .i64 sv.number,.int .u64 (sv.key.toNat : Int)]) ∧ W.grownBy w' none := fun W hW => newestKey_any pb 8 sv W (hW.cell (HP9.out.s 1 _ rfl) (by simp)) (hW.cell (HP9.out.s 2 _ rfl) (by simp))
             have HKa : Hid (Calls Tryz.prog 99 #[.pointer (some ⟨pb,8,none⟩)] W9.drew fun r w' => r = .returned (.agg #[.int .i64 sv.number,.int .u64 (sv.key.toNat : Int)]) ∧ W9.grownBy w' none) := (hK8 _ (gb_drew (World.grownBy.refl _ _))).mono fun _ _ ⟨a,b⟩ => ⟨a,gb_undrew b⟩
             have HKb : Hid (Calls Tryz.prog 99 #[.pointer (some ⟨pb,8,none⟩)] ((W9.alloc (.cells #[.int .i64 0,.int .u64 0,.string ⟨#[]⟩,.int .i64 0,.int .i64 0,.int .i64 0,.int .i64 0,.string ⟨#[]⟩,.int .i64 0,.int .u64 0,.int .u64 0,.int .i64 0,.int .i64 0,.int .u64 0,.int .u64 0] 224)).drew) fun r w' => r = .returned (.agg #[.int .i64 sv.number,.int .u64 (sv.key.toNat : Int)]) ∧ W9.grownBy w' none ∧ Blk w' W9.heap.size #[.int .i64 0,.int .u64 0,.string ⟨#[]⟩,.int .i64 0,.int .i64 0,.int .i64 0,.int .i64 0,.string ⟨#[]⟩,.int .i64 0,.int .u64 0,.int .u64 0,.int .i64 0,.int .i64 0,.int .u64 0,.int .u64 0]) := (hK8 _ (gb_drew (World.grownBy_alloc _ _ none))).mono fun _ _ ⟨a,b⟩ => ⟨a,gb_trans (gb_drew (World.grownBy_alloc _ _ none)) b,(Blk.new W9 _ _).drew.grown b (by simp)⟩
             clear hK8
             obtain ⟨xz0,xz1,xz2,xz3,xz4,xz5,xz6,xz7,xz8,xz9⟩ := HS10.out _ (World.grownBy_alloc W9 (.cells #[.int .i64 0,.int .u64 0,.string ⟨#[]⟩,.int .i64 0,.int .i64 0,.int .i64 0,.int .i64 0,.string ⟨#[]⟩,.int .i64 0,.int .u64 0,.int .u64 0,.int .i64 0,.int .i64 0,.int .u64 0,.int .u64 0] 224) none)
             go_region_held3 (fun w' => w'.cell? ⟨w.heap.size + 2,0,none⟩ = some (.int .i64 t'.flags) ∧ w'.cell? ⟨w.heap.size + 2,1,none⟩ = some (.int .u64 (t'.session.toNat : Int)) ∧ w'.cell? ⟨w.heap.size + 2,2,none⟩ = some (.string ⟨t'.client.toArray⟩) ∧ w'.cell? ⟨w.heap.size + 2,3,none⟩ = some (.int .i64 t'.auth) ∧ w'.cell? ⟨w.heap.size + 2,4,none⟩ = some (.int .i64 t'.start) ∧ w'.cell? ⟨w.heap.size + 2,5,none⟩ = some (.int .i64 t'.fin) ∧ w'.cell? ⟨w.heap.size + 2,6,none⟩ = some (.int .i64 t'.renew) ∧ w'.cell? ⟨w.heap.size,4,none⟩ = some (.string ⟨q.service.toArray⟩) ∧ w'.cell? ⟨w.heap.size,5,none⟩ = some (.int .i64 q.nonce) ∧ w'.cell? ⟨w.heap.size + 1,1,none⟩ = some (.int .u64 (t.session.toNat : Int))) (first | (with_reducible exact ⟨keep15 nec z0,keep15 nec z1,keep15 nec z2,keep15 nec z3,keep15 nec z4,keep15 nec z5,keep15 nec z6,keep15 nea z7,keep15 nea z8,keep15 neb z9⟩) | go_keep) (first
              | (go_at_call 99; (with_reducible apply Calls.mono HKa.out); rintro r w10 ⟨rfl,g10⟩; have HG10 := hid g10; clear g10; obtain ⟨y0,y1,y2,y3,y4,y5,y6,y7,y8,y9⟩ := HS10.out _ HG10.out; obtain ⟨yz0,yz1,yz2,yz3,yz4,yz5,yz6,yz7,yz8,yz9⟩ := HS10.out _ (gb_alloc HG10.out (.cells #[.int .i64 0,.int .u64 0,.string ⟨#[]⟩,.int .i64 0,.int .i64 0,.int .i64 0,.int .i64 0,.string ⟨#[]⟩,.int .i64 0,.int .u64 0,.int .u64 0,.int .i64 0,.int .i64 0,.int .u64 0,.int .u64 0] 224)); obtain ⟨yr0,yr1,yr2,yr3,yr4,yr5,yr6,yr7,yr8,yr9⟩ := HS10.out _ (gb_alloc HG10.out (.cells #[.int .i64 t'.flags,.int .u64 (t'.session.toNat : Int),.string ⟨t'.client.toArray⟩,.int .i64 t'.auth,.int .i64 t'.start,.int .i64 t'.fin,.int .i64 t'.renew,.string ⟨q.service.toArray⟩,.int .i64 sv.number,.int .u64 (sv.key.toNat : Int),.int .u64 0,.int .i64 q.nonce,.int .i64 0,.int .u64 (t.session.toNat : Int),.int .u64 0] 224)))
              | (go_at_call 99; (with_reducible apply Calls.mono HKb.out); rintro r w10 ⟨rfl,g10,bz⟩; have HG10 := hid g10; have HBz9 := hid bz; clear g10 bz; have t0 := HBz9.out.cell 0; have tf0 := HBz9.out.frozen 0; have t1 := HBz9.out.cell 1; have tf1 := HBz9.out.frozen 1; have t2 := HBz9.out.cell 2; have tf2 := HBz9.out.frozen 2; have t3 := HBz9.out.cell 3; have tf3 := HBz9.out.frozen 3; have t4 := HBz9.out.cell 4; have tf4 := HBz9.out.frozen 4; have t5 := HBz9.out.cell 5; have tf5 := HBz9.out.frozen 5; have t6 := HBz9.out.cell 6; have tf6 := HBz9.out.frozen 6; have t7 := HBz9.out.cell 7; have tf7 := HBz9.out.frozen 7; have t8 := HBz9.out.cell 8; have tf8 := HBz9.out.frozen 8; have t9 := HBz9.out.cell 9; have tf9 := HBz9.out.frozen 9; have t10 := HBz9.out.cell 10; have tf10 := HBz9.out.frozen 10; have t11 := HBz9.out.cell 11; have tf11 := HBz9.out.frozen 11; have t12 := HBz9.out.cell 12; have tf12 := HBz9.out.frozen 12; have t13 := HBz9.out.cell 13; have tf13 := HBz9.out.frozen 13; have t14 := HBz9.out.cell 14; have tf14 := HBz9.out.frozen 14; obtain ⟨z0,z1,z2,z3,z4,z5,z6,z7,z8,z9⟩ := HS10.out _ HG10.out))
             all_goals go_wp2
             all_goals go_meet
             all_goals have HX10 := HStep.out _ _ _ _ HX9.out (CF.of_gb HG10.out _)
             ·exact ⟨_,rfl,(by have := HG10.out.size; omega),Blk.new _ _ _,HStep.out _ _ _ _ HX10 (CF.of_gb (World.grownBy_alloc _ _ none) _)⟩
             ·exact ⟨W9.heap.size,rfl,hb9,blk15 HBz9.out _ _ _ _ _ _ _ _ _ _ _ _ _ _ _,HStep.out _ _ _ _ HX10 (cf15 w10 W9.heap.size _ _ _ _ _ _ _ _ _ _ _ _ _ _ _ _ (fun _ => .inr (by omega)))⟩
            case rest =>
             obtain ⟨rb,rfl,hrb,hB,hX⟩ := hcut
             have HX10 := hid hX
             have HB10 := hid hB
             clear hX hB HX9 HP9 HM9 HS10 x0 x1 x2 x3 x4 x5 x6 x7 x8 x9
             obtain ⟨rp,hrp⟩ : ∃ r : RP,r = ⟨t',q.service,sv.number,sv.key,0,q.nonce,0,t.session,0⟩ := ⟨_,rfl⟩
             have hRp : RpAt wc rb rp := by rw [hrp]; exact HB10.out.range
             have hLr : Live wc rb 15 := blk_live HB10.out 15 (Nat.le_refl 15)
             by_cases h24 : M'.draws.length < 24
             ·obtain ⟨ao,cap,hc⟩ := desk_few HX10.out.desk
              have HD := hid (draw_no hb g rb M'.draws.length cap ao rp wc HX10.out.hear.c3 h24 hc hRp hLr)
              rw [if_pos h24] at HOkk
              clear hc hRp hLr hrp h24
              go_wp2_with (first
               | (go_at_call 102; refine HD.out.mono ?_; clear HD; rintro r w11 ⟨rfl,C11⟩; have HC11 := hid C11; clear C11))
              go_meet
              have hS := HStep.out _ _ _ _ HX10.out (HC11.out.mono (fun _ _ _ e => .inr (by omega)))
              exact ⟨_,_,rfl,⟨by decide,by decide⟩,HOkk.out,hS.hear,hS.desk,hS.r,hS.big,hS.cf,hS.j⟩
             ·obtain ⟨qd,hqd,hc,hcl,hcm,hcr,hcL⟩ := desk_many HX10.out.desk (by omega)
              have hdp := HS'.out.dpF qd hqd
              have hgw := HN.out.2
              have HD := hid (draw_yes hb g rb qd M'.draws M'.draws.length rp wc HX10.out.hear.c3 (hid rfl) (by omega) hcl hcm hc (by have := HX10.out.desk.live; rwa [Nat.zero_add] at this) hcr hdp.1 (hcL.lt) hRp hLr (by omega) (by have := HN.out.1; omega) HS'.out.hbg)
              have HDk := hid (fun W' off => desk_after (W' := W') (rb := rb) (off := off) HX10.out.desk (by omega) hcl hcm hcr hcL)
              rw [if_neg h24] at HOkk
              obtain ⟨ao,cap,hv,hsl⟩ := cut_zero HX10.out.r
              subst hv
              have c2 := HX10.out.hear.c2
              have Hrp := hid hrp
              have Hqd := hid hqd
              have Hdp := hid hdp
              have HHr : Hid (hb ≠ rb) := by have := HN.out.1; exact hid (by omega)
              have HLc := hid hLr.lt
              have HOr : Hid (Off pr rb) := fun p hp e => by have := HPrg.out p hp; omega
              have HApp : Hid (∀ W,RpAt W rb (rp.drawn (drawAt M'.draws 0) (drawAt M'.draws 1) (drawAt M'.draws 2)) → Out W (.slice ao 0 cap) pr [] → rb < W.heap.size → Calls Tryz.prog 109 #[.pointer (some ⟨rb,0,none⟩),.slice ao 0 cap] W fun e w' => ∃ v',e = .returned v' ∧ OutMore W w' v' pr ([] ++ (rp.drawn (drawAt M'.draws 0) (drawAt M'.draws 1) (drawAt M'.draws 2)).reply 13 5)) :=
               fun W h1 h2 h3 => appendToNext_out (.slice ao 0 cap) pr [] rb _ W h2 h1 h3 HOr.out (fits_next Hrp.out HGI.out.1 HQ.out.2.2.1 (HS'.out.bookOk sv (find_mem HXY.out.2)) (find_name HXY.out.2) (by rw [HGI.out.2,← find_name HXY.out.1]; exact (HS'.out.bookOk cl (find_mem HXY.out.1)).name)) (by simp)
              clear hc hcl hcm hcr hcL hdp hgw hRp hLr hrp hqd h24
              go_wp2_with (first
               | (go_at_call 102; refine HD.out.mono ?_; clear HD; rintro r w11 ⟨rfl,hR11,ho11,C11⟩; have HR11 := hid hR11; have HO11 := hid ho11; have HC11 := hid C11; clear hR11 ho11 C11; have c2' := HC11.out.cell c2 (fun e => by rcases e with ⟨e,_⟩ | e; exact HS'.out.hbg e; exact HHr.out e); have HLt := hid (Nat.lt_of_lt_of_le HLc.out HC11.out.size))
               | (go_at_call 109; refine (HApp.out _ HR11.out (HX10.out.r.cf HC11.out (fun _ _ j hj => absurd hj (by simp))) HLt.out).mono ?_; rintro r w12 ⟨v',rfl,M12⟩; have HM12 := hid M12; clear M12))
              first | go_ret | (rw [Exit.noGoto_ret]; go_ret)
              refine ⟨_,rfl,?_⟩
              rw [HOkk.out]
              obtain ⟨off,k1,k2,k3⟩ := HO11.out
              have hM := HM12.out
              rw [reply_next Hrp.out (find_name HXY.out.2)] at hM
              exact nfin_give HX10.out.big HX10.out.cf HC11.out (by omega) HBase.out HX10.out.j hM HS'.out (HDk.out w11 off k1 k2 k3 HC11.out Hdp.out.1 (by have := Hdp.out.2.2.1; omega) (by have := HN.out.2; omega)) Hqd.out rfl
        ·have HIn := hid (pair_in y x now 7 6 2 1 (by decide) (by decide) (by decide) (by decide))
         have HF2 : Hid (FR = (refusalBox now (pairCode y x now 7 6 2 1),M')) := by
          rw [HFE.out,rest_pair HNE.out (Int.not_lt.2 HLate.out) (by rw [HKp.out.1]; exact HXY.out.2) (by rw [HKp.out.1]; exact HXY.out.1) hpc]
          exact rfl
         generalize pairCode y x now 7 6 2 1 = pcd at *
         go_wp2_with fail
         go_meet
         exact ⟨_,_,rfl,HIn.out,HF2.out,HX7.out.hear,HX7.out.desk,HX7.out.r,HX7.out.big,HX7.out.cf,HX7.out.j⟩
 case rest =>
  obtain ⟨code,M1,rfl,hcd,hFE,hH,hD,hO,hbig,hC,hjc⟩ := hcut
  have HJc := hid hjc
  clear hjc
  have HRef := hid (refuse_any hb g T fv ro rr pr now code _ hH hO HS'.out.prH HQ.out.1 hcd)
  have HFE := hid hFE
  have HD := hid hD
  have HC := hid hC
  have HB := hid hbig
  clear hH hO hcd hFE hD hC hbig
  go_wp2_with (first | (go_at_call 71; refine HRef.out.mono ?_; rintro e w9 ⟨v',rfl,M9⟩; have HM9 := hid M9; clear M9))
  rw [Exit.noGoto_ret]
  go_ret
  refine ⟨_,rfl,?_⟩
  rw [HFE.out]
  exact nfin_refuse HD.out HB.out HC.out HM9.out HS'.out HJc.out
end Go.Proofs.YtpijkgbafjccaaaGreatDoor
