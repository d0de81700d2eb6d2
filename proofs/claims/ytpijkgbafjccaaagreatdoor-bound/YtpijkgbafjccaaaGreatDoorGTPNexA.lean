/-
  
  
-/
import Derived.Test.YtpijkgbafjccaaaGreatDoorGTPAdmB
namespace Go.Proofs.YtpijkgbafjccaaaGreatDoor
open Go.RowKit
set_option maxRecDepth 100000
theorem derE_is (now : Int) (q : NQ) (old : TK) (x s : BE) : derE now q old x s = derivedEnd now q.till old x s := by
 unfold derE derivedEnd lesser
 generalize asked q.till = a
 generalize satAdd now x.life = b
 generalize satAdd now s.life = c
 (repeat' split) <;> omega
theorem derR_is (now : Int) (q : NQ) (old : TK) (x s : BE) : derR now q old x s = moreRenew q.opts old.flags x s now (lesser (asked q.rtime) old.renew) := by
 unfold derR moreRenew
 rw [(derF3_is q.opts old x s).2]
 have e : (bitB q.opts 4 && bitB old.flags 4 && (x.has 2 && s.has 2)) = true ↔ (bitB q.opts 4 = true ∧ bitB old.flags 4 = true ∧ x.has 2 = true ∧ s.has 2 = true) := by
  simp only [Bool.and_eq_true,and_assoc]
 by_cases h : (bitB q.opts 4 && bitB old.flags 4 && (x.has 2 && s.has 2)) = true
 ·rw [if_pos h,if_pos (e.1 h)]
  unfold lesser
  generalize asked q.rtime = a
  generalize satAdd now x.renew = b
  generalize satAdd now s.renew = c
  (repeat' split) <;> omega
 ·rw [if_neg h,if_neg (fun n => h (e.2 n))]
theorem opts_ways {o f : Int} (h : optsOk o f = true) : waysOf o ≤ 1 := by
 unfold optsOk at h
 by_cases h1 : o < 0 ∨ 255 < o ∨ bitB o 8 = true
 ·rw [if_pos h1] at h; cases h
 ·rw [if_neg h1] at h
  by_cases h2 : 1 < waysOf o ∨ bitB o 32 = true ∧ o ≠ 32
  ·rw [if_pos h2] at h; cases h
  ·by_cases h3 : 1 < waysOf o
   ·exact absurd (.inl h3) h2
   ·omega
theorem way_32 {o : Int} (h : waysOf o ≤ 1) : wayM o = 32 ↔ bitB o 32 = true := by
 unfold wayM
 unfold waysOf at h
 generalize bitB o 16 = b4 at *
 generalize bitB o 32 = b5 at *
 generalize bitB o 64 = b6 at *
 generalize bitB o 128 = b7 at *
 revert h
 revert b4 b5 b6 b7
 decide
theorem way_16 {o : Int} (h : waysOf o ≤ 1) : wayM o = 16 ↔ bitB o 16 = true := by
 unfold wayM
 unfold waysOf at h
 generalize bitB o 16 = b4 at *
 generalize bitB o 32 = b5 at *
 generalize bitB o 64 = b6 at *
 generalize bitB o 128 = b7 at *
 revert h
 revert b4 b5 b6 b7
 decide
theorem fresh_same {now : Int} {q : NQ} {old : TK} {x s : BE} (h : optsOk q.opts old.flags = true) :
  (∃ c,grantM now q old x s = .error c ∧ fresh now old x s q.till q.rtime q.opts = .error c) ∨ ∃ t t',grantM now q old x s = .ok t ∧ fresh now old x s q.till q.rtime q.opts = .ok t' ∧ ∀ a,{ t with session := a } = { t' with session := a } := by
 have hw := opts_ways h
 unfold grantM fresh
 by_cases h32 : bitB q.opts 32 = true
 ·rw [if_pos ((way_32 hw).2 h32),if_pos h32]
  unfold validM
  by_cases hlt : now < old.start
  ·rw [if_pos hlt]
   exact .inl ⟨_,rfl,rfl⟩
  ·rw [if_neg hlt]
   exact .inr ⟨_,_,rfl,rfl,fun _ => rfl⟩
 ·rw [if_neg (fun n => h32 ((way_32 hw).1 n)),if_neg h32]
  by_cases h16 : bitB q.opts 16 = true
  ·rw [if_pos ((way_16 hw).2 h16),if_pos h16]
   unfold renewM
   by_cases hle : old.renew ≤ now
   ·rw [if_pos hle]
    exact .inl ⟨_,rfl,rfl⟩
   ·rw [if_neg hle]
    exact .inr ⟨_,_,rfl,rfl,fun _ => rfl⟩
  ·rw [if_neg (fun n => h16 ((way_16 hw).1 n)),if_neg h16]
   unfold derM
   rw [derE_is,derR_is,(derF3_is q.opts old x s).1]
   by_cases hle : derivedEnd now q.till old x s ≤ now
   ·rw [if_pos hle,if_pos hle]
    exact .inl ⟨_,rfl,rfl⟩
   ·rw [if_neg hle,if_neg hle]
    exact .inr ⟨_,_,rfl,rfl,fun _ => rfl⟩
theorem rest_early {M : DM} {now : Int} {q : NQ} {old : TK} (h : bitB old.flags 16 = true ∧ bitB q.opts 32 = false ∨ satAdd now M.skew < old.start) : finishM M now (nextRest M now q old) = (refusalBox now 33,M) := by
 unfold nextRest
 rw [if_pos h]
 rfl
theorem rest_late {M : DM} {now : Int} {q : NQ} {old : TK} (h : ¬ (bitB old.flags 16 = true ∧ bitB q.opts 32 = false ∨ satAdd now M.skew < old.start)) (h2 : old.fin < now) : finishM M now (nextRest M now q old) = (refusalBox now 32,M) := by
 unfold nextRest
 rw [if_neg h,if_pos h2]
 rfl
theorem rest_pair {M : DM} {now : Int} {q : NQ} {old : TK} {y x : Option BE} (h : ¬ (bitB old.flags 16 = true ∧ bitB q.opts 32 = false ∨ satAdd now M.skew < old.start)) (h2 : ¬ old.fin < now) (hy : BE.find M.book q.service = y) (hx : BE.find M.book old.client = x) (hc : pairCode y x now 7 6 2 1 ≠ 0) : finishM M now (nextRest M now q old) = (refusalBox now (pairCode y x now 7 6 2 1),M) := by
 unfold nextRest
 rw [if_neg h,if_neg h2,hy,hx]
 cases y with
 | none => rfl
 | some s =>
  cases x with
  | none => rfl
  | some e =>
   simp only []
   rw [if_pos hc]
   rfl
theorem rest_opts {M : DM} {now : Int} {q : NQ} {old : TK} {s e : BE} (h : ¬ (bitB old.flags 16 = true ∧ bitB q.opts 32 = false ∨ satAdd now M.skew < old.start)) (h2 : ¬ old.fin < now) (hy : BE.find M.book q.service = some s) (hx : BE.find M.book old.client = some e) (hc : pairCode (some s) (some e) now 7 6 2 1 = 0) (ho : optsOk q.opts old.flags = false) : finishM M now (nextRest M now q old) = (refusalBox now 13,M) := by
 unfold nextRest
 rw [if_neg h,if_neg h2,hy,hx]
 simp only []
 rw [if_neg (fun n => n hc),if_pos ho]
 rfl
theorem rest_bad {M : DM} {now c : Int} {q : NQ} {old : TK} {s e : BE} (h : ¬ (bitB old.flags 16 = true ∧ bitB q.opts 32 = false ∨ satAdd now M.skew < old.start)) (h2 : ¬ old.fin < now) (hy : BE.find M.book q.service = some s) (hx : BE.find M.book old.client = some e) (hc : pairCode (some s) (some e) now 7 6 2 1 = 0) (ho : optsOk q.opts old.flags = true) (hg : grantM now q old e s = .error c) : finishM M now (nextRest M now q old) = (refusalBox now c,M) := by
 unfold nextRest
 rw [if_neg h,if_neg h2,hy,hx]
 simp only []
 rw [if_neg (fun n => n hc),if_neg (by rw [ho]; decide)]
 rcases fresh_same (now := now) (x := e) (s := s) ho with ⟨c',h3,h4⟩ | ⟨t,t',h3,_,_⟩
 ·rw [hg] at h3
  injection h3 with h3
  subst h3
  rw [h4]
  rfl
 ·rw [hg] at h3
  cases h3
theorem rest_ok {M : DM} {now : Int} {q : NQ} {old t : TK} {s e : BE} (h : ¬ (bitB old.flags 16 = true ∧ bitB q.opts 32 = false ∨ satAdd now M.skew < old.start)) (h2 : ¬ old.fin < now) (hy : BE.find M.book q.service = some s) (hx : BE.find M.book old.client = some e) (hc : pairCode (some s) (some e) now 7 6 2 1 = 0) (ho : optsOk q.opts old.flags = true) (hg : grantM now q old e s = .ok t) : finishM M now (nextRest M now q old) = if M.draws.length < 24 then (refusalBox now 60,M) else (giveBox 13 { t with session := drawAt M.draws 0 } s q.nonce 0 old.session 5 (drawAt M.draws 1) (drawAt M.draws 2),{ M with draws := M.draws.drop 24 }) := by
 unfold nextRest
 rw [if_neg h,if_neg h2,hy,hx]
 simp only []
 rw [if_neg (fun n => n hc),if_neg (by rw [ho]; decide)]
 rcases fresh_same (now := now) (x := e) (s := s) ho with ⟨c',h3,_⟩ | ⟨t1,t',h3,h4,h5⟩
 ·rw [hg] at h3
  cases h3
 ·rw [hg] at h3
  injection h3 with h3
  subst h3
  rw [h4,h5]
  rfl
end Go.Proofs.YtpijkgbafjccaaaGreatDoor
namespace Go.Proofs.YtpijkgbafjccaaaGreatDoor
open Go.RowKit
set_option maxRecDepth 100000
def exA (g : Nat) (po : Option Pl) (exF : Nat → Nat → Prop) (b y : Nat) : Prop := exX po exF b y ∨ b = g ∧ 163 ≤ y ∧ y < 188
structure NX (w W : World) (hb g T : Nat) (fv ro rr : Value) (po pr dp : Option Pl) (exF : Nat → Nat → Prop) (M : DM) (now : Int) (ask old : List Value) : Prop where
 hear : Hear W hb g T fv ro rr now
 desk : DeskAt W g 0 dp M
 o : Out W ro po []
 r : Out W rr pr []
 ask : W.rangeAt w.heap.size 0 ask
 old : W.rangeAt (w.heap.size + 1) 0 old
 made : Live W (w.heap.size + 2) 7
 big : w.heap.size ≤ W.heap.size
 cf : CF w W (exA g po exF)
theorem NX.step {w W W' : World} {hb g base T : Nat} {fv rv ro rr : Value} {po pr dp : Option Pl} {J : World → Prop} {exF exJ : Nat → Nat → Prop} {M : DM} {es : List BE} {now : Int} {ask old : List Value} (h : NX w W hb g T fv ro rr po pr dp exF M now ask old) (S : HS hb g base T fv rv po pr dp J exF exJ es) (k : CF W W' (fun b y => exX po exF b y ∨ w.heap.size + 1 < b)) (hbase : base ≤ w.heap.size) (hpo : ∀ b y,Pl.has po b y → b < w.heap.size) : NX w W' hb g T fv ro rr po pr dp exF M now ask old := by
 have hb1 := S.hbb
 have hg1 := S.gb
 refine ⟨h.hear.cf k ?_,h.desk.cf k ?_ ?_,h.o.cf k (fun _ _ j hj => absurd hj (by simp)),h.r.cf k (fun _ _ j hj => absurd hj (by simp)),k.range h.ask ?_,k.range h.old ?_,h.made.cf k,?_,?_⟩
 ·rintro y ((e | e) | e)
  ·exact S.hbF y e
  ·exact off_has S.poH y e
  ·omega
 ·rintro j _ h2 ((e | e) | e)
  ·exact S.deskF j (by omega) e
  ·exact S.poG j (by omega) e
  ·omega
 ·rintro q hq j hj ((e | e) | e)
  ·exact ((S.dpF q hq).2.2.2 _).1 e
  ·exact ((S.dpF q hq).2.2.2 _).2.1 e
  ·have := (S.dpF q hq).2.2.1; omega
 ·rintro j _ ((e | e) | e)
  ·exact S.newF _ _ (by omega) e
  ·have := hpo _ _ e; omega
  ·omega
 ·rintro j _ ((e | e) | e)
  ·exact S.newF _ _ (by omega) e
  ·have := hpo _ _ e; omega
  ·omega
 ·exact Nat.le_trans h.big k.size
 ·exact h.cf.trans k (fun i o hi e => by rcases e with e | e; exact .inl e; omega)
structure NXJ (J : World → Prop) (w W : World) (hb g T : Nat) (fv ro rr : Value) (po pr dp : Option Pl) (exF : Nat → Nat → Prop) (M : DM) (now : Int) (ask old : List Value) : Prop extends NX w W hb g T fv ro rr po pr dp exF M now ask old where
 j : J W
theorem NXJ.step {w W W' : World} {hb g base T : Nat} {fv rv ro rr : Value} {po pr dp : Option Pl} {J : World → Prop} {exF exJ : Nat → Nat → Prop} {M : DM} {es : List BE} {now : Int} {ask old : List Value} (h : NXJ J w W hb g T fv ro rr po pr dp exF M now ask old) (S : HS hb g base T fv rv po pr dp J exF exJ es) (k : CF W W' (fun b y => Pl.has po b y ∨ w.heap.size + 1 < b)) (hbase : base ≤ w.heap.size) (hpo : ∀ b y,Pl.has po b y → b < w.heap.size) : NXJ J w W' hb g T fv ro rr po pr dp exF M now ask old :=
 ⟨h.toNX.step S (k.mono (fun _ _ _ e => e.elim (fun e => .inl (.inr e)) .inr)) hbase hpo,S.finds.stay _ _ h.j (k.mono (fun b y _ e => e.elim (S.poJ b y) (fun e => S.newJ b y (by omega))))⟩
theorem nfin_refuse {w W W' : World} {hb g base T : Nat} {fv rv v' : Value} {po pr dp : Option Pl} {J : World → Prop} {exF exJ : Nat → Nat → Prop} {M : DM} {now code : Int} {es : List BE} (hd : DeskAt W g 0 dp M) (hbig : w.heap.size ≤ W.heap.size) (hcf : CF w W (exA g po exF)) (h : OutMore W W' v' pr (refusalBox now code)) (S : HS hb g base T fv rv po pr dp J exF exJ es) (hj : J W) : Fin w W' g po pr dp exF v' (refusalBox now code,M) ∧ J W' := by
 obtain ⟨p',h1,h2,h3,_⟩ := h
 refine ⟨?_,S.finds.stay _ _ hj (h2.mono (fun b y _ e => S.prJ b y e))⟩
 refine ⟨⟨p',h1,h3.imp id (fun k => fresh_mono k hbig)⟩,⟨dp,hd.cf h2 (fun j _ hj e => S.prG j (by omega) e) (fun q hq j _ e => ((S.dpF q hq).2.2.2 _).2.2 e),fun q' hq' => ⟨q',hq',rfl⟩⟩,?_⟩
 exact (hcf.mono (fun _ _ _ e => by rcases e with e | e; exact .inr (.inl e); exact .inl ⟨e.1,.inr e.2⟩)).trans h2 (fun _ _ _ e => .inr (.inr e))
theorem adm_codes {M : DM} {now c : Int} {q : NQ} (h : (admM M now q).1 = .error c) : c = 36 ∨ c = 7 ∨ c = 44 ∨ c = 31 ∨ c = 37 ∨ c = 34 ∨ c = 60 := by
 unfold admM nextOpen at h
 split at h
 ·rename_i c' hc
  have hcc : c' = c := by simpa using h
  subst hcc
  split at hc
  ·injection hc with hc; omega
  ·split at hc
   ·injection hc with hc; omega
   ·split at hc
    ·injection hc with hc; omega
    ·split at hc
     ·injection hc with hc; omega
     ·split at hc
      ·injection hc with hc; omega
      ·split at hc
       ·injection hc with hc; omega
       ·split at hc
        ·injection hc with hc; omega
        ·cases hc
 ·rename_i t p _
  by_cases h0 : proofCode M.skew now M.proofs p ≠ 0
  ·rw [if_pos h0] at h
   have hcc : proofCode M.skew now M.proofs p = c := by simpa using h
   rcases proofCode_cases M.skew now M.proofs p with e | e | e
   ·omega
   ·omega
   ·exact absurd e h0
  ·rw [if_neg h0] at h
   cases h
theorem reply_next {t : TK} {s : BE} {svc : List UInt8} {nonce : Int} {key a b c : UInt64} {rp : RP} (hrp : rp = ⟨t,svc,s.number,s.key,0,nonce,0,key,0⟩) (hs : s.name = svc) : [] ++ (rp.drawn a b c).reply 13 5 = giveBox 13 { t with session := a } s nonce 0 key 5 b c := by
 rw [← RP.reply_give,hrp,← hs]
 rfl
theorem grant_in {now : Int} {q : NQ} {old t : TK} {x s : BE} (ho : old.In) (hnow : In64 now) (hq : In64 q.till) (hr : In64 q.rtime) (h : grantM now q old x s = .ok t) : t.In ∧ t.client = old.client := by
 unfold grantM at h
 by_cases h32 : wayM q.opts = 32
 ·rw [if_pos h32] at h
  unfold validM at h
  by_cases hlt : now < old.start
  ·rw [if_pos hlt] at h; cases h
  ·rw [if_neg hlt] at h
   injection h with h
   subst h
   refine ⟨⟨?_,ho.auth,ho.start,ho.fin,ho.renew⟩,rfl⟩
   have e := andNot16 old.flags ho.flags
   have i := andNot_in old.flags 16
   rw [e] at i
   exact i
 ·rw [if_neg h32] at h
  by_cases h16 : wayM q.opts = 16
  ·rw [if_pos h16] at h
   unfold renewM at h
   by_cases hle : old.renew ≤ now
   ·rw [if_pos hle] at h; cases h
   ·rw [if_neg hle] at h
    injection h with h
    subst h
    refine ⟨⟨ho.flags,ho.auth,hnow,?_,ho.renew⟩,rfl⟩
    show In64 (lesser old.renew (satAdd now (satSub old.fin old.start)))
    have i1 := ho.renew
    have i2 : In64 (satAdd now (satSub old.fin old.start)) := sat_in _
    unfold lesser
    split
    ·exact i1
    ·exact i2
  ·rw [if_neg h16] at h
   unfold derM at h
   by_cases hle : derE now q old x s ≤ now
   ·rw [if_pos hle] at h; cases h
   ·rw [if_neg hle] at h
    injection h with h
    subst h
    refine ⟨⟨?_,ho.auth,hnow,?_,?_⟩,rfl⟩
    ·show In64 (derF3 q.opts old x s)
     rw [(derF3_is q.opts old x s).1]
     unfold derivedFlags moreFlags In64
     (repeat' split) <;> omega
    ·show In64 (derE now q old x s)
     have i1 := ho.fin
     have i2 : In64 (lesser (asked q.till) (lesser (satAdd now x.life) (satAdd now s.life))) := earliest_in hq
     unfold derE In64 at *
     omega
    ·show In64 (derR now q old x s)
     have i1 := ho.renew
     have i2 : In64 (lesser (asked q.rtime) (lesser (satAdd now x.renew) (satAdd now s.renew))) := earliest_in hr
     unfold derR
     split
     ·unfold In64 at *
      omega
     ·exact ⟨by decide,by decide⟩
theorem fits_next {t : TK} {s : BE} {svc : List UInt8} {nonce : Int} {key a b c : UInt64} {rp : RP} (hrp : rp = ⟨t,svc,s.number,s.key,0,nonce,0,key,0⟩) (ht : t.In) (hn : In64 nonce) (hs : s.In) (hsv : s.name = svc) (hc : t.client.length ≤ 1000) : (rp.drawn a b c).Fits := by
 subst hrp
 have i := hs.number
 refine ⟨ht.flags,ht.auth,ht.start,ht.fin,ht.renew,?_,hn,(show In64 0 from ⟨by decide,by decide⟩),hc,?_⟩
 ·show In64 s.number
  unfold In64
  omega
 ·show svc.length ≤ 1000
  rw [← hsv]
  exact hs.name
end Go.Proofs.YtpijkgbafjccaaaGreatDoor
