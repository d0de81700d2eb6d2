/-
  
-/
import Derived.Test.YtpijkgbafjccaaaGreatDoorGTPFindP
import Derived.Test.YtpijkgbafjccaaaGreatDoorGTPFirB
import Derived.Deep.CutBlock
namespace Go.Proofs.YtpijkgbafjccaaaGreatDoor
open Go.RowKit
set_option maxRecDepth 100000
def ByteAt (w : World) (po : Option Pl) (exF : Nat → Nat → Prop) (z : List UInt8) (v : Value) : Prop :=
 ∃ ao cap,v = .slice ao z.length cap ∧ z.length ≤ cap ∧ At w ao z ∧ ∀ b off,ao = some ⟨b,off,none⟩ → ∀ j,j < z.length → ¬ Pl.has po b (off + j) ∧ ¬ exF b (off + j) ∧ b < w.heap.size
theorem nine_cells {w : World} {b : Nat} {q : NQ} {v u : Value} (h : w.rangeAt b 0 (q.cells v u)) : w.cell? ⟨b,0,none⟩ = some (.string ⟨q.tsvc.toArray⟩) ∧ w.cell? ⟨b,1,none⟩ = some (.int .i64 q.tnum) ∧ w.cell? ⟨b,2,none⟩ = some v ∧ w.cell? ⟨b,3,none⟩ = some u ∧ w.cell? ⟨b,4,none⟩ = some (.string ⟨q.service.toArray⟩) ∧ w.cell? ⟨b,5,none⟩ = some (.int .i64 q.nonce) ∧ w.cell? ⟨b,6,none⟩ = some (.int .i64 q.till) ∧ w.cell? ⟨b,7,none⟩ = some (.int .i64 q.rtime) ∧ w.cell? ⟨b,8,none⟩ = some (.int .i64 q.opts) :=
 ⟨h 0 _ rfl,h 1 _ rfl,h 2 _ rfl,h 3 _ rfl,h 4 _ rfl,h 5 _ rfl,h 6 _ rfl,h 7 _ rfl,h 8 _ rfl⟩
theorem live_seven {w : World} {b : Nat} (h : Live w b 7) : (∀ j,j < 7 → ∃ d,w.cell? ⟨b,j,none⟩ = some d) ∧ ∀ j,w.frozen? ⟨b,j,none⟩ = false := ⟨fun j hj => Option.isSome_iff_exists.1 (h.some j hj),fun j => h.frozen j⟩
theorem seven_set (w : World) (b : Nat) (h : Live w b 7) (t : TK) : (((((((w.setCell ⟨b,0,none⟩ (.int .i64 t.flags)).setCell ⟨b,1,none⟩ (.int .u64 (t.session.toNat : Int))).setCell ⟨b,2,none⟩ (.string ⟨t.client.toArray⟩)).setCell ⟨b,3,none⟩ (.int .i64 t.auth)).setCell ⟨b,4,none⟩ (.int .i64 t.start)).setCell ⟨b,5,none⟩ (.int .i64 t.fin)).setCell ⟨b,6,none⟩ (.int .i64 t.renew)).rangeAt b 0 t.cells := live_range [.int .i64 t.flags,.int .u64 (t.session.toNat : Int),.string ⟨t.client.toArray⟩,.int .i64 t.auth,.int .i64 t.start,.int .i64 t.fin,.int .i64 t.renew] 0 w b 7 h (Nat.le_refl 7)
theorem seven_zero (w : World) (b : Nat) (h : Live w b 7) : (((((((w.setCell ⟨b,0,none⟩ (.int .i64 0)).setCell ⟨b,1,none⟩ (.int .u64 0)).setCell ⟨b,2,none⟩ (.string ⟨#[]⟩)).setCell ⟨b,3,none⟩ (.int .i64 0)).setCell ⟨b,4,none⟩ (.int .i64 0)).setCell ⟨b,5,none⟩ (.int .i64 0)).setCell ⟨b,6,none⟩ (.int .i64 0)).rangeAt b 0 [.int .i64 0,.int .u64 0,.string ⟨#[]⟩,.int .i64 0,.int .i64 0,.int .i64 0,.int .i64 0] := live_range [.int .i64 0,.int .u64 0,.string ⟨#[]⟩,.int .i64 0,.int .i64 0,.int .i64 0,.int .i64 0] 0 w b 7 h (Nat.le_refl 7)
theorem three_set (w : World) (b : Nat) (h : Live w b 3) (p : PF) : (((w.setCell ⟨b,0,none⟩ (.string ⟨p.client.toArray⟩)).setCell ⟨b,1,none⟩ (.int .i64 p.time)).setCell ⟨b,2,none⟩ (.int .i64 p.count)).rangeAt b 0 p.pcells := live_range [.string ⟨p.client.toArray⟩,.int .i64 p.time,.int .i64 p.count] 0 w b 3 h (Nat.le_refl 3)
theorem seven_cf (w : World) (b : Nat) (v0 v1 v2 v3 v4 v5 v6 : Value) : CF w (((((((w.setCell ⟨b,0,none⟩ (v0)).setCell ⟨b,1,none⟩ (v1)).setCell ⟨b,2,none⟩ (v2)).setCell ⟨b,3,none⟩ (v3)).setCell ⟨b,4,none⟩ (v4)).setCell ⟨b,5,none⟩ (v5)).setCell ⟨b,6,none⟩ (v6)) (fun x _ => x = b) := by
 repeat refine CF.setCell ?_ _ _ _ (fun _ => rfl)
 exact CF.refl _ _
theorem seven_at {w : World} {b : Nat} {t : TK} (h : w.rangeAt b 0 t.cells) (hl : Live w b 7) : (w.cell? ⟨b,0,none⟩ = some (.int .i64 t.flags) ∧ w.cell? ⟨b,1,none⟩ = some (.int .u64 (t.session.toNat : Int)) ∧ w.cell? ⟨b,2,none⟩ = some (.string ⟨t.client.toArray⟩) ∧ w.cell? ⟨b,3,none⟩ = some (.int .i64 t.auth) ∧ w.cell? ⟨b,4,none⟩ = some (.int .i64 t.start) ∧ w.cell? ⟨b,5,none⟩ = some (.int .i64 t.fin) ∧ w.cell? ⟨b,6,none⟩ = some (.int .i64 t.renew)) ∧ w.frozen? ⟨b,0,none⟩ = false ∧ w.frozen? ⟨b,1,none⟩ = false ∧ w.frozen? ⟨b,2,none⟩ = false ∧ w.frozen? ⟨b,3,none⟩ = false ∧ w.frozen? ⟨b,4,none⟩ = false ∧ w.frozen? ⟨b,5,none⟩ = false ∧ w.frozen? ⟨b,6,none⟩ = false :=
 ⟨⟨h 0 _ rfl,h 1 _ rfl,h 2 _ rfl,h 3 _ rfl,h 4 _ rfl,h 5 _ rfl,h 6 _ rfl⟩,hl.frozen 0,hl.frozen 1,hl.frozen 2,hl.frozen 3,hl.frozen 4,hl.frozen 5,hl.frozen 6⟩
theorem proofCode_cases (skew now : Int) (l : List PF) (p : PF) : proofCode skew now l p = 34 ∨ proofCode skew now l p = 60 ∨ proofCode skew now l p = 0 := by
 unfold proofCode
 split
 ·exact .inl rfl
 ·split
  ·exact .inr (.inl rfl)
  ·exact .inr (.inr rfl)
theorem proofsNext_few (skew now : Int) (l : List PF) (p : PF) (h : l.length ≤ 8) : (proofsNext skew now l p).length ≤ 8 := by
 have h1 : (nearP skew now l).length ≤ l.length := List.length_filter_le _ _
 unfold proofsNext proofCode
 by_cases hm : p ∈ nearP skew now l
 ·rw [if_pos hm,if_neg (by decide)]
  omega
 ·rw [if_neg hm]
  by_cases h8 : 8 ≤ (nearP skew now l).length
  ·rw [if_pos h8,if_neg (by decide)]
   omega
  ·rw [if_neg h8,if_pos rfl,List.length_append]
   simp
   omega
theorem desk_proofs {W W' : World} {g : Nat} {dp : Option Pl} {M : DM} {l : List PF} (h : DeskAt W g 0 dp M) (k : CF W W' (fun b y => b = g ∧ 163 ≤ y ∧ y < 188)) (h1 : W'.rangeAt g 163 (pfCells l)) (h2 : W'.cell? ⟨g,187,none⟩ = some (.int .i64 l.length)) (hd : ∀ q,dp = some q → q.g ≠ g) (h8 : l.length ≤ 8) : DeskAt W' g 0 dp { M with proofs := l } := by
 obtain ⟨v,hv,ho⟩ := h.draws
 exact ⟨h.live.cf k,k.cell h.skew (fun e => by omega),⟨v,k.cell hv (fun e => by omega),ho.cf k (fun q hq j _ e => hd q hq e.1)⟩,h.book.cf k (fun j _ h2 e => by omega),by rw [Nat.zero_add]; exact h1,by rw [Nat.zero_add]; exact h2,h8⟩
set_option maxHeartbeats 20000000 in
theorem admit_any (hb g base T : Nat) (fv rv ro rr : Value) (po pr dp : Option Pl) (J : World → Prop) (exF exJ : Nat → Nat → Prop) (M : DM) (now : Int) (q : NQ) (v u : Value) (w : World) (S : HS hb g base T fv rv po pr dp J exF exJ M.book) (h : Hear w hb g T fv ro rr now) (hd : DeskAt w g 0 dp M) (hJ : J w) (ho : Out w ro po []) (hr : Out w rr pr []) (hv : ByteAt w po exF q.tsealed v) (hu : ByteAt w po exF q.proof u) (hnow : In64 now) (htm : ∀ y ∈ M.proofs,In64 y.time) (hbase : base ≤ w.heap.size) :
  Calls Tryz.prog 105 #[.pointer (some ⟨hb,0,none⟩),.agg (q.cells v u).toArray] w fun e w' => e = .returned (madeV (admM M now q).1) ∧ DeskAt w' g 0 dp (admM M now q).2 ∧ J w' ∧ CF w w' (fun b y => exX po exF b y ∨ b = g ∧ 163 ≤ y ∧ y < 188) := by
 have hbb := S.hbb
 have hgb := S.gb
 obtain ⟨W0,hW0⟩ : ∃ W,W = (w.alloc (.cells (q.cells v u).toArray 172)).alloc (.cells noGrant 219) := ⟨_,rfl⟩
 have G0 : w.grownBy W0 none := by rw [hW0]; exact gb_alloc (World.grownBy_alloc w _ none) _
 have s0 : W0.heap.size = w.heap.size + 1 + 1 := by rw [hW0]; simp only [World.size_alloc]
 have RQ : W0.rangeAt w.heap.size 0 (q.cells v u) := by rw [hW0]; exact range_gb (cells_range w (q.cells v u).toArray _) (World.grownBy_alloc _ _ none)
 have LT : Live W0 (w.heap.size + 1) 7 := by
  have h := Live.new (w.alloc (.cells (q.cells v u).toArray 172)) noGrant 219
  rw [World.size_alloc] at h
  rw [hW0]
  exact h
 have hpo : ∀ b y,Pl.has po b y → b < w.heap.size := fun b y e => ho.lt e
 have X0 : FX w W0 hb g base T fv ro rr po pr dp exF M now w.heap.size (q.cells v u) := ⟨h.grown G0,hd.grown G0,ho.grown G0,hr.grown G0,RQ,G0.size,CF.of_gb G0 _⟩
 have HStep : Hid (∀ W W',FX w W hb g base T fv ro rr po pr dp exF M now w.heap.size (q.cells v u) → CF W W' (fun b y => exX po exF b y ∨ w.heap.size < b) → FX w W' hb g base T fv ro rr po pr dp exF M now w.heap.size (q.cells v u)) := fun W W' h k => h.step S k rfl hbase hpo
 obtain ⟨AR,hAR⟩ : ∃ R,admM M now q = R := ⟨_,rfl⟩
 rw [hAR]
 have HAR := hid hAR
 have HSelf : Hid (∀ W,Calls Tryz.prog 141 #[.agg (q.cells v u).toArray] W fun e w' => e = .returned (.bool (selfB q)) ∧ W.grownBy w' none) := fun W => isOnItself_any v u q W
 have HST := hid S.finds.stay
 obtain ⟨x,hx⟩ : ∃ x,BE.find M.book q.tsvc = x := ⟨_,rfl⟩
 have HXF := hid hx
 have HFd : Hid (∀ W,J W → Calls Tryz.prog (findF T) #[rv,.string ⟨q.tsvc.toArray⟩] W fun e w' => e = .returned (foundV x) ∧ J w' ∧ CF W w' exF) := fun W hW => by rw [← hx]; exact S.finds.call W hW q.tsvc
 have hm := S.meth
 have HStepG : Hid (∀ W W',(FX w W hb g base T fv ro rr po pr dp exF M now w.heap.size (q.cells v u) ∧ J W ∧ Live W (w.heap.size + 1) 7) → W.grownBy W' none → (FX w W' hb g base T fv ro rr po pr dp exF M now w.heap.size (q.cells v u) ∧ J W' ∧ Live W' (w.heap.size + 1) 7)) := fun W W' h k => ⟨h.1.step S (CF.of_gb k _) rfl hbase hpo,S.finds.stay _ _ h.2.1 (CF.of_gb k _),h.2.2.grown k⟩
 have HStepO : Hid (∀ W W',(FX w W hb g base T fv ro rr po pr dp exF M now w.heap.size (q.cells v u) ∧ J W ∧ Live W (w.heap.size + 1) 7) → CF W W' (Pl.has po) → (FX w W' hb g base T fv ro rr po pr dp exF M now w.heap.size (q.cells v u) ∧ J W' ∧ Live W' (w.heap.size + 1) 7)) := fun W W' h k => ⟨h.1.step S (k.mono (fun _ _ _ e => .inl (.inr e))) rfl hbase hpo,S.finds.stay _ _ h.2.1 (k.mono (fun b y _ e => S.poJ b y e)),h.2.2.cf k⟩
 have HStepN : Hid (∀ W W' X,(FX w W hb g base T fv ro rr po pr dp exF M now w.heap.size (q.cells v u) ∧ J W ∧ Live W (w.heap.size + 1) 7) → w.heap.size < X → CF W W' (fun b _ => b = X) → (FX w W' hb g base T fv ro rr po pr dp exF M now w.heap.size (q.cells v u) ∧ J W' ∧ Live W' (w.heap.size + 1) 7)) := fun W W' X h hX k => ⟨h.1.step S (k.mono (fun b _ _ e => .inr (by omega))) rfl hbase hpo,S.finds.stay _ _ h.2.1 (k.mono (fun b y _ e => S.newJ b y (by omega))),h.2.2.cf k⟩
 have HStepF : Hid (∀ W W',(FX w W hb g base T fv ro rr po pr dp exF M now w.heap.size (q.cells v u) ∧ J W ∧ Live W (w.heap.size + 1) 7) → CF W W' exF → J W' → (FX w W' hb g base T fv ro rr po pr dp exF M now w.heap.size (q.cells v u) ∧ J W' ∧ Live W' (w.heap.size + 1) 7)) := fun W W' h k hJ' => ⟨h.1.step S (k.mono (fun _ _ _ e => .inl (.inl e))) rfl hbase hpo,hJ',h.2.2.cf k⟩
 have HTk : Hid (∀ W key,FX w W hb g base T fv ro rr po pr dp exF M now w.heap.size (q.cells v u) → Calls Tryz.prog 143 #[ro,.int .u64 (UInt64.toNat key : Int),v] W fun e w' => e = .returned (.tuple #[.agg (tkQ (openP key 2 q.tsealed)).cells.toArray,.bool (doneB (tkE (openP key 2 q.tsealed)))]) ∧ CF W w' (Pl.has po)) := by
  intro W key X
  obtain ⟨ao,cap,rfl,h2,h3,h4⟩ := hv
  exact openTicket_q ro po [] key ao q.tsealed q.tsealed.length cap W X.o (hid rfl) h2 (h3.cf X.cf (fun b off e j hj n => by rcases n with n | n; exact (h4 b off e j hj).2.1 n; exact (h4 b off e j hj).1 n)) (fun b off e j hj => (h4 b off e j hj).1)
 have HPf : Hid (∀ W key,FX w W hb g base T fv ro rr po pr dp exF M now w.heap.size (q.cells v u) → Calls Tryz.prog 144 #[ro,.int .u64 (UInt64.toNat key : Int),u] W fun e w' => e = .returned (.tuple #[.agg (pfQ (openP key 4 q.proof)).pcells.toArray,.bool (doneB (pfE (openP key 4 q.proof)))]) ∧ CF W w' (Pl.has po)) := by
  intro W key X
  obtain ⟨ao,cap,rfl,h2,h3,h4⟩ := hu
  exact openProof_q ro po [] key ao q.proof q.proof.length cap W X.o (hid rfl) h2 (h3.cf X.cf (fun b off e j hj n => by rcases n with n | n; exact (h4 b off e j hj).2.1 n; exact (h4 b off e j hj).1 n)) (fun b off e j hj => (h4 b off e j hj).1)
 have HFar : Hid (∀ (W : World) (p : PF),FX w W hb g base T fv ro rr po pr dp exF M now w.heap.size (q.cells v u) → In64 p.time → M.skew < apartT p.time now → Calls Tryz.prog 145 #[.pointer (some ⟨hb,0,none⟩),.agg p.pcells.toArray] W fun e w' => e = .returned (.int .i64 37) ∧ W.grownBy w' none) := fun W p X h1 h2 => checkProof_far hb g now M.skew p W X.hear.c3 X.hear.c4 X.desk.skew hnow h1 h2
 have HNear : Hid (∀ (W : World) (p : PF),FX w W hb g base T fv ro rr po pr dp exF M now w.heap.size (q.cells v u) → In64 p.time → ¬ M.skew < apartT p.time now → Calls Tryz.prog 145 #[.pointer (some ⟨hb,0,none⟩),.agg p.pcells.toArray] W fun e w' => e = .returned (.int .i64 (proofCode M.skew now M.proofs p)) ∧ w'.rangeAt g 163 (pfCells (proofsNext M.skew now M.proofs p)) ∧ w'.cell? ⟨g,187,none⟩ = some (.int .i64 (proofsNext M.skew now M.proofs p).length) ∧ CF W w' (fun b y => b = g ∧ 163 ≤ y ∧ y < 188)) := fun W p X h1 h2 => by
  have hD := X.desk
  have e1 := hD.proofs
  have e2 := hD.count
  rw [Nat.zero_add] at e1 e2
  exact checkProof_near hb g now M.skew M.proofs p W X.hear.c3 X.hear.c4 hD.skew S.hbg hnow h1 htm hD.few (by have := hD.live; rwa [Nat.zero_add] at this) e1 e2 h2
 have HS' := hid S
 have HX0 := hid X0
 have HJ := hid hJ
 have HLT := hid LT
 have HG0 := hid G0
 have HW0 := hid hW0
 have HV := hid hv
 have HU := hid hu
 have HPo := hid hpo
 have HTm := hid htm
 have HNow := hid hnow
 have HN : Hid (hb < w.heap.size ∧ g < w.heap.size) := ⟨by omega,by omega⟩
 have HPog : Hid (∀ p,po = some p → p.g < w.heap.size) := fun p hp => ho.ltg p hp
 clear hx hAR S h hd hJ ho hr hv hu hnow htm hW0 G0 RQ LT X0 hpo s0
 have n1 : w.heap.size + 1 ≠ w.heap.size := by omega
 have hcf := findF_enter T
 go_enter Tryz.func105,Tryz.ntmps105
 go_wp2_with (rw [← HW0.out]; fail_if_success done)
 go_step3
 go_wp2_with fail
 go_step3
 go_upto_block 0 with fail
 go_cut [5] (fun c wx => ∃ code M',c = .int .i64 code ∧ AR = (.error code,M') ∧ Live wx (w.heap.size + 1) 7 ∧ DeskAt wx g 0 dp M' ∧ J wx ∧ CF w wx (fun b y => exX po exF b y ∨ b = g ∧ 163 ≤ y ∧ y < 188))
 case first =>
  have hA0 : (FX w W0 hb g base T fv ro rr po pr dp exF M now w.heap.size (q.cells v u) ∧ J W0 ∧ Live W0 (w.heap.size + 1) 7) := ⟨HX0.out,HST.out _ _ HJ.out (CF.of_gb HG0.out _),HLT.out⟩
  have HA0 := hid hA0
  clear hA0
  obtain ⟨k0,k1,k2,k3,k4,k5,k6,k7,k8⟩ := nine_cells HX0.out.ask
  go_upto_region 2 with fail
  go_cut [18] (fun c wx => c = .bool (!decide (q.tsvc = [116,103,115]) && !selfB q) ∧ (FX w wx hb g base T fv ro rr po pr dp exF M now w.heap.size (q.cells v u) ∧ J wx ∧ Live wx (w.heap.size + 1) 7))
  case first =>
   by_cases hts : q.tsvc = [116,103,115]
   ·have htb : (q.tsvc == [116,103,115]) = true := beq_iff_eq.2 hts
    have Hts := hid hts
    clear hts
    go_wp2_with fail
    go_meet
    exact ⟨by rw [decide_eq_true Hts.out]; rfl,HA0.out⟩
   ·have htb : (q.tsvc == [116,103,115]) = false := beq_eq_false_iff_ne.2 hts
    obtain ⟨sb,hsb⟩ : ∃ b,selfB q = b := ⟨_,rfl⟩
    rw [hsb] at HSelf
    go_wp2_with (first | (go_at_call 141; refine (HSelf.out _).mono ?_; clear HSelf; rintro r w1 ⟨rfl,g1⟩; have HG1 := hid g1; clear g1))
    go_meet
    exact ⟨by rw [decide_eq_false hts,hsb]; rfl,HStepG.out _ _ HA0.out HG1.out⟩
  case rest =>
   obtain ⟨rfl,hA⟩ := hcut
   have HA1 := hid hA
   clear hA HA0 k0 k1 k2 k3 k4 k5 k6 k7 k8
   by_cases hok : ¬ (q.tsvc = [116,103,115] ∨ selfB q = true)
   ·have HAE : Hid (AR = (.error 36,M)) := by rw [← HAR.out]; exact adm_self (fun e => hok (.inl e)) (by cases h : selfB q with | false => rfl | true => exact absurd (.inr h) hok)
    have e1 : (!decide (q.tsvc = [116,103,115]) && !selfB q) = true := by
     cases h : selfB q with
     | true => exact absurd (.inr h) hok
     | false => rw [decide_eq_false (fun e => hok (.inl e))]; rfl
    rw [e1]
    clear e1
    go_wp2_with fail
    go_meet
    exact ⟨_,_,rfl,HAE.out,HA1.out.2.2,HA1.out.1.desk,HA1.out.2.1,HA1.out.1.cf.mono (fun _ _ _ e => .inl e)⟩
   ·have hok := Classical.not_not.1 hok
    have e1 : (!decide (q.tsvc = [116,103,115]) && !selfB q) = false := by
     rcases hok with h | h
     ·rw [decide_eq_true h]; rfl
     ·rw [h]; simp
    rw [e1]
    have HOk := hid hok
    clear e1 hok
    obtain ⟨k0,k1,k2,k3,k4,k5,k6,k7,k8⟩ := nine_cells HA1.out.1.ask
    go_wp2_with fail
    obtain ⟨v0,v1,v2,v3,v4,v5,v6,v7,hv8⟩ := foundC_eight x
    have HV8 := hid hv8
    have hF2 := HFd.out
    unfold foundV at hF2
    rw [hv8] at hF2
    obtain ⟨bx,hbx⟩ : ∃ b,x.isSome = b := ⟨_,rfl⟩
    rw [hbx] at hF2
    have HFd2 := hid hF2
    have HBX := hid hbx
    clear hbx hv8 hF2
    have c0 := HA1.out.1.hear.c0
    obtain ⟨W1,hW1⟩ : ∃ W,W = wc := ⟨_,rfl⟩
    rw [← hW1] at HA1 c0 k0 k1 k2 k3 k4 k5 k6 k7 k8
    rw [← hW1]
    clear hW1
    go_cut [6,7] (fun p c wx => ∃ eb,p = .pointer (some ⟨eb,0,none⟩) ∧ w.heap.size + 1 < eb ∧ c = .bool bx ∧ wx.rangeAt eb 0 (foundC x) ∧ (FX w wx hb g base T fv ro rr po pr dp exF M now w.heap.size (q.cells v u) ∧ J wx ∧ Live wx (w.heap.size + 1) 7))
    case first =>
     have hb1 : w.heap.size + 1 < W1.heap.size := HA1.out.2.2.lt
     have na : w.heap.size ≠ W1.heap.size := by omega
     have nb : hb ≠ W1.heap.size := by have := HN.out.1; omega
     have na' : W1.heap.size ≠ w.heap.size := fun e => na e.symm
     have nb' : W1.heap.size ≠ hb := fun e => nb e.symm
     have HKa : Hid (Calls Tryz.prog (findF T) #[rv,.string ⟨q.tsvc.toArray⟩] W1.drew fun e w' => e = .returned (.tuple #[.agg #[.string v0,.int .i64 v1,.int .u64 v2,.int .u64 v3,.int .i64 v4,.int .i64 v5,.int .i64 v6,.int .i64 v7],.bool bx]) ∧ (FX w w' hb g base T fv ro rr po pr dp exF M now w.heap.size (q.cells v u) ∧ J w' ∧ Live w' (w.heap.size + 1) 7) ∧ W1.heap.size ≤ w'.heap.size) := (HFd2.out _ (HST.out _ _ HA1.out.2.1 (CF.of_gb (gb_drew (World.grownBy.refl _ _)) _))).mono fun _ _ ⟨a,b,c⟩ => ⟨a,HStepF.out _ _ HA1.out c.undrew b,c.size⟩
     have HKb : Hid (Calls Tryz.prog (findF T) #[rv,.string ⟨q.tsvc.toArray⟩] ((W1.alloc (.cells #[.string ⟨#[]⟩,.int .i64 0,.int .u64 0,.int .u64 0,.int .i64 0,.int .i64 0,.int .i64 0,.int .i64 0] 90)).drew) fun e w' => e = .returned (.tuple #[.agg #[.string v0,.int .i64 v1,.int .u64 v2,.int .u64 v3,.int .i64 v4,.int .i64 v5,.int .i64 v6,.int .i64 v7],.bool bx]) ∧ (FX w w' hb g base T fv ro rr po pr dp exF M now w.heap.size (q.cells v u) ∧ J w' ∧ Live w' (w.heap.size + 1) 7) ∧ Live w' W1.heap.size 8) := (HFd2.out _ (HST.out _ _ HA1.out.2.1 (CF.of_gb (gb_drew (World.grownBy_alloc _ _ none)) _))).mono fun _ _ ⟨a,b,c⟩ => ⟨a,HStepF.out _ _ (HStepG.out _ _ HA1.out (World.grownBy_alloc _ _ none)) c.undrew b,(Live.new W1 #[.string ⟨#[]⟩,.int .i64 0,.int .u64 0,.int .u64 0,.int .i64 0,.int .i64 0,.int .i64 0,.int .i64 0] _).cf c.undrew⟩
     clear HFd2
     have ga := World.grownBy_alloc W1 (.cells #[.string ⟨#[]⟩,.int .i64 0,.int .u64 0,.int .u64 0,.int .i64 0,.int .i64 0,.int .i64 0,.int .i64 0] 90) none
     have x0 := ga.cell k0 (by simp)
     have xc := ga.cell c0 (by simp)
     clear ga
     go_region_held3 (fun w' => w'.cell? ⟨hb,0,none⟩ = some (.iface T fv) ∧ w'.cell? ⟨w.heap.size,0,none⟩ = some (.string ⟨q.tsvc.toArray⟩)) (go_keep) (first
      | ((with_reducible show Calls _ (findF T) _ _ _); (with_reducible apply Calls.mono HKa.out); rintro r w2 ⟨rfl,a2,z2⟩; have HA2 := hid a2; have HZ2 := hid z2; clear a2 z2; have y0 := HA2.out.1.ask 0 _ rfl; have yc := HA2.out.1.hear.c0; have g2 := World.grownBy_alloc w2 (.cells #[.string ⟨#[]⟩,.int .i64 0,.int .u64 0,.int .u64 0,.int .i64 0,.int .i64 0,.int .i64 0,.int .i64 0] 90) none; have yz0 := g2.cell y0 (by simp); have yzc := g2.cell yc (by simp); have g3 := World.grownBy_alloc w2 (.cells #[.string v0,.int .i64 v1,.int .u64 v2,.int .u64 v3,.int .i64 v4,.int .i64 v5,.int .i64 v6,.int .i64 v7] 90) none; have yv0 := g3.cell y0 (by simp); have yvc := g3.cell yc (by simp); clear g2 g3)
      | ((with_reducible show Calls _ (findF T) _ _ _); (with_reducible apply Calls.mono HKb.out); rintro r w2 ⟨rfl,a2,l2⟩; have HA2 := hid a2; have HL2 := hid l2; clear a2 l2; have y0 := HA2.out.1.ask 0 _ rfl; have yc := HA2.out.1.hear.c0; obtain ⟨⟨d0,q0⟩,⟨d1,q1⟩,⟨d2,q2⟩,⟨d3,q3⟩,⟨d4,q4⟩,⟨d5,q5⟩,⟨d6,q6⟩,⟨d7,q7⟩,f0,f1,f2,f3,f4,f5,f6,f7⟩ := live_eight HL2.out))
     all_goals go_wp2
     all_goals go_meet
     ·exact ⟨_,rfl,(by have := HZ2.out; omega),rfl,by rw [HV8.out]; exact (Blk.new _ _ _).range,HStepG.out _ _ HA2.out (World.grownBy_alloc _ _ none)⟩
     ·refine ⟨W1.heap.size,rfl,hb1,rfl,by rw [HV8.out]; exact eightSet _ _ _ _ _ _ _ _ _ _ q0 q1 q2 q3 q4 q5 q6 q7,HStepN.out _ _ W1.heap.size HA2.out (by omega) ?_⟩
      repeat refine CF.setCell ?_ _ _ _ (fun _ => rfl)
      exact CF.refl _ _
    case rest =>
     obtain ⟨eb,rfl,heb,rfl,hE,hA⟩ := hcut
     have HA3 := hid hA
     have HE := hid hE
     clear hA hE HA1 c0 k0 k1 k2 k3 k4 k5 k6 k7 k8 HFd2 HFd
     obtain ⟨k0,k1,k2,k3,k4,k5,k6,k7,k8⟩ := nine_cells HA3.out.1.ask
     cases x with
     | none =>
      obtain rfl : bx = false := HBX.out.symm
      have HAE : Hid (AR = (.error 7,M)) := by rw [← HAR.out]; exact adm_none HOk.out HXF.out
      go_wp2_with fail
      go_meet
      exact ⟨_,_,rfl,HAE.out,HA3.out.2.2,HA3.out.1.desk,HA3.out.2.1,HA3.out.1.cf.mono (fun _ _ _ e => .inl e)⟩
     | some e =>
      obtain rfl : bx = true := HBX.out.symm
      have hin := HS'.out.bookOk e (find_mem HXF.out)
      have hKo := keyOf_any eb 0 e q.tnum wc (HE.out 1 _ rfl) (HE.out 2 _ rfl) (HE.out 3 _ rfl) hin.number.1 (by have := hin.number.2; omega)
      have HKo := hid hKo
      clear hKo hin HV8
      cases hk : e.keyOf q.tnum with
      | none =>
       rw [hk] at HKo
       have HAE : Hid (AR = (.error 44,M)) := by rw [← HAR.out]; exact adm_key HOk.out HXF.out hk
       clear hk
       go_wp2_with (first | (go_at_call 142; refine HKo.out.mono ?_; clear HKo; rintro r w4 ⟨rfl,rfl⟩))
       go_meet
       exact ⟨_,_,rfl,HAE.out,HA3.out.2.2,HA3.out.1.desk,HA3.out.2.1,HA3.out.1.cf.mono (fun _ _ _ e => .inl e)⟩
      | some key =>
       rw [hk] at HKo
       have HK := hid hk
       clear hk
       go_wp2_with (first | (go_at_call 142; refine HKo.out.mono ?_; clear HKo; rintro r w4 ⟨rfl,rfl⟩))
       have nh : w.heap.size + 1 ≠ hb := by have := HN.out.1; omega
       have nh' : hb ≠ w.heap.size + 1 := fun e => nh e.symm
       have n1' : w.heap.size ≠ w.heap.size + 1 := by omega
       obtain ⟨tk,htk⟩ : ∃ t,tkQ (openP key 2 q.tsealed) = t := ⟨_,rfl⟩
       obtain ⟨dt,hdt⟩ : ∃ d,doneB (tkE (openP key 2 q.tsealed)) = d := ⟨_,rfl⟩
       have hTk2 := fun W => HTk.out W key
       rw [htk,hdt] at hTk2
       have HTk2 : Hid (∀ W,FX w W hb g base T fv ro rr po pr dp exF M now w.heap.size (q.cells v u) → Calls Tryz.prog 143 #[ro,.int .u64 (UInt64.toNat key : Int),v] W fun e w' => e = .returned (.tuple #[.agg #[.int .i64 tk.flags,.int .u64 (tk.session.toNat : Int),.string ⟨tk.client.toArray⟩,.int .i64 tk.auth,.int .i64 tk.start,.int .i64 tk.fin,.int .i64 tk.renew],.bool dt]) ∧ CF W w' (Pl.has po)) := hTk2
       have HTI : Hid tk.In := by rw [← htk]; exact tkQ_in _
       have HTK := hid htk
       have HDT := hid hdt
       have c1 := HA3.out.1.hear.c1
       clear hTk2 htk hdt HE HTk
       obtain ⟨W3,hW3⟩ : ∃ W,W = w4 := ⟨_,rfl⟩
       rw [← hW3] at HA3 c1 k0 k1 k2 k3 k4 k5 k6 k7 k8
       rw [← hW3]
       clear hW3
       go_cut [7] (fun c wx => c = .bool dt ∧ wx.rangeAt (w.heap.size + 1) 0 tk.cells ∧ (FX w wx hb g base T fv ro rr po pr dp exF M now w.heap.size (q.cells v u) ∧ J wx ∧ Live wx (w.heap.size + 1) 7))
       case first =>
        have HXd := hid (HStepG.out _ _ HA3.out (gb_drew (World.grownBy.refl _ _))).1
        go_region_held3 (fun w' => w'.cell? ⟨hb,1,none⟩ = some ro ∧ w'.cell? ⟨w.heap.size,2,none⟩ = some v) (go_keep) (first
         | (go_at_call 143; refine (HTk2.out _ HXd.out).mono ?_; rintro r w5 ⟨rfl,C5⟩; have HA5 := hid (HStepO.out _ _ HA3.out C5.undrew); clear C5; have y1 := HA5.out.1.hear.c1; have y2 := HA5.out.1.ask 2 _ rfl; have L7 := live_seven HA5.out.2.2; obtain ⟨d0,q0⟩ := L7.1 0 (by decide); have f0 := L7.2 0; obtain ⟨d1,q1⟩ := L7.1 1 (by decide); have f1 := L7.2 1; obtain ⟨d2,q2⟩ := L7.1 2 (by decide); have f2 := L7.2 2; obtain ⟨d3,q3⟩ := L7.1 3 (by decide); have f3 := L7.2 3; obtain ⟨d4,q4⟩ := L7.1 4 (by decide); have f4 := L7.2 4; obtain ⟨d5,q5⟩ := L7.1 5 (by decide); have f5 := L7.2 5; obtain ⟨d6,q6⟩ := L7.1 6 (by decide); have f6 := L7.2 6; clear L7))
        go_wp2
        go_meet
        exact ⟨rfl,seven_set w5 (w.heap.size + 1) HA5.out.2.2 tk,HStepN.out _ _ (w.heap.size + 1) HA5.out (by omega) (seven_cf w5 (w.heap.size + 1) _ _ _ _ _ _ _)⟩
       case rest =>
        obtain ⟨rfl,hT,hA⟩ := hcut
        have HA5 := hid hA
        have HT := hid hT
        clear hA hT HA3 c1 k0 k1 k2 k3 k4 k5 k6 k7 k8 HTk2
        obtain ⟨k0,k1,k2,k3,k4,k5,k6,k7,k8⟩ := nine_cells HA5.out.1.ask
        cases dt with
        | false =>
         have HAE : Hid (AR = (.error 31,M)) := by rw [← HAR.out]; exact adm_ticket HOk.out HXF.out HK.out HDT.out
         go_wp2_with fail
         go_meet
         exact ⟨_,_,rfl,HAE.out,HA5.out.2.2,HA5.out.1.desk,HA5.out.2.1,HA5.out.1.cf.mono (fun _ _ _ e => .inl e)⟩
        | true =>
         obtain ⟨pf,hpf⟩ : ∃ p,pfQ (openP tk.session 4 q.proof) = p := ⟨_,rfl⟩
         obtain ⟨dq,hdq⟩ : ∃ d,doneB (pfE (openP tk.session 4 q.proof)) = d := ⟨_,rfl⟩
         have hPf2 := fun W => HPf.out W tk.session
         rw [hpf,hdq] at hPf2
         have hPf3 : ∀ W,FX w W hb g base T fv ro rr po pr dp exF M now w.heap.size (q.cells v u) → Calls Tryz.prog 144 #[ro,.int .u64 (UInt64.toNat tk.session : Int),u] W fun e w' => e = .returned (.tuple #[.agg #[.string ⟨pf.client.toArray⟩,.int .i64 pf.time,.int .i64 pf.count],.bool dq]) ∧ CF W w' (Pl.has po) := hPf2
         have HPI : Hid (In64 pf.time) := by rw [← hpf]; exact pfQ_in _
         have HPF := hid hpf
         have HDQ := hid hdq
         have c1 := HA5.out.1.hear.c1
         have ts : wc.cell? ⟨w.heap.size + 1,1,none⟩ = some (.int .u64 (tk.session.toNat : Int)) := HT.out 1 _ rfl
         clear hPf2 hpf hdq HPf
         go_wp2_with fail
         obtain ⟨W5,hW5⟩ : ∃ W,W = wc := ⟨_,rfl⟩
         rw [← hW5] at HA5 HT c1 ts k0 k1 k2 k3 k4 k5 k6 k7 k8
         rw [← hW5]
         clear hW5
         go_cut [9,7] (fun p c wx => ∃ pb,p = .pointer (some ⟨pb,0,none⟩) ∧ w.heap.size + 1 < pb ∧ c = .bool dq ∧ wx.rangeAt pb 0 pf.pcells ∧ wx.rangeAt (w.heap.size + 1) 0 tk.cells ∧ (FX w wx hb g base T fv ro rr po pr dp exF M now w.heap.size (q.cells v u) ∧ J wx ∧ Live wx (w.heap.size + 1) 7))
         case first =>
          have hb5 : w.heap.size + 1 < W5.heap.size := HA5.out.2.2.lt
          have na : w.heap.size ≠ W5.heap.size := by omega
          have nb : hb ≠ W5.heap.size := by have := HN.out.1; omega
          have nc : w.heap.size + 1 ≠ W5.heap.size := by omega
          have na' : W5.heap.size ≠ w.heap.size := fun e => na e.symm
          have nb' : W5.heap.size ≠ hb := fun e => nb e.symm
          have nc' : W5.heap.size ≠ w.heap.size + 1 := fun e => nc e.symm
          have HTs : Hid (∀ W W',(FX w W hb g base T fv ro rr po pr dp exF M now w.heap.size (q.cells v u) ∧ J W ∧ Live W (w.heap.size + 1) 7) → W.rangeAt (w.heap.size + 1) 0 tk.cells → CF W W' (Pl.has po) → W'.rangeAt (w.heap.size + 1) 0 tk.cells) := fun W W' _ h k => k.range h (fun _ _ e => by have := HPo.out _ _ e; omega)
          have HKa : Hid (Calls Tryz.prog 144 #[ro,.int .u64 (UInt64.toNat tk.session : Int),u] W5.drew fun e w' => e = .returned (.tuple #[.agg #[.string ⟨pf.client.toArray⟩,.int .i64 pf.time,.int .i64 pf.count],.bool dq]) ∧ (FX w w' hb g base T fv ro rr po pr dp exF M now w.heap.size (q.cells v u) ∧ J w' ∧ Live w' (w.heap.size + 1) 7) ∧ w'.rangeAt (w.heap.size + 1) 0 tk.cells ∧ W5.heap.size ≤ w'.heap.size) := (hPf3 _ (HStepG.out _ _ HA5.out (gb_drew (World.grownBy.refl _ _))).1).mono fun _ _ ⟨a,c⟩ => ⟨a,HStepO.out _ _ HA5.out c.undrew,HTs.out _ _ HA5.out HT.out c.undrew,c.size⟩
          have HKb : Hid (Calls Tryz.prog 144 #[ro,.int .u64 (UInt64.toNat tk.session : Int),u] ((W5.alloc (.cells #[.string ⟨#[]⟩,.int .i64 0,.int .i64 0] 95)).drew) fun e w' => e = .returned (.tuple #[.agg #[.string ⟨pf.client.toArray⟩,.int .i64 pf.time,.int .i64 pf.count],.bool dq]) ∧ (FX w w' hb g base T fv ro rr po pr dp exF M now w.heap.size (q.cells v u) ∧ J w' ∧ Live w' (w.heap.size + 1) 7) ∧ w'.rangeAt (w.heap.size + 1) 0 tk.cells ∧ Live w' W5.heap.size 3) := (hPf3 _ (HStepG.out _ _ HA5.out (gb_drew (World.grownBy_alloc _ _ none))).1).mono fun _ _ ⟨a,c⟩ => ⟨a,HStepO.out _ _ (HStepG.out _ _ HA5.out (World.grownBy_alloc _ _ none)) c.undrew,HTs.out _ _ (HStepG.out _ _ HA5.out (World.grownBy_alloc _ _ none)) (range_gb HT.out (World.grownBy_alloc _ _ none)) c.undrew,(Live.new W5 #[.string ⟨#[]⟩,.int .i64 0,.int .i64 0] _).cf c.undrew⟩
          clear hPf3
          have ga := World.grownBy_alloc W5 (.cells #[.string ⟨#[]⟩,.int .i64 0,.int .i64 0] 95) none
          have x1 := ga.cell c1 (by simp)
          have x3 := ga.cell k3 (by simp)
          have xs := ga.cell ts (by simp)
          clear ga
          go_region_held3 (fun w' => w'.cell? ⟨hb,1,none⟩ = some ro ∧ w'.cell? ⟨w.heap.size,3,none⟩ = some u ∧ w'.cell? ⟨w.heap.size + 1,1,none⟩ = some (.int .u64 (tk.session.toNat : Int))) (go_keep) (first
           | (go_at_call 144; (with_reducible apply Calls.mono HKa.out); rintro r w6 ⟨rfl,a6,t6,z6⟩; have HA6 := hid a6; have HT6 := hid t6; have HZ6 := hid z6; have y1 := HA6.out.1.hear.c1; have y3 := HA6.out.1.ask 3 _ rfl; have ys : w6.cell? ⟨w.heap.size + 1,1,none⟩ = some (.int .u64 (tk.session.toNat : Int)) := t6 1 _ rfl; clear a6 t6 z6; have g2 := World.grownBy_alloc w6 (.cells #[.string ⟨#[]⟩,.int .i64 0,.int .i64 0] 95) none; have yz1 := g2.cell y1 (by simp); have yz3 := g2.cell y3 (by simp); have yzs := g2.cell ys (by simp); have g3 := World.grownBy_alloc w6 (.cells #[.string ⟨pf.client.toArray⟩,.int .i64 pf.time,.int .i64 pf.count] 95) none; have yv1 := g3.cell y1 (by simp); have yv3 := g3.cell y3 (by simp); have yvs := g3.cell ys (by simp); clear g2 g3)
           | (go_at_call 144; (with_reducible apply Calls.mono HKb.out); rintro r w6 ⟨rfl,a6,t6,l6⟩; have HA6 := hid a6; have HT6 := hid t6; have HL6 := hid l6; have y1 := HA6.out.1.hear.c1; have y3 := HA6.out.1.ask 3 _ rfl; have ys : w6.cell? ⟨w.heap.size + 1,1,none⟩ = some (.int .u64 (tk.session.toNat : Int)) := t6 1 _ rfl; obtain ⟨d0,q0⟩ := Option.isSome_iff_exists.1 (l6.some 0 (by decide)); obtain ⟨d1,q1⟩ := Option.isSome_iff_exists.1 (l6.some 1 (by decide)); obtain ⟨d2,q2⟩ := Option.isSome_iff_exists.1 (l6.some 2 (by decide)); have f0 := l6.frozen 0; have f1 := l6.frozen 1; have f2 := l6.frozen 2; clear a6 t6 l6))
          all_goals go_wp2
          all_goals go_meet
          ·exact ⟨_,rfl,(by have := HZ6.out; omega),rfl,(Blk.new _ _ _).range,range_gb HT6.out (World.grownBy_alloc _ _ none),HStepG.out _ _ HA6.out (World.grownBy_alloc _ _ none)⟩
          ·have C7 : CF w6 (((w6.setCell ⟨W5.heap.size,0,none⟩ (.string ⟨pf.client.toArray⟩)).setCell ⟨W5.heap.size,1,none⟩ (.int .i64 pf.time)).setCell ⟨W5.heap.size,2,none⟩ (.int .i64 pf.count)) (fun b _ => b = W5.heap.size) := by
            repeat refine CF.setCell ?_ _ _ _ (fun _ => rfl)
            exact CF.refl _ _
           exact ⟨W5.heap.size,rfl,hb5,rfl,three_set w6 W5.heap.size HL6.out pf,C7.range HT6.out (fun _ _ e => by omega),HStepN.out _ _ W5.heap.size HA6.out (by omega) C7⟩
         case rest =>
          obtain ⟨pb,rfl,hpb,rfl,hP,hT,hA⟩ := hcut
          have HA7 := hid hA
          have HT7 := hid hT
          have HP7 := hid hP
          clear hA hT hP HA5 HT c1 ts k0 k1 k2 k3 k4 k5 k6 k7 k8 hPf3
          cases dq with
          | false =>
           have HAE : Hid (AR = (.error 31,M)) := by rw [← HAR.out]; exact adm_proof HOk.out HXF.out HK.out HDT.out (by rw [HTK.out]; exact HDQ.out)
           go_wp2_with fail
           go_meet
           exact ⟨_,_,rfl,HAE.out,HA7.out.2.2,HA7.out.1.desk,HA7.out.2.1,HA7.out.1.cf.mono (fun _ _ _ e => .inl e)⟩
          | true =>
           have hR := adm_rest (M := M) (now := now) HOk.out HXF.out HK.out HDT.out HTK.out HDQ.out HPF.out
           rw [HAR.out] at hR
           have p0 : wc.cell? ⟨pb,0,none⟩ = some (.string ⟨pf.client.toArray⟩) := HP7.out 0 _ rfl
           have p1 : wc.cell? ⟨pb,1,none⟩ = some (.int .i64 pf.time) := HP7.out 1 _ rfl
           have p2 : wc.cell? ⟨pb,2,none⟩ = some (.int .i64 pf.count) := HP7.out 2 _ rfl
           have r2 : wc.cell? ⟨w.heap.size + 1,2,none⟩ = some (.string ⟨tk.client.toArray⟩) := HT7.out 2 _ rfl
           by_cases hcl : pf.client = tk.client
           ·have hcb : (pf.client == tk.client) = true := beq_iff_eq.2 hcl
            rw [if_neg (fun n => n hcl)] at hR
            clear hcl
            by_cases hfar : M.skew < apartT pf.time now
            ·rw [if_pos hfar] at hR
             have HAE := hid hR
             have HC := hid (HFar.out wc pf HA7.out.1 HPI.out hfar)
             clear hR hfar
             go_wp2_with (first | (go_at_call 145; refine HC.out.mono ?_; clear HC; rintro r w8 ⟨rfl,g8⟩; have HA8 := hid (HStepG.out _ _ HA7.out g8); clear g8))
             go_meet
             exact ⟨_,_,rfl,HAE.out,HA8.out.2.2,HA8.out.1.desk,HA8.out.2.1,HA8.out.1.cf.mono (fun _ _ _ e => .inl e)⟩
            ·rw [if_neg hfar] at hR
             have HC := hid (HNear.out wc pf HA7.out.1 HPI.out (Int.not_lt.1 hfar))
             have HDk : Hid (∀ W',W'.rangeAt g 163 (pfCells (proofsNext M.skew now M.proofs pf)) → W'.cell? ⟨g,187,none⟩ = some (.int .i64 (proofsNext M.skew now M.proofs pf).length) → CF wc W' (fun b y => b = g ∧ 163 ≤ y ∧ y < 188) → DeskAt W' g 0 dp { M with proofs := proofsNext M.skew now M.proofs pf }) := fun W' h1 h2 k => desk_proofs HA7.out.1.desk k h1 h2 (fun q hq e => (HS'.out.dpF q hq).1 e) (proofsNext_few _ _ _ _ HA7.out.1.desk.few)
             have HCf : Hid (∀ W',CF wc W' (fun b y => b = g ∧ 163 ≤ y ∧ y < 188) → J W' ∧ CF w W' (fun b y => exX po exF b y ∨ b = g ∧ 163 ≤ y ∧ y < 188) ∧ Live W' (w.heap.size + 1) 7 ∧ W'.rangeAt (w.heap.size + 1) 0 tk.cells) := fun W' k => ⟨HST.out _ _ HA7.out.2.1 (k.mono (fun b y _ e => by obtain ⟨rfl,h1,h2⟩ := e; exact HS'.out.proofsJ y h1 h2)),(HA7.out.1.cf.mono (fun _ _ _ e => .inl e)).trans k (fun _ _ _ e => .inr e),HA7.out.2.2.cf k,k.range HT7.out (fun _ _ e => by have := HN.out.2; omega)⟩
             obtain ⟨pc,hpc⟩ : ∃ c,proofCode M.skew now M.proofs pf = c := ⟨_,rfl⟩
             obtain ⟨pn,hpn⟩ : ∃ l,proofsNext M.skew now M.proofs pf = l := ⟨_,rfl⟩
             have HCS := hid (proofCode_cases M.skew now M.proofs pf)
             rw [hpc] at HCS
             rw [hpc,hpn] at HC hR
             rw [hpn] at HDk
             clear hpc hpn hfar
             by_cases h0 : pc = 0
             ·subst h0
              rw [if_neg (fun n => n rfl)] at hR
              have HAE := hid hR
              clear hR
              go_wp2_with (first | (go_at_call 145; refine HC.out.mono ?_; clear HC; rintro r w8 ⟨rfl,h1,h2,C8⟩; have HD8 := hid (HDk.out _ h1 h2 C8); have HC8 := hid (HCf.out _ C8); clear h1 h2 C8; obtain ⟨⟨s0,s1,s2,s3,s4,s5,s6⟩,e0,e1,e2,e3,e4,e5,e6⟩ := seven_at HC8.out.2.2.2 HC8.out.2.2.1))
              try rw [Exit.noGoto_ret]
              have C9 := seven_cf w8 (w.heap.size + 1) (.int .i64 tk.flags) (.int .u64 (tk.session.toNat : Int)) (.string ⟨tk.client.toArray⟩) (.int .i64 tk.auth) (.int .i64 tk.start) (.int .i64 tk.fin) (.int .i64 tk.renew)
              refine bodyPost_ret (results_celltmp Tryz.results105 _ _ _ (w.heap.size + 1) rfl _ (load_of (cs := tk.cells) (seven_set w8 (w.heap.size + 1) HC8.out.2.2.1 tk) 219 _ Tryz.underlying219 rfl Tryz.sizeGrant)) rfl ⟨by rw [HAE.out]; rfl,?_,?_,?_⟩
              ·rw [HAE.out]
               exact HD8.out.cf C9 (fun j _ _ e => by have := HN.out.2; omega) (fun q hq j _ e => by have := (HS'.out.dpF q hq).2.2.1; omega)
              ·exact HST.out _ _ HC8.out.1 (C9.mono (fun b y _ e => HS'.out.newJ b y (by omega)))
              ·exact HC8.out.2.1.trans C9 (fun i _ hi e => by omega)
             ·rw [if_pos h0] at hR
              have HAE := hid hR
              clear hR
              rcases HCS.out with rfl | rfl | rfl
              ·clear h0 HCS
               go_wp2_with (first | (go_at_call 145; refine HC.out.mono ?_; clear HC; rintro r w8 ⟨rfl,h1,h2,C8⟩; have HD8 := hid (HDk.out _ h1 h2 C8); have HC8 := hid (HCf.out _ C8); clear h1 h2 C8))
               go_meet
               exact ⟨_,_,rfl,HAE.out,HC8.out.2.2.1,HD8.out,HC8.out.1,HC8.out.2.1⟩
              ·clear h0 HCS
               go_wp2_with (first | (go_at_call 145; refine HC.out.mono ?_; clear HC; rintro r w8 ⟨rfl,h1,h2,C8⟩; have HD8 := hid (HDk.out _ h1 h2 C8); have HC8 := hid (HCf.out _ C8); clear h1 h2 C8))
               go_meet
               exact ⟨_,_,rfl,HAE.out,HC8.out.2.2.1,HD8.out,HC8.out.1,HC8.out.2.1⟩
              ·exact absurd rfl h0
           ·have hcb : (pf.client == tk.client) = false := beq_eq_false_iff_ne.2 hcl
            rw [if_pos hcl] at hR
            have HAE := hid hR
            clear hR
            go_wp2_with fail
            go_meet
            exact ⟨_,_,rfl,HAE.out,HA7.out.2.2,HA7.out.1.desk,HA7.out.2.1,HA7.out.1.cf.mono (fun _ _ _ e => .inl e)⟩
 case rest =>
  obtain ⟨code,M',rfl,hAE,hL,hD,hj,hC⟩ := hcut
  have HAE := hid hAE
  have HL := hid hL
  have HD := hid hD
  have HJ9 := hid hj
  have HC9 := hid hC
  clear hAE hL hD hj hC
  have L7 := live_seven HL.out
  obtain ⟨d0,q0⟩ := L7.1 0 (by decide)
  have f0 := L7.2 0
  obtain ⟨d1,q1⟩ := L7.1 1 (by decide)
  have f1 := L7.2 1
  obtain ⟨d2,q2⟩ := L7.1 2 (by decide)
  have f2 := L7.2 2
  obtain ⟨d3,q3⟩ := L7.1 3 (by decide)
  have f3 := L7.2 3
  obtain ⟨d4,q4⟩ := L7.1 4 (by decide)
  have f4 := L7.2 4
  obtain ⟨d5,q5⟩ := L7.1 5 (by decide)
  have f5 := L7.2 5
  obtain ⟨d6,q6⟩ := L7.1 6 (by decide)
  have f6 := L7.2 6
  clear L7
  go_wp2_with fail
  try rw [Exit.noGoto_ret]
  have C9 := seven_cf wc (w.heap.size + 1) (.int .i64 0) (.int .u64 0) (.string ⟨#[]⟩) (.int .i64 0) (.int .i64 0) (.int .i64 0) (.int .i64 0)
  refine bodyPost_ret (results_celltmp Tryz.results105 _ _ _ (w.heap.size + 1) rfl _ (load_of (seven_zero wc (w.heap.size + 1) HL.out) 219 _ Tryz.underlying219 rfl Tryz.sizeGrant)) rfl ⟨by rw [HAE.out]; rfl,?_,?_,?_⟩
  ·rw [HAE.out]
   exact HD.out.cf C9 (fun j _ _ e => by have := HN.out.2; omega) (fun q hq j _ e => by have := (HS'.out.dpF q hq).2.2.1; omega)
  ·exact HST.out _ _ HJ9.out (C9.mono (fun b y _ e => HS'.out.newJ b y (by omega)))
  ·exact HC9.out.trans C9 (fun i _ hi e => by omega)
end Go.Proofs.YtpijkgbafjccaaaGreatDoor
