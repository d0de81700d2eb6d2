/-
  
-/
import Derived.Test.YtpijkgbafjccaaaGreatDoorGTPFindP
import Derived.Deep.CutBlock
namespace Go.Proofs.YtpijkgbafjccaaaGreatDoor
open Go.RowKit
set_option maxRecDepth 100000
abbrev noPair : Array Value := #[.string ⟨#[]⟩,.int .i64 0,.int .u64 0,.int .u64 0,.int .i64 0,.int .i64 0,.int .i64 0,.int .i64 0,.string ⟨#[]⟩,.int .i64 0,.int .u64 0,.int .u64 0,.int .i64 0,.int .i64 0,.int .i64 0,.int .i64 0]
def PreAt (w : World) (po : Option Pl) (exF : Nat → Nat → Prop) (q : FQ) (pn : Int) (v : Value) : Prop :=
 q.pre = none ∨ ∃ z ao cap,q.pre = some (pn,z) ∧ v = .slice ao z.length cap ∧ z.length ≤ cap ∧ At w ao z ∧ ∀ b off,ao = some ⟨b,off,none⟩ → ∀ j,j < z.length → ¬ Pl.has po b (off + j) ∧ ¬ exF b (off + j) ∧ b < w.heap.size
structure Fin (w w' : World) (g : Nat) (po pr dp : Option Pl) (exF : Nat → Nat → Prop) (v' : Value) (R : List UInt8 × DM) : Prop where
 out : ∃ p',Out w' v' p' R.1 ∧ (p' = pr ∨ Pl.fresh w.heap.size p')
 desk : ∃ dp',DeskAt w' g 0 dp' R.2 ∧ ∀ q',dp' = some q' → ∃ q,dp = some q ∧ q.g = q'.g
 cf : CF w w' (fun b y => b = g ∧ (y = 1 ∨ 163 ≤ y ∧ y < 188) ∨ exX po exF b y ∨ Pl.has pr b y)
theorem live_range : ∀ (vs : List Value) (o : Nat) (w : World) (b n : Nat),Live w b n → o + vs.length ≤ n → (w.setCells b o vs).rangeAt b o vs := by
 intro vs
 induction vs with
 | nil => intro o w b n _ _ j v hv; simp at hv
 | cons x r ih =>
  intro o w b n hl hn j v hv
  rw [List.length_cons] at hn
  have hl2 : Live (w.setCell ⟨b,o,none⟩ x) b n := hl.cf (ex := fun _ _ => True) ((CF.refl w _).setCell b o x (fun _ => trivial))
  cases j with
  | zero =>
   obtain rfl : x = v := by simpa using hv
   show ((w.setCell ⟨b,o,none⟩ x).setCells b (o + 1) r).cell? _ = _
   rw [World.cell?_setCells_out b r (o + 1) _ ⟨b,o + 0,none⟩ (fun _ _ => .inl (by show o + 0 < o + 1; omega))]
   obtain ⟨d,hd⟩ := Option.isSome_iff_exists.1 (hl.some o (by omega))
   exact World.cell?_setCell_same _ _ _ hd
  | succ j =>
   have := ih (o + 1) (w.setCell ⟨b,o,none⟩ x) b n hl2 (by omega) j v (by simpa using hv)
   rw [show o + (j + 1) = o + 1 + j from by omega]
   exact this
theorem live_sixteen {w : World} {b : Nat} (h : Live w b 16) : (∀ j,j < 16 → ∃ d,w.cell? ⟨b,j,none⟩ = some d) ∧ ∀ j,w.frozen? ⟨b,j,none⟩ = false := ⟨fun j hj => Option.isSome_iff_exists.1 (h.some j hj),fun j => h.frozen j⟩
theorem range_split {w : World} {b : Nat} {v0 v1 v2 v3 v4 v5 v6 v7 : Value} {us : List Value} (h : w.rangeAt b 0 (v0 :: v1 :: v2 :: v3 :: v4 :: v5 :: v6 :: v7 :: us)) : w.rangeAt b 0 [v0,v1,v2,v3,v4,v5,v6,v7] ∧ w.rangeAt b 8 us := by
 constructor
 ·intro j v hv
  refine h j v ?_
  rw [← hv]
  have hj : j < 8 := by have := (List.getElem?_eq_some_iff.1 hv).1; simpa using this
  rcases j with _ | _ | _ | _ | _ | _ | _ | _ | j
  all_goals first | rfl | omega
 ·intro j v hv
  have := h (8 + j) v (by rw [show 8 + j = j + 8 from by omega]; simpa using hv)
  rwa [Nat.zero_add] at this
theorem ten_cells {w : World} {b : Nat} {q : FQ} {pn : Int} {v : Value} (h : w.rangeAt b 0 (q.cells pn v)) : w.cell? ⟨b,0,none⟩ = some (.string ⟨q.client.toArray⟩) ∧ w.cell? ⟨b,1,none⟩ = some (.string ⟨q.service.toArray⟩) ∧ w.cell? ⟨b,2,none⟩ = some (.int .i64 q.nonce) ∧ w.cell? ⟨b,3,none⟩ = some (.int .i64 q.sFrom) ∧ w.cell? ⟨b,4,none⟩ = some (.int .i64 q.till) ∧ w.cell? ⟨b,5,none⟩ = some (.int .i64 q.rtime) ∧ w.cell? ⟨b,6,none⟩ = some (.int .i64 q.opts) ∧ w.cell? ⟨b,7,none⟩ = some (.bool q.pre.isSome) ∧ w.cell? ⟨b,8,none⟩ = some (.int .i64 pn) ∧ w.cell? ⟨b,9,none⟩ = some v :=
 ⟨h 0 _ rfl,h 1 _ rfl,h 2 _ rfl,h 3 _ rfl,h 4 _ rfl,h 5 _ rfl,h 6 _ rfl,h 7 _ rfl,h 8 _ rfl,h 9 _ rfl⟩
theorem keep15 {w : World} {X b o : Nat} {v0 v1 v2 v3 v4 v5 v6 v7 v8 v9 v10 v11 v12 v13 v14 u : Value} (hne : b ≠ X) (h : w.cell? ⟨b,o,none⟩ = some u) : (((((((((((((((w.setCell ⟨X,0,none⟩ v0).setCell ⟨X,1,none⟩ v1).setCell ⟨X,2,none⟩ v2).setCell ⟨X,3,none⟩ v3).setCell ⟨X,4,none⟩ v4).setCell ⟨X,5,none⟩ v5).setCell ⟨X,6,none⟩ v6).setCell ⟨X,7,none⟩ v7).setCell ⟨X,8,none⟩ v8).setCell ⟨X,9,none⟩ v9).setCell ⟨X,10,none⟩ v10).setCell ⟨X,11,none⟩ v11).setCell ⟨X,12,none⟩ v12).setCell ⟨X,13,none⟩ v13).setCell ⟨X,14,none⟩ v14).cell? ⟨b,o,none⟩ = some u := by
 have k : ∀ (W : World) (i : Nat) (x : Value),W.cell? ⟨b,o,none⟩ = some u → (W.setCell ⟨X,i,none⟩ x).cell? ⟨b,o,none⟩ = some u := fun W i x hW => by
  rw [World.cell?_setCell_other _ _ _ _ (fun e => hne (by injection e with e; exact e.symm))]
  exact hW
 exact k _ _ _ (k _ _ _ (k _ _ _ (k _ _ _ (k _ _ _ (k _ _ _ (k _ _ _ (k _ _ _ (k _ _ _ (k _ _ _ (k _ _ _ (k _ _ _ (k _ _ _ (k _ _ _ (k _ _ _ (h)))))))))))))))
theorem blk15 {w : World} {X : Nat} {z0 z1 z2 z3 z4 z5 z6 z7 z8 z9 z10 z11 z12 z13 z14 : Value} (h : Blk w X #[z0,z1,z2,z3,z4,z5,z6,z7,z8,z9,z10,z11,z12,z13,z14]) (v0 v1 v2 v3 v4 v5 v6 v7 v8 v9 v10 v11 v12 v13 v14 : Value) : Blk (((((((((((((((w.setCell ⟨X,0,none⟩ v0).setCell ⟨X,1,none⟩ v1).setCell ⟨X,2,none⟩ v2).setCell ⟨X,3,none⟩ v3).setCell ⟨X,4,none⟩ v4).setCell ⟨X,5,none⟩ v5).setCell ⟨X,6,none⟩ v6).setCell ⟨X,7,none⟩ v7).setCell ⟨X,8,none⟩ v8).setCell ⟨X,9,none⟩ v9).setCell ⟨X,10,none⟩ v10).setCell ⟨X,11,none⟩ v11).setCell ⟨X,12,none⟩ v12).setCell ⟨X,13,none⟩ v13).setCell ⟨X,14,none⟩ v14) X #[v0,v1,v2,v3,v4,v5,v6,v7,v8,v9,v10,v11,v12,v13,v14] := by
 have h : Blk _ X #[v0,z1,z2,z3,z4,z5,z6,z7,z8,z9,z10,z11,z12,z13,z14] := h.set 0 v0
 have h : Blk _ X #[v0,v1,z2,z3,z4,z5,z6,z7,z8,z9,z10,z11,z12,z13,z14] := h.set 1 v1
 have h : Blk _ X #[v0,v1,v2,z3,z4,z5,z6,z7,z8,z9,z10,z11,z12,z13,z14] := h.set 2 v2
 have h : Blk _ X #[v0,v1,v2,v3,z4,z5,z6,z7,z8,z9,z10,z11,z12,z13,z14] := h.set 3 v3
 have h : Blk _ X #[v0,v1,v2,v3,v4,z5,z6,z7,z8,z9,z10,z11,z12,z13,z14] := h.set 4 v4
 have h : Blk _ X #[v0,v1,v2,v3,v4,v5,z6,z7,z8,z9,z10,z11,z12,z13,z14] := h.set 5 v5
 have h : Blk _ X #[v0,v1,v2,v3,v4,v5,v6,z7,z8,z9,z10,z11,z12,z13,z14] := h.set 6 v6
 have h : Blk _ X #[v0,v1,v2,v3,v4,v5,v6,v7,z8,z9,z10,z11,z12,z13,z14] := h.set 7 v7
 have h : Blk _ X #[v0,v1,v2,v3,v4,v5,v6,v7,v8,z9,z10,z11,z12,z13,z14] := h.set 8 v8
 have h : Blk _ X #[v0,v1,v2,v3,v4,v5,v6,v7,v8,v9,z10,z11,z12,z13,z14] := h.set 9 v9
 have h : Blk _ X #[v0,v1,v2,v3,v4,v5,v6,v7,v8,v9,v10,z11,z12,z13,z14] := h.set 10 v10
 have h : Blk _ X #[v0,v1,v2,v3,v4,v5,v6,v7,v8,v9,v10,v11,z12,z13,z14] := h.set 11 v11
 have h : Blk _ X #[v0,v1,v2,v3,v4,v5,v6,v7,v8,v9,v10,v11,v12,z13,z14] := h.set 12 v12
 have h : Blk _ X #[v0,v1,v2,v3,v4,v5,v6,v7,v8,v9,v10,v11,v12,v13,z14] := h.set 13 v13
 have h : Blk _ X #[v0,v1,v2,v3,v4,v5,v6,v7,v8,v9,v10,v11,v12,v13,v14] := h.set 14 v14
 exact h
theorem cf15 (w : World) (X : Nat) (ex : Nat → Nat → Prop) (v0 v1 v2 v3 v4 v5 v6 v7 v8 v9 v10 v11 v12 v13 v14 : Value) (hx : ∀ y,ex X y) : CF w (((((((((((((((w.setCell ⟨X,0,none⟩ v0).setCell ⟨X,1,none⟩ v1).setCell ⟨X,2,none⟩ v2).setCell ⟨X,3,none⟩ v3).setCell ⟨X,4,none⟩ v4).setCell ⟨X,5,none⟩ v5).setCell ⟨X,6,none⟩ v6).setCell ⟨X,7,none⟩ v7).setCell ⟨X,8,none⟩ v8).setCell ⟨X,9,none⟩ v9).setCell ⟨X,10,none⟩ v10).setCell ⟨X,11,none⟩ v11).setCell ⟨X,12,none⟩ v12).setCell ⟨X,13,none⟩ v13).setCell ⟨X,14,none⟩ v14) ex := by
 repeat refine CF.setCell ?_ _ _ _ (fun _ => hx _)
 exact CF.refl _ _
theorem fin_give {w W W1 W2 : World} {hb g base T rb : Nat} {fv rv ro rr v' : Value} {po pr dp : Option Pl} {J : World → Prop} {exF exJ : Nat → Nat → Prop} {M M' : DM} {now : Int} {sb : Nat} {ask : List Value} {bs : List UInt8} {qd dp' : Pl} (X : FXJ J w W hb g base T fv ro rr po pr dp exF M now sb ask) (k : CF W W1 (fun b y => b = g ∧ y = 1 ∨ b = rb)) (hrb : w.heap.size ≤ rb) (hbase : base ≤ w.heap.size) (h : OutMore W1 W2 v' pr bs) (S : HS hb g base T fv rv po pr dp J exF exJ M.book) (hd : DeskAt W1 g 0 (some dp') M') (hdp : dp = some qd) (hg : dp'.g = qd.g) : Fin w W2 g po pr dp exF v' (bs,M') ∧ J W2 := by
 obtain ⟨p',h1,h2,h3,_⟩ := h
 refine ⟨?_,S.finds.stay _ _ (S.finds.stay _ _ X.j (k.mono (fun b y _ e => by rcases e with e | e; rw [e.1,e.2]; exact S.drawJ; rw [e]; exact S.newJ _ _ (by omega)))) (h2.mono (fun b y _ e => S.prJ b y e))⟩
 refine ⟨⟨p',h1,h3.imp id (fun q => fresh_mono q (Nat.le_trans X.big k.size))⟩,⟨some dp',hd.cf h2 (fun j _ hj e => S.prG j (by omega) e) (fun q hq j _ e => ?_),fun q' hq' => ⟨qd,hdp,?_⟩⟩,?_⟩
 ·injection hq with hq
  subst hq
  rw [hg] at e
  exact ((S.dpF qd hdp).2.2.2 _).2.2 e
 ·injection hq' with hq'
  subst hq'
  exact hg.symm
 ·exact ((X.cf.mono (fun _ _ _ e => .inr (.inl e))).trans k (fun i o hi e => by rcases e with e | e; exact .inl ⟨e.1,.inl e.2⟩; omega)).trans h2 (fun _ _ _ e => .inr (.inr e))
theorem fin_refuse {w W W' : World} {hb g base T : Nat} {fv rv ro rr v' : Value} {po pr dp : Option Pl} {J : World → Prop} {exF exJ : Nat → Nat → Prop} {M : DM} {now code : Int} {sb : Nat} {ask : List Value} (X : FXJ J w W hb g base T fv ro rr po pr dp exF M now sb ask) (h : OutMore W W' v' pr (refusalBox now code)) (S : HS hb g base T fv rv po pr dp J exF exJ M.book) : Fin w W' g po pr dp exF v' (refusalBox now code,M) ∧ J W' := by
 obtain ⟨p',h1,h2,h3,_⟩ := h
 refine ⟨?_,S.finds.stay _ _ X.j (h2.mono (fun b y _ e => S.prJ b y e))⟩
 refine ⟨⟨p',h1,h3.imp id (fun k => fresh_mono k X.big)⟩,⟨dp,X.desk.cf h2 (fun j _ hj e => S.prG j (by omega) e) (fun q hq j _ e => ((S.dpF q hq).2.2.2 _).2.2 e),fun q' hq' => ⟨q',hq',rfl⟩⟩,?_⟩
 exact (X.cf.mono (fun _ _ _ e => .inr (.inl e))).trans h2 (fun _ _ _ e => .inr (.inr e))
set_option maxHeartbeats 20000000 in
theorem answerFirst_any (hb g base T : Nat) (fv rv ro rr : Value) (po pr dp : Option Pl) (J : World → Prop) (exF exJ : Nat → Nat → Prop) (M : DM) (now pn : Int) (q : FQ) (v : Value) (w : World) (S : HS hb g base T fv rv po pr dp J exF exJ M.book) (h : Hear w hb g T fv ro rr now) (hd : DeskAt w g 0 dp M) (hJ : J w) (ho : Out w ro po []) (hr : Out w rr pr []) (hpre : PreAt w po exF q pn v) (hnow : In64 now) (hsk : In64 M.skew) (hq1 : In64 q.nonce) (hq2 : In64 q.sFrom) (hq3 : In64 q.till) (hq4 : In64 q.rtime) (hq5 : In64 q.opts) (hbase : base ≤ w.heap.size) :
  Calls Tryz.prog 68 #[.pointer (some ⟨hb,0,none⟩),.agg (q.cells pn v).toArray] w fun e w' => ∃ v',e = .returned v' ∧ Fin w w' g po pr dp exF v' (finishM M now (firstM M now q)) ∧ J w' := by
 have hbb := S.hbb
 have hgb := S.gb
 obtain ⟨W0,hW0⟩ : ∃ W,W = (w.alloc (.cells (q.cells pn v).toArray 165)).alloc (.cells noPair 207) := ⟨_,rfl⟩
 have G0 : w.grownBy W0 none := by rw [hW0]; exact gb_alloc (World.grownBy_alloc w _ none) _
 have s0 : W0.heap.size = w.heap.size + 1 + 1 := by rw [hW0]; simp only [World.size_alloc]
 have RQ : W0.rangeAt w.heap.size 0 (q.cells pn v) := by rw [hW0]; exact range_gb (cells_range w (q.cells pn v).toArray _) (World.grownBy_alloc _ _ none)
 have LP : Live W0 (w.heap.size + 1) 16 := by
  have h := Live.new (w.alloc (.cells (q.cells pn v).toArray 165)) noPair 207
  rw [World.size_alloc] at h
  rw [hW0]
  exact h
 have hpo : ∀ b y,Pl.has po b y → b < w.heap.size := fun b y e => ho.lt e
 have hpr : ∀ b y,Pl.has pr b y → b < w.heap.size := fun b y e => hr.lt e
 have hprg : ∀ p,pr = some p → p.g < w.heap.size := fun p hp => hr.ltg p hp
 have HPrg := hid hprg
 have X0 : FXJ J w W0 hb g base T fv ro rr po pr dp exF M now w.heap.size (q.cells pn v) := ⟨⟨h.grown G0,hd.grown G0,ho.grown G0,hr.grown G0,RQ,G0.size,CF.of_gb G0 _⟩,S.finds.stay _ _ hJ (CF.of_gb G0 _)⟩
 obtain ⟨x,hx⟩ : ∃ x,BE.find M.book q.client = x := ⟨_,rfl⟩
 obtain ⟨y,hy⟩ : ∃ y,BE.find M.book q.service = y := ⟨_,rfl⟩
 have HFind : Hid (∀ W,J W → FXJ J w W hb g base T fv ro rr po pr dp exF M now w.heap.size (q.cells pn v) → Calls Tryz.prog 93 #[.pointer (some ⟨hb,0,none⟩),.agg #[.string ⟨q.client.toArray⟩,.int .i64 6,.int .i64 1],.agg #[.string ⟨q.service.toArray⟩,.int .i64 7,.int .i64 2]] W fun e w' => e = .returned (.tuple #[.agg (foundC x).toArray,.agg (foundC y).toArray,.int .i64 (pairCode x y now 6 7 1 2)]) ∧ J w' ∧ CF W w' exF) := by
  intro W hJW XW
  have := hfind_any hb base T fv rv J exF exJ M.book q.client q.service 6 1 7 2 now W S.meth S.finds hJW XW.hear.c0 XW.hear.c4 S.hbF S.newF S.newJ (Nat.le_trans hbase XW.big)
  rw [hx,hy] at this
  exact this
 have HST := hid S.finds.stay
 have HX0 := hid X0
 have HJ := hid hJ
 have HS' := hid S
 have HLP := hid LP
 have HG0 := hid G0
 have HW0 := hid hW0
 have HQ : Hid (In64 now ∧ In64 M.skew ∧ In64 q.nonce ∧ In64 q.sFrom ∧ In64 q.till ∧ In64 q.rtime ∧ In64 q.opts) := ⟨hnow,hsk,hq1,hq2,hq3,hq4,hq5⟩
 have HPo := hid hpo
 have HPr := hid hpr
 have HPre := hid hpre
 have HXY := hid (And.intro hx hy)
 have HN : Hid (hb < w.heap.size ∧ g < w.heap.size) := ⟨by omega,by omega⟩
 have HStep : Hid (∀ W W',FXJ J w W hb g base T fv ro rr po pr dp exF M now w.heap.size (q.cells pn v) → CF W W' (fun b y => Pl.has po b y ∨ w.heap.size < b) → FXJ J w W' hb g base T fv ro rr po pr dp exF M now w.heap.size (q.cells pn v)) := fun W W' h k => h.step S k rfl hbase hpo
 have HStepF : Hid (∀ W W',FXJ J w W hb g base T fv ro rr po pr dp exF M now w.heap.size (q.cells pn v) → CF W W' exF → J W' → FXJ J w W' hb g base T fv ro rr po pr dp exF M now w.heap.size (q.cells pn v)) := fun W W' h k j => h.found S k j rfl hbase hpo
 have HBase := hid hbase
 have HCP : Hid (∀ e f W,FXJ J w W hb g base T fv ro rr po pr dp exF M now w.heap.size (q.cells pn v) → PairAt W (w.heap.size + 1) e f → Calls Tryz.prog 96 #[.pointer (some ⟨hb,0,none⟩),.pointer (some ⟨w.heap.size + 1,0,none⟩),.agg (q.cells pn v).toArray] W fun r w' => r = .returned (.int .i64 (preCode M.skew now e q.pre)) ∧ CF W w' (Pl.has po)) := by
  intro e f W X P
  rcases hpre with hn | ⟨z,ao,cap,h1,rfl,h3,h4,h5⟩
  ·exact (checkPre_none hb (w.heap.size + 1) M.skew now pn v q e f W P hn).mono fun _ _ ⟨a,b⟩ => ⟨a,CF.of_gb b _⟩
  ·exact checkPre_some hb g (w.heap.size + 1) ro po [] M.skew now pn z ao z.length cap q e f W P h1 X.hear.c1 X.hear.c3 X.hear.c4 X.desk.skew hnow X.o S.poH (fun p hp e => by have := ho.ltg p hp; omega) S.poG (hid rfl) h3 (h4.cf X.cf (fun b off e j hj n => by rcases n with n | n; exact (h5 b off e j hj).2.1 n; exact (h5 b off e j hj).1 n)) (fun b off e j hj => (h5 b off e j hj).1)
 have HStart : Hid (∀ e f W,FXJ J w W hb g base T fv ro rr po pr dp exF M now w.heap.size (q.cells pn v) → PairAt W (w.heap.size + 1) e f → Calls Tryz.prog 97 #[.pointer (some ⟨hb,0,none⟩),.pointer (some ⟨w.heap.size + 1,0,none⟩),.agg (q.cells pn v).toArray] W fun r w' => r = .returned (.tuple #[.int .i64 (firstStart now q),.bool (startOk now M.skew q e f)]) ∧ W.grownBy w' none) :=
  fun e f W X P => start_any hb g (w.heap.size + 1) now M.skew pn v q e f W X.hear.c3 X.hear.c4 X.desk.skew hnow hsk P
 have hst : In64 (firstStart now q) := by unfold firstStart; split <;> assumption
 have HEnd : Hid (∀ e f W,e ∈ M.book → f ∈ M.book → PairAt W (w.heap.size + 1) e f → Calls Tryz.prog 98 #[.pointer (some ⟨w.heap.size + 1,0,none⟩),.int .i64 (firstStart now q),.int .i64 q.till] W fun r w' => r = .returned (.int .i64 (firstEnd now q e f)) ∧ ∃ m,w' = W.drewN m) :=
  fun e f W he hf P => pend_any (w.heap.size + 1) e f (firstStart now q) q.till W P hst (S.bookOk e he).life (S.bookOk f hf).life
 have HRen : Hid (∀ e f W,e ∈ M.book → f ∈ M.book → PairAt W (w.heap.size + 1) e f → Calls Tryz.prog 101 #[.pointer (some ⟨w.heap.size + 1,0,none⟩),.int .i64 (firstStart now q),.int .i64 q.rtime] W fun r w' => r = .returned (.int .i64 (lesser (asked q.rtime) (lesser (satAdd (firstStart now q) e.renew) (satAdd (firstStart now q) f.renew)))) ∧ ∃ m,w' = W.drewN m) :=
  fun e f W he hf P => prenew_any (w.heap.size + 1) e f (firstStart now q) q.rtime W P hst (S.bookOk e he).renew (S.bookOk f hf).renew
 have HStep2 : Hid (∀ e f W W',FXJ J w W hb g base T fv ro rr po pr dp exF M now w.heap.size (q.cells pn v) → PairAt W (w.heap.size + 1) e f → CF W W' (fun b y => Pl.has po b y ∨ w.heap.size + 1 < b) → FXJ J w W' hb g base T fv ro rr po pr dp exF M now w.heap.size (q.cells pn v) ∧ PairAt W' (w.heap.size + 1) e f) := by
  intro e f W W' X P k
  refine ⟨X.step S (k.mono (fun b _ _ e => by rcases e with e | e; exact .inl e; exact .inr (by omega))) rfl hbase hpo,P.cf k (fun y e => ?_)⟩
  rcases e with e | e
  ·have := hpo _ _ e; omega
  ·omega
 obtain ⟨FR,hFR⟩ : ∃ R,finishM M now (firstM M now q) = R := ⟨_,rfl⟩
 have HFR := hid hFR
 rw [hFR]
 obtain ⟨v0,v1,v2,v3,v4,v5,v6,v7,hv⟩ := foundC_eight x
 obtain ⟨u0,u1,u2,u3,u4,u5,u6,u7,hu⟩ := foundC_eight y
 have Hv := hid hv
 have Hu := hid hu
 rw [hv,hu] at HFind
 clear hst hv hu hFR h hd hJ ho hr hpre hnow hsk hq1 hq2 hq3 hq4 hq5 hW0 G0 RQ LP X0 hpo hpr hprg S hx hy s0
 have n1 : w.heap.size + 1 ≠ w.heap.size := by omega
 go_enter Tryz.func68,Tryz.ntmps68
 go_wp2_with fail
 go_step3
 go_wp2_with fail
 go_step3
 go_upto_block 0 with fail
 go_cut [5] (fun c wx => ∃ code,c = .int .i64 code ∧ In64 code ∧ FR = (refusalBox now code,M) ∧ FXJ J w wx hb g base T fv ro rr po pr dp exF M now w.heap.size (q.cells pn v))
 case first =>
  go_wp2_with (rw [← HW0.out]; fail_if_success done)
  have a0 : W0.cell? ⟨w.heap.size,0,none⟩ = some (.string ⟨q.client.toArray⟩) := HX0.out.ask 0 _ rfl
  have a1 : W0.cell? ⟨w.heap.size,1,none⟩ = some (.string ⟨q.service.toArray⟩) := HX0.out.ask 1 _ rfl
  go_cut [5] (fun c wx => c = .int .i64 (pairCode x y now 6 7 1 2) ∧ wx.rangeAt (w.heap.size + 1) 0 [.string v0,.int .i64 v1,.int .u64 v2,.int .u64 v3,.int .i64 v4,.int .i64 v5,.int .i64 v6,.int .i64 v7] ∧ wx.rangeAt (w.heap.size + 1) 8 [.string u0,.int .i64 u1,.int .u64 u2,.int .u64 u3,.int .i64 u4,.int .i64 u5,.int .i64 u6,.int .i64 u7] ∧ J wx ∧ FXJ J w wx hb g base T fv ro rr po pr dp exF M now w.heap.size (q.cells pn v))
  case first =>
   go_region_held3 (fun w' => w'.cell? ⟨w.heap.size,0,none⟩ = some (.string ⟨q.client.toArray⟩) ∧ w'.cell? ⟨w.heap.size,1,none⟩ = some (.string ⟨q.service.toArray⟩)) (go_keep) (first
    | (go_at_call 94; refine (asClient_any _ _).mono ?_; rintro e w1 ⟨rfl,g1⟩; have HG1 := hid (gb_undrew g1); have HX1 := hid (HStep.out _ _ HX0.out (CF.of_gb (gb_undrew g1) _)); clear g1; have a0' := HX1.out.ask 0 _ rfl; have a1' := HX1.out.ask 1 _ rfl)
    | (go_at_call 95; refine (asService_any _ _).mono ?_; rintro e w2 ⟨rfl,g2⟩; have HG2 := hid (gb_trans HG1.out g2); have HX2 := hid (HStep.out _ _ HX1.out (CF.of_gb g2 _)); clear g2; have b0' := HX2.out.ask 0 _ rfl; have b1' := HX2.out.ask 1 _ rfl)
    | (go_at_call 93; refine (HFind.out _ (HST.out _ _ HJ.out (CF.of_gb (gb_trans HG0.out HG2.out) _)) HX2.out).mono ?_; rintro e w3 ⟨rfl,j3,C3⟩; have HC3 := hid C3; have HJ3 := hid j3; have HX3 := hid (HStepF.out _ _ HX2.out C3 j3); clear C3 j3; have c0' := HX3.out.ask 0 _ rfl; have c1' := HX3.out.ask 1 _ rfl; have HL3 := hid ((HLP.out.grown HG2.out).cf HC3.out); have L16 := live_sixteen HL3.out; obtain ⟨d0,q0⟩ := L16.1 0 (by decide); have f0 := L16.2 0; obtain ⟨d1,q1⟩ := L16.1 1 (by decide); have f1 := L16.2 1; obtain ⟨d2,q2⟩ := L16.1 2 (by decide); have f2 := L16.2 2; obtain ⟨d3,q3⟩ := L16.1 3 (by decide); have f3 := L16.2 3; obtain ⟨d4,q4⟩ := L16.1 4 (by decide); have f4 := L16.2 4; obtain ⟨d5,q5⟩ := L16.1 5 (by decide); have f5 := L16.2 5; obtain ⟨d6,q6⟩ := L16.1 6 (by decide); have f6 := L16.2 6; obtain ⟨d7,q7⟩ := L16.1 7 (by decide); have f7 := L16.2 7; obtain ⟨d8,q8⟩ := L16.1 8 (by decide); have f8 := L16.2 8; obtain ⟨d9,q9⟩ := L16.1 9 (by decide); have f9 := L16.2 9; obtain ⟨d10,q10⟩ := L16.1 10 (by decide); have f10 := L16.2 10; obtain ⟨d11,q11⟩ := L16.1 11 (by decide); have f11 := L16.2 11; obtain ⟨d12,q12⟩ := L16.1 12 (by decide); have f12 := L16.2 12; obtain ⟨d13,q13⟩ := L16.1 13 (by decide); have f13 := L16.2 13; obtain ⟨d14,q14⟩ := L16.1 14 (by decide); have f14 := L16.2 14; obtain ⟨d15,q15⟩ := L16.1 15 (by decide); have f15 := L16.2 15; clear L16))
   go_wp2
   go_meet
   have HR := range_split (live_range ([.string v0,.int .i64 v1,.int .u64 v2,.int .u64 v3,.int .i64 v4,.int .i64 v5,.int .i64 v6,.int .i64 v7] ++ [.string u0,.int .i64 u1,.int .u64 u2,.int .u64 u3,.int .i64 u4,.int .i64 u5,.int .i64 u6,.int .i64 u7]) 0 w3 (w.heap.size + 1) 16 HL3.out (by simp))
   refine ⟨rfl,HR.1,HR.2,?_,?_⟩
   ·refine HST.out _ _ HJ3.out ?_
    repeat refine CF.setCell ?_ _ _ _ (fun _ => HS'.out.newJ _ _ (by omega))
    exact CF.refl _ _
   ·refine HStep.out _ _ HX3.out ?_
    repeat refine CF.setCell ?_ _ _ _ (fun _ => .inr (by omega))
    exact CF.refl _ _
  case rest =>
   obtain ⟨rfl,hrA,hrB,hj,hX⟩ := hcut
   have HX4 := hid hX
   have HRA := hid hrA
   have HRB := hid hrB
   clear hrA hrB hj hX a0 a1 HFind HX0 HJ HLP HG0 HW0
   obtain ⟨k0,k1,k2,k3,k4,k5,k6,k7,k8,k9⟩ := ten_cells HX4.out.ask
   by_cases hpc : pairCode x y now 6 7 1 2 = 0
   ·obtain ⟨e,f,rfl,rfl⟩ := pair_zero (by decide) (by decide) hpc
    have he := find_mem HXY.out.1
    have hf := find_mem HXY.out.2
    have hP4 : PairAt wc (w.heap.size + 1) e f := ⟨by have h := HRA.out; rw [← Hv.out] at h; exact h,by have h := HRB.out; rw [← Hu.out] at h; exact h⟩
    have HP4 := hid hP4
    have HPC := hid hpc
    rw [hpc]
    clear hpc hP4 HRA HRB Hv Hu
    have HIn := hid (pre_in M.skew now e q.pre)
    obtain ⟨pc,hpcE⟩ : ∃ c,preCode M.skew now e q.pre = c := ⟨_,rfl⟩
    have HCode := hid hpcE
    have HCP2 := hid (HCP.out e f)
    rw [hpcE] at HCP2
    by_cases h0 : pc = 0
    ·subst h0
     clear HIn
     cases hob : (bits .andNot .i64 q.opts 15 == 0) with
     | false =>
      have HFE : Hid (FR = (refusalBox now 13,M)) := by
       have hc := code_opts (f := f) HCode.out HQ.out.2.2.2.2.2.2 hob
       rw [← HFR.out,first_code HXY.out.1 HXY.out.2 HPC.out (by rw [hc]; decide),hc]
       exact rfl
      have hop := beq_eq_false_iff_ne.1 hob
      clear hpcE hob
      go_wp2_with (first | (go_at_call 96; refine (HCP2.out _ HX4.out HP4.out).mono ?_; rintro r w5 ⟨rfl,C5⟩; have HX5 := hid (HStep2.out e f _ _ HX4.out HP4.out (C5.mono (fun _ _ _ n => .inl n))).1; have HP5 := hid (HStep2.out e f _ _ HX4.out HP4.out (C5.mono (fun _ _ _ n => .inl n))).2; clear C5; obtain ⟨k0',k1',k2',k3',k4',k5',k6',k7',k8',k9'⟩ := ten_cells HX5.out.ask))
      go_meet
      exact ⟨_,rfl,⟨by decide,by decide⟩,HFE.out,HX5.out⟩
     | true =>
      have hop := beq_iff_eq.1 hob
      have HSt2 := hid (HStart.out e f)
      obtain ⟨sk,hskE⟩ : ∃ b,startOk now M.skew q e f = b := ⟨_,rfl⟩
      rw [hskE] at HSt2
      cases sk with
      | false =>
       have HFE : Hid (FR = (refusalBox now 10,M)) := by
        have hc := code_start HCode.out HQ.out.2.2.2.2.2.2 hob hskE
        rw [← HFR.out,first_code HXY.out.1 HXY.out.2 HPC.out (by rw [hc]; decide),hc]
        exact rfl
       clear hpcE hob hskE
       go_wp2_with (first | (go_at_call 96; refine (HCP2.out _ HX4.out HP4.out).mono ?_; rintro r w5 ⟨rfl,C5⟩; have HX5 := hid (HStep2.out e f _ _ HX4.out HP4.out (C5.mono (fun _ _ _ n => .inl n))).1; have HP5 := hid (HStep2.out e f _ _ HX4.out HP4.out (C5.mono (fun _ _ _ n => .inl n))).2; clear C5; obtain ⟨k0',k1',k2',k3',k4',k5',k6',k7',k8',k9'⟩ := ten_cells HX5.out.ask) | (go_at_call 97; refine (HSt2.out _ HX5.out HP5.out).mono ?_; rintro r w6 ⟨rfl,g6⟩; have HX6 := hid (HStep2.out e f _ _ HX5.out HP5.out (CF.of_gb g6 _)).1; have HP6 := hid (HStep2.out e f _ _ HX5.out HP5.out (CF.of_gb g6 _)).2; clear g6; obtain ⟨m0',m1',m2',m3',m4',m5',m6',m7',m8',m9'⟩ := ten_cells HX6.out.ask))
       go_meet
       exact ⟨_,rfl,⟨by decide,by decide⟩,HFE.out,HX6.out⟩
      | true =>
       have hce := code_end HCode.out HQ.out.2.2.2.2.2.2 hob hskE
       by_cases hle : firstEnd now q e f ≤ firstStart now q
       ·rw [if_pos hle] at hce
        have HFE : Hid (FR = (refusalBox now 11,M)) := by
         rw [← HFR.out,first_code HXY.out.1 HXY.out.2 HPC.out (by rw [hce]; decide),hce]
         exact rfl
        clear hpcE hob hskE hce
        go_wp2_with (first | (go_at_call 96; refine (HCP2.out _ HX4.out HP4.out).mono ?_; rintro r w5 ⟨rfl,C5⟩; have HX5 := hid (HStep2.out e f _ _ HX4.out HP4.out (C5.mono (fun _ _ _ n => .inl n))).1; have HP5 := hid (HStep2.out e f _ _ HX4.out HP4.out (C5.mono (fun _ _ _ n => .inl n))).2; clear C5; obtain ⟨k0',k1',k2',k3',k4',k5',k6',k7',k8',k9'⟩ := ten_cells HX5.out.ask) | (go_at_call 97; refine (HSt2.out _ HX5.out HP5.out).mono ?_; rintro r w6 ⟨rfl,g6⟩; have HX6 := hid (HStep2.out e f _ _ HX5.out HP5.out (CF.of_gb g6 _)).1; have HP6 := hid (HStep2.out e f _ _ HX5.out HP5.out (CF.of_gb g6 _)).2; clear g6; obtain ⟨m0',m1',m2',m3',m4',m5',m6',m7',m8',m9'⟩ := ten_cells HX6.out.ask) | (go_at_call 98; refine (HEnd.out e f _ he hf HP6.out).mono ?_; rintro r w7 ⟨rfl,m,hw7⟩; have g7 := hid (hw7 ▸ gb_drewN (World.grownBy.refl w6 none) m : w6.grownBy w7 none); clear hw7; have HX7 := hid (HStep2.out e f _ _ HX6.out HP6.out (CF.of_gb g7.out _)).1; have HP7 := hid (HStep2.out e f _ _ HX6.out HP6.out (CF.of_gb g7.out _)).2; clear g7; obtain ⟨l0',l1',l2',l3',l4',l5',l6',l7',l8',l9'⟩ := ten_cells HX7.out.ask))
        go_meet
        exact ⟨_,rfl,⟨by decide,by decide⟩,HFE.out,HX7.out⟩
       ·rw [if_neg hle] at hce
        have HFE := hid (first_ok HXY.out.1 HXY.out.2 HPC.out hce)
        rw [HFR.out] at HFE
        clear hpcE hob hskE hce
        go_wp2_with (first | (go_at_call 96; refine (HCP2.out _ HX4.out HP4.out).mono ?_; rintro r w5 ⟨rfl,C5⟩; have HX5 := hid (HStep2.out e f _ _ HX4.out HP4.out (C5.mono (fun _ _ _ n => .inl n))).1; have HP5 := hid (HStep2.out e f _ _ HX4.out HP4.out (C5.mono (fun _ _ _ n => .inl n))).2; clear C5; obtain ⟨k0',k1',k2',k3',k4',k5',k6',k7',k8',k9'⟩ := ten_cells HX5.out.ask) | (go_at_call 97; refine (HSt2.out _ HX5.out HP5.out).mono ?_; rintro r w6 ⟨rfl,g6⟩; have HX6 := hid (HStep2.out e f _ _ HX5.out HP5.out (CF.of_gb g6 _)).1; have HP6 := hid (HStep2.out e f _ _ HX5.out HP5.out (CF.of_gb g6 _)).2; clear g6; obtain ⟨m0',m1',m2',m3',m4',m5',m6',m7',m8',m9'⟩ := ten_cells HX6.out.ask) | (go_at_call 98; refine (HEnd.out e f _ he hf HP6.out).mono ?_; rintro r w7 ⟨rfl,m,hw7⟩; have g7 := hid (hw7 ▸ gb_drewN (World.grownBy.refl w6 none) m : w6.grownBy w7 none); clear hw7; have HX7 := hid (HStep2.out e f _ _ HX6.out HP6.out (CF.of_gb g7.out _)).1; have HP7 := hid (HStep2.out e f _ _ HX6.out HP6.out (CF.of_gb g7.out _)).2; clear g7; obtain ⟨l0',l1',l2',l3',l4',l5',l6',l7',l8',l9'⟩ := ten_cells HX7.out.ask))
        clear k0 k1 k2 k3 k4 k5 k6 k7 k8 k9 k0' k1' k2' k3' k4' k5' k6' k7' k8' k9' m0' m1' m2' m3' m4' m5' m6' m7' m8' m9' l3' l4' l5' l6' l7' l8' l9' HX4 HX5 HX6 HP4 HP5 HP6 HCP HCP2 HStart HSt2 HEnd
        have l4 := HX7.out.hear.c4
        go_cut [10] (fun p wx => ∃ rb,p = .pointer (some ⟨rb,0,none⟩) ∧ w.heap.size + 1 < rb ∧ Blk wx rb #[.int .i64 0,.int .u64 0,.string ⟨q.client.toArray⟩,.int .i64 now,.int .i64 (firstStart now q),.int .i64 (firstEnd now q e f),.int .i64 0,.string ⟨q.service.toArray⟩,.int .i64 f.number,.int .u64 (f.key.toNat : Int),.int .u64 0,.int .i64 q.nonce,.int .i64 e.number,.int .u64 (e.key.toNat : Int),.int .u64 0] ∧ FXJ J w wx hb g base T fv ro rr po pr dp exF M now w.heap.size (q.cells pn v) ∧ PairAt wx (w.heap.size + 1) e f)
        case first =>
         have hb7 : w.heap.size + 1 < w7.heap.size := cell_block (HP7.out.c 0 _ rfl)
         have na : w.heap.size ≠ w7.heap.size := by omega
         have nb : hb ≠ w7.heap.size := by have := HN.out.1; omega
         have na' : w7.heap.size ≠ w.heap.size := fun e => na e.symm
         have nb' : w7.heap.size ≠ hb := fun e => nb e.symm
         have HS4 : Hid (∀ W,w7.grownBy W none → W.cell? ⟨w.heap.size,0,none⟩ = some (.string ⟨q.client.toArray⟩) ∧ W.cell? ⟨w.heap.size,1,none⟩ = some (.string ⟨q.service.toArray⟩) ∧ W.cell? ⟨w.heap.size,2,none⟩ = some (.int .i64 q.nonce) ∧ W.cell? ⟨hb,4,none⟩ = some (.int .i64 now)) := fun W hW => ⟨hW.cell (HX7.out.ask 0 _ rfl) (by simp),hW.cell (HX7.out.ask 1 _ rfl) (by simp),hW.cell (HX7.out.ask 2 _ rfl) (by simp),hW.cell HX7.out.hear.c4 (by simp)⟩
         have hK8 : ∀ W,w7.grownBy W none → Calls Tryz.prog 99 #[.pointer (some ⟨w.heap.size + 1,8,none⟩)] W fun r w' => r = .returned (.agg #[.int .i64 f.number,.int .u64 (f.key.toNat : Int)]) ∧ W.grownBy w' none := fun W hW => newestKey_any (w.heap.size + 1) 8 f W (hW.cell (HP7.out.s 1 _ rfl) (by simp)) (hW.cell (HP7.out.s 2 _ rfl) (by simp))
         have hK0 : ∀ W,w7.grownBy W none → Calls Tryz.prog 99 #[.pointer (some ⟨w.heap.size + 1,0,none⟩)] W fun r w' => r = .returned (.agg #[.int .i64 e.number,.int .u64 (e.key.toNat : Int)]) ∧ W.grownBy w' none := fun W hW => newestKey_any (w.heap.size + 1) 0 e W (hW.cell (HP7.out.c 1 _ rfl) (by simp)) (hW.cell (HP7.out.c 2 _ rfl) (by simp))
         have HKa : Hid (Calls Tryz.prog 99 #[.pointer (some ⟨w.heap.size + 1,8,none⟩)] w7.drew fun r w' => r = .returned (.agg #[.int .i64 f.number,.int .u64 (f.key.toNat : Int)]) ∧ w7.grownBy w' none) := (hK8 _ (gb_drew (World.grownBy.refl _ _))).mono fun _ _ ⟨a,b⟩ => ⟨a,gb_undrew b⟩
         have HKb : Hid (Calls Tryz.prog 99 #[.pointer (some ⟨w.heap.size + 1,8,none⟩)] ((w7.alloc (.cells #[.int .i64 0,.int .u64 0,.string ⟨#[]⟩,.int .i64 0,.int .i64 0,.int .i64 0,.int .i64 0,.string ⟨#[]⟩,.int .i64 0,.int .u64 0,.int .u64 0,.int .i64 0,.int .i64 0,.int .u64 0,.int .u64 0] 224)).drew) fun r w' => r = .returned (.agg #[.int .i64 f.number,.int .u64 (f.key.toNat : Int)]) ∧ w7.grownBy w' none ∧ Blk w' w7.heap.size #[.int .i64 0,.int .u64 0,.string ⟨#[]⟩,.int .i64 0,.int .i64 0,.int .i64 0,.int .i64 0,.string ⟨#[]⟩,.int .i64 0,.int .u64 0,.int .u64 0,.int .i64 0,.int .i64 0,.int .u64 0,.int .u64 0]) := (hK8 _ (gb_drew (World.grownBy_alloc _ _ none))).mono fun _ _ ⟨a,b⟩ => ⟨a,gb_trans (gb_drew (World.grownBy_alloc _ _ none)) b,(Blk.new w7 _ _).drew.grown b (by simp)⟩
         have HKc : Hid (∀ W,w7.grownBy W none → Calls Tryz.prog 99 #[.pointer (some ⟨w.heap.size + 1,0,none⟩)] W fun r w' => r = .returned (.agg #[.int .i64 e.number,.int .u64 (e.key.toNat : Int)]) ∧ w7.grownBy w' none) := fun W hW => (hK0 W hW).mono fun _ _ ⟨a,b⟩ => ⟨a,gb_trans hW b⟩
         have HKd : Hid (∀ W,w7.grownBy W none → Calls Tryz.prog 99 #[.pointer (some ⟨w.heap.size + 1,0,none⟩)] (W.alloc (.cells #[.int .i64 0,.int .u64 0,.string ⟨#[]⟩,.int .i64 0,.int .i64 0,.int .i64 0,.int .i64 0,.string ⟨#[]⟩,.int .i64 0,.int .u64 0,.int .u64 0,.int .i64 0,.int .i64 0,.int .u64 0,.int .u64 0] 224)) fun r w' => r = .returned (.agg #[.int .i64 e.number,.int .u64 (e.key.toNat : Int)]) ∧ w7.grownBy w' none ∧ Blk w' W.heap.size #[.int .i64 0,.int .u64 0,.string ⟨#[]⟩,.int .i64 0,.int .i64 0,.int .i64 0,.int .i64 0,.string ⟨#[]⟩,.int .i64 0,.int .u64 0,.int .u64 0,.int .i64 0,.int .i64 0,.int .u64 0,.int .u64 0]) := fun W hW => (hK0 _ (gb_alloc hW _)).mono fun _ _ ⟨a,b⟩ => ⟨a,gb_trans (gb_alloc hW _) b,(Blk.new W _ _).grown b (by simp)⟩
         have HKe : Hid (∀ W,w7.grownBy W none → Blk W w7.heap.size #[.int .i64 0,.int .u64 0,.string ⟨#[]⟩,.int .i64 0,.int .i64 0,.int .i64 0,.int .i64 0,.string ⟨#[]⟩,.int .i64 0,.int .u64 0,.int .u64 0,.int .i64 0,.int .i64 0,.int .u64 0,.int .u64 0] → Calls Tryz.prog 99 #[.pointer (some ⟨w.heap.size + 1,0,none⟩)] W fun r w' => r = .returned (.agg #[.int .i64 e.number,.int .u64 (e.key.toNat : Int)]) ∧ w7.grownBy w' none ∧ Blk w' w7.heap.size #[.int .i64 0,.int .u64 0,.string ⟨#[]⟩,.int .i64 0,.int .i64 0,.int .i64 0,.int .i64 0,.string ⟨#[]⟩,.int .i64 0,.int .u64 0,.int .u64 0,.int .i64 0,.int .i64 0,.int .u64 0,.int .u64 0]) := fun W hW hB => (hK0 W hW).mono fun _ _ ⟨a,b⟩ => ⟨a,gb_trans hW b,hB.grown b (by simp)⟩
         clear hK8 hK0
         obtain ⟨x0,x1,x2,x4⟩ := HS4.out _ (World.grownBy_alloc w7 (.cells #[.int .i64 0,.int .u64 0,.string ⟨#[]⟩,.int .i64 0,.int .i64 0,.int .i64 0,.int .i64 0,.string ⟨#[]⟩,.int .i64 0,.int .u64 0,.int .u64 0,.int .i64 0,.int .i64 0,.int .u64 0,.int .u64 0] 224) none)
         go_region_held3 (fun w' => w'.cell? ⟨w.heap.size,0,none⟩ = some (.string ⟨q.client.toArray⟩) ∧ w'.cell? ⟨w.heap.size,1,none⟩ = some (.string ⟨q.service.toArray⟩) ∧ w'.cell? ⟨w.heap.size,2,none⟩ = some (.int .i64 q.nonce) ∧ w'.cell? ⟨hb,4,none⟩ = some (.int .i64 now)) (first | (with_reducible exact ⟨keep15 na z0,keep15 na z1,keep15 na z2,keep15 nb z4⟩) | (with_reducible exact ⟨keep15 hn8 z0,keep15 hn8 z1,keep15 hn8 z2,keep15 hn8b z4⟩) | go_keep) (first
          | (go_at_call 99; (with_reducible apply Calls.mono HKa.out); rintro r w8 ⟨rfl,g8⟩; have HG8 := hid g8; clear g8; obtain ⟨y0,y1,y2,y4⟩ := HS4.out w8 HG8.out; obtain ⟨yy0,yy1,yy2,yy4⟩ := HS4.out _ (gb_alloc HG8.out (.cells #[.int .i64 0,.int .u64 0,.string ⟨#[]⟩,.int .i64 0,.int .i64 0,.int .i64 0,.int .i64 0,.string ⟨#[]⟩,.int .i64 0,.int .u64 0,.int .u64 0,.int .i64 0,.int .i64 0,.int .u64 0,.int .u64 0] 224)); have hn8 : w.heap.size ≠ w8.heap.size := (by have := HG8.out.size; omega); have hn8b : hb ≠ w8.heap.size := (by have := HG8.out.size; have := HN.out.1; omega); have HKf := hid (HKc.out w8 HG8.out); have HKg := hid (HKd.out w8 HG8.out))
          | (go_at_call 99; (with_reducible apply Calls.mono HKb.out); rintro r w8 ⟨rfl,g8,bz⟩; have HBz := hid bz; clear bz; have HG8 := hid g8; clear g8; obtain ⟨y0,y1,y2,y4⟩ := HS4.out w8 HG8.out; obtain ⟨yy0,yy1,yy2,yy4⟩ := HS4.out _ (gb_alloc HG8.out (.cells #[.int .i64 0,.int .u64 0,.string ⟨#[]⟩,.int .i64 0,.int .i64 0,.int .i64 0,.int .i64 0,.string ⟨#[]⟩,.int .i64 0,.int .u64 0,.int .u64 0,.int .i64 0,.int .i64 0,.int .u64 0,.int .u64 0] 224)); have hn8 : w.heap.size ≠ w8.heap.size := (by have := HG8.out.size; omega); have hn8b : hb ≠ w8.heap.size := (by have := HG8.out.size; have := HN.out.1; omega); have HKh := hid (HKe.out w8 HG8.out HBz.out))
          | (go_at_call 99; (with_reducible apply Calls.mono HKf.out); rintro r w9 ⟨rfl,g9⟩; have HG9 := hid g9; clear g9; obtain ⟨z0,z1,z2,z4⟩ := HS4.out w9 HG9.out; obtain ⟨zz0,zz1,zz2,zz4⟩ := HS4.out _ (gb_alloc HG9.out (.cells #[.int .i64 0,.int .u64 0,.string ⟨#[]⟩,.int .i64 0,.int .i64 0,.int .i64 0,.int .i64 0,.string ⟨#[]⟩,.int .i64 0,.int .u64 0,.int .u64 0,.int .i64 0,.int .i64 0,.int .u64 0,.int .u64 0] 224)); obtain ⟨zr0,zr1,zr2,zr4⟩ := HS4.out _ (gb_alloc HG9.out (.cells #[.int .i64 0,.int .u64 0,.string ⟨q.client.toArray⟩,.int .i64 now,.int .i64 (firstStart now q),.int .i64 (firstEnd now q e f),.int .i64 0,.string ⟨q.service.toArray⟩,.int .i64 f.number,.int .u64 (f.key.toNat : Int),.int .u64 0,.int .i64 q.nonce,.int .i64 e.number,.int .u64 (e.key.toNat : Int),.int .u64 0] 224)))
          | (go_at_call 99; (with_reducible apply Calls.mono HKg.out); rintro r w9 ⟨rfl,g9,bz⟩; have HG9 := hid g9; have HBz9 := hid bz; clear g9 bz; have t0 := HBz9.out.cell 0; have tf0 := HBz9.out.frozen 0; have t1 := HBz9.out.cell 1; have tf1 := HBz9.out.frozen 1; have t2 := HBz9.out.cell 2; have tf2 := HBz9.out.frozen 2; have t3 := HBz9.out.cell 3; have tf3 := HBz9.out.frozen 3; have t4 := HBz9.out.cell 4; have tf4 := HBz9.out.frozen 4; have t5 := HBz9.out.cell 5; have tf5 := HBz9.out.frozen 5; have t6 := HBz9.out.cell 6; have tf6 := HBz9.out.frozen 6; have t7 := HBz9.out.cell 7; have tf7 := HBz9.out.frozen 7; have t8 := HBz9.out.cell 8; have tf8 := HBz9.out.frozen 8; have t9 := HBz9.out.cell 9; have tf9 := HBz9.out.frozen 9; have t10 := HBz9.out.cell 10; have tf10 := HBz9.out.frozen 10; have t11 := HBz9.out.cell 11; have tf11 := HBz9.out.frozen 11; have t12 := HBz9.out.cell 12; have tf12 := HBz9.out.frozen 12; have t13 := HBz9.out.cell 13; have tf13 := HBz9.out.frozen 13; have t14 := HBz9.out.cell 14; have tf14 := HBz9.out.frozen 14; obtain ⟨z0,z1,z2,z4⟩ := HS4.out w9 HG9.out; obtain ⟨zz0,zz1,zz2,zz4⟩ := HS4.out _ (gb_alloc HG9.out (.cells #[.int .i64 0,.int .u64 0,.string ⟨#[]⟩,.int .i64 0,.int .i64 0,.int .i64 0,.int .i64 0,.string ⟨#[]⟩,.int .i64 0,.int .u64 0,.int .u64 0,.int .i64 0,.int .i64 0,.int .u64 0,.int .u64 0] 224)); obtain ⟨zr0,zr1,zr2,zr4⟩ := HS4.out _ (gb_alloc HG9.out (.cells #[.int .i64 0,.int .u64 0,.string ⟨q.client.toArray⟩,.int .i64 now,.int .i64 (firstStart now q),.int .i64 (firstEnd now q e f),.int .i64 0,.string ⟨q.service.toArray⟩,.int .i64 f.number,.int .u64 (f.key.toNat : Int),.int .u64 0,.int .i64 q.nonce,.int .i64 e.number,.int .u64 (e.key.toNat : Int),.int .u64 0] 224)))
          | (go_at_call 99; (with_reducible apply Calls.mono HKh.out); rintro r w9 ⟨rfl,g9,bz⟩; have HG9 := hid g9; have HBz9 := hid bz; clear g9 bz; have t0 := HBz9.out.cell 0; have tf0 := HBz9.out.frozen 0; have t1 := HBz9.out.cell 1; have tf1 := HBz9.out.frozen 1; have t2 := HBz9.out.cell 2; have tf2 := HBz9.out.frozen 2; have t3 := HBz9.out.cell 3; have tf3 := HBz9.out.frozen 3; have t4 := HBz9.out.cell 4; have tf4 := HBz9.out.frozen 4; have t5 := HBz9.out.cell 5; have tf5 := HBz9.out.frozen 5; have t6 := HBz9.out.cell 6; have tf6 := HBz9.out.frozen 6; have t7 := HBz9.out.cell 7; have tf7 := HBz9.out.frozen 7; have t8 := HBz9.out.cell 8; have tf8 := HBz9.out.frozen 8; have t9 := HBz9.out.cell 9; have tf9 := HBz9.out.frozen 9; have t10 := HBz9.out.cell 10; have tf10 := HBz9.out.frozen 10; have t11 := HBz9.out.cell 11; have tf11 := HBz9.out.frozen 11; have t12 := HBz9.out.cell 12; have tf12 := HBz9.out.frozen 12; have t13 := HBz9.out.cell 13; have tf13 := HBz9.out.frozen 13; have t14 := HBz9.out.cell 14; have tf14 := HBz9.out.frozen 14; obtain ⟨z0,z1,z2,z4⟩ := HS4.out w9 HG9.out; obtain ⟨zz0,zz1,zz2,zz4⟩ := HS4.out _ (gb_alloc HG9.out (.cells #[.int .i64 0,.int .u64 0,.string ⟨#[]⟩,.int .i64 0,.int .i64 0,.int .i64 0,.int .i64 0,.string ⟨#[]⟩,.int .i64 0,.int .u64 0,.int .u64 0,.int .i64 0,.int .i64 0,.int .u64 0,.int .u64 0] 224)); obtain ⟨zr0,zr1,zr2,zr4⟩ := HS4.out _ (gb_alloc HG9.out (.cells #[.int .i64 0,.int .u64 0,.string ⟨q.client.toArray⟩,.int .i64 now,.int .i64 (firstStart now q),.int .i64 (firstEnd now q e f),.int .i64 0,.string ⟨q.service.toArray⟩,.int .i64 f.number,.int .u64 (f.key.toNat : Int),.int .u64 0,.int .i64 q.nonce,.int .i64 e.number,.int .u64 (e.key.toNat : Int),.int .u64 0] 224))))
         all_goals go_wp2
         all_goals go_meet
         all_goals have HX9 := HStep2.out e f _ _ HX7.out HP7.out (CF.of_gb HG9.out _)
         ·exact ⟨_,rfl,(by have := HG9.out.size; omega),Blk.new _ _ _,HStep2.out e f _ _ HX9.1 HX9.2 (CF.of_gb (World.grownBy_alloc _ _ none) _)⟩
         ·exact ⟨w8.heap.size,rfl,(by have := HG8.out.size; omega),blk15 HBz9.out _ _ _ _ _ _ _ _ _ _ _ _ _ _ _,HStep2.out e f _ _ HX9.1 HX9.2 (cf15 w9 w8.heap.size _ _ _ _ _ _ _ _ _ _ _ _ _ _ _ _ (fun _ => .inr (by have := HG8.out.size; omega)))⟩
         ·exact ⟨w7.heap.size,rfl,hb7,blk15 HBz9.out _ _ _ _ _ _ _ _ _ _ _ _ _ _ _,HStep2.out e f _ _ HX9.1 HX9.2 (cf15 w9 w7.heap.size _ _ _ _ _ _ _ _ _ _ _ _ _ _ _ _ (fun _ => .inr (by omega)))⟩
        case rest =>
         obtain ⟨rb,rfl,hrb,hB,hX,hP⟩ := hcut
         have HX8 := hid hX
         have HP8 := hid hP
         have HB8 := hid hB
         clear hX hP hB l0' l1' l2' l4 HX7 HP7
         obtain ⟨k0,k1,k2,k3,k4,k5,k6,k7,k8,k9⟩ := ten_cells HX8.out.ask
         have HFl := hid (firstFlags_any (w.heap.size + 1) pn v q e f wc HP8.out)
         have HR4 : Hid (renM now q e f = if bitB (flagsM q e f) 4 = true then lesser (asked q.rtime) (lesser (satAdd (firstStart now q) e.renew) (satAdd (firstStart now q) f.renew)) else 0) := rfl
         have HA4 := hid (and_one0 (flagsM q e f) 4 2 (by decide) (by decide))
         have HTK := hid (firstTK_is now q e f)
         have HFI := hid (flags_in q e f)
         have HRe2 := hid (HRen.out e f)
         have HRI := hid (renM_in now q e f HQ.out.2.2.2.2.2.1)
         generalize flagsM q e f = fl at *
         generalize renM now q e f = rn at *
         go_upto_if 78 with (first
          | (go_at_call 100; refine HFl.out.mono ?_; clear HFl; rintro r w9 ⟨rfl,g9⟩; have HB9 := hid (HB8.out.grown g9 (by simp)); have HX9 := hid (HStep2.out e f _ _ HX8.out HP8.out (CF.of_gb g9 _)).1; have HP9 := hid (HStep2.out e f _ _ HX8.out HP8.out (CF.of_gb g9 _)).2; clear g9; have b0 := HB9.out.cell 0; have bf0 := HB9.out.frozen 0))
         have nr : rb ≠ w.heap.size := by omega
         have nr' : w.heap.size ≠ rb := by omega
         go_cut [5] (fun c wx => c = .int .i64 11 ∧ Blk wx rb #[.int .i64 fl,.int .u64 0,.string ⟨q.client.toArray⟩,.int .i64 now,.int .i64 (firstStart now q),.int .i64 (firstEnd now q e f),.int .i64 rn,.string ⟨q.service.toArray⟩,.int .i64 f.number,.int .u64 (f.key.toNat : Int),.int .u64 0,.int .i64 q.nonce,.int .i64 e.number,.int .u64 (e.key.toNat : Int),.int .u64 0] ∧ FXJ J w wx hb g base T fv ro rr po pr dp exF M now w.heap.size (q.cells pn v) ∧ PairAt wx (w.heap.size + 1) e f)
         case first =>
          have hS := HStep2.out e f _ (w9.setCell ⟨rb,0,none⟩ (.int .i64 fl)) HX9.out HP9.out ((CF.refl _ _).setCell _ _ _ (fun _ => .inr hrb))
          have HX10 := hid hS.1
          have HP10 := hid hS.2
          have HB10 : Hid (Blk (w9.setCell ⟨rb,0,none⟩ (.int .i64 fl)) rb #[.int .i64 fl,.int .u64 0,.string ⟨q.client.toArray⟩,.int .i64 now,.int .i64 (firstStart now q),.int .i64 (firstEnd now q e f),.int .i64 0,.string ⟨q.service.toArray⟩,.int .i64 f.number,.int .u64 (f.key.toNat : Int),.int .u64 0,.int .i64 q.nonce,.int .i64 e.number,.int .u64 (e.key.toNat : Int),.int .u64 0]) := HB9.out.set 0 (.int .i64 fl)
          have hq := HA4.out
          have u5 := HX9.out.ask 5 _ rfl
          clear hS
          generalize bitB fl 4 = o4 at *
          cases o4 with
          | true =>
           rw [Bool.not_true] at hq
           have hp := beq_eq_false_iff_ne.1 hq
           clear hq
           have HRe3 := hid (HRe2.out _ he hf HP10.out)
           go_wp2_with (first
            | (go_at_call 101; refine HRe3.out.mono ?_; clear HRe3; rintro r w11 ⟨rfl,m,hw11⟩; have HB11 : Hid (Blk w11 rb #[.int .i64 fl,.int .u64 0,.string ⟨q.client.toArray⟩,.int .i64 now,.int .i64 (firstStart now q),.int .i64 (firstEnd now q e f),.int .i64 0,.string ⟨q.service.toArray⟩,.int .i64 f.number,.int .u64 (f.key.toNat : Int),.int .u64 0,.int .i64 q.nonce,.int .i64 e.number,.int .u64 (e.key.toNat : Int),.int .u64 0]) := (by rw [hw11]; exact HB10.out.drewN m); have HG11 : Hid ((w9.setCell ⟨rb,0,none⟩ (.int .i64 fl)).grownBy w11 none) := (by rw [hw11]; exact gb_drewN (World.grownBy.refl _ _) m); clear hw11; have b6 := HB11.out.cell 6; have bf6 := HB11.out.frozen 6))
           go_meet
           have hS := HStep2.out e f _ _ HX10.out HP10.out (CF.of_gb HG11.out _)
           exact ⟨rfl,by rw [HR4.out]; exact HB11.out.set 6 _,HStep2.out e f _ _ hS.1 hS.2 ((CF.refl _ _).setCell _ _ _ (fun _ => .inr hrb))⟩
          | false =>
           rw [Bool.not_false] at hq
           have hp := beq_iff_eq.1 hq
           clear hq
           go_wp2_with fail
           go_meet
           exact ⟨rfl,by rw [HR4.out]; exact HB10.out,HX10.out,HP10.out⟩
         case rest =>
          obtain ⟨rfl,hB,hX,hP⟩ := hcut
          have HX10 := hid hX
          have HB10 := hid hB
          clear hX hP hB HX8 HP8 HB8 HX9 HP9 HB9 k0 k1 k2 k3 k4 k5 k6 k7 k8 k9 b0 bf0 HRen HRe2 HR4 HA4
          obtain ⟨rp,hrp⟩ : ∃ r : RP,r = ⟨⟨fl,0,q.client,now,firstStart now q,firstEnd now q e f,rn⟩,q.service,f.number,f.key,0,q.nonce,e.number,e.key,0⟩ := ⟨_,rfl⟩
          have hRp : RpAt wc rb rp := by rw [hrp]; exact HB10.out.range
          have hLr : Live wc rb 15 := blk_live HB10.out 15 (Nat.le_refl 15)
          by_cases h24 : M.draws.length < 24
          ·obtain ⟨ao,cap,hc⟩ := desk_few HX10.out.desk
           have HD := hid (draw_no hb g rb M.draws.length cap ao rp wc HX10.out.hear.c3 h24 hc hRp hLr)
           rw [if_pos h24] at HFE
           clear hc hRp hLr hrp h24
           go_wp2_with (first
            | (go_at_call 102; refine HD.out.mono ?_; clear HD; rintro r w11 ⟨rfl,C11⟩; have HC11 := hid C11; clear C11))
           go_meet
           exact ⟨_,rfl,⟨by decide,by decide⟩,HFE.out,HStep.out _ _ HX10.out (HC11.out.mono (fun _ _ _ e => .inr (by omega)))⟩
          ·obtain ⟨qd,hqd,hc,hcl,hcm,hcr,hcL⟩ := desk_many HX10.out.desk (by omega)
           have hdp := HS'.out.dpF qd hqd
           have hgw := HN.out.2
           have HD := hid (draw_yes hb g rb qd M.draws M.draws.length rp wc HX10.out.hear.c3 (hid rfl) (by omega) hcl hcm hc (by have := HX10.out.desk.live; rwa [Nat.zero_add] at this) hcr hdp.1 (hcL.lt) hRp hLr (by omega) (by have := HN.out.1; omega) HS'.out.hbg)
           have HDk := hid (fun W' off => desk_after (W' := W') (rb := rb) (off := off) HX10.out.desk (by omega) hcl hcm hcr hcL)
           rw [if_neg h24] at HFE
           obtain ⟨ao,cap,hv,hsl⟩ := cut_zero HX10.out.r
           subst hv
           have c2 := HX10.out.hear.c2
           have Hrp := hid hrp
           have Hqd := hid hqd
           have Hdp := hid hdp
           have HHr : Hid (hb ≠ rb) := by have := HN.out.1; exact hid (by omega)
           have HLc := hid hLr.lt
           have HOr : Hid (Off pr rb) := fun p hp e => by have := HPrg.out p hp; omega
           have HApp : Hid (∀ W,RpAt W rb (rp.drawn (drawAt M.draws 0) (drawAt M.draws 1) (drawAt M.draws 2)) → Out W (.slice ao 0 cap) pr [] → rb < W.heap.size → Calls Tryz.prog 103 #[.pointer (some ⟨rb,0,none⟩),.slice ao 0 cap] W fun e w' => ∃ v',e = .returned v' ∧ OutMore W w' v' pr ([] ++ (rp.drawn (drawAt M.draws 0) (drawAt M.draws 1) (drawAt M.draws 2)).reply 11 3)) :=
            fun W h1 h2 h3 => appendToFirst_out (.slice ao 0 cap) pr [] rb _ W h2 h1 h3 HOr.out (fits_first Hrp.out HFI.out HRI.out HQ.out HXY.out HS'.out.bookOk) (by simp)
           clear hc hcl hcm hcr hcL hdp hgw hRp hLr hrp hqd h24
           go_wp2_with (first
            | (go_at_call 102; refine HD.out.mono ?_; clear HD; rintro r w11 ⟨rfl,hR11,ho11,C11⟩; have HR11 := hid hR11; have HO11 := hid ho11; have HC11 := hid C11; clear hR11 ho11 C11; have c2' := HC11.out.cell c2 (fun e => by rcases e with ⟨e,_⟩ | e; exact HS'.out.hbg e; exact HHr.out e); have HLt := hid (Nat.lt_of_lt_of_le HLc.out HC11.out.size))
            | (go_at_call 103; refine (HApp.out _ HR11.out (HX10.out.r.cf HC11.out (fun _ _ j hj => absurd hj (by simp))) HLt.out).mono ?_; rintro r w12 ⟨v',rfl,M12⟩; have HM12 := hid M12; clear M12))
           first | go_ret | (rw [Exit.noGoto_ret]; go_ret)
           refine ⟨_,rfl,?_⟩
           rw [HFE.out]
           obtain ⟨off,k1,k2,k3⟩ := HO11.out
           have hM := HM12.out
           rw [reply_first Hrp.out HTK.out (find_name HXY.out.2)] at hM
           exact fin_give HX10.out HC11.out (by omega) HBase.out hM HS'.out (HDk.out w11 off k1 k2 k3 HC11.out Hdp.out.1 (by have := Hdp.out.2.2.1; omega) (by have := HN.out.2; omega)) Hqd.out rfl
    ·have HFE : Hid (FR = (refusalBox now pc,M)) := by
      rw [← HFR.out,first_code HXY.out.1 HXY.out.2 HPC.out (by rw [code_pre (by rw [hpcE]; exact h0),hpcE]; exact h0),code_pre (by rw [hpcE]; exact h0),hpcE]
      exact rfl
     clear hpcE
     go_wp2_with (first | (go_at_call 96; refine (HCP2.out _ HX4.out HP4.out).mono ?_; rintro r w5 ⟨rfl,C5⟩; have HX5 := hid (HStep2.out e f _ _ HX4.out HP4.out (C5.mono (fun _ _ _ n => .inl n))).1; have HP5 := hid (HStep2.out e f _ _ HX4.out HP4.out (C5.mono (fun _ _ _ n => .inl n))).2; clear C5; obtain ⟨k0',k1',k2',k3',k4',k5',k6',k7',k8',k9'⟩ := ten_cells HX5.out.ask))
     go_meet
     exact ⟨_,rfl,by have := HIn.out; rw [HCode.out] at this; exact this,HFE.out,HX5.out⟩
   ·have HIn := hid (pair_in x y now 6 7 1 2 (by decide) (by decide) (by decide) (by decide))
    have HFE : Hid (FR = (refusalBox now (pairCode x y now 6 7 1 2),M)) := by rw [← HFR.out]; exact first_pair HXY.out.1 HXY.out.2 hpc
    generalize pairCode x y now 6 7 1 2 = pcd at *
    go_wp2_with fail
    go_meet
    exact ⟨_,rfl,HIn.out,HFE.out,HX4.out⟩
 case rest =>
  obtain ⟨code,rfl,hcd,hFE,hX⟩ := hcut
  have HRef := hid (refuse_any hb g T fv ro rr pr now code _ hX.hear hX.r HS'.out.prH HQ.out.1 hcd)
  have HX9 := hid hX
  have HFE := hid hFE
  clear hX hFE hcd
  go_wp2_with (first | (go_at_call 71; refine HRef.out.mono ?_; rintro e w9 ⟨v',rfl,M9⟩; have HM9 := hid M9; clear M9))
  rw [Exit.noGoto_ret]
  go_ret
  refine ⟨_,rfl,?_⟩
  rw [HFE.out]
  exact fin_refuse HX9.out HM9.out HS'.out
end Go.Proofs.YtpijkgbafjccaaaGreatDoor
