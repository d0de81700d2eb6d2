/-
  
  
  
-/
import Derived.Test.YtpijkgbafjccaaaGreatDoorGTQPool
namespace Go.Proofs.YtpijkgbafjccaaaGreatDoor
open Go.RowKit
set_option maxRecDepth 100000
theorem meth_admin (g : Nat) : ∀ W,(method 431 119 (.pointer (some ⟨g,0,none⟩)) "Admin").run Tryz.prog W = .ok (215,.pointer (some ⟨g,0,none⟩)) W := fun _ => by kernel_rfl
theorem meth_answer (g : Nat) : ∀ W,(method 431 119 (.pointer (some ⟨g,0,none⟩)) "Answer").run Tryz.prog W = .ok (216,.pointer (some ⟨g,0,none⟩)) W := fun _ => by kernel_rfl
abbrev jobCells (a : Adm) (now : Int) (v : Value) : Array Value := #[.int .i64 a.kind,.string ⟨a.name.toArray⟩,.int .u64 (a.key.toNat : Int),.int .i64 a.life,.int .i64 a.renew,.int .i64 a.expire,.int .i64 a.flags,.int .i64 now,v]
theorem Tryz.sizeDone : (Tryz.prog.info? 67).map (·.size) = some 2 := by kernel_rfl
theorem twoSet (w : World) (b : Nat) (v0 v1 : Value) {d0 d1 : Value} (q0 : w.cell? ⟨b,0,none⟩ = some d0) (q1 : w.cell? ⟨b,1,none⟩ = some d1) : ((w.setCell ⟨b,0,none⟩ v0).setCell ⟨b,1,none⟩ v1).rangeAt b 0 [v0,v1] := by
 intro j v hv
 match j,hv with
 | 0,hv =>
  injection hv with hv
  subst hv
  rw [World.cell?_setCell_other _ _ _ _ (fun e => by injection e with _ e; omega)]
  exact World.cell?_setCell_same _ _ _ q0
 | 1,hv =>
  injection hv with hv
  subst hv
  exact World.cell?_setCell_same _ _ _ (by rw [World.cell?_setCell_other _ _ _ _ (fun e => by injection e with _ e; omega)]; exact q1)
 | j + 2,hv => simp at hv
theorem QFin.shape {w w' : World} {g : Nat} {dp : Option Pl} {v' : Value} {R : List UInt8 × DM} (h : QFin w w' g dp v' R) : ∃ a c,v' = .slice a R.1.length c := by
 obtain ⟨p',ho,_⟩ := h.out
 obtain ⟨a,c,hv,_⟩ := ho.shape
 exact ⟨a,c,hv⟩
theorem QFin.after {w W w1 w2 : World} {g : Nat} {dp : Option Pl} {v' : Value} {R : List UInt8 × DM} (h : QFin W w1 g dp v' R) (G : w.grownBy W none) (b0 : Nat) (hb0 : w.heap.size ≤ b0) (hb1 : b0 < W.heap.size) (hg : g < w.heap.size) (hd : ∀ q,dp = some q → q.g < w.heap.size) (k : CF w1 w2 (fun b _ => b = b0)) : QFin w w2 g dp v' R := by
 obtain ⟨p',ho,hf⟩ := h.out
 obtain ⟨dp',hq,hs⟩ := h.desk
 refine ⟨⟨p',ho.cf k (fun q hq j _ e => by have := hf q hq; omega),fun q hq => Nat.le_trans G.size (hf q hq)⟩,⟨dp',hq.cf k (fun _ e => by omega) (fun q hq _ e => ?_),hs⟩,(CF.before G h.cf).trans k (fun _ _ hlt e => by omega)⟩
 obtain ⟨q0,h0,h1⟩ := hs q hq
 have := hd q0 h0
 omega
set_option maxHeartbeats 2000000 in
theorem do_admin (g : Nat) (dp : Option Pl) (M : DM) (n : Nat) (a : Adm) (now : Int) (v : Value) (w : World) (hq : QuickAt w g dp M) (hdx : ∀ q,dp = some q → q.g ≠ g) (hok : BookOk n M.book) (hn : n ≤ 4611686018427387904) (hf0 : -9223372036854775808 ≤ a.flags) (hf1 : a.flags ≤ 9223372036854775807) (hl : a.name.length ≤ 9223372036854775807) (hk : (a.kind == 0) = false) :
  Calls Tryz.prog 49 #[.iface 119 (.pointer (some ⟨g,0,none⟩)),.agg (jobCells a now v)] w fun e w' => e = .returned (.agg #[.slice none 0 0,.int .i64 (admB M.book a).2]) ∧ QuickAt w' g dp { M with book := (admB M.book a).1 } ∧ CF w w' (fun b _ => b = g) := by
 obtain ⟨W0,hW0⟩ : ∃ W,W = (w.alloc (.cells (jobCells a now v) 64)).alloc (.cells #[.slice none 0 0,.int .i64 0] 67) := ⟨_,rfl⟩
 have G0 : w.grownBy W0 none := by rw [hW0]; exact gb_alloc (World.grownBy_alloc w _ none) _
 have RJ : W0.rangeAt w.heap.size 0 (jobCells a now v).toList := by rw [hW0]; exact range_gb (cells_range w (jobCells a now v) _) (World.grownBy_alloc _ _ none)
 have LD : Live W0 (w.heap.size + 1) 2 := by
  have h := Live.new (w.alloc (.cells (jobCells a now v) 64)) #[.slice none 0 0,.int .i64 0] 67
  rw [World.size_alloc] at h
  rw [hW0]
  exact h
 have k0 : W0.cell? ⟨w.heap.size,0,none⟩ = some (.int .i64 a.kind) := RJ 0 _ rfl
 have k1 : W0.cell? ⟨w.heap.size,1,none⟩ = some (.string ⟨a.name.toArray⟩) := RJ 1 _ rfl
 have k2 : W0.cell? ⟨w.heap.size,2,none⟩ = some (.int .u64 (a.key.toNat : Int)) := RJ 2 _ rfl
 have k3 : W0.cell? ⟨w.heap.size,3,none⟩ = some (.int .i64 a.life) := RJ 3 _ rfl
 have k4 : W0.cell? ⟨w.heap.size,4,none⟩ = some (.int .i64 a.renew) := RJ 4 _ rfl
 have k5 : W0.cell? ⟨w.heap.size,5,none⟩ = some (.int .i64 a.expire) := RJ 5 _ rfl
 have k6 : W0.cell? ⟨w.heap.size,6,none⟩ = some (.int .i64 a.flags) := RJ 6 _ rfl
 have HC := hid (quickAdmin_any g dp M n a W0 (hq.grown G0) hdx hok hn hf0 hf1 hl)
 have HM := hid (meth_admin g)
 have hm := meth_admin g
 have hgl : g < w.heap.size := hq.desk.live.lt
 have HL := hid LD
 have HG := hid G0
 have HW0 := hid hW0
 have HDl : Hid (∀ q,dp = some q → q.g < w.heap.size) := fun q h => hq.desk.ltg h
 obtain ⟨r,hr⟩ : ∃ r,(admB M.book a).2 = r := ⟨_,rfl⟩
 obtain ⟨M',hM'⟩ : ∃ M',({ M with book := (admB M.book a).1 } : DM) = M' := ⟨_,rfl⟩
 rw [hr,hM'] at HC
 rw [hr,hM']
 have Hgl := hid hgl
 clear hq hdx hok hn hf0 hf1 hl RJ LD G0 hW0 hr hM' hgl HM
 go_enter Tryz.func49,Tryz.ntmps49
 go_wp2_with (first | (rw [← HW0.out]; fail_if_success done) | (go_at_call 215; refine HC.out.mono ?_; clear HC; rintro e w1 ⟨rfl,q1,C1⟩; have HQ1 := hid q1; have HC1 := hid C1; have hL := HL.out.cf C1; obtain ⟨d0,e0⟩ := Option.isSome_iff_exists.1 (hL.some 0 (by decide)); obtain ⟨d1,e1⟩ := Option.isSome_iff_exists.1 (hL.some 1 (by decide)); have f0 := hL.frozen 0; have f1 := hL.frozen 1; clear q1 C1 hL))
 refine bodyPost_ret (results_onecell Tryz.results49 _ _ _ (w.heap.size + 1) rfl _ (load_of (twoSet w1 (w.heap.size + 1) _ _ e0 e1) 67 _ Tryz.underlying67 rfl Tryz.sizeDone)) rfl ⟨rfl,?_,?_⟩
 ·refine HQ1.out.cf (ex := fun b _ => b = w.heap.size + 1) ?_ (fun _ e => by have := Hgl.out; omega) (fun q hq _ e => ?_)
  ·repeat refine CF.setCell ?_ _ _ _ (fun _ => rfl)
   exact CF.refl _ _
  ·have h1 := HDl.out q hq; omega
 ·refine (CF.before HG.out HC1.out).trans (ex2 := fun b _ => b = w.heap.size + 1) ?_ (fun _ _ hlt e => by omega)
  repeat refine CF.setCell ?_ _ _ _ (fun _ => rfl)
  exact CF.refl _ _
set_option maxHeartbeats 2000000 in
theorem do_answer (g : Nat) (dp : Option Pl) (M : DM) (a : Adm) (now : Int) (req : List UInt8) (n : Nat) (ao : Option Addr) (cap : Nat) (w : World) (hq : QuickAt w g dp M) (hdx : ∀ q,dp = some q → q.g ≠ g) (hin : ∀ e ∈ M.book,e.In) (hso : M.book.Pairwise (fun x y => Op.bytesLess x.name y.name = true)) (hn : Hid (req.length = n)) (hs : At w ao req) (hao : ∀ b off,ao = some ⟨b,off,none⟩ → b ≠ g) (hb : Bs (ao,req) (.slice ao n cap) req) (hnow : In64 now) (hsk : In64 M.skew) (htm : ∀ y ∈ M.proofs,In64 y.time) (hlen : (answerM M now req).1.length ≤ 900) (hk : (a.kind == 0) = true) :
  Calls Tryz.prog 49 #[.iface 119 (.pointer (some ⟨g,0,none⟩)),.agg (jobCells a now (.slice ao n cap))] w fun e w' => ∃ v',e = .returned (.agg #[v',.int .i64 0]) ∧ QFin w w' g dp v' (answerM M now req) := by
 obtain ⟨W0,hW0⟩ : ∃ W,W = (w.alloc (.cells (jobCells a now (.slice ao n cap)) 64)).alloc (.cells #[.slice none 0 0,.int .i64 0] 67) := ⟨_,rfl⟩
 have G0 : w.grownBy W0 none := by rw [hW0]; exact gb_alloc (World.grownBy_alloc w _ none) _
 have RJ : W0.rangeAt w.heap.size 0 (jobCells a now (.slice ao n cap)).toList := by rw [hW0]; exact range_gb (cells_range w (jobCells a now (.slice ao n cap)) _) (World.grownBy_alloc _ _ none)
 have LD : Live W0 (w.heap.size + 1) 2 := by
  have h := Live.new (w.alloc (.cells (jobCells a now (.slice ao n cap)) 64)) #[.slice none 0 0,.int .i64 0] 67
  rw [World.size_alloc] at h
  rw [hW0]
  exact h
 have k0 : W0.cell? ⟨w.heap.size,0,none⟩ = some (.int .i64 a.kind) := RJ 0 _ rfl
 have k7 : W0.cell? ⟨w.heap.size,7,none⟩ = some (.int .i64 now) := RJ 7 _ rfl
 have k8 : W0.cell? ⟨w.heap.size,8,none⟩ = some (.slice ao n cap) := RJ 8 _ rfl
 have HC := hid (quickAnswer_any g dp M now req n ao cap W0 (hq.grown G0) hdx hin hso hn (hs.below G0) hao hb hnow hsk htm hlen)
 have HM := hid (meth_answer g)
 have hm := meth_answer g
 have hgl : g < w.heap.size := hq.desk.live.lt
 have HL := hid LD
 have HG := hid G0
 have HW0 := hid hW0
 have HDl : Hid (∀ q,dp = some q → q.g < w.heap.size) := fun q h => hq.desk.ltg h
 obtain ⟨R,hR⟩ : ∃ R,answerM M now req = R := ⟨_,rfl⟩
 rw [hR] at HC ⊢
 have Hgl := hid hgl
 clear hq hdx hin hso hn hs hao hb hnow hsk htm hlen RJ LD G0 hW0 hR hgl HM
 go_enter Tryz.func49,Tryz.ntmps49
 go_wp2_with (first | (rw [← HW0.out]; fail_if_success done) | (go_at_call 216; refine HC.out.mono ?_; clear HC; rintro e w1 ⟨v1,rfl,F1⟩; obtain ⟨a1,c1,hv1⟩ := F1.shape; subst hv1; have HF1 := hid F1; have hL := HL.out.cf F1.cf; obtain ⟨d0,e0⟩ := Option.isSome_iff_exists.1 (hL.some 0 (by decide)); obtain ⟨d1,e1⟩ := Option.isSome_iff_exists.1 (hL.some 1 (by decide)); have f0 := hL.frozen 0; have f1 := hL.frozen 1; clear F1 hL))
 refine bodyPost_ret (results_onecell Tryz.results49 _ _ _ (w.heap.size + 1) rfl _ (load_of (twoSet w1 (w.heap.size + 1) _ _ e0 e1) 67 _ Tryz.underlying67 rfl Tryz.sizeDone)) rfl ⟨_,rfl,?_⟩
 refine HF1.out.after HG.out (w.heap.size + 1) (Nat.le_succ _) (by have h1 := HL.out.lt; have h2 := HF1.out.cf.size; omega) Hgl.out HDl.out ?_
 repeat refine CF.setCell ?_ _ _ _ (fun _ => rfl)
 exact CF.refl _ _
end Go.Proofs.YtpijkgbafjccaaaGreatDoor
namespace Go.Proofs.YtpijkgbafjccaaaGreatDoor
open Go.RowKit
set_option maxRecDepth 100000
theorem make_done (w : World) : (Instr.makeSlice 60 (.int .i64 1) (.int .i64 1)).run Tryz.prog w = .ok (.slice (some ⟨w.heap.size,0,none⟩) 1 1) (w.alloc (.cells #[.slice none 0 0,.int .i64 0] 67)) := by kernel_rfl
def OneDone (w : World) (Post : World → World → Value → Int → Prop) (e : Ending) (w' : World) : Prop :=
 ∃ (ob : Nat) (x : Value) (r : Int) (W w1 : World),e = .returned (.tuple #[.slice (some ⟨ob,0,none⟩) 1 1,.int .i64 0]) ∧ w.grownBy W none ∧ w.heap.size ≤ ob ∧ ob < W.heap.size ∧ Post W w1 x r ∧ W.heap.size ≤ w1.heap.size ∧ CF w1 w' (fun b _ => b = ob) ∧ w'.rangeAt ob 0 [x,.int .i64 r]
set_option maxHeartbeats 2000000 in
theorem qbatch_one (g jb : Nat) (cap : Nat) (a : Adm) (now : Int) (v : Value) (w : World) (Post : World → World → Value → Int → Prop) (hv : ∃ ao n c,v = .slice ao n c)
  (hj : w.rangeAt jb 0 (jobCells a now v).toList)
  (C : ∀ W,w.grownBy W none → Calls Tryz.prog 49 #[.iface 119 (.pointer (some ⟨g,0,none⟩)),.agg (jobCells a now v)] W fun e w' => ∃ va vn vc r,e = .returned (.agg #[.slice va vn vc,.int .i64 r]) ∧ Post W w' (.slice va vn vc) r ∧ CF W w' (fun b _ => b = g)) (hg : g < w.heap.size) :
  Calls Tryz.prog 35 #[.iface 119 (.pointer (some ⟨g,0,none⟩)),.slice (some ⟨jb,0,none⟩) 1 cap] w fun e w' => OneDone w Post e w' := by
 obtain ⟨ao,n,c,rfl⟩ := hv
 have k0 : w.cell? ⟨jb,0,none⟩ = some (.int .i64 a.kind) := hj 0 _ rfl
 have k1 : w.cell? ⟨jb,1,none⟩ = some (.string ⟨a.name.toArray⟩) := hj 1 _ rfl
 have k2 : w.cell? ⟨jb,2,none⟩ = some (.int .u64 (a.key.toNat : Int)) := hj 2 _ rfl
 have k3 : w.cell? ⟨jb,3,none⟩ = some (.int .i64 a.life) := hj 3 _ rfl
 have k4 : w.cell? ⟨jb,4,none⟩ = some (.int .i64 a.renew) := hj 4 _ rfl
 have k5 : w.cell? ⟨jb,5,none⟩ = some (.int .i64 a.expire) := hj 5 _ rfl
 have k6 : w.cell? ⟨jb,6,none⟩ = some (.int .i64 a.flags) := hj 6 _ rfl
 have k7 : w.cell? ⟨jb,7,none⟩ = some (.int .i64 now) := hj 7 _ rfl
 have k8 : w.cell? ⟨jb,8,none⟩ = some (.slice ao n c) := hj 8 _ rfl
 have hmk := make_done
 have HC := hid C
 clear C hj
 go_enter Tryz.func35,Tryz.ntmps35
 obtain ⟨W1,hW1⟩ : ∃ W,W = w.alloc (.cells #[.slice none 0 0,.int .i64 0] 67) := ⟨_,rfl⟩
 have G1 : w.grownBy W1 none := by rw [hW1]; exact World.grownBy_alloc w _ none
 have HL1 : Hid (Live W1 w.heap.size 2) := by show Live _ _ _; rw [hW1]; exact Live.new w _ _
 have s1 : W1.heap.size = w.heap.size + 1 := by rw [hW1]; exact World.size_alloc _ _
 have m0 := G1.cell k0 (by simp)
 have m1 := G1.cell k1 (by simp)
 have m2 := G1.cell k2 (by simp)
 have m3 := G1.cell k3 (by simp)
 have m4 := G1.cell k4 (by simp)
 have m5 := G1.cell k5 (by simp)
 have m6 := G1.cell k6 (by simp)
 have m7 := G1.cell k7 (by simp)
 have m8 := G1.cell k8 (by simp)
 have HG1 := hid G1
 have HW1 := hid hW1
 have HS1 := hid s1
 have Hg := hid hg
 clear k0 k1 k2 k3 k4 k5 k6 k7 k8 G1 hW1 s1 hg
 go_wp2_with (first | (rw [← HW1.out]; fail_if_success done) | fail)
 go_loopw [7,8,17] (fun _ _ i wr => (i = .int .i64 0 ∧ W1 = wr) ∨ (i = .int .i64 1 ∧ ∃ (x : Value) (r : Int) (W w1 : World),w.grownBy W none ∧ w.heap.size < W.heap.size ∧ Post W w1 x r ∧ W.heap.size ≤ w1.heap.size ∧ CF w1 wr (fun b _ => b = w.heap.size) ∧ wr.rangeAt w.heap.size 0 [x,.int .i64 r])) (fun _ _ i _ => 1 - (intOf i).toNat)
 case atStart => exact .inl ⟨rfl,rfl⟩
 case round =>
  rcases hrel with ⟨rfl,rfl⟩ | ⟨rfl,x,r,W,w1,h1,h2,h3,h4,h5,h6⟩
  ·have HGJ := hid (World.grownBy_alloc W1 (.cells (jobCells a now (.slice ao n c)) 64) none)
   have HD := hid (HC.out _ (gb_trans HG1.out HGJ.out))
   go_wp2_with (first | (go_at_call 49; refine HD.out.mono ?_; clear HD; rintro e w2 ⟨va,vn,vc,r,rfl,P2,C2⟩; have HP2 := hid P2; have HC2 := hid C2; have hL := (HL1.out.grown HGJ.out).cf C2; obtain ⟨d0,e0⟩ := Option.isSome_iff_exists.1 (hL.some 0 (by decide)); obtain ⟨d1,e1⟩ := Option.isSome_iff_exists.1 (hL.some 1 (by decide)); have f0 := hL.frozen 0; have f1 := hL.frozen 1; clear P2 C2 hL))
   go_roundw
   case rel =>
    refine .inr ⟨rfl,_,_,_,_,gb_trans HG1.out HGJ.out,?_,HP2.out,HC2.out.size,?_,twoSet w2 w.heap.size _ _ e0 e1⟩
    ·have := HS1.out; have := HGJ.out.size; omega
    ·repeat refine CF.setCell ?_ _ _ _ (fun _ => rfl)
     exact CF.refl _ _
   case measure => simp [intOf]
  ·have HX : Hid (w.grownBy W none ∧ w.heap.size < W.heap.size ∧ Post W w1 x r ∧ W.heap.size ≤ w1.heap.size ∧ CF w1 wr (fun b _ => b = w.heap.size) ∧ wr.rangeAt w.heap.size 0 [x,.int .i64 r]) := ⟨h1,h2,h3,h4,h5,h6⟩
   clear h1 h2 h3 h4 h5 h6
   go_wp2
   go_ret2
   obtain ⟨h1,h2,h3,h4,h5,h6⟩ := HX.out
   exact ⟨_,x,r,W,w1,rfl,h1,Nat.le_refl _,h2,h3,h4,h5,h6⟩
end Go.Proofs.YtpijkgbafjccaaaGreatDoor
namespace Go.Proofs.YtpijkgbafjccaaaGreatDoor
open Go.RowKit
set_option maxRecDepth 100000
set_option maxHeartbeats 1000000 in
theorem quickState_any (g : Nat) (dp : Option Pl) (d : DM) (w : World) (h : DeskAt w g 0 dp d) :
  Calls Tryz.prog 32 #[.pointer (some ⟨g,0,none⟩)] w fun e w' => ∃ bn bu,e = .returned (.agg #[.slice (some ⟨bn,0,none⟩) d.book.length d.book.length,.slice (some ⟨bu,0,none⟩) d.book.length d.book.length,.int .i64 d.proofs.length,.int .i64 d.draws.length]) ∧ w'.ownsRow w.heap.size 9 1 (.slice (some ⟨bn,0,none⟩) d.book.length d.book.length) d.book.length (d.book.map fun x => .string ⟨x.name.toArray⟩) ∧ w'.ownsRow w.heap.size 3 1 (.slice (some ⟨bu,0,none⟩) d.book.length d.book.length) d.book.length (d.book.map fun x => .int .i64 x.number) ∧ w.grownBy w' none := by
 have G0 := hid (World.grownBy_alloc w (.cells #[.slice none 0 0,.slice none 0 0,.int .i64 0,.int .i64 0] 35) none)
 have HD := hid (h.grown G0.out)
 have HL : Hid (Live (w.alloc (.cells #[.slice none 0 0,.slice none 0 0,.int .i64 0,.int .i64 0] 35)) w.heap.size 4) := Live.new w _ _
 clear h
 go_enter Tryz.func32,Tryz.ntmps32
 go_wp2_with fail
 refine (deskState_any g 0 dp d _ HD.out).mono ?_
 rintro e wx ⟨bn,bu,rfl,oN,oU,gx⟩
 have L := HL.out.grown gx
 obtain ⟨d0,q0⟩ := Option.isSome_iff_exists.1 (L.some 0 (by decide))
 obtain ⟨d1,q1⟩ := Option.isSome_iff_exists.1 (L.some 1 (by decide))
 obtain ⟨d2,q2⟩ := Option.isSome_iff_exists.1 (L.some 2 (by decide))
 obtain ⟨d3,q3⟩ := Option.isSome_iff_exists.1 (L.some 3 (by decide))
 have f0 := L.frozen 0
 have f1 := L.frozen 1
 have f2 := L.frozen 2
 have f3 := L.frozen 3
 have GX := hid (gb_trans G0.out gx)
 have ON := hid oN
 have OU := hid oU
 clear L gx oN oU
 go_wp2
 have s0 : w.heap.size < w.heap.size + 1 := Nat.lt_succ_self _
 have hs : w.heap.size + 1 ≤ (w.alloc (.cells #[.slice none 0 0,.slice none 0 0,.int .i64 0,.int .i64 0] 35)).heap.size := by rw [World.size_alloc]; exact Nat.le_refl _
 have oN1 := own_base ON.out hs
 have oU1 := own_base OU.out hs
 refine bodyPost_ret (results_onecell Tryz.results32 _ _ _ w.heap.size rfl _ (load_of (fourSet wx w.heap.size _ _ _ _ q0 q1 q2 q3) 35 _ Tryz.underlying35 rfl Tryz.sizeState)) rfl ⟨bn,bu,rfl,?_,?_,?_⟩
 ·exact own_base (own_store (own_store (own_store (own_store oN1 s0) s0) s0) s0) (Nat.le_succ _)
 ·exact own_base (own_store (own_store (own_store (own_store oU1 s0) s0) s0) s0) (Nat.le_succ _)
 ·exact gb_store (gb_store (gb_store (gb_store GX.out (Nat.le_refl _)) (Nat.le_refl _)) (Nat.le_refl _)) (Nat.le_refl _)
set_option maxHeartbeats 1000000 in
theorem wquickState_any (g : Nat) (dp : Option Pl) (d : DM) (w : World) (h : DeskAt w g 0 dp d) :
  Calls Tryz.prog 16 #[.pointer (some ⟨g,0,none⟩)] w fun e w' => ∃ bn bu,e = .returned (.agg #[.slice (some ⟨bn,0,none⟩) d.book.length d.book.length,.slice (some ⟨bu,0,none⟩) d.book.length d.book.length,.int .i64 d.proofs.length,.int .i64 d.draws.length]) ∧ w'.ownsRow w.heap.size 9 1 (.slice (some ⟨bn,0,none⟩) d.book.length d.book.length) d.book.length (d.book.map fun x => .string ⟨x.name.toArray⟩) ∧ w'.ownsRow w.heap.size 3 1 (.slice (some ⟨bu,0,none⟩) d.book.length d.book.length) d.book.length (d.book.map fun x => .int .i64 x.number) ∧ w.grownBy w' none := by
 have G0 := hid (World.grownBy_alloc w (.cells #[.slice none 0 0,.slice none 0 0,.int .i64 0,.int .i64 0] 35) none)
 have HD := hid (h.grown G0.out)
 have HL : Hid (Live (w.alloc (.cells #[.slice none 0 0,.slice none 0 0,.int .i64 0,.int .i64 0] 35)) w.heap.size 4) := Live.new w _ _
 clear h
 go_enter Tryz.func16,Tryz.ntmps16
 go_wp2_with fail
 refine (quickState_any g dp d _ HD.out).mono ?_
 rintro e wx ⟨bn,bu,rfl,oN,oU,gx⟩
 have L := HL.out.grown gx
 obtain ⟨d0,q0⟩ := Option.isSome_iff_exists.1 (L.some 0 (by decide))
 obtain ⟨d1,q1⟩ := Option.isSome_iff_exists.1 (L.some 1 (by decide))
 obtain ⟨d2,q2⟩ := Option.isSome_iff_exists.1 (L.some 2 (by decide))
 obtain ⟨d3,q3⟩ := Option.isSome_iff_exists.1 (L.some 3 (by decide))
 have f0 := L.frozen 0
 have f1 := L.frozen 1
 have f2 := L.frozen 2
 have f3 := L.frozen 3
 have GX := hid (gb_trans G0.out gx)
 have ON := hid oN
 have OU := hid oU
 clear L gx oN oU
 go_wp2
 have s0 : w.heap.size < w.heap.size + 1 := Nat.lt_succ_self _
 have hs : w.heap.size + 1 ≤ (w.alloc (.cells #[.slice none 0 0,.slice none 0 0,.int .i64 0,.int .i64 0] 35)).heap.size := by rw [World.size_alloc]; exact Nat.le_refl _
 have oN1 := own_base ON.out hs
 have oU1 := own_base OU.out hs
 refine bodyPost_ret (results_onecell Tryz.results16 _ _ _ w.heap.size rfl _ (load_of (fourSet wx w.heap.size _ _ _ _ q0 q1 q2 q3) 35 _ Tryz.underlying35 rfl Tryz.sizeState)) rfl ⟨bn,bu,rfl,?_,?_,?_⟩
 ·exact own_base (own_store (own_store (own_store (own_store oN1 s0) s0) s0) s0) (Nat.le_succ _)
 ·exact own_base (own_store (own_store (own_store (own_store oU1 s0) s0) s0) s0) (Nat.le_succ _)
 ·exact gb_store (gb_store (gb_store (gb_store GX.out (Nat.le_refl _)) (Nat.le_refl _)) (Nat.le_refl _)) (Nat.le_refl _)
theorem Tryz.sizePool : (Tryz.prog.info? 74).map (·.size) = some 3 := by kernel_rfl
theorem threeSet (w : World) (b : Nat) (v0 v1 v2 : Value) {d0 d1 d2 : Value} (q0 : w.cell? ⟨b,0,none⟩ = some d0) (q1 : w.cell? ⟨b,1,none⟩ = some d1) (q2 : w.cell? ⟨b,2,none⟩ = some d2) : (((w.setCell ⟨b,0,none⟩ v0).setCell ⟨b,1,none⟩ v1).setCell ⟨b,2,none⟩ v2).rangeAt b 0 [v0,v1,v2] := by
 intro j v hv
 have h1 := twoSet w b v0 v1 q0 q1
 match j,hv with
 | 0,hv =>
  rw [World.cell?_setCell_other _ _ _ _ (fun e => by injection e with _ e; omega)]
  exact h1 0 v hv
 | 1,hv =>
  rw [World.cell?_setCell_other _ _ _ _ (fun e => by injection e with _ e; omega)]
  exact h1 1 v hv
 | 2,hv =>
  injection hv with hv
  subst hv
  exact World.cell?_setCell_same _ _ _ (by rw [World.cell?_setCell_other _ _ _ _ (fun e => by injection e with _ e; omega),World.cell?_setCell_other _ _ _ _ (fun e => by injection e with _ e; omega)]; exact q2)
 | j + 3,hv => simp at hv
def PoolSaid (w : World) (e : Ending) (w' : World) : Prop := ∃ k : Nat,k ≤ 4 ∧ e = .returned (.agg #[.int .i64 2,.int .i64 2,.int .i64 k]) ∧ w.grownBy w' none
set_option maxHeartbeats 1000000 in
theorem quickPool_any (g : Nat) (dp : Option Pl) (M : DM) (w : World) (h : QuickAt w g dp M) :
  Calls Tryz.prog 39 #[.pointer (some ⟨g,0,none⟩)] w fun e w' => PoolSaid w e w' := by
 have G0 := hid (gb_drew (World.grownBy_alloc w (.cells #[.int .i64 0,.int .i64 0,.int .i64 0] 74) none))
 have HL : Hid (Live (w.alloc (.cells #[.int .i64 0,.int .i64 0,.int .i64 0] 74)).drew w.heap.size 3) := (Live.new w _ _).drew
 have HQ := hid (h.grown G0.out)
 obtain ⟨ls,nx,hlk,_⟩ := HQ.out.look
 have HK := hid hlk
 obtain ⟨k,hk⟩ : ∃ k,ls.length = k := ⟨_,rfl⟩
 have HKl := hid hk
 have HF := hid (free_all g 222 _ HQ.out.pool)
 have HC := hid (lcount_any g 188 ls nx _ hlk)
 rw [hk] at HC
 have L := HL.out
 obtain ⟨d0,q0⟩ := Option.isSome_iff_exists.1 (L.some 0 (by decide))
 obtain ⟨d1,q1⟩ := Option.isSome_iff_exists.1 (L.some 1 (by decide))
 obtain ⟨d2,q2⟩ := Option.isSome_iff_exists.1 (L.some 2 (by decide))
 have f0 := L.frozen 0
 have f1 := L.frozen 1
 have f2 := L.frozen 2
 clear h hlk hk L
 go_enter Tryz.func39,Tryz.ntmps39
 go_wp2_with fail
 go_region_held3 (fun _ => True) (trivial) (first | (go_at_call 55; refine HF.out.mono ?_; rintro e w1 ⟨rfl,rfl⟩) | (go_at_call 56; refine HC.out.mono ?_; rintro e w2 ⟨rfl,rfl⟩))
 go_wp2
 have RA : (w.alloc (.cells #[.int .i64 2,.int .i64 2,.int .i64 k] 74)).drew.rangeAt w.heap.size 0 [.int .i64 2,.int .i64 2,.int .i64 k] := cells_range w #[.int .i64 2,.int .i64 2,.int .i64 k] 74
 refine bodyPost_ret (results_onecell Tryz.results39 _ _ _ w.heap.size rfl _ (load_of RA 74 _ Tryz.underlying74 rfl Tryz.sizePool)) rfl ⟨k,?_,rfl,gb_drew (World.grownBy_alloc w _ none)⟩
 rw [← HKl.out]; exact HK.out.len
set_option maxHeartbeats 1000000 in
theorem wquickPool_any (g : Nat) (dp : Option Pl) (M : DM) (w : World) (h : QuickAt w g dp M) :
  Calls Tryz.prog 25 #[.pointer (some ⟨g,0,none⟩)] w fun e w' => PoolSaid w e w' := by
 have G0 := hid (World.grownBy_alloc w (.cells #[.int .i64 0,.int .i64 0,.int .i64 0] 74) none)
 have HL : Hid (Live (w.alloc (.cells #[.int .i64 0,.int .i64 0,.int .i64 0] 74)) w.heap.size 3) := Live.new w _ _
 have HP := hid (quickPool_any g dp M _ (h.grown G0.out))
 clear h
 go_enter Tryz.func25,Tryz.ntmps25
 go_wp2_with fail
 refine HP.out.mono ?_
 rintro e wx ⟨k,hk,rfl,gx⟩
 have L := HL.out.grown gx
 obtain ⟨d0,q0⟩ := Option.isSome_iff_exists.1 (L.some 0 (by decide))
 obtain ⟨d1,q1⟩ := Option.isSome_iff_exists.1 (L.some 1 (by decide))
 obtain ⟨d2,q2⟩ := Option.isSome_iff_exists.1 (L.some 2 (by decide))
 have f0 := L.frozen 0
 have f1 := L.frozen 1
 have f2 := L.frozen 2
 have GX := hid (gb_trans G0.out gx)
 have HKk := hid hk
 clear L gx HP hk
 go_wp2
 refine bodyPost_ret (results_onecell Tryz.results25 _ _ _ w.heap.size rfl _ (load_of (threeSet _ w.heap.size _ _ _ q0 q1 q2) 74 _ Tryz.underlying74 rfl Tryz.sizePool)) rfl ⟨k,HKk.out,rfl,?_⟩
 repeat refine gb_store ?_ (Nat.le_refl _)
 exact GX.out
set_option maxHeartbeats 1000000 in
theorem wbatch_one (g jb : Nat) (cap : Nat) (a : Adm) (now : Int) (v : Value) (w : World) (Post : World → World → Value → Int → Prop) (hv : ∃ ao n c,v = .slice ao n c)
  (hj : w.rangeAt jb 0 (jobCells a now v).toList)
  (C : ∀ W,w.grownBy W none → Calls Tryz.prog 49 #[.iface 119 (.pointer (some ⟨g,0,none⟩)),.agg (jobCells a now v)] W fun e w' => ∃ va vn vc r,e = .returned (.agg #[.slice va vn vc,.int .i64 r]) ∧ Post W w' (.slice va vn vc) r ∧ CF W w' (fun b _ => b = g)) (hg : g < w.heap.size) :
  Calls Tryz.prog 21 #[.pointer (some ⟨g,0,none⟩),.slice (some ⟨jb,0,none⟩) 1 cap] w fun e w' => OneDone w Post e w' := by
 have HB := hid (qbatch_one g jb cap a now v w Post hv hj C hg)
 clear hv hj C hg
 go_enter Tryz.func21,Tryz.ntmps21
 go_wp2_with fail
 refine HB.out.mono ?_
 rintro e w' ⟨ob,x,r,W,w1,rfl,h⟩
 have HH := hid h
 clear h HB
 go_wp2
 go_ret2
 exact ⟨ob,x,r,W,w1,rfl,HH.out⟩
end Go.Proofs.YtpijkgbafjccaaaGreatDoor
