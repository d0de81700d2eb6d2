/-
  
  
  
  
  
-/
import Derived.Test.YtpijkgbafjccaaaGreatDoorGTPOpenA
import Derived.Deep.RegionHeld3
namespace Go.Proofs.YtpijkgbafjccaaaGreatDoor
open Go.RowKit
set_option maxRecDepth 100000
theorem Bs.self {S : Source} {c : Nat} (h1 : S.2.length ≤ c) (h2 : c ≤ 9223372036854775807) (h3 : S.2.length ≤ 200) : Bs S (.slice S.1 S.2.length c) S.2 := ⟨S.1,c,rfl,h1,h2,by omega,fun _ h => h⟩
theorem Out.ne_new {w : World} {v : Value} {p : Option Pl} {bs : List UInt8} (h : Out w v p bs) {g : Nat} (hg : w.heap.size ≤ g) : Pl.blk p ≠ some g := by
 rcases h with ⟨hp,_⟩ | ⟨q,hp,_,_,_,hl,_⟩
 ·rw [hp]; exact fun e => by cases e
 ·rw [hp]
  intro e
  injection e with e
  have e : q.g = g := e
  have := hl.lt
  omega
theorem has_blk {p : Option Pl} {b o : Nat} (h : Pl.has p b o) : Pl.blk p = some b := by
 obtain ⟨q,hq,e,_⟩ := h
 rw [hq,e]
 rfl
theorem RS.open {w w1 w2 : World} {rv : Value} {p : Option Pl} {rb : List UInt8} {z0 : Array Value} {t t' : TypeId} {l : List UInt8} {a : Option Addr} {v : Value} {s : List UInt8 × Bool} (hR : Out w rv p rb) (c1 : CF (w.alloc (.cells z0 t)) w1 (Pl.has p)) (h1 : At w1 a l) (hn : ∀ g,g < (w.alloc (.cells z0 t)).heap.size → Pl.blk p ≠ some g → NotAt (a,l) g) (g2 : w1.grownBy w2 none) (hb : Bs (a,l) v s.1) (hf : s.2 = true → s.1 = []) :
  RS w (w2.alloc (.cells #[v,.bool s.2] t')) (Pl.has p) (a,l) w2.heap.size s w.heap.size z0 := by
 have sz : (w.alloc (.cells z0 t)).heap.size = w.heap.size + 1 := World.size_alloc _ _
 have hnew := hR.ne_new (Nat.le_refl w.heap.size)
 have z1 := c1.size
 have z2 := g2.size
 have h2 := h1.below g2
 obtain ⟨av,cv,rfl,_⟩ := id hb
 refine ⟨Rd.new (w := w2) hb hf t',((((Blk.new w z0 t).kept (c1.block _ (by omega) (fun o e => hnew (has_blk e)))).grown g2 (by simp)).alloc _),((CF.before (World.grownBy_alloc w _ none) c1).grown g2).alloc _,h2.below (World.grownBy_alloc w2 _ none),NotAt.new (S := (a,l)) h2 (Nat.le_refl _),hn _ (by omega) hnew,Nat.le_refl _,by omega,by omega⟩
theorem load_i64 {w : World} {b : Nat} {v : Value} (h : w.cell? ⟨b,0,none⟩ = some v) : (loadVar 2 ⟨b,0,none⟩).run Tryz.prog w = .ok v w := by
 have hu := Tryz.underlying2
 go_simp
def doneB (s : List UInt8 × Bool) : Bool := !s.2 && decide (s.1 = [])
set_option maxHeartbeats 1000000 in
theorem openPre_any (rv : Value) (p : Option Pl) (rb : List UInt8) (key : UInt64) (ao : Option Addr) (z : List UInt8) (n cap : Nat) (w : World) (hR : Out w rv p rb) (hn : Hid (z.length = n)) (hcap : n ≤ cap) (hz : At w ao z) (hsep : ∀ b off,ao = some ⟨b,off,none⟩ → ∀ j,j < z.length → ¬ Pl.has p b (off + j)) :
  Calls Tryz.prog 134 #[rv,.int .u64 (key.toNat : Int),.slice ao n cap] w fun e w' => e = .returned (.tuple #[.int .i64 (stepN (openP key 1 z,false)).1,.bool (doneB (stepN (openP key 1 z,false)).2)]) ∧ CF w w' (Pl.has p) := by
 have G0 := World.grownBy_alloc w (.cells #[.int .i64 0] 2) none
 have HO := hid (mopen_any rv p rb key 1 1 ao z n cap _ (hR.grown G0) rfl (hid rfl) hn hcap (hz.below G0) hsep)
 obtain ⟨l,hl⟩ : ∃ l,openP key 1 z = l := ⟨_,rfl⟩
 obtain ⟨q,hq⟩ : ∃ q,stepN (l,false) = q := ⟨_,rfl⟩
 have HQ : Hid (stepN (openP key 1 z,false) = q) := by show _ = _; rw [hl,hq]
 have HQ1 := hid hq
 rw [hl] at HO
 have HR := hid hR
 clear hR hn hcap hz hsep G0 hl hq
 go_enter Tryz.func134,Tryz.ntmps134
 go_wp2_with fail
 refine HO.out.mono ?_
 rintro e w1 ⟨a,c,rfl,p1,p2,p3,p4,p5,p6⟩
 have hb : Bs (a,l) (.slice a l.length c) l := Bs.self (S := (a,l)) p1 p2 p3
 have HX := hid (And.intro p5 (And.intro p4 (And.intro p6 hb)))
 clear p1 p2 p3 p4 p5 p6 hb HO
 go_wp2_with fail
 refine (read_any a l.length c w1).mono ?_
 rintro e w2 ⟨rfl,g2⟩
 have rs : RS w (w2.alloc (.cells #[.slice a l.length c,.bool false] 197)) (Pl.has p) (a,l) w2.heap.size (l,false) w.heap.size #[.int .i64 0] := RS.open (s := (l,false)) HR.out HX.out.1 HX.out.2.1 HX.out.2.2.1 g2 HX.out.2.2.2 (fun e => by cases e)
 obtain ⟨w3,hw3⟩ : ∃ w3,w3 = w2.alloc (.cells #[.slice a l.length c,.bool false] 197) := ⟨_,rfl⟩
 rw [← hw3] at rs
 have pl := rs.places [0] (fun j hj => by show j < 1; simp at hj; omega) (by decide) 202
 have rsa := rs.alloc (.cells #[.pointer (some ⟨w.heap.size,0,none⟩)] 202)
 have HT := hid (takeNumbers_s (a,l) w2.heap.size w3.heap.size _ 1 (l,false) _ (hid rfl) (by omega) (rsa.stays [0]) rsa.rd pl)
 have hst : stN (l,false) 1 = q.2 := congrArg Prod.snd HQ1.out
 rw [hst] at HT
 have HN : Hid ((stepN (stN (l,false) 0)).1 = q.1) := congrArg Prod.fst HQ1.out
 have Hrs := hid rsa
 have sz3 : w3.heap.size = w2.heap.size + 1 := by rw [hw3]; exact World.size_alloc _ _
 rw [hw3] at HT Hrs
 rw [World.size_alloc] at HT
 clear rs pl rsa hst g2 hw3 sz3
 go_wp2_with fail
 refine HT.out.mono ?_
 rintro e w4 ⟨rfl,r4,c4,f4⟩
 have rs4 : RS w w4 (Pl.has p) (a,l) w2.heap.size q.2 w.heap.size #[.int .i64 q.1] := by
  refine Hrs.out.nums f4 r4 (fun p hp => ?_) rfl (fun j hj => ?_)
  ·obtain ⟨j,_,rfl⟩ := List.mem_map.1 hp
   rfl
  ·have hj' : j < 1 := hj
   match j,hj' with
   | 0,_ => rw [← HN.out]; exact c4 0 (w.heap.size,0) rfl
 have x0 : w4.cell? ⟨w.heap.size,0,none⟩ = some (.int .i64 q.1) := rs4.blk.cell 0
 have z0 := rs4.blk.frozen 0
 have HY : Hid (((w4.drewN 1).setCell ⟨w.heap.size,0,none⟩ (.int .i64 q.1)).cell? ⟨w.heap.size,0,none⟩ = some (.int .i64 q.1)) := set_same (w := w4.drewN 1) _ x0
 have HD1 := hid (done_any (a,l) w2.heap.size _ _ (w4.drewN 1) (rs4.rd.drewN 1))
 have HD2 := hid (done_any (a,l) w2.heap.size _ _ ((w4.drewN 1).setCell ⟨w.heap.size,0,none⟩ (.int .i64 q.1)) ((rs4.rd.drewN 1).frm ((Frm.refl (w4.drewN 1) (fun b => b = w.heap.size)).set (g := w.heap.size) rfl 0 _) (fun e => rs4.ne e.symm)))
 have HC : Hid (CF w ((w4.drewN 1).setCell ⟨w.heap.size,0,none⟩ (.int .i64 q.1)) (Pl.has p)) := (rs4.cf.drewN 1).setCell w.heap.size 0 _ (fun e => absurd e (Nat.lt_irrefl _))
 obtain ⟨dn,HDn⟩ : ∃ dn,Hid ((!q.2.2 && decide (q.2.1 = [])) = dn) := ⟨_,hid rfl⟩
 rw [HDn.out] at HD1 HD2
 clear r4 c4 f4 rs4 HT Hrs HX HR
 go_wp2_with fail
 go_region_held3 (fun w' => w'.cell? ⟨w.heap.size,0,none⟩ = some (.int .i64 q.1)) (first | exact HY.out | go_keep) (first | (go_at_call 92; refine HD1.out.mono ?_; rintro e w5 ⟨rfl,rfl⟩) | (go_at_call 92; refine HD2.out.mono ?_; rintro e w5 ⟨rfl,rfl⟩))
 go_wp2
 exact bodyPost_ret (results_celltmp Tryz.results134 _ _ _ w.heap.size rfl _ (load_i64 HY.out)) rfl ⟨by rw [HQ.out,doneB,HDn.out]; rfl,HC.out⟩
end Go.Proofs.YtpijkgbafjccaaaGreatDoor
namespace Go.Proofs.YtpijkgbafjccaaaGreatDoor
open Go.RowKit
set_option maxRecDepth 100000
theorem RS.drewN {w W : World} {ex : Nat → Nat → Prop} {S : Source} {g fb : Nat} {s : List UInt8 × Bool} {cs : Array Value} (h : RS w W ex S g s fb cs) (n : Nat) : RS w (W.drewN n) ex S g s fb cs := h.grown (gb_drewN (World.grownBy.refl W none) n)
def set3 (W : World) (g : Nat) (c0 c1 c2 : Value) : World := (((W.setCell ⟨g,0,none⟩ c0).setCell ⟨g,1,none⟩ c1).setCell ⟨g,2,none⟩ c2)
theorem Tryz.sizeProof : (Tryz.prog.info? 95).map (·.size) = some 3 := by kernel_rfl
theorem RS.set3 {w W : World} {ex : Nat → Nat → Prop} {S : Source} {g fb : Nat} {s : List UInt8 × Bool} {x0 x1 x2 : Value} (h : RS w W ex S g s fb #[x0,x1,x2]) (c0 c1 c2 : Value) : RS w (set3 W fb c0 c1 c2) ex S g s fb #[c0,c1,c2] := by
 have h0 : RS w (W.setCell ⟨fb,0,none⟩ c0) ex S g s fb #[c0,x1,x2] := h.store 0 c0
 have h1 : RS w ((W.setCell ⟨fb,0,none⟩ c0).setCell ⟨fb,1,none⟩ c1) ex S g s fb #[c0,c1,x2] := h0.store 1 c1
 have h2 : RS w (((W.setCell ⟨fb,0,none⟩ c0).setCell ⟨fb,1,none⟩ c1).setCell ⟨fb,2,none⟩ c2) ex S g s fb #[c0,c1,c2] := h1.store 2 c2
 exact h2
theorem RS.load3 {w W : World} {ex : Nat → Nat → Prop} {S : Source} {g fb : Nat} {s : List UInt8 × Bool} {c0 c1 c2 : Value} (h : RS w W ex S g s fb #[c0,c1,c2]) : (loadVar 95 ⟨fb,0,none⟩).run Tryz.prog W = .ok (.agg #[c0,c1,c2]) W := h.blk.load 95 _ Tryz.underlying95 rfl Tryz.sizeProof
theorem Blk.all3 {w : World} {g : Nat} {c0 c1 c2 : Value} (h : Blk w g #[c0,c1,c2]) : w.cell? ⟨g,0,none⟩ = some c0 ∧ w.cell? ⟨g,1,none⟩ = some c1 ∧ w.cell? ⟨g,2,none⟩ = some c2 := ⟨h.cell 0,h.cell 1,h.cell 2⟩
def pfA (l : List UInt8) : List UInt8 × (List UInt8 × Bool) := nameM (readListM l)
def pfN (l : List UInt8) (j : Nat) : Int := (stepN (stN (pfA l).2 j)).1
def pfE (l : List UInt8) : List UInt8 × Bool := stN (pfA l).2 2
set_option maxHeartbeats 2000000 in
theorem openProof_any (rv : Value) (p : Option Pl) (rb : List UInt8) (key : UInt64) (ao : Option Addr) (z : List UInt8) (n cap : Nat) (w : World) (hR : Out w rv p rb) (hn : Hid (z.length = n)) (hcap : n ≤ cap) (hz : At w ao z) (hsep : ∀ b off,ao = some ⟨b,off,none⟩ → ∀ j,j < z.length → ¬ Pl.has p b (off + j)) :
  Calls Tryz.prog 144 #[rv,.int .u64 (key.toNat : Int),.slice ao n cap] w fun e w' => e = .returned (.tuple #[.agg #[.string ⟨(pfA (openP key 4 z)).1.toArray⟩,.int .i64 (pfN (openP key 4 z) 0),.int .i64 (pfN (openP key 4 z) 1)],.bool (doneB (pfE (openP key 4 z)))]) ∧ CF w w' (Pl.has p) := by
 have G0 := World.grownBy_alloc w (.cells #[.string ⟨#[]⟩,.int .i64 0,.int .i64 0] 95) none
 have HO := hid (mopen_any rv p rb key 4 4 ao z n cap _ (hR.grown G0) rfl (hid rfl) hn hcap (hz.below G0) hsep)
 obtain ⟨l,hl⟩ : ∃ l,openP key 4 z = l := ⟨_,rfl⟩
 obtain ⟨q0,h0⟩ : ∃ q,readListM l = q := ⟨_,rfl⟩
 obtain ⟨qA,hA⟩ : ∃ q,nameM q0 = q := ⟨_,rfl⟩
 obtain ⟨N,hN⟩ : ∃ N : Nat → Int,∀ j,(stepN (stN qA.2 j)).1 = N j := ⟨_,fun _ => rfl⟩
 obtain ⟨qE,hE⟩ : ∃ q,stN qA.2 2 = q := ⟨_,rfl⟩
 have hbad := readListM_bad l
 rw [h0] at hbad
 have HQ0 := hid h0
 have HA : Hid (pfA (openP key 4 z) = qA) := by show _ = _; rw [pfA,hl,h0,hA]
 have HNN : Hid (∀ j,pfN (openP key 4 z) j = N j) := fun j => by rw [pfN,HA.out,hN]
 have HE : Hid (pfE (openP key 4 z) = qE) := by show _ = _; rw [pfE,HA.out,hE]
 have HQ := hid (And.intro hA (And.intro hN hE))
 clear hA hN hE
 rw [hl] at HO
 have HR := hid hR
 clear hR hn hcap hz hsep G0 hl h0
 go_enter Tryz.func144,Tryz.ntmps144
 go_wp2_with fail
 refine HO.out.mono ?_
 rintro e w1 ⟨a,c,rfl,p1,p2,p3,p4,p5,p6⟩
 have hb : Bs (a,l) (.slice a l.length c) l := Bs.self (S := (a,l)) p1 p2 p3
 have HX := hid (And.intro p5 (And.intro p4 p6))
 have HRL := hid (readList_any (a,l) l l.length a c w1 (hid rfl) p4 hb)
 rw [HQ0.out] at HRL
 clear p1 p2 p3 p4 p5 p6 hb HO
 go_wp2_with fail
 refine HRL.out.mono ?_
 rintro e w2 ⟨v,rfl,b2,g2⟩
 obtain ⟨a2,c2,rfl,_⟩ := id b2
 have rs1 : RS w (w2.alloc (.cells #[.slice a2 q0.1.length c2,.bool q0.2] 197)) (Pl.has p) (a,l) w2.heap.size q0 w.heap.size #[.string ⟨#[]⟩,.int .i64 0,.int .i64 0] := RS.open HR.out HX.out.1 HX.out.2.1 HX.out.2.2 g2 b2 hbad
 have HT1 := hid (takeName_s (a,l) w2.heap.size q0 _ rs1.src rs1.ng rs1.rd)
 rw [HQ.out.1] at HT1
 have H1 := hid rs1
 clear b2 g2 HRL hbad rs1 HX HR
 go_wp2_with fail
 refine HT1.out.mono ?_
 rintro e w3 ⟨rfl,r3,f3⟩
 have rs2 : RS w w3 (Pl.has p) (a,l) w2.heap.size qA.2 w.heap.size #[.string ⟨#[]⟩,.int .i64 0,.int .i64 0] := H1.out.read f3 r3
 obtain ⟨⟨d2,hd2⟩,hz2⟩ := rs2.slot 0 (by show 0 < 3; decide)
 have rs2' : RS w (w3.setCell ⟨w.heap.size,0,none⟩ (.string ⟨qA.1.toArray⟩)) (Pl.has p) (a,l) w2.heap.size qA.2 w.heap.size #[.string ⟨qA.1.toArray⟩,.int .i64 0,.int .i64 0] := rs2.store 0 _
 have pl := rs2'.places [1,2] (fun j hj => by show j < 3; simp at hj; omega) (by decide) 202
 rw [World.size_setCell] at pl
 have ra := rs2'.alloc (.cells #[.pointer (some ⟨w.heap.size,1,none⟩),.pointer (some ⟨w.heap.size,2,none⟩)] 202)
 have HT2 := hid (takeNumbers_s (a,l) w2.heap.size _ _ 2 qA.2 _ (hid rfl) (by omega) (ra.stays [1,2]) ra.rd pl)
 simp only [HQ.out.2.1] at HT2
 rw [HQ.out.2.2] at HT2
 have H2 := hid ra
 clear r3 f3 rs2 rs2' HT1 H1 pl ra
 go_wp2_with fail
 refine HT2.out.mono ?_
 rintro e w4 ⟨rfl,rw4,cw4,fw4⟩
 have rs4 : RS w w4 (Pl.has p) (a,l) w2.heap.size qE w.heap.size #[.string ⟨qA.1.toArray⟩,.int .i64 (N 0),.int .i64 (N 1)] := by
  refine H2.out.nums fw4 rw4 (fun p hp => ?_) rfl (fun j hj => ?_)
  ·obtain ⟨j,_,rfl⟩ := List.mem_map.1 hp
   rfl
  ·have hj' : j < 3 := hj
   match j,hj' with
   | 0,_ => exact fw4.cell (H2.out.blk.cell 0) (fun e => by rcases e with e | e; exact H2.out.ne e; simp at e)
   | 1,_ => exact cw4 0 (w.heap.size,1) rfl
   | 2,_ => exact cw4 1 (w.heap.size,2) rfl
 clear rw4 cw4 fw4 HT2 H2 hd2 hz2
 obtain ⟨x0,x1,x2⟩ := rs4.blk.all3
 have z0 := rs4.blk.frozen 0
 have z1 := rs4.blk.frozen 1
 have z2 := rs4.blk.frozen 2
 have rX := (rs4.drewN 1).set3 (.string ⟨qA.1.toArray⟩) (.int .i64 (N 0)) (.int .i64 (N 1))
 unfold set3 at rX
 have HY := hid rX.blk.all3
 have HRX := hid rX
 have HD1 := hid (done_any (a,l) w2.heap.size _ _ (w4.drewN 1) (rs4.rd.drewN 1))
 have HD2 := hid (done_any (a,l) w2.heap.size _ _ _ rX.rd)
 obtain ⟨dn,HDn⟩ : ∃ dn,Hid ((!qE.2 && decide (qE.1 = [])) = dn) := ⟨_,hid rfl⟩
 rw [HDn.out] at HD1 HD2
 clear rX rs4
 go_wp2_with fail
 go_region_held3 (fun w' => w'.cell? ⟨w.heap.size,0,none⟩ = some (.string ⟨qA.1.toArray⟩) ∧ w'.cell? ⟨w.heap.size,1,none⟩ = some (.int .i64 (N 0)) ∧ w'.cell? ⟨w.heap.size,2,none⟩ = some (.int .i64 (N 1))) (first | exact HY.out | go_keep) (first | (go_at_call 92; refine HD1.out.mono ?_; rintro e w9 ⟨rfl,rfl⟩) | (go_at_call 92; refine HD2.out.mono ?_; rintro e w9 ⟨rfl,rfl⟩))
 go_wp2
 exact bodyPost_ret (results_celltmp Tryz.results144 _ _ _ w.heap.size rfl _ HRX.out.load3) rfl ⟨by rw [HA.out,HNN.out,HNN.out,HE.out,doneB,HDn.out]; rfl,HRX.out.cf⟩
end Go.Proofs.YtpijkgbafjccaaaGreatDoor
namespace Go.Proofs.YtpijkgbafjccaaaGreatDoor
open Go.RowKit
set_option maxRecDepth 100000
def set7 (W : World) (g : Nat) (c0 c1 c2 c3 c4 c5 c6 : Value) : World := (((((((W.setCell ⟨g,0,none⟩ c0).setCell ⟨g,1,none⟩ c1).setCell ⟨g,2,none⟩ c2).setCell ⟨g,3,none⟩ c3).setCell ⟨g,4,none⟩ c4).setCell ⟨g,5,none⟩ c5).setCell ⟨g,6,none⟩ c6)
theorem Tryz.sizeGrant : (Tryz.prog.info? 219).map (·.size) = some 7 := by kernel_rfl
theorem RS.set7 {w W : World} {ex : Nat → Nat → Prop} {S : Source} {g fb : Nat} {s : List UInt8 × Bool} {x0 x1 x2 x3 x4 x5 x6 : Value} (h : RS w W ex S g s fb #[x0,x1,x2,x3,x4,x5,x6]) (c0 c1 c2 c3 c4 c5 c6 : Value) : RS w (set7 W fb c0 c1 c2 c3 c4 c5 c6) ex S g s fb #[c0,c1,c2,c3,c4,c5,c6] := by
 have h0 : RS w (W.setCell ⟨fb,0,none⟩ c0) ex S g s fb #[c0,x1,x2,x3,x4,x5,x6] := h.store 0 c0
 have h1 : RS w ((W.setCell ⟨fb,0,none⟩ c0).setCell ⟨fb,1,none⟩ c1) ex S g s fb #[c0,c1,x2,x3,x4,x5,x6] := h0.store 1 c1
 have h2 : RS w (((W.setCell ⟨fb,0,none⟩ c0).setCell ⟨fb,1,none⟩ c1).setCell ⟨fb,2,none⟩ c2) ex S g s fb #[c0,c1,c2,x3,x4,x5,x6] := h1.store 2 c2
 have h3 : RS w ((((W.setCell ⟨fb,0,none⟩ c0).setCell ⟨fb,1,none⟩ c1).setCell ⟨fb,2,none⟩ c2).setCell ⟨fb,3,none⟩ c3) ex S g s fb #[c0,c1,c2,c3,x4,x5,x6] := h2.store 3 c3
 have h4 : RS w (((((W.setCell ⟨fb,0,none⟩ c0).setCell ⟨fb,1,none⟩ c1).setCell ⟨fb,2,none⟩ c2).setCell ⟨fb,3,none⟩ c3).setCell ⟨fb,4,none⟩ c4) ex S g s fb #[c0,c1,c2,c3,c4,x5,x6] := h3.store 4 c4
 have h5 : RS w ((((((W.setCell ⟨fb,0,none⟩ c0).setCell ⟨fb,1,none⟩ c1).setCell ⟨fb,2,none⟩ c2).setCell ⟨fb,3,none⟩ c3).setCell ⟨fb,4,none⟩ c4).setCell ⟨fb,5,none⟩ c5) ex S g s fb #[c0,c1,c2,c3,c4,c5,x6] := h4.store 5 c5
 have h6 : RS w (((((((W.setCell ⟨fb,0,none⟩ c0).setCell ⟨fb,1,none⟩ c1).setCell ⟨fb,2,none⟩ c2).setCell ⟨fb,3,none⟩ c3).setCell ⟨fb,4,none⟩ c4).setCell ⟨fb,5,none⟩ c5).setCell ⟨fb,6,none⟩ c6) ex S g s fb #[c0,c1,c2,c3,c4,c5,c6] := h5.store 6 c6
 exact h6
theorem RS.load7 {w W : World} {ex : Nat → Nat → Prop} {S : Source} {g fb : Nat} {s : List UInt8 × Bool} {c0 c1 c2 c3 c4 c5 c6 : Value} (h : RS w W ex S g s fb #[c0,c1,c2,c3,c4,c5,c6]) : (loadVar 219 ⟨fb,0,none⟩).run Tryz.prog W = .ok (.agg #[c0,c1,c2,c3,c4,c5,c6]) W := h.blk.load 219 _ Tryz.underlying219 rfl Tryz.sizeGrant
theorem Blk.all7 {w : World} {g : Nat} {c0 c1 c2 c3 c4 c5 c6 : Value} (h : Blk w g #[c0,c1,c2,c3,c4,c5,c6]) : w.cell? ⟨g,0,none⟩ = some c0 ∧ w.cell? ⟨g,1,none⟩ = some c1 ∧ w.cell? ⟨g,2,none⟩ = some c2 ∧ w.cell? ⟨g,3,none⟩ = some c3 ∧ w.cell? ⟨g,4,none⟩ = some c4 ∧ w.cell? ⟨g,5,none⟩ = some c5 ∧ w.cell? ⟨g,6,none⟩ = some c6 := ⟨h.cell 0,h.cell 1,h.cell 2,h.cell 3,h.cell 4,h.cell 5,h.cell 6⟩
def tkF (l : List UInt8) : Int × (List UInt8 × Bool) := stepN (readListM l)
def tkK (l : List UInt8) : UInt64 × (List UInt8 × Bool) := keyM (tkF l).2
def tkC (l : List UInt8) : List UInt8 × (List UInt8 × Bool) := nameM (tkK l).2
def tkN (l : List UInt8) (j : Nat) : Int := (stepN (stN (tkC l).2 j)).1
def tkE (l : List UInt8) : List UInt8 × Bool := stN (tkC l).2 4
set_option maxHeartbeats 1000000 in
theorem openTicket_any (rv : Value) (p : Option Pl) (rb : List UInt8) (key : UInt64) (ao : Option Addr) (z : List UInt8) (n cap : Nat) (w : World) (hR : Out w rv p rb) (hn : Hid (z.length = n)) (hcap : n ≤ cap) (hz : At w ao z) (hsep : ∀ b off,ao = some ⟨b,off,none⟩ → ∀ j,j < z.length → ¬ Pl.has p b (off + j)) :
  Calls Tryz.prog 143 #[rv,.int .u64 (key.toNat : Int),.slice ao n cap] w fun e w' => e = .returned (.tuple #[.agg #[.int .i64 (tkF (openP key 2 z)).1,.int .u64 ((tkK (openP key 2 z)).1.toNat : Int),.string ⟨(tkC (openP key 2 z)).1.toArray⟩,.int .i64 (tkN (openP key 2 z) 0),.int .i64 (tkN (openP key 2 z) 1),.int .i64 (tkN (openP key 2 z) 2),.int .i64 (tkN (openP key 2 z) 3)],.bool (doneB (tkE (openP key 2 z)))]) ∧ CF w w' (Pl.has p) := by
 have G0 := World.grownBy_alloc w (.cells #[.int .i64 0,.int .u64 0,.string ⟨#[]⟩,.int .i64 0,.int .i64 0,.int .i64 0,.int .i64 0] 219) none
 have HO := hid (mopen_any rv p rb key 2 2 ao z n cap _ (hR.grown G0) rfl (hid rfl) hn hcap (hz.below G0) hsep)
 obtain ⟨l,hl⟩ : ∃ l,openP key 2 z = l := ⟨_,rfl⟩
 obtain ⟨q0,h0⟩ : ∃ q,readListM l = q := ⟨_,rfl⟩
 obtain ⟨qF,hF⟩ : ∃ q,stepN q0 = q := ⟨_,rfl⟩
 obtain ⟨qK,hK⟩ : ∃ q,keyM qF.2 = q := ⟨_,rfl⟩
 obtain ⟨qC,hC⟩ : ∃ q,nameM qK.2 = q := ⟨_,rfl⟩
 obtain ⟨N,hN⟩ : ∃ N : Nat → Int,∀ j,(stepN (stN qC.2 j)).1 = N j := ⟨_,fun _ => rfl⟩
 obtain ⟨qE,hE⟩ : ∃ q,stN qC.2 4 = q := ⟨_,rfl⟩
 have hbad := readListM_bad l
 rw [h0] at hbad
 have HQ0 := hid h0
 have HF : Hid (tkF (openP key 2 z) = qF) := by show _ = _; rw [tkF,hl,h0,hF]
 have HK : Hid (tkK (openP key 2 z) = qK) := by show _ = _; rw [tkK,HF.out,hK]
 have HC : Hid (tkC (openP key 2 z) = qC) := by show _ = _; rw [tkC,HK.out,hC]
 have HNN : Hid (∀ j,tkN (openP key 2 z) j = N j) := fun j => by rw [tkN,HC.out,hN]
 have HE : Hid (tkE (openP key 2 z) = qE) := by show _ = _; rw [tkE,HC.out,hE]
 have HQ := hid (And.intro hF (And.intro hK (And.intro hC (And.intro hN hE))))
 clear hF hK hC hN hE
 rw [hl] at HO
 have HR := hid hR
 clear hR hn hcap hz hsep G0 hl h0
 go_enter Tryz.func143,Tryz.ntmps143
 go_wp2_with fail
 refine HO.out.mono ?_
 rintro e w1 ⟨a,c,rfl,p1,p2,p3,p4,p5,p6⟩
 have hb : Bs (a,l) (.slice a l.length c) l := Bs.self (S := (a,l)) p1 p2 p3
 have HX := hid (And.intro p5 (And.intro p4 p6))
 have HRL := hid (readList_any (a,l) l l.length a c w1 (hid rfl) p4 hb)
 rw [HQ0.out] at HRL
 clear p1 p2 p3 p4 p5 p6 hb HO
 go_wp2_with fail
 refine HRL.out.mono ?_
 rintro e w2 ⟨v,rfl,b2,g2⟩
 obtain ⟨a2,c2,rfl,_⟩ := id b2
 have rs1 : RS w (w2.alloc (.cells #[.slice a2 q0.1.length c2,.bool q0.2] 197)) (Pl.has p) (a,l) w2.heap.size q0 w.heap.size #[.int .i64 0,.int .u64 0,.string ⟨#[]⟩,.int .i64 0,.int .i64 0,.int .i64 0,.int .i64 0] := RS.open HR.out HX.out.1 HX.out.2.1 HX.out.2.2 g2 b2 hbad
 have pl := rs1.places [0] (fun j hj => by show j < 7; simp at hj; omega) (by decide) 202
 rw [World.size_alloc] at pl
 have ra := rs1.alloc (.cells #[.pointer (some ⟨w.heap.size,0,none⟩)] 202)
 have HT0 := hid (takeNumbers_s (a,l) w2.heap.size _ _ 1 q0 _ (hid rfl) (by omega) (ra.stays [0]) ra.rd pl)
 have hst : stN q0 1 = qF.2 := congrArg Prod.snd HQ.out.1
 rw [hst] at HT0
 have HF1 : Hid ((stepN (stN q0 0)).1 = qF.1) := congrArg Prod.fst HQ.out.1
 have H0 := hid ra
 clear b2 g2 HRL hbad rs1 HX HR pl ra hst
 go_wp2_with fail
 refine HT0.out.mono ?_
 rintro e w3 ⟨rfl,rw3,cw3,fw3⟩
 have rs3 : RS w w3 (Pl.has p) (a,l) w2.heap.size qF.2 w.heap.size #[.int .i64 qF.1,.int .u64 0,.string ⟨#[]⟩,.int .i64 0,.int .i64 0,.int .i64 0,.int .i64 0] := by
  refine H0.out.nums fw3 rw3 (fun p hp => ?_) rfl (fun j hj => ?_)
  ·obtain ⟨j,_,rfl⟩ := List.mem_map.1 hp
   rfl
  ·have hj' : j < 7 := hj
   match j,hj' with
   | 0,_ => rw [← HF1.out]; exact cw3 0 (w.heap.size,0) rfl
   | 1,_ => exact fw3.cell (H0.out.blk.cell 1) (fun e => by rcases e with e | e; exact H0.out.ne e; simp at e)
   | 2,_ => exact fw3.cell (H0.out.blk.cell 2) (fun e => by rcases e with e | e; exact H0.out.ne e; simp at e)
   | 3,_ => exact fw3.cell (H0.out.blk.cell 3) (fun e => by rcases e with e | e; exact H0.out.ne e; simp at e)
   | 4,_ => exact fw3.cell (H0.out.blk.cell 4) (fun e => by rcases e with e | e; exact H0.out.ne e; simp at e)
   | 5,_ => exact fw3.cell (H0.out.blk.cell 5) (fun e => by rcases e with e | e; exact H0.out.ne e; simp at e)
   | 6,_ => exact fw3.cell (H0.out.blk.cell 6) (fun e => by rcases e with e | e; exact H0.out.ne e; simp at e)
 have HT4 := hid (takeKey_s (a,l) w2.heap.size qF.2 _ rs3.src rs3.ng rs3.rd)
 rw [HQ.out.2.1] at HT4
 have H4 := hid rs3
 clear rw3 cw3 fw3 rs3 HT0 H0
 go_wp2_with fail
 refine HT4.out.mono ?_
 rintro e w4 ⟨rfl,r4,f4⟩
 have rs4 : RS w w4 (Pl.has p) (a,l) w2.heap.size qK.2 w.heap.size #[.int .i64 qF.1,.int .u64 0,.string ⟨#[]⟩,.int .i64 0,.int .i64 0,.int .i64 0,.int .i64 0] := H4.out.read f4 r4
 obtain ⟨⟨d4,hd4⟩,hz4⟩ := rs4.slot 1 (by show 1 < 7; decide)
 have rs4' : RS w (w4.setCell ⟨w.heap.size,1,none⟩ (.int .u64 (qK.1.toNat : Int))) (Pl.has p) (a,l) w2.heap.size qK.2 w.heap.size #[.int .i64 qF.1,.int .u64 (qK.1.toNat : Int),.string ⟨#[]⟩,.int .i64 0,.int .i64 0,.int .i64 0,.int .i64 0] := rs4.store 1 _
 have HT5 := hid (takeName_s (a,l) w2.heap.size qK.2 _ rs4'.src rs4'.ng rs4'.rd)
 rw [HQ.out.2.2.1] at HT5
 have H5 := hid rs4'
 clear r4 f4 rs4 rs4' HT4 H4
 go_wp2_with fail
 refine HT5.out.mono ?_
 rintro e w6 ⟨rfl,r6,f6⟩
 have rs6 : RS w w6 (Pl.has p) (a,l) w2.heap.size qC.2 w.heap.size #[.int .i64 qF.1,.int .u64 (qK.1.toNat : Int),.string ⟨#[]⟩,.int .i64 0,.int .i64 0,.int .i64 0,.int .i64 0] := H5.out.read f6 r6
 obtain ⟨⟨d6,hd6⟩,hz6⟩ := rs6.slot 2 (by show 2 < 7; decide)
 have rs6' : RS w (w6.setCell ⟨w.heap.size,2,none⟩ (.string ⟨qC.1.toArray⟩)) (Pl.has p) (a,l) w2.heap.size qC.2 w.heap.size #[.int .i64 qF.1,.int .u64 (qK.1.toNat : Int),.string ⟨qC.1.toArray⟩,.int .i64 0,.int .i64 0,.int .i64 0,.int .i64 0] := rs6.store 2 _
 have pl := rs6'.places [3,4,5,6] (fun j hj => by show j < 7; simp at hj; omega) (by decide) 202
 rw [World.size_setCell] at pl
 have ra := rs6'.alloc (.cells #[.pointer (some ⟨w.heap.size,3,none⟩),.pointer (some ⟨w.heap.size,4,none⟩),.pointer (some ⟨w.heap.size,5,none⟩),.pointer (some ⟨w.heap.size,6,none⟩)] 202)
 have HT6 := hid (takeNumbers_s (a,l) w2.heap.size _ _ 4 qC.2 _ (hid rfl) (by omega) (ra.stays [3,4,5,6]) ra.rd pl)
 simp only [HQ.out.2.2.2.1] at HT6
 rw [HQ.out.2.2.2.2] at HT6
 have H6 := hid ra
 clear r6 f6 rs6 rs6' HT5 H5 pl ra hd4 hz4
 go_wp2_with fail
 refine HT6.out.mono ?_
 rintro e w7 ⟨rfl,rw7,cw7,fw7⟩
 have rs7 : RS w w7 (Pl.has p) (a,l) w2.heap.size qE w.heap.size #[.int .i64 qF.1,.int .u64 (qK.1.toNat : Int),.string ⟨qC.1.toArray⟩,.int .i64 (N 0),.int .i64 (N 1),.int .i64 (N 2),.int .i64 (N 3)] := by
  refine H6.out.nums fw7 rw7 (fun p hp => ?_) rfl (fun j hj => ?_)
  ·obtain ⟨j,_,rfl⟩ := List.mem_map.1 hp
   rfl
  ·have hj' : j < 7 := hj
   match j,hj' with
   | 0,_ => exact fw7.cell (H6.out.blk.cell 0) (fun e => by rcases e with e | e; exact H6.out.ne e; simp at e)
   | 1,_ => exact fw7.cell (H6.out.blk.cell 1) (fun e => by rcases e with e | e; exact H6.out.ne e; simp at e)
   | 2,_ => exact fw7.cell (H6.out.blk.cell 2) (fun e => by rcases e with e | e; exact H6.out.ne e; simp at e)
   | 3,_ => exact cw7 0 (w.heap.size,3) rfl
   | 4,_ => exact cw7 1 (w.heap.size,4) rfl
   | 5,_ => exact cw7 2 (w.heap.size,5) rfl
   | 6,_ => exact cw7 3 (w.heap.size,6) rfl
 clear rw7 cw7 fw7 HT6 H6 hd6 hz6
 obtain ⟨x0,x1,x2,x3,x4,x5,x6⟩ := rs7.blk.all7
 have z0 := rs7.blk.frozen 0
 have z1 := rs7.blk.frozen 1
 have z2 := rs7.blk.frozen 2
 have z3 := rs7.blk.frozen 3
 have z4 := rs7.blk.frozen 4
 have z5 := rs7.blk.frozen 5
 have z6 := rs7.blk.frozen 6
 have rX := (rs7.drewN 1).set7 (.int .i64 qF.1) (.int .u64 (qK.1.toNat : Int)) (.string ⟨qC.1.toArray⟩) (.int .i64 (N 0)) (.int .i64 (N 1)) (.int .i64 (N 2)) (.int .i64 (N 3))
 unfold set7 at rX
 have HY := hid rX.blk.all7
 have HRX := hid rX
 have HD1 := hid (done_any (a,l) w2.heap.size _ _ (w7.drewN 1) (rs7.rd.drewN 1))
 have HD2 := hid (done_any (a,l) w2.heap.size _ _ _ rX.rd)
 obtain ⟨dn,HDn⟩ : ∃ dn,Hid ((!qE.2 && decide (qE.1 = [])) = dn) := ⟨_,hid rfl⟩
 rw [HDn.out] at HD1 HD2
 clear rX rs7
 go_wp2_with fail
 go_region_held3 (fun w' => w'.cell? ⟨w.heap.size,0,none⟩ = some (.int .i64 qF.1) ∧ w'.cell? ⟨w.heap.size,1,none⟩ = some (.int .u64 (qK.1.toNat : Int)) ∧ w'.cell? ⟨w.heap.size,2,none⟩ = some (.string ⟨qC.1.toArray⟩) ∧ w'.cell? ⟨w.heap.size,3,none⟩ = some (.int .i64 (N 0)) ∧ w'.cell? ⟨w.heap.size,4,none⟩ = some (.int .i64 (N 1)) ∧ w'.cell? ⟨w.heap.size,5,none⟩ = some (.int .i64 (N 2)) ∧ w'.cell? ⟨w.heap.size,6,none⟩ = some (.int .i64 (N 3))) (first | go_keep | exact HY.out) (first | (go_at_call 92; refine HD1.out.mono ?_; rintro e w9 ⟨rfl,rfl⟩) | (go_at_call 92; refine HD2.out.mono ?_; rintro e w9 ⟨rfl,rfl⟩))
 go_wp2
 exact bodyPost_ret (results_celltmp Tryz.results143 _ _ _ w.heap.size rfl _ HRX.out.load7) rfl ⟨by rw [HF.out,HK.out,HC.out,HNN.out,HNN.out,HNN.out,HNN.out,HE.out,doneB,HDn.out]; rfl,HRX.out.cf⟩
end Go.Proofs.YtpijkgbafjccaaaGreatDoor
namespace Go.Proofs.YtpijkgbafjccaaaGreatDoor
open Go.RowKit
set_option maxRecDepth 100000
theorem cut_short2 {l i r : List UInt8} {t : UInt8} (h : Box.cut l = some (t,i,r)) (hi : i.length < 128) : l.length = i.length + r.length + 2 := by
 unfold Box.cut at h
 split at h
 ·cases h
 ·rename_i hl
  have hd : (l.drop 1).length = l.length - 1 := List.length_drop
  cases hc : Box.cutLen (l.drop 1) with
  | none => rw [hc] at h; cases h
  | some q =>
   obtain ⟨n,r'⟩ := q
   rw [hc] at h
   simp only at h
   split at h
   ·rename_i hn
    injection h with h
    injection h with _ h
    injection h with h1 h2
    have e1 : i.length = n := by rw [← h1,List.length_take]; omega
    have e2 : r.length = r'.length - n := by rw [← h2,List.length_drop]
    unfold Box.cutLen at hc
    split at hc
    ·rename_i hq
     injection hc with hc
     injection hc with _ hc
     have e3 : r'.length = l.length - 1 - 1 := by rw [← hc,List.length_drop,hd]
     have : 1 ≤ (l.drop 1).length := hq.1
     omega
    ·split at hc
     ·split at hc
      ·injection hc with hc
       injection hc with hc _
       omega
      ·cases hc
     ·split at hc
      ·split at hc
       ·injection hc with hc
        injection hc with hc _
        omega
       ·cases hc
      ·cases hc
   ·cases h
theorem take_len {due : Nat} {s : List UInt8 × Bool} (h : (takeM due s.1 s.2).2.2 = false) (hi : (takeM due s.1 s.2).1.length < 128) : s.2 = false ∧ s.1.length = (takeM due s.1 s.2).1.length + (takeM due s.1 s.2).2.1.length + 2 := by
 revert h hi
 unfold takeM
 cases hc : Box.cut s.1 with
 | none => intro h; cases h
 | some q =>
  obtain ⟨t,i,r⟩ := q
  simp only
  split
  ·intro h hi
   exact ⟨h,cut_short2 hc hi⟩
  ·intro h; cases h
theorem num_len {i : List UInt8} {v : Int} (h : Box.num i = some v) : i.length ≤ 8 := by
 unfold Box.num at h
 split at h
 ·rename_i q; exact q.2.1
 ·cases h
theorem step_len {s : List UInt8 × Bool} (h : (stepN s).2.2 = false) : s.2 = false ∧ s.1.length ≤ (stepN s).2.1.length + 10 := by
 revert h
 unfold stepN
 cases hn : Box.num (takeM 2 s.1 s.2).1 with
 | none => intro h; cases h
 | some v =>
  intro h
  have := num_len hn
  obtain ⟨h1,h2⟩ := take_len h (by omega)
  exact ⟨h1,by show _ ≤ (takeM 2 s.1 s.2).2.1.length + 10; omega⟩
theorem isName_len {l : List UInt8} (h : isNameL l = true) : l.length ≤ 16 := by
 unfold isNameL at h
 simp at h
 omega
theorem name_len {s : List UInt8 × Bool} (h : (nameM s).2.2 = false) : s.2 = false ∧ s.1.length ≤ (nameM s).2.1.length + 18 := by
 revert h
 unfold nameM
 simp only
 split
 ·rename_i hb
  intro h
  have := isName_len hb
  obtain ⟨h1,h2⟩ := take_len h (by omega)
  exact ⟨h1,by omega⟩
 ·intro h; cases h
theorem key_len {s : List UInt8 × Bool} (h : (keyM s).2.2 = false) : s.2 = false ∧ s.1.length ≤ (keyM s).2.1.length + 10 := by
 revert h
 unfold keyM
 simp only
 split
 ·rename_i hb
  intro h
  obtain ⟨h1,h2⟩ := take_len h (by omega)
  exact ⟨h1,by omega⟩
 ·intro h; cases h
theorem read_len {l : List UInt8} (h : (readListM l).2 = false) (hi : (readListM l).1.length < 128) : l.length = (readListM l).1.length + 2 := by
 revert h hi
 unfold readListM
 split
 ·rename_i q
  intro _ hi
  have := (take_len (s := (l,false)) q.1 hi).2
  rw [q.2] at this
  simpa using this
 ·intro h; cases h
theorem st_key {β : Type} {s : List UInt8 × Bool} (h : Bad s) (k : UInt64 → List UInt8 → Option β) : (st s).bind (nextS pKey k) = (st (keyM s).2).bind (k (keyM s).1) := by
 obtain ⟨l,f⟩ := s
 cases f
 ·cases hc : Box.cut l with
  | none =>
   have ht : takeM 4 l false = ([],[],true) := by rw [takeM,hc]
   simp [st,nextS,hc,keyM,ht]
  | some q =>
   obtain ⟨t,i,r⟩ := q
   by_cases e : t.toNat = 4
   ·have ht : takeM 4 l false = (i,r,false) := by rw [takeM,hc]; simp only [e,if_true]
    by_cases hb : i.length = 8 <;> simp [st,nextS,hc,keyM,ht,pKey,e,hb]
   ·have ht : takeM 4 l false = ([],[],true) := by rw [takeM,hc]; simp only [e,if_false]
    simp [st,nextS,hc,keyM,ht,pKey,e]
 ·have hl : l = [] := h rfl
  subst hl
  simp [st,keyM,takeM_nil]
theorem Bad.key {s : List UInt8 × Bool} (h : Bad s) : Bad (keyM s).2 := by
 unfold keyM
 simp only
 split
 ·exact h.take 4
 ·exact fun _ => rfl
theorem openP_short {key use : UInt64} {z : List UInt8} (h : z.length ≤ 216) : openP key use z = (openL key use z).getD [] := by
 unfold openP openL
 by_cases e : 16 ≤ z.length ∧ Pure.opens key use z = true
 ·rw [if_pos ⟨e.1,h,e.2⟩,if_pos e]; rfl
 ·rw [if_neg (fun q => e ⟨q.1,q.2.2⟩),if_neg e]; rfl
theorem open_same {α : Type} (f : List UInt8 → Option α) (key use : UInt64) (z : List UInt8) (h0 : f [] = none) (hl : ∀ l a,f l = some a → l.length ≤ 200) : (openL key use z).bind f = f (openP key use z) := by
 by_cases h : z.length ≤ 216
 ·rw [openP_short h]
  cases ho : openL key use z with
  | none => exact h0.symm
  | some l => rfl
 ·have e : openP key use z = [] := by rw [openP,if_neg (fun q => h q.2.1)]
  rw [e,h0]
  cases ho : openL key use z with
  | none => rfl
  | some l =>
   have hlen : l.length = z.length - 16 := by
    unfold openL at ho
    split at ho
    ·injection ho with ho
     rw [← ho,Pure.plainOf_length]
    ·cases ho
   cases hf : f l with
   | none => simpa using hf
   | some a => have := hl l a hf; omega
def timeS : List UInt8 → Option Int := nextS pNum fun t => endS t
theorem time_is (l : List UInt8) : timeIn l = timeS l := by
 unfold timeIn timeS nextS
 cases hc : Box.cut l with
 | none => rfl
 | some q =>
  obtain ⟨t,i,r⟩ := q
  cases r with
  | nil => cases hn : pNum (t,i) <;> simp [hn,endS]
  | cons x r => cases hn : pNum (t,i) <;> simp [hn,endS]
theorem time_read (l : List UInt8) : timeIn l = if doneB (stepN (l,false)).2 = true then some (stepN (l,false)).1 else none := by
 rw [time_is]
 have : timeS l = (st (l,false)).bind timeS := rfl
 rw [this,timeS,st_num (s := (l,false)) (fun e => by cases e),st_end]
 rfl
theorem done_ok {s : List UInt8 × Bool} (h : doneB s = true) : s.2 = false ∧ s.1 = [] := by
 unfold doneB at h
 simpa using h
theorem pre_same (key : UInt64) (z : List UInt8) : (openL key 1 z).bind timeIn = if doneB (stepN (openP key 1 z,false)).2 = true then some (stepN (openP key 1 z,false)).1 else none := by
 rw [open_same timeIn key 1 z (by rw [time_read]; rfl) (fun l a h => ?_),time_read]
 rw [time_read] at h
 split at h
 ·rename_i hd
  obtain ⟨h1,h2⟩ := done_ok hd
  have := (step_len h1).2
  rw [h2] at this
  simp at this
  omega
 ·cases h
def proofR : List UInt8 → Option PF := nextS pName fun c => nextS pNum fun t => nextS pNum fun n => endS ⟨c,t,n⟩
theorem proofR_eq (l : List UInt8) : proofR l = (Box.cutsL l).bind proofInP :=
 nextS_eq _ _ _ (fun c l => nextS_eq _ _ _ (fun t l => nextS_eq _ _ _ (fun n l => endS_eq (⟨c,t,n⟩ : PF) l) l) l) l
theorem proof_core {q0 s0 s1 s2 : List UInt8 × Bool} {a : List UInt8} {n0 n1 : Int} (h0 : Bad q0) (hA : nameM q0 = (a,s0)) (e0 : stepN s0 = (n0,s1)) (e1 : stepN s1 = (n1,s2)) :
  (st q0).bind proofR = (if doneB s2 = true then some ⟨a,n0,n1⟩ else none) ∧ (doneB s2 = true → q0.2 = false ∧ q0.1.length ≤ 38) := by
 have b0 : Bad s0 := by have := h0.name; rw [hA] at this; exact this
 have b1 : Bad s1 := by have := b0.step; rw [e0] at this; exact this
 refine ⟨?_,fun h => ?_⟩
 ·unfold proofR
  rw [st_name h0,hA,st_num b0,e0,st_num b1,e1,st_end]
  rfl
 ·obtain ⟨h1,h2⟩ := done_ok h
  have l1 := step_len (s := s1) (by rw [e1]; exact h1)
  have l0 := step_len (s := s0) (by rw [e0]; exact l1.1)
  have la := name_len (s := q0) (by rw [hA]; exact l0.1)
  rw [e1] at l1
  rw [e0] at l0
  rw [hA] at la
  have l1' := l1.2
  have l0' := l0.2
  have la' := la.2
  simp only [h2,List.length_nil] at l1' l0' la'
  exact ⟨la.1,by omega⟩
def pfQ (l : List UInt8) : PF := ⟨(pfA l).1,pfN l 0,pfN l 1⟩
theorem proof_read (l : List UInt8) : proofIn l = (if doneB (pfE l) = true then some (pfQ l) else none) ∧ (doneB (pfE l) = true → l.length ≤ 200) := by
 have e0 : proofIn l = (st (readListM l)).bind proofR := by
  unfold proofIn
  rw [st_read,Option.bind_assoc]
  congr 1
  funext i
  exact (proofR_eq i).symm
 have hA : nameM (readListM l) = pfA l := rfl
 have hN0 : stepN (pfA l).2 = (pfN l 0,stN (pfA l).2 1) := nums_zero _
 have hN1 : stepN (stN (pfA l).2 1) = (pfN l 1,stN (pfA l).2 2) := nums_eq _ 1
 have hE : pfE l = stN (pfA l).2 2 := rfl
 have hQ : pfQ l = ⟨(pfA l).1,pfN l 0,pfN l 1⟩ := rfl
 have bb := readList_Bad l
 have hlen := fun (h : (readListM l).2 = false) (hi : (readListM l).1.length < 128) => read_len h hi
 rw [e0]
 clear e0
 generalize pfQ l = Q at *
 generalize pfE l = E at *
 generalize stN (pfA l).2 1 = s1 at *
 generalize stN (pfA l).2 2 = s2 at *
 generalize pfN l 0 = n0 at *
 generalize pfN l 1 = n1 at *
 generalize pfA l = qA at *
 generalize readListM l = q0 at *
 obtain ⟨a,s0⟩ := qA
 obtain ⟨c1,c2⟩ := proof_core bb hA hN0 hN1
 rw [c1,hQ,hE]
 refine ⟨rfl,fun h => ?_⟩
 obtain ⟨d1,d2⟩ := c2 h
 have := hlen d1 (by omega)
 omega
theorem proof_same (key : UInt64) (z : List UInt8) : (openL key 4 z).bind proofIn = if doneB (pfE (openP key 4 z)) = true then some (pfQ (openP key 4 z)) else none := by
 have hnil : proofIn [] = none := by
  rw [proofIn,st_read]
  have : readListM [] = ([],true) := by rw [readListM,takeM_nil]; rfl
  rw [this]
  rfl
 rw [open_same proofIn key 4 z hnil (fun l a h => ?_),(proof_read _).1]
 have := (proof_read l).1
 rw [h] at this
 by_cases hd : doneB (pfE l) = true
 ·exact (proof_read l).2 hd
 ·rw [if_neg hd] at this; cases this
end Go.Proofs.YtpijkgbafjccaaaGreatDoor
namespace Go.Proofs.YtpijkgbafjccaaaGreatDoor
open Go.RowKit
set_option maxRecDepth 100000
def ticketR : List UInt8 → Option TK := nextS pNum fun f => nextS pKey fun k => nextS pName fun c => nextS pNum fun a => nextS pNum fun s => nextS pNum fun e => nextS pNum fun r => endS ⟨f,k,c,a,s,e,r⟩
theorem ticketR_eq (l : List UInt8) : ticketR l = (Box.cutsL l).bind ticketInP :=
 nextS_eq _ _ _ (fun f l => nextS_eq _ _ _ (fun k l => nextS_eq _ _ _ (fun c l => nextS_eq _ _ _ (fun a l => nextS_eq _ _ _ (fun s l => nextS_eq _ _ _ (fun e l => nextS_eq _ _ _ (fun r l => endS_eq (⟨f,k,c,a,s,e,r⟩ : TK) l) l) l) l) l) l) l) l
theorem ticket_core {q0 sf sk s0 s1 s2 s3 s4 : List UInt8 × Bool} {fl : Int} {k : UInt64} {c : List UInt8} {n0 n1 n2 n3 : Int} (h0 : Bad q0) (hF : stepN q0 = (fl,sf)) (hK : keyM sf = (k,sk)) (hC : nameM sk = (c,s0)) (e0 : stepN s0 = (n0,s1)) (e1 : stepN s1 = (n1,s2)) (e2 : stepN s2 = (n2,s3)) (e3 : stepN s3 = (n3,s4)) :
  (st q0).bind ticketR = (if doneB s4 = true then some ⟨fl,k,c,n0,n1,n2,n3⟩ else none) ∧ (doneB s4 = true → q0.2 = false ∧ q0.1.length ≤ 100) := by
 have bf : Bad sf := by have := h0.step; rw [hF] at this; exact this
 have bk : Bad sk := by have := bf.key; rw [hK] at this; exact this
 have b0 : Bad s0 := by have := bk.name; rw [hC] at this; exact this
 have b1 : Bad s1 := by have := b0.step; rw [e0] at this; exact this
 have b2 : Bad s2 := by have := b1.step; rw [e1] at this; exact this
 have b3 : Bad s3 := by have := b2.step; rw [e2] at this; exact this
 refine ⟨?_,fun h => ?_⟩
 ·unfold ticketR
  rw [st_num h0,hF,st_key bf,hK,st_name bk,hC,st_num b0,e0,st_num b1,e1,st_num b2,e2,st_num b3,e3,st_end]
  rfl
 ·obtain ⟨h1,h2⟩ := done_ok h
  have l3 := step_len (s := s3) (by rw [e3]; exact h1)
  have l2 := step_len (s := s2) (by rw [e2]; exact l3.1)
  have l1 := step_len (s := s1) (by rw [e1]; exact l2.1)
  have l0 := step_len (s := s0) (by rw [e0]; exact l1.1)
  have lc := name_len (s := sk) (by rw [hC]; exact l0.1)
  have lk := key_len (s := sf) (by rw [hK]; exact lc.1)
  have lf := step_len (s := q0) (by rw [hF]; exact lk.1)
  rw [e3] at l3
  rw [e2] at l2
  rw [e1] at l1
  rw [e0] at l0
  rw [hC] at lc
  rw [hK] at lk
  rw [hF] at lf
  have l3' := l3.2
  have l2' := l2.2
  have l1' := l1.2
  have l0' := l0.2
  have lc' := lc.2
  have lk' := lk.2
  have lf' := lf.2
  simp only [h2,List.length_nil] at l3' l2' l1' l0' lc' lk' lf'
  exact ⟨lf.1,by omega⟩
def tkQ (l : List UInt8) : TK := ⟨(tkF l).1,(tkK l).1,(tkC l).1,tkN l 0,tkN l 1,tkN l 2,tkN l 3⟩
theorem ticket_read (l : List UInt8) : ticketIn l = (if doneB (tkE l) = true then some (tkQ l) else none) ∧ (doneB (tkE l) = true → l.length ≤ 200) := by
 have e0 : ticketIn l = (st (readListM l)).bind ticketR := by
  unfold ticketIn
  rw [st_read,Option.bind_assoc]
  congr 1
  funext i
  exact (ticketR_eq i).symm
 have hF : stepN (readListM l) = tkF l := rfl
 have hK : keyM (tkF l).2 = tkK l := rfl
 have hC : nameM (tkK l).2 = tkC l := rfl
 have hN0 : stepN (tkC l).2 = (tkN l 0,stN (tkC l).2 1) := nums_zero _
 have hN1 : stepN (stN (tkC l).2 1) = (tkN l 1,stN (tkC l).2 2) := nums_eq _ 1
 have hN2 : stepN (stN (tkC l).2 2) = (tkN l 2,stN (tkC l).2 3) := nums_eq _ 2
 have hN3 : stepN (stN (tkC l).2 3) = (tkN l 3,stN (tkC l).2 4) := nums_eq _ 3
 have hE : tkE l = stN (tkC l).2 4 := rfl
 have hQ : tkQ l = ⟨(tkF l).1,(tkK l).1,(tkC l).1,tkN l 0,tkN l 1,tkN l 2,tkN l 3⟩ := rfl
 have bb := readList_Bad l
 have hlen := fun (h : (readListM l).2 = false) (hi : (readListM l).1.length < 128) => read_len h hi
 rw [e0]
 clear e0
 generalize tkQ l = Q at *
 generalize tkE l = E at *
 generalize stN (tkC l).2 1 = s1 at *
 generalize stN (tkC l).2 2 = s2 at *
 generalize stN (tkC l).2 3 = s3 at *
 generalize stN (tkC l).2 4 = s4 at *
 generalize tkN l 0 = n0 at *
 generalize tkN l 1 = n1 at *
 generalize tkN l 2 = n2 at *
 generalize tkN l 3 = n3 at *
 generalize tkC l = qC at *
 generalize tkK l = qK at *
 generalize tkF l = qF at *
 generalize readListM l = q0 at *
 obtain ⟨fl,sf⟩ := qF
 obtain ⟨k,sk⟩ := qK
 obtain ⟨c,s0⟩ := qC
 obtain ⟨c1,c2⟩ := ticket_core bb hF hK hC hN0 hN1 hN2 hN3
 rw [c1,hQ,hE]
 refine ⟨rfl,fun h => ?_⟩
 obtain ⟨d1,d2⟩ := c2 h
 have := hlen d1 (by omega)
 omega
theorem ticket_same (key : UInt64) (z : List UInt8) : (openL key 2 z).bind ticketIn = if doneB (tkE (openP key 2 z)) = true then some (tkQ (openP key 2 z)) else none := by
 have hnil : ticketIn [] = none := by
  rw [ticketIn,st_read]
  have : readListM [] = ([],true) := by rw [readListM,takeM_nil]; rfl
  rw [this]
  rfl
 rw [open_same ticketIn key 2 z hnil (fun l a h => ?_),(ticket_read _).1]
 have := (ticket_read l).1
 rw [h] at this
 by_cases hd : doneB (tkE l) = true
 ·exact (ticket_read l).2 hd
 ·rw [if_neg hd] at this; cases this
end Go.Proofs.YtpijkgbafjccaaaGreatDoor
