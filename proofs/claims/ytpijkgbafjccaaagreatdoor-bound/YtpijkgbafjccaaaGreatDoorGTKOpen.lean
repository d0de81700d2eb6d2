/-
  
  
  
  
  
-/
import Derived.Test.YtpijkgbafjccaaaGreatDoorGTKSmall
import Derived.Test.YtpijkgbafjccaaaGreatDoorGTQNew
import Derived.Test.YtpijkgbafjccaaaGreatDoorGTKCameB
import Derived.Test.YtpijkgbafjccaaaGreatDoorGTKTick
namespace Go.Proofs.YtpijkgbafjccaaaGreatDoor
open Go.RowKit
set_option maxRecDepth 100000
theorem Tryz.sizeKDesk : (Tryz.prog.info? 25).map (·.size) = some 2 := by kernel_rfl
theorem put2 {w : World} {g : Nat} {c0 c1 : Value} (h : Blk w g #[c0,c1]) (v0 v1 : Value) : Blk ((w.setCell ⟨g,0,none⟩ v0).setCell ⟨g,1,none⟩ v1) g #[v0,v1] := by
 simpa using (h.set 0 v0).set 1 v1
theorem cf2K (w1 : World) (b : Nat) (x y : Value) : CF w1 ((w1.setCell ⟨b,0,none⟩ x).setCell ⟨b,1,none⟩ y) (fun g _ => g = b) := CF.setCell (CF.setCell (CF.of_gb (World.grownBy.refl w1 none) (fun g _ => g = b)) b 0 x (fun _ => rfl)) b 1 y (fun _ => rfl)
theorem fresh_ne {n : Nat} {dp : Option Pl} (h : Pl.fresh (n + 1) dp) : ∀ p,dp = some p → p.g ≠ n := fun p hp e => by
 have h2 := h p hp
 omega
theorem fresh_le {n : Nat} {dp : Option Pl} (h : Pl.fresh (n + 1) dp) : Pl.fresh n dp := fun p hp => by
 have h2 := h p hp
 omega
set_option maxHeartbeats 2000000 in
theorem kopen_ok (q : Bool) (skew : Int) (av : Option Addr) (nv cv n : Nat) (bs : List UInt8) (w : World) (h0 : 0 ≤ skew) (h1 : skew ≤ 300) (C : ∀ w1,w.grownBy w1 none → Calls Tryz.prog 58 #[.slice av nv cv] w1 fun e w' => ∃ ao c,e = .returned (.agg #[.slice ao n c]) ∧ w'.ownsRow w1.heap.size 5 1 (.slice ao n c) n (bs.map U8) ∧ w1.grownBy w' none) :
  Calls Tryz.prog 14 #[.bool q,.int .i64 skew,.slice av nv cv] w fun e w' => ∃ g dp,e = .returned (.tuple #[.agg (deskV q g),.bool true]) ∧ DeskIs q w' g dp ⟨skew,[],[],bs⟩ ∧ w.heap.size ≤ g ∧ Pl.fresh w.heap.size dp ∧ (∀ p,dp = some p → p.g ≠ g) ∧ w.grownBy w' none := by
 have G0 := World.grownBy_alloc w (.cells #[.pointer none,.pointer none] 25) none
 have HB := hid (Blk.new w #[.pointer none,.pointer none] 25)
 cases q with
 | true =>
  have HN := hid (newQuick_ok skew (.slice av nv cv) n bs _ h0 h1 (fun w1 k => C w1 (gb_trans G0 k)))
  have HG0 := hid G0
  clear C G0 h0 h1
  go_enter Tryz.func14,Tryz.ntmps14
  go_wp2_with fail
  refine HN.out.mono ?_
  rintro e w1 ⟨b,dp,rfl,hD,hb,hf,hne,g1⟩
  rw [World.size_alloc] at hb hf
  have HD := hid (And.intro hD (And.intro hb (And.intro hf (And.intro hne g1))))
  have HR := hid (HB.out.grown g1 (by simp))
  obtain ⟨q0,q1⟩ := HR.out.two
  have f0 := HR.out.frozen 0
  have f1 := HR.out.frozen 1
  clear hD hb hf hne g1 HN
  go_wp2
  obtain ⟨hD,hb,hf,hne,g1⟩ := HD.out
  refine bodyPost_ret (results_celltmp Tryz.results14 _ _ _ w.heap.size rfl _ (Blk.load (put2 HR.out _ _) 25 _ Tryz.underlying25 rfl Tryz.sizeKDesk)) rfl ⟨b,dp,rfl,?_,by omega,fresh_le hf,hne,gb_store (gb_store (gb_trans HG0.out g1) (Nat.le_refl _)) (Nat.le_refl _)⟩
  refine DeskIs.cf (q := true) (ex := fun b _ => b = w.heap.size) hD (cf2K w1 w.heap.size _ _) (fun _ e => ?_) (fun p hp _ e => fresh_ne hf p hp e)
  omega
 | false =>
  have HN := hid (newPlain_ok skew (.slice av nv cv) n bs _ h0 h1 (fun w1 k => C w1 (gb_trans G0 k)))
  have HG0 := hid G0
  clear C G0 h0 h1
  go_enter Tryz.func14,Tryz.ntmps14
  go_wp2_with fail
  refine HN.out.mono ?_
  rintro e w1 ⟨b,dp,rfl,hD,hb,hf,hne,g1⟩
  rw [World.size_alloc] at hb hf
  have HD := hid (And.intro hD (And.intro hb (And.intro hf (And.intro hne g1))))
  have HR := hid (HB.out.grown g1 (by simp))
  obtain ⟨q0,q1⟩ := HR.out.two
  have f0 := HR.out.frozen 0
  have f1 := HR.out.frozen 1
  clear hD hb hf hne g1 HN
  go_wp2
  obtain ⟨hD,hb,hf,hne,g1⟩ := HD.out
  refine bodyPost_ret (results_celltmp Tryz.results14 _ _ _ w.heap.size rfl _ (Blk.load (put2 HR.out _ _) 25 _ Tryz.underlying25 rfl Tryz.sizeKDesk)) rfl ⟨b,dp,rfl,?_,by omega,fresh_le hf,hne,gb_store (gb_store (gb_trans HG0.out g1) (Nat.le_refl _)) (Nat.le_refl _)⟩
  refine DeskIs.cf (q := false) (ex := fun b _ => b = w.heap.size) hD (cf2K w1 w.heap.size _ _) (fun _ e => ?_) (fun p hp _ e => fresh_ne hf p hp e)
  omega
end Go.Proofs.YtpijkgbafjccaaaGreatDoor
namespace Go.Proofs.YtpijkgbafjccaaaGreatDoor
open Go.RowKit
set_option maxRecDepth 100000
def FR (lo hi : Nat) (w w' : World) : Prop := CF w w' (fun b _ => lo ≤ b ∧ b < hi)
theorem FR.gb {lo hi : Nat} {w w' : World} (k : w.grownBy w' none) : FR lo hi w w' := CF.of_gb k _
theorem FR.refl (lo hi : Nat) (w : World) : FR lo hi w w := FR.gb (World.grownBy.refl w none)
theorem FR.trans {lo hi : Nat} {a b c : World} (h : FR lo hi a b) (k : FR lo hi b c) : FR lo hi a c := CF.trans h k (fun _ _ _ e => e)
theorem FR.drew {lo hi : Nat} {a b : World} (h : FR lo hi a b) : FR lo hi a b.drew := CF.drew h
theorem FR.size {lo hi : Nat} {a b : World} (h : FR lo hi a b) : a.heap.size ≤ b.heap.size := CF.size h
theorem Blk.fr {lo hi g : Nat} {w w' : World} {cs : Array Value} (h : Blk w g cs) (k : FR lo hi w w') (hg : g < lo ∨ hi ≤ g) : Blk w' g cs := h.kept (CF.block k g h.lt (fun _ e => by omega))
theorem FR.below {lo hi n : Nat} {w0 w w' : World} (h : Below n w0 w) (k : FR lo hi w w') (hn : n ≤ lo) (hs : n ≤ w.heap.size) : Below n w0 w' := h.trans (CF.below k hs (fun b _ hb e => by omega))
def KX (lo hi : Nat) (w : World) (v : Value) (zs : List UInt8) : Prop := KH w v zs ∧ ∀ b off n c,v = .slice (some ⟨b,off,none⟩) n c → b < lo ∨ hi ≤ b
theorem KX.fr {lo hi : Nat} {w w' : World} {v : Value} {zs : List UInt8} (h : KX lo hi w v zs) (k : FR lo hi w w') : KX lo hi w' v zs := by
 obtain ⟨ao,cap,hv⟩ := h.1.shape
 subst hv
 refine ⟨KH.cfK h.1 k (fun b off e ⟨o,ho⟩ => ?_),h.2⟩
 have := h.2 b off _ _ (by rw [e])
 omega
theorem KX.cf {lo hi : Nat} {w w' : World} {ex : Nat → Nat → Prop} {v : Value} {zs : List UInt8} (h : KX lo hi w v zs) (k : CF w w' ex) (hx : ∀ b off n c,v = .slice (some ⟨b,off,none⟩) n c → ∀ o,¬ ex b o) : KX lo hi w' v zs := by
 obtain ⟨ao,cap,hv⟩ := h.1.shape
 subst hv
 exact ⟨KH.cfK h.1 k (fun b off e ⟨o,ho⟩ => hx b off _ _ (by rw [e]) o ho),h.2⟩
theorem Blk.cfo {w w' : World} {ex : Nat → Nat → Prop} {g : Nat} {cs : Array Value} (h : Blk w g cs) (k : CF w w' ex) (hx : ∀ o,¬ ex g o) : Blk w' g cs := h.kept (k.block g h.lt hx)
theorem KMade.place {n : Nat} {w : World} {o : Value} {z : List UInt8} (h : KMade n w o z) (b off m c : Nat) (e : o = .slice (some ⟨b,off,none⟩) m c) : n ≤ b ∧ b < w.heap.size := by
 rcases h.2 with ⟨hv,_⟩ | ⟨g,cap,cur,hv,hb,hg,_⟩
 ·rw [hv] at e; cases e
 ·rw [hv] at e
  injection e with e1 e2 e3
  injection e1 with e1
  injection e1 with e1
  subst e1
  exact ⟨hb,(Array.getElem?_eq_some_iff.1 hg).1⟩
theorem KX.out {lo hi n : Nat} {w : World} {v : Value} {p : Option Pl} {zs : List UInt8} (h : Out w v p zs) (hf : Pl.fresh n p) (hn : hi ≤ n) : KX lo hi w v zs := by
 refine ⟨KH.out h,fun b off m c e => ?_⟩
 rcases h with ⟨_,hv,_⟩ | ⟨q,hq,hv,_⟩
 ·rw [hv] at e; cases e
 ·rw [hv] at e
  injection e with e1 e2 e3
  injection e1 with e1
  injection e1 with e1
  have := hf q hq
  omega
theorem KX.made {lo hi n : Nat} {w : World} {v : Value} {zs : List UInt8} (h : KMade n w v zs) (hn : hi ≤ n) : KX lo hi w v zs := by
 obtain ⟨p,ho,hf⟩ := Out.own h
 exact KX.out ho hf hn
theorem KMade.base {n n' : Nat} {w : World} {o : Value} {z : List UInt8} (h : KMade n w o z) (hb : n' ≤ n) : KMade n' w o z := own_base h hb
def KS (q : Bool) (lo hi : Nat) (w : World) (g : Nat) (M : DM) : Prop := lo ≤ g ∧ g < hi ∧ ∃ dp,DeskIs q w g dp M ∧ ∀ p,dp = some p → p.g ≠ g ∧ lo ≤ p.g ∧ p.g < hi
theorem KS.gb {q : Bool} {lo hi g : Nat} {w w' : World} {M : DM} (h : KS q lo hi w g M) (k : w.grownBy w' none) : KS q lo hi w' g M := by
 obtain ⟨h1,h2,dp,h3,h4⟩ := h
 exact ⟨h1,h2,dp,h3.grown k,h4⟩
theorem KS.cf {q : Bool} {lo hi g : Nat} {w w' : World} {M : DM} {ex : Nat → Nat → Prop} (h : KS q lo hi w g M) (k : CF w w' ex) (hx : ∀ b y,ex b y → b < lo ∨ hi ≤ b) : KS q lo hi w' g M := by
 obtain ⟨h1,h2,dp,h3,h4⟩ := h
 refine ⟨h1,h2,dp,h3.cf k (fun y e => ?_) (fun p hp y e => ?_),h4⟩
 ·have := hx _ _ e; omega
 ·have := hx _ _ e; have := h4 p hp; omega
structure MOk (M : DM) : Prop where
 ins : ∀ e ∈ M.book,e.In
 sorted : M.book.Pairwise (fun x y => Op.bytesLess x.name y.name = true)
 skew : In64 M.skew
 times : ∀ y ∈ M.proofs,In64 y.time
theorem kans_any (q : Bool) (lo hi g : Nat) (M M' : DM) (now : Int) (req rep : List UInt8) (v : Value) (w : World) (hA : answerM M now req = (rep,M')) (hS : KS q lo hi w g M) (hM : MOk M) (hv : KX lo hi w v req) (hl : req.length ≤ 300) (hr : rep.length ≤ 900) (hnow : In64 now) (hhi : hi ≤ w.heap.size) :
  Calls Tryz.prog 10 #[.agg (deskV q g),.int .i64 now,v] w fun e w' => ∃ a c,e = .returned (.slice a rep.length c) ∧ KX lo hi w' (.slice a rep.length c) rep ∧ KS q lo hi w' g M' ∧ FR lo hi w w' := by
 obtain ⟨h1,h2,dp,h3,h4⟩ := hS
 obtain ⟨⟨ao,cap,hv1,hv2,hv3,hv4,hv5⟩,hx⟩ := hv
 subst hv1
 have hb : Bs (ao,req) (.slice ao req.length cap) req := ⟨ao,cap,rfl,hv2,hv3,by omega,fun _ h => h⟩
 have hao : ∀ b off,ao = some ⟨b,off,none⟩ → b ≠ g := fun b off e e2 => by have := hx b off _ _ (by rw [e]); omega
 have key : ∀ (e : Ending) (w' : World),(∃ v',e = .returned v' ∧ KFin q w w' g dp v' (answerM M now req)) → ∃ a c,e = .returned (.slice a rep.length c) ∧ KX lo hi w' (.slice a rep.length c) rep ∧ KS q lo hi w' g M' ∧ FR lo hi w w' := by
  rintro e w' ⟨v',rfl,F⟩
  rw [hA] at F
  obtain ⟨a,c,hs⟩ := F.shape
  subst hs
  obtain ⟨p',o1,o2⟩ := F.out
  obtain ⟨dp',d1,d2⟩ := F.desk
  refine ⟨a,c,rfl,KX.out o1 o2 hhi,⟨h1,h2,dp',d1,fun p hp => ?_⟩,F.cf.mono (fun b _ _ e => by omega)⟩
  obtain ⟨q',hq',e⟩ := d2 p hp
  have := h4 q' hq'
  omega
 cases q with
 | false => exact (kanswer_plain g dp M now req req.length ao cap w h3 (fun q hq => (h4 q hq).1) hM.ins hM.sorted (hid rfl) hv5 hb hnow hM.skew hM.times).mono key
 | true => exact (kanswer_quick g dp M now req req.length ao cap w h3 (fun q hq => (h4 q hq).1) hM.ins hM.sorted (hid rfl) hv5 hao hb hnow hM.skew hM.times (by rw [hA]; exact hr)).mono key
theorem kadm_any (q : Bool) (lo hi g n : Nat) (M : DM) (es : List BE) (r : Int) (a : Adm) (w : World) (hA : admB M.book a = (es,r)) (hS : KS q lo hi w g M) (hok : BookOk n M.book) (hn : n ≤ 4611686018427387904) (hf0 : -9223372036854775808 ≤ a.flags) (hf1 : a.flags ≤ 9223372036854775807) (hl : a.name.length ≤ 9223372036854775807) (hk : (a.kind == 0) = false) :
  Calls Tryz.prog 8 #[.agg (deskV q g),.agg a.cells] w fun e w' => e = .returned (.int .i64 r) ∧ KS q lo hi w' g { M with book := es } ∧ FR lo hi w w' := by
 obtain ⟨h1,h2,dp,h3,h4⟩ := hS
 cases q with
 | false =>
  refine (kadmin_plain g dp M n a w h3 (fun q hq => (h4 q hq).1) hok hn hf0 hf1 hl).mono ?_
  rintro e w' ⟨rfl,d,c⟩
  rw [hA] at d ⊢
  exact ⟨rfl,⟨h1,h2,dp,d,h4⟩,c.mono (fun b _ _ e => by omega)⟩
 | true =>
  refine (kadmin_quick g dp M n a w h3 (fun q hq => (h4 q hq).1) hok hn hf0 hf1 hl hk).mono ?_
  rintro e w' ⟨rfl,d,c⟩
  rw [hA] at d ⊢
  exact ⟨rfl,⟨h1,h2,dp,d,h4⟩,c.mono (fun b _ _ e => by omega)⟩
theorem desk2 (q : Bool) (g : Nat) : ∃ p0 p1,deskV q g = #[.pointer p0,.pointer p1] := by cases q <;> exact ⟨_,_,rfl⟩
end Go.Proofs.YtpijkgbafjccaaaGreatDoor
namespace Go.Proofs.YtpijkgbafjccaaaGreatDoor
open Go.RowKit
set_option maxRecDepth 100000
set_option maxHeartbeats 1000000 in
theorem kdrawn_any (n : Nat) (seed : Int) (w : World) (hn : n ≤ 1000) :
  Calls Tryz.prog 13 #[.int .i64 (n : Int),.int .i64 seed] w fun e w' => ∃ o l,e = .returned o ∧ l.length = n ∧ KMade w.heap.size w' o l ∧ w.grownBy w' none := by
 obtain ⟨i0',hif,hz0,hz1,hz2⟩ := info_parts Tryz.info5
 go_enter Tryz.func13,Tryz.ntmps13
 go_wp2_with fail
 go_loopw [5,6,7] (fun bv xv i wr => ∃ (k : Nat) (xi : Int) (zs : List UInt8),k ≤ n ∧ i = .int .i64 (k : Int) ∧ xv = .int .u64 xi ∧ zs.length = k ∧ wr.ownsRow w.heap.size 5 1 bv k (zs.map U8) ∧ w.grownBy wr none) (fun _ _ i _ => n - (intOf i).toNat)
 case atStart =>
  exact ⟨0,_,[],Nat.zero_le _,rfl,rfl,rfl,World.ownsRow_nil _ _ _ _,World.grownBy.refl _ _⟩
 case round =>
  obtain ⟨k,xi,zs,hk,rfl,rfl,hzs,hown,hgr⟩ := hrel
  by_cases hlt : k < n
  ·have hltI : (k : Int) < (n : Int) := by omega
   obtain ⟨av,cv,rfl,_,_,hnc,hat⟩ := own_at2 hown
   obtain ⟨zj,hzj⟩ : ∃ z : UInt8,(IntKind.u64.wrap (IntKind.u64.wrap (xi * 6364136223846793005) + 1442695040888963407) / 72057594037927936 % 256) = (z.toNat : Int) := by
    generalize IntKind.u64.wrap (IntKind.u64.wrap (xi * 6364136223846793005) + 1442695040888963407) / 72057594037927936 = q
    refine ⟨UInt8.ofNat (q % 256).toNat,?_⟩
    have h1 := Int.emod_nonneg q (b := 256) (by decide)
    have h2 := Int.emod_lt_of_pos q (b := 256) (by decide)
    rw [UInt8.toNat_ofNat']
    omega
   clear hat
   go_wp2_with (at_builtin; rw [hzj]; refine wpList_append_at _ rfl _ _ 26 rfl w.heap.size 5 i0' Tryz.underlying26 hif hz0 hz1 hz2 _ _ _ rfl (hown.alloc _) (some ⟨wr.heap.size,0,none⟩) 1 1 [zj] rfl rfl ?a1 ?a2 ?a3 ?a4 ?_)
   case a1 => intro h; cases h
   case a2 => exact bytes_new wr _ _ _ rfl
   case a3 => omega
   case a4 => have h := hgr.size; simp; omega
   intro v1 w1 hown1 hg1 _
   have G1 : w.grownBy w1 none := gb_row (gb_alloc hgr _) hg1 (fun i hi => (hown.lt i hi).1)
   have RO : w1.ownsRow w.heap.size 5 1 v1 (k + 1) ((zs ++ [zj]).map U8) := by simpa using hown1
   obtain ⟨a1,c1,rfl,_,_,_,_⟩ := own_at2 RO
   clear hown hown1 hg1 hgr
   go_wp2
   go_roundw
   case rel =>
    exact ⟨k + 1,_,zs ++ [zj],by omega,by go_num,rfl,by simp [hzs],RO,G1⟩
   case measure =>
    simp [intOf]
    omega
  ·have hkn : k = n := by omega
   subst hkn
   have hltI : ¬ (k : Int) < (k : Int) := by omega
   go_wp2
   go_ret
   exact ⟨_,rfl,zs,hzs,by rw [← hzs] at hown; exact hown,hgr⟩
end Go.Proofs.YtpijkgbafjccaaaGreatDoor
namespace Go.Proofs.YtpijkgbafjccaaaGreatDoor
open Go.RowKit
set_option maxRecDepth 100000
theorem i64a (n : Int) (h : decide (-9223372036854775808 ≤ n ∧ n ≤ 9223372036854775807) = true) : In64 n := (of_decide_eq_true h : -9223372036854775808 ≤ n ∧ n ≤ 9223372036854775807)
end Go.Proofs.YtpijkgbafjccaaaGreatDoor
namespace Go.Proofs.YtpijkgbafjccaaaGreatDoor
open Go.RowKit
set_option maxRecDepth 100000
abbrev tT : BE := kB nTgs 1000001 100
abbrev tA : BE := kB nAl 1000002 100
abbrev bT : List BE := hBook 100 100 100
end Go.Proofs.YtpijkgbafjccaaaGreatDoor
