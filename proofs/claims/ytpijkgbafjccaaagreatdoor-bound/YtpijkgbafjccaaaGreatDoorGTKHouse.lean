/-
  
  
  
-/
import Derived.Test.YtpijkgbafjccaaaGreatDoorGTKOpen
import Derived.Test.YtpijkgbafjccaaaGreatDoorGTKSmall
namespace Go.Proofs.YtpijkgbafjccaaaGreatDoor
open Go.RowKit
set_option maxRecDepth 100000
theorem Tryz.sizeKHouse : (Tryz.prog.info? 29).map (·.size) = some 7 := by kernel_rfl
abbrev zeroHouse : Array Value := #[.pointer none,.pointer none,.int .i64 0,.slice none 0 0,.int .i64 0,.int .i64 0,.int .i64 0]
theorem gb_drew1 {a w : World} (h : a.grownBy w none) : a.grownBy w.drew none := gb_drewN h 1
theorem put7 {w : World} {g : Nat} {c0 c1 c2 c3 c4 c5 c6 : Value} (h : Blk w g #[c0,c1,c2,c3,c4,c5,c6]) (v0 v1 v2 v3 v4 v5 v6 : Value) : Blk (((((((w.setCell ⟨g,0,none⟩ v0).setCell ⟨g,1,none⟩ v1).setCell ⟨g,2,none⟩ v2).setCell ⟨g,3,none⟩ v3).setCell ⟨g,4,none⟩ v4).setCell ⟨g,5,none⟩ v5).setCell ⟨g,6,none⟩ v6) g #[v0,v1,v2,v3,v4,v5,v6] := by
 simpa using ((((((h.set 0 v0).set 1 v1).set 2 v2).set 3 v3).set 4 v4).set 5 v5).set 6 v6
theorem gb7 {a w : World} {b : Nat} (h : a.grownBy w none) (hb : a.heap.size ≤ b) (v0 v1 v2 v3 v4 v5 v6 : Value) : a.grownBy (((((((w.setCell ⟨b,0,none⟩ v0).setCell ⟨b,1,none⟩ v1).setCell ⟨b,2,none⟩ v2).setCell ⟨b,3,none⟩ v3).setCell ⟨b,4,none⟩ v4).setCell ⟨b,5,none⟩ v5).setCell ⟨b,6,none⟩ v6) none := by
 iterate 7 refine gb_store ?_ hb
 exact h
theorem ow7 {n b : Nat} {w : World} {o : Value} {z : List UInt8} (h : KMade n w o z) (hb : b < n) (v0 v1 v2 v3 v4 v5 v6 : Value) : KMade n (((((((w.setCell ⟨b,0,none⟩ v0).setCell ⟨b,1,none⟩ v1).setCell ⟨b,2,none⟩ v2).setCell ⟨b,3,none⟩ v3).setCell ⟨b,4,none⟩ v4).setCell ⟨b,5,none⟩ v5).setCell ⟨b,6,none⟩ v6) o z := by
 iterate 7 refine ownsRow_setCell_below ?_ hb _
 exact h
theorem cf7 {w : World} {ex : Nat → Nat → Prop} {b : Nat} (hb : ∀ o,ex b o) (v0 v1 v2 v3 v4 v5 v6 : Value) : CF w (((((((w.setCell ⟨b,0,none⟩ v0).setCell ⟨b,1,none⟩ v1).setCell ⟨b,2,none⟩ v2).setCell ⟨b,3,none⟩ v3).setCell ⟨b,4,none⟩ v4).setCell ⟨b,5,none⟩ v5).setCell ⟨b,6,none⟩ v6) ex := by
 iterate 7 refine CF.setCell ?_ _ _ _ (fun _ => hb _)
 exact CF.of_gb (World.grownBy.refl _ _) _
theorem frz7 {w : World} {g : Nat} {cs : Array Value} (h : Blk w g cs) : w.frozen? ⟨g,0,none⟩ = false ∧ w.frozen? ⟨g,1,none⟩ = false ∧ w.frozen? ⟨g,2,none⟩ = false ∧ w.frozen? ⟨g,3,none⟩ = false ∧ w.frozen? ⟨g,4,none⟩ = false ∧ w.frozen? ⟨g,5,none⟩ = false ∧ w.frozen? ⟨g,6,none⟩ = false := ⟨h.frozen 0,h.frozen 1,h.frozen 2,h.frozen 3,h.frozen 4,h.frozen 5,h.frozen 6⟩
theorem kof_any (n c : Nat) (av : Option Addr) (l : List UInt8) (w : World) (h : KH w (.slice av n c) l) (hn : Hid (l.length = n)) (h0 : 0 < n) (h1 : n ≤ 1000) :
  ∀ w1,w.grownBy w1 none → Calls Tryz.prog 58 #[.slice av n c] w1 fun e w' => ∃ ao c',e = .returned (.agg #[.slice ao n c']) ∧ w'.ownsRow w1.heap.size 5 1 (.slice ao n c') n (l.map U8) ∧ w1.grownBy w' none := by
 intro w1 k
 obtain ⟨a2,c2,e1,_,_,_,hat⟩ := h
 have e2 : av = a2 := by injection e1
 subst e2
 have hat1 := hat.below k
 obtain ⟨b,off,rfl,_⟩ := hat1.addr (by rw [hn.out]; exact h0)
 refine (of_at ⟨b,off,none⟩ n c l w1 hn (by omega) (fun i hi => ?_)).mono ?_
 ·have hi2 : i < l.length := by rw [hn.out]; exact hi
  have := hat1.cells i hi2
  rw [show (⟨b,off,none⟩ : Addr).add i = ⟨b,off + i,none⟩ from by simp [Addr.add],this]
  simp [List.getD,hi2]
 ·rintro e w' ⟨v,rfl,o,g⟩
  rcases o.2 with ⟨hv,hz⟩ | ⟨b2,cap2,cur,hv,_⟩
  ·omega
  ·subst hv
   exact ⟨_,_,rfl,o,g⟩
def bk (a b c : Int) : Nat → List BE
 | 0 => []
 | 1 => [kB nTgs 1000001 a]
 | 2 => [kB nAl 1000002 b,kB nTgs 1000001 a]
 | _ => hBook a b c
theorem bk_ok (a b c : Int) (ha : 0 ≤ a) (hb : 0 ≤ b) (hc : 0 ≤ c) (k : Nat) : BookOk 5 (bk a b c k) := by
 have e : ∀ (nm : List UInt8) (key : UInt64) (l : Int),0 ≤ l → isNameL nm = true → isNameL (kB nm key l).name = true ∧ (1 ≤ (kB nm key l).number ∧ (kB nm key l).number ≤ ((5 : Nat) : Int)) ∧ (0 ≤ (kB nm key l).life ∧ 0 ≤ (kB nm key l).renew ∧ 0 ≤ (kB nm key l).flags ∧ (kB nm key l).flags < 64) := fun nm key l hl hn => ⟨hn,⟨by show (1 : Int) ≤ 1; omega,by show (1 : Int) ≤ _; omega⟩,hl,by show 0 ≤ 3 * l; omega,by show (0 : Int) ≤ 30; omega,by show (30 : Int) < 64; omega⟩
 have h1 := e nTgs 1000001 a ha (by decide)
 have h2 := e nAl 1000002 b hb (by decide)
 have h3 := e nWeb 1000003 c hc (by decide)
 have mk : ∀ es : List BE,es.length ≤ 20 → (∀ x ∈ es,x = kB nTgs 1000001 a ∨ x = kB nAl 1000002 b ∨ x = kB nWeb 1000003 c) → es.Pairwise (fun x y => Op.bytesLess x.name y.name = true) → BookOk 5 es := by
  intro es hl hm hp
  refine ⟨hl,fun x hx => ?_,fun x hx => ?_,fun x hx => ?_,hp⟩ <;> rcases hm x hx with rfl | rfl | rfl
  ·exact h1.1
  ·exact h2.1
  ·exact h3.1
  ·exact h1.2.1
  ·exact h2.2.1
  ·exact h3.2.1
  ·exact h1.2.2
  ·exact h2.2.2
  ·exact h3.2.2
 match k with
 | 0 => exact mk [] (by simp) (by simp) .nil
 | 1 => exact mk [kB nTgs 1000001 a] (by simp) (by simp) (by simp)
 | 2 => exact mk [kB nAl 1000002 b,kB nTgs 1000001 a] (by simp) (by simp) (by simp; decide)
 | n + 3 => exact mk (hBook a b c) (by simp) (by simp) (by simp; decide)
abbrev adK (nm : List UInt8) (key : UInt64) (l : Int) : Adm := ⟨1,nm,key,l,3 * l,0,30⟩
theorem pol_ok (nm : List UInt8) (key : UInt64) (l : Int) (h : 0 ≤ l) : (adK nm key l).pol = true := by
 unfold Adm.pol
 simp only [decide_eq_true_eq]
 omega
theorem bk1 (a b c : Int) (h : 0 ≤ a) : admB (bk a b c 0) (adK nTgs 1000001 a) = (bk a b c 1,0) := by
 unfold admB
 rw [if_pos rfl,if_neg (show ¬ isNameL nTgs = false by decide),if_neg (by rw [pol_ok _ _ _ h]; decide)]
 rfl
theorem bk2 (a b c : Int) (h : 0 ≤ b) : admB (bk a b c 1) (adK nAl 1000002 b) = (bk a b c 2,0) := by
 unfold admB
 rw [if_pos rfl,if_neg (show ¬ isNameL nAl = false by decide),if_neg (by rw [pol_ok _ _ _ h]; decide)]
 rfl
theorem bk3 (a b c : Int) (h : 0 ≤ c) : admB (bk a b c 2) (adK nWeb 1000003 c) = (bk a b c 3,0) := by
 unfold admB
 rw [if_pos rfl,if_neg (show ¬ isNameL nWeb = false by decide),if_neg (by rw [pol_ok _ _ _ h]; decide)]
 rfl
structure HB (w : World) (lo hi hb db nb : Nat) (q : Bool) (g : Nat) (p0 p1 : Option Addr) (sk a b c : Int) (av : Option Addr) (cv : Nat) (ds : List UInt8) (V : World) : Prop where
 lives : Blk V w.heap.size #[.int .i64 a,.int .i64 b,.int .i64 c]
 room : Blk V (w.heap.size + 1) zeroHouse
 house : Blk V hb #[.pointer p0,.pointer p1,.int .i64 sk,.slice av 480 cv,.int .i64 a,.int .i64 b,.int .i64 c]
 desk : Blk V db #[.pointer p0,.pointer p1]
 names : Blk V nb #[.string ⟨#[116,103,115]⟩,.string ⟨#[97,108]⟩,.string ⟨#[119,101,98]⟩]
 draws : KX lo hi V (.slice av 480 cv) ds
 dpl : ∀ b off n c,Value.slice av 480 cv = .slice (some ⟨b,off,none⟩) n c → w.heap.size + 2 ≤ b
 gb : w.grownBy V none
 size : hi ≤ V.heap.size
 h1 : w.heap.size + 2 ≤ lo ∧ w.heap.size + 2 ≤ hb ∧ hb < lo ∧ hi ≤ db ∧ hi ≤ nb
theorem HB.fr {w V V' : World} {lo hi hb db nb g : Nat} {q : Bool} {p0 p1 : Option Addr} {sk a b c : Int} {av : Option Addr} {cv : Nat} {ds : List UInt8} (h : HB w lo hi hb db nb q g p0 p1 sk a b c av cv ds V) (k : FR lo hi V V') : HB w lo hi hb db nb q g p0 p1 sk a b c av cv ds V' := by
 obtain ⟨h1,h2,h3,h4,h5,h6,hq,h7,h8,h9⟩ := h
 refine ⟨h1.fr k (by omega),h2.fr k (by omega),h3.fr k (by omega),h4.fr k (by omega),h5.fr k (by omega),h6.fr k,hq,?_,Nat.le_trans h8 k.size,h9⟩
 exact (CF.before h7 k).gb (fun b _ hb e => by omega)
set_option maxHeartbeats 4000000 in
theorem khouse_ok (q : Bool) (skew seed a b c : Int) (w : World) (hs0 : -9223372036854775808 ≤ skew) (hs1 : skew ≤ 9223372036854775807) (ha0 : 0 ≤ a) (ha1 : a ≤ 10000) (hb0 : 0 ≤ b) (hb1 : b ≤ 10000) (hc0 : 0 ≤ c) (hc1 : c ≤ 10000) :
  Calls Tryz.prog 4 #[.bool q,.int .i64 skew,.int .i64 seed,.agg #[.int .i64 a,.int .i64 b,.int .i64 c]] w fun e w' => ∃ p0 p1 av cv ds g lo hi,e = .returned (.tuple #[.agg #[.pointer p0,.pointer p1,.int .i64 (pickN skew 301 : Int),.slice av 480 cv,.int .i64 a,.int .i64 b,.int .i64 c],.bool true]) ∧ deskV q g = #[.pointer p0,.pointer p1] ∧ KS q lo hi w' g ⟨(pickN skew 301 : Int),hBook a b c,[],ds⟩ ∧ ds.length = 480 ∧ KX lo hi w' (.slice av 480 cv) ds ∧ w.heap.size ≤ lo ∧ hi ≤ w'.heap.size ∧ w.grownBy w' none := by
 obtain ⟨sk,hsk⟩ : ∃ sk,(pickN skew 301 : Int) = sk := ⟨_,rfl⟩
 have hsk0 : 0 ≤ sk := by rw [← hsk]; omega
 have hsk1 : sk ≤ 300 := by rw [← hsk]; have := pickN_lt skew 301 (by decide); omega
 have HP : Hid (∀ W,Calls Tryz.prog 7 #[.int .i64 skew,.int .i64 301] W fun e w' => e = .returned (.int .i64 sk) ∧ W = w') := fun W => by
  have := kpick_any skew 301 W ⟨hs0,hs1⟩ (by decide)
  rw [show (301 : Int).toNat = 301 from rfl,hsk] at this
  exact this
 have HD : Hid (∀ W,Calls Tryz.prog 13 #[.int .i64 480,.int .i64 seed] W fun e w' => ∃ o l,e = .returned o ∧ l.length = 480 ∧ KMade W.heap.size w' o l ∧ W.grownBy w' none) := fun W => kdrawn_any 480 seed W (by decide)
 rw [hsk]
 have HSk := hid (And.intro hsk0 hsk1)
 have HAB := hid (And.intro ha0 (And.intro hb0 hc0))
 clear hs0 hs1 hsk hsk0 hsk1
 go_enter Tryz.func4,Tryz.ntmps4
 go_upto_region 1 with fail
 refine wp_genK (fun V => w.grownBy V none ∧ V.heap.size = w.heap.size + 2 ∧ Blk V w.heap.size #[.int .i64 a,.int .i64 b,.int .i64 c] ∧ Blk V (w.heap.size + 1) zeroHouse) ⟨gb_allocs w _ _,by simp only [World.size_alloc],(Blk.new w _ _).alloc _,by have h := Blk.new (w.alloc (.cells #[.int .i64 a,.int .i64 b,.int .i64 c] 27)) zeroHouse 29; rw [World.size_alloc] at h; exact h⟩ ?_
 rintro V ⟨g0,s0,B0,B1⟩
 have HV := hid (And.intro g0 (And.intro s0 (And.intro B0 B1)))
 obtain ⟨x0,x1,x2⟩ := B0.all3
 clear g0 s0 B0 B1
 go_cut [10] (fun p wx => ∃ (hb : Nat) (av : Option Addr) (cv : Nat) (ds : List UInt8),p = .pointer (some ⟨hb,0,none⟩) ∧ ds.length = 480 ∧ KMade V.heap.size wx (.slice av 480 cv) ds ∧ V.heap.size ≤ hb ∧ (∀ b off n c,Value.slice av 480 cv = .slice (some ⟨b,off,none⟩) n c → b ≠ hb) ∧ Blk wx hb #[.pointer none,.pointer none,.int .i64 sk,.slice av 480 cv,.int .i64 a,.int .i64 b,.int .i64 c] ∧ V.grownBy wx none)
 case first =>
  have HSk2 : Hid (∀ W,V.grownBy W none → (fun w' => w'.cell? ⟨w.heap.size,0,none⟩ = some (.int .i64 a) ∧ w'.cell? ⟨w.heap.size,1,none⟩ = some (.int .i64 b) ∧ w'.cell? ⟨w.heap.size,2,none⟩ = some (.int .i64 c)) W) := fun W k => ⟨gb_cell k x0,gb_cell k x1,gb_cell k x2⟩
  have HVl : Hid (V.heap.size ≤ V.heap.size) := Nat.le_refl _
  have HVs := hid HV.out.2.1
  go_region_held3 (fun w' => w'.cell? ⟨w.heap.size,0,none⟩ = some (.int .i64 a) ∧ w'.cell? ⟨w.heap.size,1,none⟩ = some (.int .i64 b) ∧ w'.cell? ⟨w.heap.size,2,none⟩ = some (.int .i64 c)) (exact HSk2.out _ (by (repeat first | with_reducible exact G2.out | with_reducible exact World.grownBy.refl _ _ | with_reducible refine gb_alloc ?_ _ | with_reducible refine gb_drewN ?_ 1 | with_reducible refine gb_drew1 ?_ | with_reducible refine gb_store ?_ HVl.out))) (first
   | (go_at_call 7; refine (HP.out _).mono ?_; rintro e w1 ⟨rfl,rfl⟩)
   | (go_at_call 13; refine (HD.out _).mono ?_; rintro e w2 ⟨o,l,rfl,hl,hm,hg⟩; obtain ⟨av,cv,rfl⟩ : ∃ av cv,o = .slice av 480 cv := (by obtain ⟨a9,c9,h9⟩ := hm.has.shape; exact ⟨a9,c9,by rw [h9,hl]⟩); have G2 : Hid (V.grownBy w2 none) := gb_trans (by (repeat first | with_reducible exact World.grownBy.refl _ _ | with_reducible refine gb_alloc ?_ _ | with_reducible refine gb_drew1 ?_)) hg; (first | (have HZ : Hid (Blk w2 V.heap.size zeroHouse) := Blk.grown (Blk.drew (Blk.new V zeroHouse 29)) hg (by simp); obtain ⟨z0,z1,z2,z3,z4,z5,z6⟩ := HZ.out.all7; obtain ⟨f0,f1,f2,f3,f4,f5,f6⟩ := frz7 HZ.out) | (have HZ : Hid (Blk w2 V.heap.size zeroHouse) := Blk.grown (Blk.new V.drew zeroHouse 29) hg (by simp); obtain ⟨z0,z1,z2,z3,z4,z5,z6⟩ := HZ.out.all7; obtain ⟨f0,f1,f2,f3,f4,f5,f6⟩ := frz7 HZ.out) | skip); have HM := hid (And.intro hl hm); clear hl hm hg))
  all_goals go_wp2
  all_goals go_meet
  all_goals first
   | (have hz := HZ.out; have ho := HM.out.2; have hlt : V.heap.size < (V.alloc (.cells zeroHouse 29)).heap.size := (by rw [World.size_alloc]; omega); exact ⟨V.heap.size,av,cv,l,rfl,HM.out.1,KMade.base (ow7 (n := (V.alloc (.cells zeroHouse 29)).heap.size) ho hlt _ _ _ _ _ _ _) (Nat.le_of_lt hlt),Nat.le_refl _,(fun b off n c e e2 => by have h9 := (KMade.place (n := (V.alloc (.cells zeroHouse 29)).heap.size) ho b off n c e).1; omega),put7 hz _ _ _ _ _ _ _,gb7 G2.out (Nat.le_refl _) _ _ _ _ _ _ _⟩)
   | exact ⟨w2.heap.size,av,cv,l,rfl,HM.out.1,KMade.base (KMade.grown HM.out.2 (World.grownBy_alloc w2 _ none)) (by first | exact Nat.le_refl _ | (show V.heap.size ≤ V.drew.heap.size; exact Nat.le_refl _)),G2.out.size,(fun b off n c e e2 => by have h9 := (KMade.place HM.out.2 b off n c e).2; omega),Blk.new w2 _ _,gb_alloc G2.out _⟩
 case rest =>
  obtain ⟨hb,av,cv,ds,rfl,hl,hm,hbl,hpl,hB,g1⟩ := hcut
  have HPl := hid hpl
  clear hpl
  obtain ⟨c0,c1,c2,c3,c4,c5,c6⟩ := hB.all7
  have HC := hid (And.intro hl (And.intro hm (And.intro hbl (And.intro hB g1))))
  have HO := hid (kopen_ok q sk av 480 cv 480 ds wc HSk.out.1 HSk.out.2 (kof_any 480 cv av ds wc hm.has (hid hl) (by decide) (by decide)))
  clear hl hm hbl hB g1 x0 x1 x2 HP HD
  go_wp2_with fail
  refine HO.out.mono ?_
  rintro e w1 ⟨g,dp,rfl,hD,hg,hf,hne,g1⟩
  obtain ⟨p0,p1,hd⟩ := desk2 q g
  rw [hd]
  have HD1 := hid hd
  have hB1 := (HC.out.2.2.2.1.grown g1 (by simp)).alloc (.cells #[.pointer p0,.pointer p1] 25)
  have e0 := hB1.cell 0
  have e1 := hB1.cell 1
  have f0 := hB1.frozen 0
  have f1 := hB1.frozen 1
  have HS1 : Hid (KS q wc.heap.size w1.heap.size w1 g ⟨sk,[],[],ds⟩) := ⟨hg,hD.desk.live.lt,dp,hD,fun p hp => ⟨hne p hp,hf p hp,hD.desk.ltg hp⟩⟩
  have HG1 := hid g1
  have HB1 := hid hB1
  clear hD hg hf hne g1 hd HO c0 c1 c2 c3 c4 c5 c6 hB1
  go_wp2_with fail
  go_loopw [14,15] (fun i _ wr => ∃ k : Nat,k ≤ 3 ∧ i = .int .i64 (k : Int) ∧ KS q wc.heap.size w1.heap.size wr g ⟨sk,bk a b c k,[],ds⟩ ∧ HB w wc.heap.size w1.heap.size hb w1.heap.size (w1.heap.size + 1) q g p0 p1 sk a b c av cv ds wr) (fun i _ _ => 3 - (intOf i).toNat)
  case atStart =>
   have s0 := HV.out.2.1
   have gs := HC.out.2.2.2.2.size
   have hlt := HC.out.2.2.2.1.lt
   have hge := HC.out.2.2.1
   have g1s := HG1.out.size
   have CFa : CF w1 ((((w1.alloc (.cells #[.pointer p0,.pointer p1] 25)).setCell ⟨hb,0,none⟩ (.pointer p0)).setCell ⟨hb,1,none⟩ (.pointer p1)).alloc (.cells #[.string ⟨#[116,103,115]⟩,.string ⟨#[97,108]⟩,.string ⟨#[119,101,98]⟩] 9)) (fun b _ => b = hb) := CF.alloc (CF.setCell (CF.setCell (CF.alloc (CF.refl w1 _) _) hb 0 _ (fun _ => rfl)) hb 1 _ (fun _ => rfl)) _
   have GW : w.grownBy w1 none := gb_trans (gb_trans HV.out.1 HC.out.2.2.2.2) HG1.out
   have GV : V.grownBy w1 none := gb_trans HC.out.2.2.2.2 HG1.out
   refine ⟨0,by omega,rfl,HS1.out.cf CFa (fun b y e => .inl (by omega)),?_⟩
   refine ⟨(HV.out.2.2.1.grown GV (by simp)).cfo CFa (fun o e => by omega),(HV.out.2.2.2.grown GV (by simp)).cfo CFa (fun o e => by omega),?_,?_,?_,?_,?_,?_,?_,?_⟩
   ·have h := ((HB1.out.set 0 (.pointer p0)).set 1 (.pointer p1)).alloc (.cells #[.string ⟨#[116,103,115]⟩,.string ⟨#[97,108]⟩,.string ⟨#[119,101,98]⟩] 9)
    simpa using h
   ·exact (((Blk.new w1 _ _).other ⟨hb,0,none⟩ _ (by show w1.heap.size ≠ hb; omega)).other ⟨hb,1,none⟩ _ (by show w1.heap.size ≠ hb; omega)).alloc _
   ·have h := Blk.new (((w1.alloc (.cells #[.pointer p0,.pointer p1] 25)).setCell ⟨hb,0,none⟩ (.pointer p0)).setCell ⟨hb,1,none⟩ (.pointer p1)) #[.string ⟨#[116,103,115]⟩,.string ⟨#[97,108]⟩,.string ⟨#[119,101,98]⟩] 9
    simp only [World.size_setCell,World.size_alloc] at h
    exact h
   ·have hx : KX wc.heap.size w1.heap.size w1 (.slice av 480 cv) ds := KX.fr ⟨HC.out.2.1.has,fun b off n c e => .inl (HC.out.2.1.place b off n c e).2⟩ (FR.gb HG1.out)
    exact hx.cf CFa (fun b off n c e o e2 => HPl.out b off n c e e2)
   ·intro b off n c e
    have := (HC.out.2.1.place b off n c e).1
    omega
   ·exact gb_alloc (gb_store (gb_store (gb_alloc GW _) (by omega)) (by omega)) _
   ·simp only [World.size_setCell,World.size_alloc]; omega
   ·exact ⟨by omega,by omega,by omega,by omega,by omega⟩
  case round =>
   obtain ⟨k,hk,rfl,hS,hH⟩ := hrel
   have hk4 : k = 0 ∨ k = 1 ∨ k = 2 ∨ k = 3 := by omega
   clear e0 e1 f0 f1
   rcases hk4 with rfl | rfl | rfl | rfl
   ·have HA : Hid (∀ W (K L : Int),KS q wc.heap.size w1.heap.size W g ⟨sk,bk a b c 0,[],ds⟩ → K = 1000001 → L = 3 * a → Calls Tryz.prog 8 #[.agg #[.pointer p0,.pointer p1],.agg #[.int .i64 1,.string ⟨#[116,103,115]⟩,.int .u64 K,.int .i64 a,.int .i64 L,.int .i64 0,.int .i64 30]] W fun e w' => e = .returned (.int .i64 0) ∧ KS q wc.heap.size w1.heap.size w' g ⟨sk,bk a b c 1,[],ds⟩ ∧ FR wc.heap.size w1.heap.size W w') := fun W K L h hK hL => by
     subst hK hL
     rw [← HD1.out]
     exact kadm_any q wc.heap.size w1.heap.size g 5 ⟨sk,bk a b c 0,[],ds⟩ (bk a b c 1) 0 (adK nTgs 1000001 a) W (bk1 a b c ha0) h (bk_ok a b c ha0 hb0 hc0 0) (by decide) (by show (_ : Int) ≤ 30; decide) (by show (30 : Int) ≤ _; decide) (show nTgs.length ≤ 9223372036854775807 by decide) rfl
    have HSk : Hid (∀ W,FR wc.heap.size w1.heap.size wr W → (fun w' => w'.cell? ⟨w1.heap.size,0,none⟩ = some (.pointer p0) ∧ w'.cell? ⟨w1.heap.size,1,none⟩ = some (.pointer p1) ∧ w'.cell? ⟨w1.heap.size + 1,0,none⟩ = some (.string ⟨#[116,103,115]⟩) ∧ w'.cell? ⟨w.heap.size,0,none⟩ = some (.int .i64 a)) W) := fun W h => ⟨(hH.fr h).desk.cell 0,(hH.fr h).desk.cell 1,(hH.fr h).names.cell 0,(hH.fr h).lives.cell 0⟩
    have HHR := hid (And.intro hS hH)
    obtain ⟨u0,u1,u2,u3⟩ := HSk.out wr (FR.refl _ _ _)
    clear hS hH
    go_wp2_with fail
    go_region_held3 (fun w' => w'.cell? ⟨w1.heap.size,0,none⟩ = some (.pointer p0) ∧ w'.cell? ⟨w1.heap.size,1,none⟩ = some (.pointer p1) ∧ w'.cell? ⟨w1.heap.size + 1,0,none⟩ = some (.string ⟨#[116,103,115]⟩) ∧ w'.cell? ⟨w.heap.size,0,none⟩ = some (.int .i64 a)) (exact HSk.out _ (by (repeat first | with_reducible exact F5.out | with_reducible exact FR.refl _ _ _ | with_reducible refine FR.drew ?_))) (first | (go_at_call 8; refine (HA.out _ _ _ (HHR.out.1.gb (gb_drew1 (World.grownBy.refl _ _))) (by first | rfl | decide) (by rw [IntKind.wrap_i64]; omega)).mono ?_; rintro e w5 ⟨rfl,s5,f5⟩; have F5 : Hid (FR wc.heap.size w1.heap.size wr w5) := FR.trans (FR.refl _ _ _).drew f5; have S5 := hid s5; clear s5 f5))
    go_wp2
    go_roundw
    case rel =>
     exact ⟨1,by omega,rfl,S5.out,HHR.out.2.fr F5.out⟩
    case measure =>
     simp [intOf]
   ·have HA : Hid (∀ W (K L : Int),KS q wc.heap.size w1.heap.size W g ⟨sk,bk a b c 1,[],ds⟩ → K = 1000002 → L = 3 * b → Calls Tryz.prog 8 #[.agg #[.pointer p0,.pointer p1],.agg #[.int .i64 1,.string ⟨#[97,108]⟩,.int .u64 K,.int .i64 b,.int .i64 L,.int .i64 0,.int .i64 30]] W fun e w' => e = .returned (.int .i64 0) ∧ KS q wc.heap.size w1.heap.size w' g ⟨sk,bk a b c 2,[],ds⟩ ∧ FR wc.heap.size w1.heap.size W w') := fun W K L h hK hL => by
     subst hK hL
     rw [← HD1.out]
     exact kadm_any q wc.heap.size w1.heap.size g 5 ⟨sk,bk a b c 1,[],ds⟩ (bk a b c 2) 0 (adK nAl 1000002 b) W (bk2 a b c hb0) h (bk_ok a b c ha0 hb0 hc0 1) (by decide) (by show (_ : Int) ≤ 30; decide) (by show (30 : Int) ≤ _; decide) (show nAl.length ≤ 9223372036854775807 by decide) rfl
    have HSk : Hid (∀ W,FR wc.heap.size w1.heap.size wr W → (fun w' => w'.cell? ⟨w1.heap.size,0,none⟩ = some (.pointer p0) ∧ w'.cell? ⟨w1.heap.size,1,none⟩ = some (.pointer p1) ∧ w'.cell? ⟨w1.heap.size + 1,1,none⟩ = some (.string ⟨#[97,108]⟩) ∧ w'.cell? ⟨w.heap.size,1,none⟩ = some (.int .i64 b)) W) := fun W h => ⟨(hH.fr h).desk.cell 0,(hH.fr h).desk.cell 1,(hH.fr h).names.cell 1,(hH.fr h).lives.cell 1⟩
    have HHR := hid (And.intro hS hH)
    obtain ⟨u0,u1,u2,u3⟩ := HSk.out wr (FR.refl _ _ _)
    clear hS hH
    go_wp2_with fail
    go_region_held3 (fun w' => w'.cell? ⟨w1.heap.size,0,none⟩ = some (.pointer p0) ∧ w'.cell? ⟨w1.heap.size,1,none⟩ = some (.pointer p1) ∧ w'.cell? ⟨w1.heap.size + 1,1,none⟩ = some (.string ⟨#[97,108]⟩) ∧ w'.cell? ⟨w.heap.size,1,none⟩ = some (.int .i64 b)) (exact HSk.out _ (by (repeat first | with_reducible exact F5.out | with_reducible exact FR.refl _ _ _ | with_reducible refine FR.drew ?_))) (first | (go_at_call 8; refine (HA.out _ _ _ (HHR.out.1.gb (gb_drew1 (World.grownBy.refl _ _))) (by first | rfl | decide) (by rw [IntKind.wrap_i64]; omega)).mono ?_; rintro e w5 ⟨rfl,s5,f5⟩; have F5 : Hid (FR wc.heap.size w1.heap.size wr w5) := FR.trans (FR.refl _ _ _).drew f5; have S5 := hid s5; clear s5 f5))
    go_wp2
    go_roundw
    case rel =>
     exact ⟨2,by omega,rfl,S5.out,HHR.out.2.fr F5.out⟩
    case measure =>
     simp [intOf]
   ·have HA : Hid (∀ W (K L : Int),KS q wc.heap.size w1.heap.size W g ⟨sk,bk a b c 2,[],ds⟩ → K = 1000003 → L = 3 * c → Calls Tryz.prog 8 #[.agg #[.pointer p0,.pointer p1],.agg #[.int .i64 1,.string ⟨#[119,101,98]⟩,.int .u64 K,.int .i64 c,.int .i64 L,.int .i64 0,.int .i64 30]] W fun e w' => e = .returned (.int .i64 0) ∧ KS q wc.heap.size w1.heap.size w' g ⟨sk,bk a b c 3,[],ds⟩ ∧ FR wc.heap.size w1.heap.size W w') := fun W K L h hK hL => by
     subst hK hL
     rw [← HD1.out]
     exact kadm_any q wc.heap.size w1.heap.size g 5 ⟨sk,bk a b c 2,[],ds⟩ (bk a b c 3) 0 (adK nWeb 1000003 c) W (bk3 a b c hc0) h (bk_ok a b c ha0 hb0 hc0 2) (by decide) (by show (_ : Int) ≤ 30; decide) (by show (30 : Int) ≤ _; decide) (show nWeb.length ≤ 9223372036854775807 by decide) rfl
    have HSk : Hid (∀ W,FR wc.heap.size w1.heap.size wr W → (fun w' => w'.cell? ⟨w1.heap.size,0,none⟩ = some (.pointer p0) ∧ w'.cell? ⟨w1.heap.size,1,none⟩ = some (.pointer p1) ∧ w'.cell? ⟨w1.heap.size + 1,2,none⟩ = some (.string ⟨#[119,101,98]⟩) ∧ w'.cell? ⟨w.heap.size,2,none⟩ = some (.int .i64 c)) W) := fun W h => ⟨(hH.fr h).desk.cell 0,(hH.fr h).desk.cell 1,(hH.fr h).names.cell 2,(hH.fr h).lives.cell 2⟩
    have HHR := hid (And.intro hS hH)
    obtain ⟨u0,u1,u2,u3⟩ := HSk.out wr (FR.refl _ _ _)
    clear hS hH
    go_wp2_with fail
    go_region_held3 (fun w' => w'.cell? ⟨w1.heap.size,0,none⟩ = some (.pointer p0) ∧ w'.cell? ⟨w1.heap.size,1,none⟩ = some (.pointer p1) ∧ w'.cell? ⟨w1.heap.size + 1,2,none⟩ = some (.string ⟨#[119,101,98]⟩) ∧ w'.cell? ⟨w.heap.size,2,none⟩ = some (.int .i64 c)) (exact HSk.out _ (by (repeat first | with_reducible exact F5.out | with_reducible exact FR.refl _ _ _ | with_reducible refine FR.drew ?_))) (first | (go_at_call 8; refine (HA.out _ _ _ (HHR.out.1.gb (gb_drew1 (World.grownBy.refl _ _))) (by first | rfl | decide) (by rw [IntKind.wrap_i64]; omega)).mono ?_; rintro e w5 ⟨rfl,s5,f5⟩; have F5 : Hid (FR wc.heap.size w1.heap.size wr w5) := FR.trans (FR.refl _ _ _).drew f5; have S5 := hid s5; clear s5 f5))
    go_wp2
    go_roundw
    case rel =>
     exact ⟨3,by omega,rfl,S5.out,HHR.out.2.fr F5.out⟩
    case measure =>
     simp [intOf]
   ·obtain ⟨c0,c1,c2,c3,c4,c5,c6⟩ := hH.house.all7
    obtain ⟨z0,z1,z2,z3,z4,z5,z6⟩ := hH.room.all7
    obtain ⟨f0,f1,f2,f3,f4,f5,f6⟩ := frz7 hH.room
    have HHR := hid (And.intro hS hH)
    clear hS hH
    go_wp2
    obtain ⟨hS,hH⟩ := HHR.out
    refine bodyPost_ret (results_celltmp Tryz.results4 _ _ _ (w.heap.size + 1) rfl _ (Blk.load (put7 hH.room _ _ _ _ _ _ _) 29 _ Tryz.underlying29 rfl Tryz.sizeKHouse)) rfl ⟨p0,p1,av,cv,ds,g,wc.heap.size,w1.heap.size,rfl,HD1.out,hS.cf (cf7 (ex := fun b _ => b = w.heap.size + 1) (fun _ => rfl) _ _ _ _ _ _ _) (fun b y e => .inl (by have := hH.h1.1; omega)),HC.out.1,hH.draws.cf (cf7 (ex := fun b _ => b = w.heap.size + 1) (fun _ => rfl) _ _ _ _ _ _ _) (fun b off n c e o e2 => by have := hH.dpl b off n c e; omega),by have := hH.h1.1; omega,?_,gb7 hH.gb (Nat.le_succ _) _ _ _ _ _ _ _⟩
    simp only [World.size_setCell]
    exact hH.size
end Go.Proofs.YtpijkgbafjccaaaGreatDoor
namespace Go.Proofs.YtpijkgbafjccaaaGreatDoor
open Go.RowKit
set_option maxRecDepth 100000
theorem KMade.slice {n : Nat} {w : World} {o : Value} {z : List UInt8} (h : KMade n w o z) : ∃ a m c,o = .slice a m c := by
 obtain ⟨a,c,e⟩ := h.has.shape
 exact ⟨a,_,c,e⟩
theorem kfirst2 (lo hi : Nat) (client service : List UInt8) (nonce sFrom till rtime opts : Int) (w : World) (hhi : hi ≤ w.heap.size) (hc : client.length ≤ 20) (hs : service.length ≤ 20) (h1 : In64 nonce) (h2 : In64 sFrom) (h3 : In64 till) (h4 : In64 rtime) (h5 : In64 opts) :
  Calls Tryz.prog 6 #[.string ⟨client.toArray⟩,.string ⟨service.toArray⟩,.int .i64 nonce,.int .i64 sFrom,.int .i64 till,.int .i64 rtime,.int .i64 opts] w fun e w' => ∃ a m c,e = .returned (.slice a m c) ∧ KX lo hi w' (.slice a m c) (firstReq client service nonce sFrom till rtime opts) ∧ w.grownBy w' none := by
 refine (kfirst_any client service nonce sFrom till rtime opts w hc hs h1 h2 h3 h4 h5).mono ?_
 rintro e w' ⟨o,rfl,hm,hg⟩
 obtain ⟨a,m,c,rfl⟩ := hm.slice
 exact ⟨a,m,c,rfl,KX.made hm hhi,hg⟩
theorem kans2 (q : Bool) (lo hi g : Nat) (p0 p1 : Option Addr) (M M' : DM) (now : Int) (req rep : List UInt8) (v : Value) (w : World) (hd : deskV q g = #[.pointer p0,.pointer p1]) (hA : answerM M now req = (rep,M')) (hS : KS q lo hi w g M) (hM : MOk M) (hv : KX lo hi w v req) (hl : req.length ≤ 300) (hr : rep.length ≤ 900) (hnow : In64 now) (hhi : hi ≤ w.heap.size) :
  Calls Tryz.prog 10 #[.agg #[.pointer p0,.pointer p1],.int .i64 now,v] w fun e w' => ∃ a m c,e = .returned (.slice a m c) ∧ KX lo hi w' (.slice a m c) rep ∧ KS q lo hi w' g M' ∧ FR lo hi w w' := by
 rw [← hd]
 refine (kans_any q lo hi g M M' now req rep v w hA hS hM hv hl hr hnow hhi).mono ?_
 rintro e w' ⟨a,c,rfl,h1,h2,h3⟩
 exact ⟨a,_,c,rfl,h1,h2,h3⟩
abbrev cameC (ob : Value) (t : TK) (s : BE) (nonce : Int) : Array Value := #[ob,.int .i64 t.flags,.int .i64 t.auth,.int .i64 t.start,.int .i64 t.fin,.int .i64 t.renew,.int .u64 (t.session.toNat : Int),.string ⟨t.client.toArray⟩,.int .i64 0,.int .i64 t.flags,.int .i64 t.auth,.int .i64 t.start,.int .i64 t.fin,.int .i64 t.renew,.int .u64 (t.session.toNat : Int),.string ⟨s.name.toArray⟩,.int .i64 nonce]
theorem kcame2 (kind : Int) (t : TK) (s : BE) (nonce number x : Int) (key use a b : UInt64) (v : Value) (w : World) (hx : isU x = true) (hu : x = use.toNat) (hc : t.client.length ≤ 3) (hs : s.name.length ≤ 3) (hk : In64 kind) (ht : t.In) (hsn : In64 s.number) (hn : In64 number) (hno : In64 nonce) (hv : KH w v (giveBox kind t s nonce number key use a b)) (htab : TabHere w) :
  Calls Tryz.prog 12 #[v,.int .i64 kind,.string ⟨t.client.toArray⟩,.string ⟨s.name.toArray⟩,.int .i64 s.number,.int .u64 (s.key.toNat : Int),.int .i64 number,.int .u64 (key.toNat : Int),.int .i64 x] w fun e w' => ∃ ao m c,e = .returned (.tuple #[.agg (cameC (.slice ao m c) t s nonce),.bool true]) ∧ KMade w.heap.size w' (.slice ao m c) (ticketBox t s a) ∧ w.grownBy w' none := by
 refine (kcame_ok kind t s nonce number x key use a b v w hx (hid hu) hc hs hk ht hsn hn hno hv htab).mono ?_
 rintro e w' ⟨o,rfl,hm,hg⟩
 obtain ⟨a1,m,c,rfl⟩ := hm.slice
 exact ⟨a1,m,c,rfl,hm,hg⟩
theorem kcame3 (kind : Int) (t : TK) (s : BE) (nonce number x : Int) (key use a b : UInt64) (sk ky : Int) (v : Value) (w : World) (hx : isU x = true) (hu : x = use.toNat) (hc : t.client.length ≤ 3) (hs : s.name.length ≤ 3) (hk : In64 kind) (ht : t.In) (hsn : In64 s.number) (hn : In64 number) (hno : In64 nonce) (hv : KH w v (giveBox kind t s nonce number key use a b)) (htab : TabHere w) (h1 : sk = (s.key.toNat : Int)) (h2 : ky = (key.toNat : Int)) :
  Calls Tryz.prog 12 #[v,.int .i64 kind,.string ⟨t.client.toArray⟩,.string ⟨s.name.toArray⟩,.int .i64 s.number,.int .u64 sk,.int .i64 number,.int .u64 ky,.int .i64 x] w fun e w' => ∃ cs ao m c,e = .returned (.tuple #[.agg cs,.bool true]) ∧ cs = cameC (.slice ao m c) t s nonce ∧ KMade w.heap.size w' (.slice ao m c) (ticketBox t s a) ∧ w.grownBy w' none := by
 rw [h1,h2]
 refine (kcame2 kind t s nonce number x key use a b v w hx hu hc hs hk ht hsn hn hno hv htab).mono ?_
 rintro e w' ⟨ao,m,c,rfl,h3,h4⟩
 exact ⟨_,ao,m,c,rfl,rfl,h3,h4⟩
theorem gb_alloc0 (w : World) (o : Obj) : w.grownBy (w.alloc o) none := World.grownBy_alloc w o none
theorem kstate2 (q : Bool) (lo hi g : Nat) (p0 p1 : Option Addr) (M : DM) (nP nD : Int) (w : World) (hd : deskV q g = #[.pointer p0,.pointer p1]) (hS : KS q lo hi w g M) (hP : (M.proofs.length : Int) = nP) (hD : (M.draws.length : Int) = nD) :
  Calls Tryz.prog 5 #[.agg #[.pointer p0,.pointer p1]] w fun e w' => ∃ a1 n1 c1 a2 n2 c2,e = .returned (.agg #[.slice a1 n1 c1,.slice a2 n2 c2,.int .i64 nP,.int .i64 nD]) ∧ w.grownBy w' none := by
 obtain ⟨_,_,dp,h3,_⟩ := hS
 rw [← hd]
 refine (kstate_any q g dp M w h3).mono ?_
 rintro e w' ⟨bn,bu,rfl,_,hg⟩
 rw [hP,hD]
 exact ⟨_,_,_,_,_,_,rfl,hg⟩
structure KB (w0 : World) (lo hi hb : Nat) (hc : Array Value) (W : World) : Prop where
 below : Below w0.heap.size w0 W
 size : hi ≤ W.heap.size
 house : Blk W hb hc
 out : hi ≤ hb
 base : w0.heap.size ≤ lo
 lh : lo ≤ hi
theorem KB.fr {w0 : World} {lo hi hb : Nat} {hc : Array Value} {W W' : World} (h : KB w0 lo hi hb hc W) (k : FR lo hi W W') : KB w0 lo hi hb hc W' :=
 ⟨FR.below h.below k h.base (Nat.le_trans h.base (Nat.le_trans h.lh h.size)),Nat.le_trans h.size k.size,h.house.fr k (.inr h.out),h.out,h.base,h.lh⟩
theorem KB.tab {w0 : World} {lo hi hb : Nat} {hc : Array Value} {W : World} (h : KB w0 lo hi hb hc W) (ht : TabHere w0) : TabHere W := Lib.tabBelow_of_tabIs ht W h.below
theorem refusal_len (now code : Int) : (refusalBox now code).length ≤ 900 := by
 have n1 := num10 30
 have n2 := num10 now
 have n3 := num10 code
 have := box_four 48 ([numBox 30,numBox now,numBox code].flatten)
 have e : [numBox 30,numBox now,numBox code].flatten.length = (numBox 30).length + (numBox now).length + (numBox code).length := by simp; omega
 have : (refusalBox now code).length ≤ [numBox 30,numBox now,numBox code].flatten.length + 4 := this
 omega
theorem first_len (client service : List UInt8) (nonce sFrom till rtime opts : Int) (hc : client.length ≤ 20) (hs : service.length ≤ 20) : (firstReq client service nonce sFrom till rtime opts).length ≤ 300 := by
 have h1 := first_flat client service nonce sFrom till rtime opts hc hs
 have h2 := box_four 48 ([numBox 10,txtBox client,txtBox service,numBox nonce,numBox sFrom,numBox till,numBox rtime,numBox opts,lstBox []].flatten)
 have : (firstReq client service nonce sFrom till rtime opts).length ≤ [numBox 10,txtBox client,txtBox service,numBox nonce,numBox sFrom,numBox till,numBox rtime,numBox opts,lstBox []].flatten.length + 4 := h2
 omega
theorem give_len (kind : Int) (t : TK) (s : BE) (nonce number : Int) (key use a b : UInt64) (hc : t.client.length ≤ 3) (hs : s.name.length ≤ 3) : (giveBox kind t s nonce number key use a b).length ≤ 900 := Nat.le_trans (gv_len kind t s nonce number key use a b hc hs) (by decide)
end Go.Proofs.YtpijkgbafjccaaaGreatDoor
namespace Go.Proofs.YtpijkgbafjccaaaGreatDoor
open Go.RowKit
set_option maxRecDepth 100000
abbrev nNo : List UInt8 := [110,111]
abbrev nNor : List UInt8 := [110,111,114]
abbrev rA (x f : Int) : BE := ⟨nAl,1,1000002,0,100,0,x,f⟩
abbrev rT (x f : Int) : BE := ⟨nTgs,1,1000001,0,100,0,x,f⟩
abbrev bB (x y : BE) : List BE := [x,y,kB nWeb 1000003 100]
abbrev rAdm (nm : List UInt8) (x f : Int) : Adm := ⟨4,nm,0,100,0,x,f⟩
theorem bnd_al (y : BE) (hy : y = tT ∨ ∃ x f,y = rT x f) (z : BE) (hz : z = tA ∨ ∃ x f,z = rA x f) (x f : Int) (hp : 0 ≤ f ∧ f < 64) : admB (bB z y) (rAdm nAl x f) = (bB (rA x f) y,0) := by
 have hpol : (rAdm nAl x f).pol = true := by simp [Adm.pol,hp]
 have hat : BE.at? (bB z y) nAl = some 0 := by
  rcases hz with rfl | ⟨_,_,rfl⟩ <;> rcases hy with rfl | ⟨_,_,rfl⟩ <;> rfl
 unfold admB
 rw [if_neg (show ¬ (4 : Int) = 1 by decide),if_pos (show (4 : Int) = 2 ∨ (4 : Int) = 3 ∨ (4 : Int) = 4 by decide)]
 simp only [hat,hpol,if_neg (show ¬ (4 : Int) = 2 by decide),if_neg (show ¬ (4 : Int) = 3 by decide),Bool.true_eq_false,if_false]
 rcases hz with rfl | ⟨_,_,rfl⟩ <;> rfl
theorem bnd_tgs (y : BE) (hy : y = tT ∨ ∃ x f,y = rT x f) (z : BE) (hz : z = tA ∨ ∃ x f,z = rA x f) (x f : Int) (hp : 0 ≤ f ∧ f < 64) : admB (bB z y) (rAdm nTgs x f) = (bB z (rT x f),0) := by
 have hpol : (rAdm nTgs x f).pol = true := by simp [Adm.pol,hp]
 have hat : BE.at? (bB z y) nTgs = some 1 := by
  rcases hz with rfl | ⟨_,_,rfl⟩ <;> rcases hy with rfl | ⟨_,_,rfl⟩ <;> rfl
 unfold admB
 rw [if_neg (show ¬ (4 : Int) = 1 by decide),if_pos (show (4 : Int) = 2 ∨ (4 : Int) = 3 ∨ (4 : Int) = 4 by decide)]
 simp only [hat,hpol,if_neg (show ¬ (4 : Int) = 2 by decide),if_neg (show ¬ (4 : Int) = 3 by decide),Bool.true_eq_false,if_false]
 rcases hy with rfl | ⟨_,_,rfl⟩ <;> rfl
theorem bnd_ans (book : List BE) (ds : List UInt8) (client service : List UInt8) (sf till opts c : Int) (h1 : isNameL client = true) (h2 : isNameL service = true) (h3 : In64 sf) (h4 : In64 till) (h5 : In64 opts) (hr : firstM ⟨10,book,[],[]⟩ 1000 ⟨client,service,1,sf,till,0,opts,none⟩ = .error c) :
  answerM ⟨10,book,[],ds⟩ 1000 (firstReq client service 1 sf till 0 opts) = (refusalBox 1000 c,⟨10,book,[],ds⟩) := by
 rw [ans_first _ _ client service 1 sf till 0 opts h1 h2 ⟨by decide,by decide⟩ h3 h4 ⟨by decide,by decide⟩ h5,show firstM ⟨10,book,[],ds⟩ 1000 ⟨client,service,1,sf,till,0,opts,none⟩ = firstM ⟨10,book,[],[]⟩ 1000 ⟨client,service,1,sf,till,0,opts,none⟩ from rfl,hr]
 rfl
theorem bnd0 (ds : List UInt8) : answerM ⟨10,bT,[],ds⟩ 1000 (firstReq nNo nNor 1 0 0 0 0) = (refusalBox 1000 6,⟨10,bT,[],ds⟩) := bnd_ans bT ds nNo nNor 0 0 0 6 (by decide) (by decide) ⟨by decide,by decide⟩ ⟨by decide,by decide⟩ ⟨by decide,by decide⟩ rfl
theorem bnd1 (ds : List UInt8) : answerM ⟨10,bT,[],ds⟩ 1000 (firstReq nAl nNor 1 0 0 0 0) = (refusalBox 1000 7,⟨10,bT,[],ds⟩) := bnd_ans bT ds nAl nNor 0 0 0 7 (by decide) (by decide) ⟨by decide,by decide⟩ ⟨by decide,by decide⟩ ⟨by decide,by decide⟩ rfl
theorem bnd2 (ds : List UInt8) : answerM ⟨10,bT,[],ds⟩ 1000 (firstReq nAl nTgs 1 0 1000 0 0) = (refusalBox 1000 11,⟨10,bT,[],ds⟩) := bnd_ans bT ds nAl nTgs 0 1000 0 11 (by decide) (by decide) ⟨by decide,by decide⟩ ⟨by decide,by decide⟩ ⟨by decide,by decide⟩ rfl
theorem bnd3 (ds : List UInt8) : answerM ⟨10,bT,[],ds⟩ 1000 (firstReq nAl nTgs 1 1011 0 0 0) = (refusalBox 1000 10,⟨10,bT,[],ds⟩) := bnd_ans bT ds nAl nTgs 1011 0 0 10 (by decide) (by decide) ⟨by decide,by decide⟩ ⟨by decide,by decide⟩ ⟨by decide,by decide⟩ rfl
theorem bnd4 (ds : List UInt8) : answerM ⟨10,bT,[],ds⟩ 1000 (firstReq nAl nTgs 1 0 0 0 16) = (refusalBox 1000 13,⟨10,bT,[],ds⟩) := bnd_ans bT ds nAl nTgs 0 0 16 13 (by decide) (by decide) ⟨by decide,by decide⟩ ⟨by decide,by decide⟩ ⟨by decide,by decide⟩ rfl
theorem bnd5 (ds : List UInt8) : answerM ⟨10,bB (rA 1000 0) tT,[],ds⟩ 1000 (firstReq nAl nTgs 1 0 0 0 0) = (refusalBox 1000 1,⟨10,bB (rA 1000 0) tT,[],ds⟩) := bnd_ans _ ds nAl nTgs 0 0 0 1 (by decide) (by decide) ⟨by decide,by decide⟩ ⟨by decide,by decide⟩ ⟨by decide,by decide⟩ rfl
theorem bnd6 (ds : List UInt8) : answerM ⟨10,bB tA (rT 999 0),[],ds⟩ 1000 (firstReq nAl nTgs 1 0 0 0 0) = (refusalBox 1000 2,⟨10,bB tA (rT 999 0),[],ds⟩) := bnd_ans _ ds nAl nTgs 0 0 0 2 (by decide) (by decide) ⟨by decide,by decide⟩ ⟨by decide,by decide⟩ ⟨by decide,by decide⟩ rfl
theorem bnd7 (ds : List UInt8) : answerM ⟨10,bB tA (rT 0 32),[],ds⟩ 1000 (firstReq nAl nTgs 1 0 0 0 0) = (refusalBox 1000 12,⟨10,bB tA (rT 0 32),[],ds⟩) := bnd_ans _ ds nAl nTgs 0 0 0 12 (by decide) (by decide) ⟨by decide,by decide⟩ ⟨by decide,by decide⟩ ⟨by decide,by decide⟩ rfl
theorem bnd8 (ds : List UInt8) : answerM ⟨10,bB (rA 0 1) tT,[],ds⟩ 1000 (firstReq nAl nTgs 1 0 0 0 0) = (refusalBox 1000 25,⟨10,bB (rA 0 1) tT,[],ds⟩) := bnd_ans _ ds nAl nTgs 0 0 0 25 (by decide) (by decide) ⟨by decide,by decide⟩ ⟨by decide,by decide⟩ ⟨by decide,by decide⟩ rfl
theorem bnd9 (ds : List UInt8) : answerM ⟨10,bT,[],ds⟩ 1000 (firstReq nAl nTgs 1 0 0 0 0 ++ [0]) = (refusalBox 1000 60,⟨10,bT,[],ds⟩) := by
 have h1 : firstOf (firstReq nAl nTgs 1 0 0 0 0 ++ [0]) = none := by kernel_rfl
 have h2 : nextOf (firstReq nAl nTgs 1 0 0 0 0 ++ [0]) = none := by kernel_rfl
 unfold answerM
 rw [h1,h2]
abbrev tB (k : UInt64) : TK := ⟨32,k,nAl,1000,1000,1100,0⟩
theorem tB_in (k : UInt64) : (tB k).In := ⟨i64a 32 rfl,i64a 1000 rfl,i64a 1000 rfl,i64a 1100 rfl,i64a 0 rfl⟩
theorem bnd_last (ds : List UInt8) (hd : 24 ≤ ds.length) : answerM ⟨10,bB (rA 0 0) (rT 0 0),[],ds⟩ 1000 (firstReq nAl nTgs 1 0 0 0 0) = (giveBox 11 (tB (drawAt ds 0)) (rT 0 0) 1 1 1000002 3 (drawAt ds 1) (drawAt ds 2),⟨10,bB (rA 0 0) (rT 0 0),[],ds.drop 24⟩) := by
 rw [ans_first _ _ nAl nTgs 1 0 0 0 0 (by decide) (by decide) ⟨by decide,by decide⟩ ⟨by decide,by decide⟩ ⟨by decide,by decide⟩ ⟨by decide,by decide⟩ ⟨by decide,by decide⟩]
 rw [first_grant (x := rA 0 0) (s := rT 0 0) rfl rfl rfl rfl hd]
 rfl
end Go.Proofs.YtpijkgbafjccaaaGreatDoor
