/-
  
-/
import Derived.Test.YtpijkgbafjccaaaGreatDoorGTKHouse
import Derived.Deep.QuietTactic
import Derived.BigQuiet
namespace Go.Proofs.YtpijkgbafjccaaaGreatDoor
open Go.RowKit
set_option maxRecDepth 100000
theorem len_alB : nAl.length ≤ 3 := by decide
theorem b64t : (1000001 : Int) = ((1000001 : UInt64).toNat : Int) := by decide
theorem b64a : (1000002 : Int) = ((1000002 : UInt64).toNat : Int) := by decide
def GA (z : BE) : Prop := z = tA ∨ ∃ x f,z = rA x f ∧ 0 ≤ f ∧ f < 64
def GT (y : BE) : Prop := y = tT ∨ ∃ x f,y = rT x f ∧ 0 ≤ f ∧ f < 64
theorem GA.w {z : BE} (h : GA z) : z = tA ∨ ∃ x f,z = rA x f := h.imp id (fun ⟨x,f,e,_⟩ => ⟨x,f,e⟩)
theorem GT.w {y : BE} (h : GT y) : y = tT ∨ ∃ x f,y = rT x f := h.imp id (fun ⟨x,f,e,_⟩ => ⟨x,f,e⟩)
theorem bB_all {z y : BE} (hz : GA z) (hy : GT y) (P : BE → Prop) (h1 : ∀ x f,0 ≤ f → f < 64 → P (rA x f)) (h2 : ∀ x f,0 ≤ f → f < 64 → P (rT x f)) (h3 : P tA) (h4 : P tT) (h5 : P (kB nWeb 1000003 100)) : ∀ e ∈ bB z y,P e := by
 intro e he
 simp only [List.mem_cons,List.not_mem_nil,or_false] at he
 rcases he with rfl | rfl | rfl
 ·rcases hz with rfl | ⟨x,f,rfl,a,b⟩
  ·exact h3
  ·exact h1 x f a b
 ·rcases hy with rfl | ⟨x,f,rfl,a,b⟩
  ·exact h4
  ·exact h2 x f a b
 ·exact h5
theorem bB_sorted {z y : BE} (hz : GA z) (hy : GT y) : (bB z y).Pairwise (fun x y => Op.bytesLess x.name y.name = true) := by
 rcases hz with rfl | ⟨_,_,rfl,_⟩ <;> rcases hy with rfl | ⟨_,_,rfl,_⟩ <;> simp <;> decide
theorem bB_ok {z y : BE} (hz : GA z) (hy : GT y) : BookOk 1 (bB z y) :=
 ⟨by show 3 ≤ 20; decide,bB_all hz hy _ (fun _ _ _ _ => by show isNameL nAl = true; decide) (fun _ _ _ _ => by show isNameL nTgs = true; decide) (by decide) (by decide) (by decide),bB_all hz hy _ (fun _ _ _ _ => by show (1 : Int) ≤ 1 ∧ (1 : Int) ≤ ((1 : Nat) : Int); decide) (fun _ _ _ _ => by show (1 : Int) ≤ 1 ∧ (1 : Int) ≤ ((1 : Nat) : Int); decide) (by decide) (by decide) (by decide),bB_all hz hy _ (fun _ f a b => by show (0 : Int) ≤ 100 ∧ (0 : Int) ≤ 0 ∧ 0 ≤ f ∧ f < 64; omega) (fun _ f a b => by show (0 : Int) ≤ 100 ∧ (0 : Int) ≤ 0 ∧ 0 ≤ f ∧ f < 64; omega) (by decide) (by decide) (by decide),bB_sorted hz hy⟩
theorem bB_m {z y : BE} (hz : GA z) (hy : GT y) (ds : List UInt8) : MOk ⟨10,bB z y,[],ds⟩ :=
 ⟨bB_all hz hy _ (fun _ _ _ _ => ⟨⟨show (1 : Int) ≤ 1 by decide,show (1 : Int) ≤ 4611686018427387904 by decide⟩,⟨show (-9223372036854775808 : Int) ≤ 100 by decide,show (100 : Int) ≤ 9223372036854775807 by decide⟩,⟨show (-9223372036854775808 : Int) ≤ 0 by decide,show (0 : Int) ≤ 9223372036854775807 by decide⟩,by show nAl.length ≤ _; decide⟩) (fun _ _ _ _ => ⟨⟨show (1 : Int) ≤ 1 by decide,show (1 : Int) ≤ 4611686018427387904 by decide⟩,⟨show (-9223372036854775808 : Int) ≤ 100 by decide,show (100 : Int) ≤ 9223372036854775807 by decide⟩,⟨show (-9223372036854775808 : Int) ≤ 0 by decide,show (0 : Int) ≤ 9223372036854775807 by decide⟩,by show nTgs.length ≤ _; decide⟩) ⟨⟨by decide,by decide⟩,⟨by decide,by decide⟩,⟨by decide,by decide⟩,by show nAl.length ≤ _; decide⟩ ⟨⟨by decide,by decide⟩,⟨by decide,by decide⟩,⟨by decide,by decide⟩,by show nTgs.length ≤ _; decide⟩ ⟨⟨by decide,by decide⟩,⟨by decide,by decide⟩,⟨by decide,by decide⟩,by show nWeb.length ≤ _; decide⟩,bB_sorted hz hy,i64a 10 rfl,by simp⟩
def BSel (req : List UInt8) (code : Int) (acs : Array Value) : Prop :=
 (acs = #[.int .i64 0,.string ⟨#[]⟩,.int .u64 0,.int .i64 0,.int .i64 0,.int .i64 0,.int .i64 0] ∧ ∀ ds,answerM ⟨10,bT,[],ds⟩ 1000 req = (refusalBox 1000 code,⟨10,bT,[],ds⟩)) ∨
 ∃ nm x f z y,acs = #[.int .i64 4,.string ⟨nm.toArray⟩,.int .u64 0,.int .i64 100,.int .i64 0,.int .i64 x,.int .i64 f] ∧ 0 ≤ f ∧ f < 64 ∧ nm.length ≤ 20 ∧ admB bT (rAdm nm x f) = (bB z y,0) ∧ GA z ∧ GT y ∧ ∀ ds,answerM ⟨10,bB z y,[],ds⟩ 1000 req = (refusalBox 1000 code,⟨10,bB z y,[],ds⟩)
theorem kadm3 (q : Bool) (lo hi g : Nat) (p0 p1 : Option Addr) (M : DM) (es : List BE) (nm : List UInt8) (x f : Int) (w : World) (hd : deskV q g = #[.pointer p0,.pointer p1]) (hA : admB M.book (rAdm nm x f) = (es,0)) (hS : KS q lo hi w g M) (hok : BookOk 1 M.book) (h0 : 0 ≤ f) (h1 : f < 64) (hl : nm.length ≤ 20) :
  Calls Tryz.prog 8 #[.agg #[.pointer p0,.pointer p1],.agg #[.int .i64 4,.string ⟨nm.toArray⟩,.int .u64 0,.int .i64 100,.int .i64 0,.int .i64 x,.int .i64 f]] w fun e w' => e = .returned (.int .i64 0) ∧ KS q lo hi w' g { M with book := es } ∧ FR lo hi w w' := by
 rw [← hd]
 exact kadm_any q lo hi g 1 M es 0 (rAdm nm x f) w hA hS hok (by decide) (by show _ ≤ f; omega) (by show f ≤ _; omega) (by show nm.length ≤ _; omega) rfl
theorem first_b (lo hi : Nat) (W : World) (h : hi ≤ W.heap.size) : Calls Tryz.prog 6 #[.string ⟨#[97,108]⟩,.string ⟨#[116,103,115]⟩,.int .i64 1,.int .i64 0,.int .i64 0,.int .i64 0,.int .i64 0] W fun e w' => ∃ a m c,e = .returned (.slice a m c) ∧ KX lo hi w' (.slice a m c) (firstReq nAl nTgs 1 0 0 0 0) ∧ W.grownBy w' none := kfirst2 lo hi nAl nTgs 1 0 0 0 0 W h (by decide) (by decide) ⟨by decide,by decide⟩ ⟨by decide,by decide⟩ ⟨by decide,by decide⟩ ⟨by decide,by decide⟩ ⟨by decide,by decide⟩
theorem came_b (k0 k1 k2 : UInt64) (W : World) (v : Value) (hv : KH W v (giveBox 11 (tB k0) (rT 0 0) 1 1 1000002 3 k1 k2)) (ht : TabHere W) : Calls Tryz.prog 12 #[v,.int .i64 11,.string ⟨#[97,108]⟩,.string ⟨#[116,103,115]⟩,.int .i64 1,.int .u64 1000001,.int .i64 1,.int .u64 1000002,.int .i64 3] W fun e w' => ∃ cs ao m c,e = .returned (.tuple #[.agg cs,.bool true]) ∧ cs = cameC (.slice ao m c) (tB k0) (rT 0 0) 1 ∧ KMade W.heap.size w' (.slice ao m c) (ticketBox (tB k0) (rT 0 0) k1) ∧ W.grownBy w' none :=
 kcame3 11 (tB k0) (rT 0 0) 1 1 3 1000002 3 k1 k2 1000001 1000002 v W rfl rfl len_alB (by decide) ⟨by decide,by decide⟩ (tB_in k0) ⟨by decide,by decide⟩ ⟨by decide,by decide⟩ ⟨by decide,by decide⟩ hv ht b64t b64a
theorem kst3 (q : Bool) (lo hi g : Nat) (p0 p1 : Option Addr) (z y : BE) (ds : List UInt8) (w : World) (hd : deskV q g = #[.pointer p0,.pointer p1]) (hz : GA z) (hy : GT y) (hD : ds.length = 480) (hS : KS q lo hi w g ⟨10,bB z y,[],ds⟩) :
  Calls Tryz.prog 5 #[.agg #[.pointer p0,.pointer p1]] w fun e w' => ∃ bn a2 n2 c2,e = .returned (.agg #[.slice (some ⟨bn,0,none⟩) 3 3,.slice a2 n2 c2,.int .i64 0,.int .i64 480]) ∧ w'.cell? ⟨bn,0,none⟩ = some (.string ⟨#[97,108]⟩) ∧ w'.cell? ⟨bn,1,none⟩ = some (.string ⟨#[116,103,115]⟩) ∧ w'.cell? ⟨bn,2,none⟩ = some (.string ⟨#[119,101,98]⟩) ∧ w.grownBy w' none := by
 obtain ⟨_,_,dp,h3,_⟩ := hS
 have hn1 : z.name = nAl := by rcases hz with rfl | ⟨_,_,rfl,_⟩ <;> rfl
 have hn2 : y.name = nTgs := by rcases hy with rfl | ⟨_,_,rfl,_⟩ <;> rfl
 rw [← hd]
 refine (kstate_any q g dp ⟨10,bB z y,[],ds⟩ w h3).mono ?_
 rintro e w' ⟨bn,bu,rfl,ho,hg⟩
 refine ⟨bn,some ⟨bu,0,none⟩,3,3,by rw [show ((⟨10,bB z y,[],ds⟩ : DM).draws.length : Int) = 480 by show (ds.length : Int) = 480; rw [hD]; rfl]; rfl,?_,?_,?_,hg⟩
 ·rw [World.ownsRow.cellAt ho 0 (by show 0 < 3 * 1; decide)]
  show some (Value.string ⟨z.name.toArray⟩) = _
  rw [hn1]
 ·rw [World.ownsRow.cellAt ho 1 (by show 1 < 3 * 1; decide)]
  show some (Value.string ⟨y.name.toArray⟩) = _
  rw [hn2]
 ·rw [World.ownsRow.cellAt ho 2 (by show 2 < 3 * 1; decide)]
  rfl
theorem kidle3 (q : Bool) (lo hi g : Nat) (p0 p1 : Option Addr) (M : DM) (w : World) (hd : deskV q g = #[.pointer p0,.pointer p1]) (hS : KS q lo hi w g M) :
  Calls Tryz.prog 11 #[.agg #[.pointer p0,.pointer p1]] w fun e w' => e = .returned (.bool true) ∧ w.grownBy w' none := by
 obtain ⟨_,_,dp,h3,_⟩ := hS
 rw [← hd]
 exact kidle_any q g dp M w h3
set_option maxHeartbeats 16000000 in
theorem bound_any (q : Bool) (seed which : Int) (w : World) (_h1 : -9223372036854775808 ≤ seed ∧ seed ≤ 9223372036854775807) (h2 : -9223372036854775808 ≤ which ∧ which ≤ 9223372036854775807) (htab : TabHere w) :
  Calls Tryz.prog 3 #[.bool q,.int .i64 seed,.int .i64 which] w fun e w' => e = .returned (.bool true) ∧ Below w.heap.size w w' := by
 have HH := hid (khouse_ok q 10 seed 100 100 100 w (by decide) (by decide) (by decide) (by decide) (by decide) (by decide) (by decide) (by decide))
 rw [show ((pickN 10 301 : Nat) : Int) = 10 from rfl] at HH
 have HTab := hid htab
 have hp := pickN_lt which 10 (by decide)
 obtain ⟨P,hP⟩ : ∃ P : Int,(pickN which 10 : Int) = P := ⟨_,rfl⟩
 have HPk : Hid (∀ W,Calls Tryz.prog 7 #[.int .i64 which,.int .i64 10] W fun e w' => e = .returned (.int .i64 P) ∧ W = w') := fun W => by
  have := kpick_any which 10 W h2 (by decide)
  rw [show (10 : Int).toNat = 10 from rfl,hP] at this
  exact this
 have HP : Hid (P = 0 ∨ P = 1 ∨ P = 2 ∨ P = 3 ∨ P = 4 ∨ P = 5 ∨ P = 6 ∨ P = 7 ∨ P = 8 ∨ P = 9) := hid (by omega)
 clear h2 htab hp hP
 go_enter Tryz.func3,Tryz.ntmps3
 go_wp2_with fail
 refine HH.out.mono ?_
 clear HH
 rintro e w1 ⟨p0,p1,av,cv,ds,g,lo,hi,rfl,hd,hS,hl,hX,hlo,hhi,hg⟩
 have HD := hid hd
 have HL := hid hl
 have HW1 := hid (And.intro hS (And.intro hlo (And.intro hhi hg)))
 clear hd hS hl hX hlo hhi hg
 go_upto_region 4 with fail
 refine wp_genK (fun V => KB w lo hi w1.heap.size #[.pointer p0,.pointer p1,.int .i64 10,.slice av 480 cv,.int .i64 100,.int .i64 100,.int .i64 100] V ∧ KS q lo hi V g ⟨10,bT,[],ds⟩) ⟨⟨(gb_below HW1.out.2.2.2).trans ((gb_below (World.grownBy_alloc w1 _ none)).mono HW1.out.2.2.2.size),Nat.le_trans HW1.out.2.2.1 (World.grownBy_alloc w1 _ none).size,Blk.new w1 _ _,HW1.out.2.2.1,HW1.out.2.1,Nat.le_of_lt (Nat.lt_of_le_of_lt HW1.out.1.1 HW1.out.1.2.1)⟩,HW1.out.1.gb (World.grownBy_alloc w1 _ none)⟩ ?_
 rintro V ⟨hK,hS⟩
 have HK := hid hK
 have HS := hid hS
 have y0 : V.cell? ⟨w1.heap.size,0,none⟩ = some (.pointer p0) := hK.house.cell 0
 have y1 : V.cell? ⟨w1.heap.size,1,none⟩ = some (.pointer p1) := hK.house.cell 1
 clear hK hS HW1
 have HSt := hid (kstate2 q lo hi g p0 p1 ⟨10,bT,[],ds⟩ 0 480 V HD.out HS.out rfl (by rw [HL.out]; rfl))
 go_wp2_with fail
 refine HSt.out.mono ?_
 clear HSt y0 y1
 rintro e w2 ⟨t1,n1,u1,t2,n2,u2,rfl,g1⟩
 have HK2 := hid (HK.out.fr (FR.gb g1))
 have HS2 := hid (HS.out.gb g1)
 have HSb : Hid (hi ≤ w2.heap.size) := HK2.out.size
 clear g1 HK HS
 go_upto_region 6 with fail
 refine wp_genK (fun V => KB w lo hi w1.heap.size #[.pointer p0,.pointer p1,.int .i64 10,.slice av 480 cv,.int .i64 100,.int .i64 100,.int .i64 100] V ∧ KS q lo hi V g ⟨10,bT,[],ds⟩ ∧ Blk V w2.heap.size #[.slice t1 n1 u1,.slice t2 n2 u2,.int .i64 0,.int .i64 480] ∧ w2.heap.size < V.heap.size) ⟨HK2.out.fr (FR.gb (gb_alloc0 w2 _)),HS2.out.gb (gb_alloc0 w2 _),Blk.new w2 _ _,(Blk.new w2 _ _).lt⟩ ?_
 rintro V2 ⟨hK,hS,hB,hlt⟩
 have HK2 := hid hK
 have HS2 := hid hS
 have HB2 := hid hB
 clear hK hS hB hlt
 have HF := hid (kfirst_any nAl nTgs 1 0 0 0 0 V2 (by decide) (by decide) ⟨by decide,by decide⟩ ⟨by decide,by decide⟩ ⟨by decide,by decide⟩ ⟨by decide,by decide⟩ ⟨by decide,by decide⟩)
 go_wp2_with fail
 refine HF.out.mono ?_
 clear HF
 rintro e w3 ⟨ob,rfl,hm,hg⟩
 obtain ⟨ra,rm,rc,rfl⟩ := hm.slice
 have HM3 := hid hm
 have HG23 := hid hg
 clear hm hg
 go_wp2_with fail
 refine (HPk.out _).mono ?_
 rintro e wa ⟨rfl,rfl⟩
 go_upto_block 0 with fail
 refine wp_genK (fun V => w3.grownBy V none ∧ Blk V w3.heap.size #[.int .i64 0,.string ⟨#[]⟩,.int .u64 0,.int .i64 0,.int .i64 0,.int .i64 0,.int .i64 0]) ⟨gb_alloc0 w3 _,Blk.new w3 _ _⟩ ?_
 rintro V3 ⟨hg3,hb3⟩
 have HG3 := hid hg3
 have HB3 := hid hb3
 have HX3 : Hid (KX lo hi w3 (.slice ra rm rc) (firstReq nAl nTgs 1 0 0 0 0)) := KX.made HM3.out HK2.out.size
 have HS3 := hid (HS2.out.gb HG23.out)
 have HSz3 : Hid (hi ≤ V3.heap.size) := Nat.le_trans HK2.out.size (gb_trans HG23.out hg3).size
 clear hg3 hb3 HPk
 go_cut [11,12] (fun r cd wx => ∃ (a' : Option Addr) (m' c' : Nat) (req : List UInt8) (code : Int) (acs : Array Value),r = .slice a' m' c' ∧ cd = .int .i64 code ∧ KX lo hi wx (.slice a' m' c') req ∧ req.length ≤ 300 ∧ In64 code ∧ Blk wx w3.heap.size acs ∧ BSel req code acs ∧ FR lo hi V2 wx ∧ KS q lo hi wx g ⟨10,bT,[],ds⟩)
 case first =>
  rcases HP.out with rfl | rfl | rfl | rfl | rfl | rfl | rfl | rfl | rfl | rfl
  ·as_aux_lemma =>
    go_wp2_with fail
    refine (kfirst2 lo hi nNo nNor 1 0 0 0 0 V3 HSz3.out (by decide) (by decide) ⟨by decide,by decide⟩ ⟨by decide,by decide⟩ ⟨by decide,by decide⟩ ⟨by decide,by decide⟩ ⟨by decide,by decide⟩).mono ?_
    rintro e w5 ⟨a5,m5,c5,rfl,x5,g5⟩
    have HX5 := hid x5
    have HG5 := hid g5
    clear x5 g5
    go_wp2
    go_meet
    exact ⟨a5,m5,c5,_,_,_,rfl,rfl,HX5.out,first_len _ _ _ _ _ _ _ (by decide) (by decide),⟨by decide,by decide⟩,HB3.out.grown HG5.out (by simp),.inl ⟨rfl,bnd0⟩,FR.gb (gb_trans (gb_trans HG23.out HG3.out) HG5.out),HS3.out.gb (gb_trans HG3.out HG5.out)⟩
  ·as_aux_lemma =>
    go_wp2_with fail
    refine (kfirst2 lo hi nAl nNor 1 0 0 0 0 V3 HSz3.out (by decide) (by decide) ⟨by decide,by decide⟩ ⟨by decide,by decide⟩ ⟨by decide,by decide⟩ ⟨by decide,by decide⟩ ⟨by decide,by decide⟩).mono ?_
    rintro e w5 ⟨a5,m5,c5,rfl,x5,g5⟩
    have HX5 := hid x5
    have HG5 := hid g5
    clear x5 g5
    go_wp2
    go_meet
    exact ⟨a5,m5,c5,_,_,_,rfl,rfl,HX5.out,first_len _ _ _ _ _ _ _ (by decide) (by decide),⟨by decide,by decide⟩,HB3.out.grown HG5.out (by simp),.inl ⟨rfl,bnd1⟩,FR.gb (gb_trans (gb_trans HG23.out HG3.out) HG5.out),HS3.out.gb (gb_trans HG3.out HG5.out)⟩
  ·as_aux_lemma =>
    go_wp2_with fail
    refine (kfirst2 lo hi nAl nTgs 1 0 1000 0 0 V3 HSz3.out (by decide) (by decide) ⟨by decide,by decide⟩ ⟨by decide,by decide⟩ ⟨by decide,by decide⟩ ⟨by decide,by decide⟩ ⟨by decide,by decide⟩).mono ?_
    rintro e w5 ⟨a5,m5,c5,rfl,x5,g5⟩
    have HX5 := hid x5
    have HG5 := hid g5
    clear x5 g5
    go_wp2
    go_meet
    exact ⟨a5,m5,c5,_,_,_,rfl,rfl,HX5.out,first_len _ _ _ _ _ _ _ (by decide) (by decide),⟨by decide,by decide⟩,HB3.out.grown HG5.out (by simp),.inl ⟨rfl,bnd2⟩,FR.gb (gb_trans (gb_trans HG23.out HG3.out) HG5.out),HS3.out.gb (gb_trans HG3.out HG5.out)⟩
  ·as_aux_lemma =>
    go_wp2_with fail
    refine (kfirst2 lo hi nAl nTgs 1 1011 0 0 0 V3 HSz3.out (by decide) (by decide) ⟨by decide,by decide⟩ ⟨by decide,by decide⟩ ⟨by decide,by decide⟩ ⟨by decide,by decide⟩ ⟨by decide,by decide⟩).mono ?_
    rintro e w5 ⟨a5,m5,c5,rfl,x5,g5⟩
    have HX5 := hid x5
    have HG5 := hid g5
    clear x5 g5
    go_wp2
    go_meet
    exact ⟨a5,m5,c5,_,_,_,rfl,rfl,HX5.out,first_len _ _ _ _ _ _ _ (by decide) (by decide),⟨by decide,by decide⟩,HB3.out.grown HG5.out (by simp),.inl ⟨rfl,bnd3⟩,FR.gb (gb_trans (gb_trans HG23.out HG3.out) HG5.out),HS3.out.gb (gb_trans HG3.out HG5.out)⟩
  ·as_aux_lemma =>
    go_wp2_with fail
    refine (kfirst2 lo hi nAl nTgs 1 0 0 0 16 V3 HSz3.out (by decide) (by decide) ⟨by decide,by decide⟩ ⟨by decide,by decide⟩ ⟨by decide,by decide⟩ ⟨by decide,by decide⟩ ⟨by decide,by decide⟩).mono ?_
    rintro e w5 ⟨a5,m5,c5,rfl,x5,g5⟩
    have HX5 := hid x5
    have HG5 := hid g5
    clear x5 g5
    go_wp2
    go_meet
    exact ⟨a5,m5,c5,_,_,_,rfl,rfl,HX5.out,first_len _ _ _ _ _ _ _ (by decide) (by decide),⟨by decide,by decide⟩,HB3.out.grown HG5.out (by simp),.inl ⟨rfl,bnd4⟩,FR.gb (gb_trans (gb_trans HG23.out HG3.out) HG5.out),HS3.out.gb (gb_trans HG3.out HG5.out)⟩
  ·skip
   have f0 : V3.frozen? ⟨w3.heap.size,0,none⟩ = false := HB3.out.frozen 0
   have f1 : V3.frozen? ⟨w3.heap.size,1,none⟩ = false := HB3.out.frozen 1
   have f2 : V3.frozen? ⟨w3.heap.size,2,none⟩ = false := HB3.out.frozen 2
   have f3 : V3.frozen? ⟨w3.heap.size,3,none⟩ = false := HB3.out.frozen 3
   have f4 : V3.frozen? ⟨w3.heap.size,4,none⟩ = false := HB3.out.frozen 4
   have f5 : V3.frozen? ⟨w3.heap.size,5,none⟩ = false := HB3.out.frozen 5
   have f6 : V3.frozen? ⟨w3.heap.size,6,none⟩ = false := HB3.out.frozen 6
   have g0 : V3.cell? ⟨w3.heap.size,0,none⟩ = some (.int .i64 0) := HB3.out.cell 0
   have g1 : V3.cell? ⟨w3.heap.size,1,none⟩ = some (.string ⟨#[]⟩) := HB3.out.cell 1
   have g2 : V3.cell? ⟨w3.heap.size,2,none⟩ = some (.int .u64 0) := HB3.out.cell 2
   have g3 : V3.cell? ⟨w3.heap.size,3,none⟩ = some (.int .i64 0) := HB3.out.cell 3
   have g4 : V3.cell? ⟨w3.heap.size,4,none⟩ = some (.int .i64 0) := HB3.out.cell 4
   have g5 : V3.cell? ⟨w3.heap.size,5,none⟩ = some (.int .i64 0) := HB3.out.cell 5
   have g6 : V3.cell? ⟨w3.heap.size,6,none⟩ = some (.int .i64 0) := HB3.out.cell 6
   go_wp2
   go_meet
   have hgs : Hid (∀ a0 a1 a2 a3 a4 a5 a6,w3.grownBy (((((((V3.setCell ⟨w3.heap.size,0,none⟩ a0).setCell ⟨w3.heap.size,1,none⟩ a1).setCell ⟨w3.heap.size,2,none⟩ a2).setCell ⟨w3.heap.size,3,none⟩ a3).setCell ⟨w3.heap.size,4,none⟩ a4).setCell ⟨w3.heap.size,5,none⟩ a5).setCell ⟨w3.heap.size,6,none⟩ a6) none) := fun _ _ _ _ _ _ _ => gb_store (gb_store (gb_store (gb_store (gb_store (gb_store (gb_store HG3.out (Nat.le_refl _)) (Nat.le_refl _)) (Nat.le_refl _)) (Nat.le_refl _)) (Nat.le_refl _)) (Nat.le_refl _)) (Nat.le_refl _)
   exact ⟨ra,rm,rc,(firstReq nAl nTgs 1 0 0 0 0),1,#[.int .i64 4,.string ⟨#[97,108]⟩,.int .u64 0,.int .i64 100,.int .i64 0,.int .i64 1000,.int .i64 0],rfl,rfl,HX3.out.fr (FR.gb (hgs.out _ _ _ _ _ _ _)),first_len _ _ _ _ _ _ _ (by decide) (by decide),⟨by decide,by decide⟩,put7 HB3.out _ _ _ _ _ _ _,.inr ⟨nAl,1000,0,(rA 1000 0),tT,rfl,by decide,by decide,by decide,bnd_al tT (.inl rfl) tA (.inl rfl) 1000 0 (by decide),.inr ⟨_,_,rfl,by decide,by decide⟩,.inl rfl,bnd5⟩,FR.gb (gb_trans HG23.out (hgs.out _ _ _ _ _ _ _)),HS3.out.gb (hgs.out _ _ _ _ _ _ _)⟩
  ·skip
   have f0 : V3.frozen? ⟨w3.heap.size,0,none⟩ = false := HB3.out.frozen 0
   have f1 : V3.frozen? ⟨w3.heap.size,1,none⟩ = false := HB3.out.frozen 1
   have f2 : V3.frozen? ⟨w3.heap.size,2,none⟩ = false := HB3.out.frozen 2
   have f3 : V3.frozen? ⟨w3.heap.size,3,none⟩ = false := HB3.out.frozen 3
   have f4 : V3.frozen? ⟨w3.heap.size,4,none⟩ = false := HB3.out.frozen 4
   have f5 : V3.frozen? ⟨w3.heap.size,5,none⟩ = false := HB3.out.frozen 5
   have f6 : V3.frozen? ⟨w3.heap.size,6,none⟩ = false := HB3.out.frozen 6
   have g0 : V3.cell? ⟨w3.heap.size,0,none⟩ = some (.int .i64 0) := HB3.out.cell 0
   have g1 : V3.cell? ⟨w3.heap.size,1,none⟩ = some (.string ⟨#[]⟩) := HB3.out.cell 1
   have g2 : V3.cell? ⟨w3.heap.size,2,none⟩ = some (.int .u64 0) := HB3.out.cell 2
   have g3 : V3.cell? ⟨w3.heap.size,3,none⟩ = some (.int .i64 0) := HB3.out.cell 3
   have g4 : V3.cell? ⟨w3.heap.size,4,none⟩ = some (.int .i64 0) := HB3.out.cell 4
   have g5 : V3.cell? ⟨w3.heap.size,5,none⟩ = some (.int .i64 0) := HB3.out.cell 5
   have g6 : V3.cell? ⟨w3.heap.size,6,none⟩ = some (.int .i64 0) := HB3.out.cell 6
   go_wp2
   go_meet
   have hgs : Hid (∀ a0 a1 a2 a3 a4 a5 a6,w3.grownBy (((((((V3.setCell ⟨w3.heap.size,0,none⟩ a0).setCell ⟨w3.heap.size,1,none⟩ a1).setCell ⟨w3.heap.size,2,none⟩ a2).setCell ⟨w3.heap.size,3,none⟩ a3).setCell ⟨w3.heap.size,4,none⟩ a4).setCell ⟨w3.heap.size,5,none⟩ a5).setCell ⟨w3.heap.size,6,none⟩ a6) none) := fun _ _ _ _ _ _ _ => gb_store (gb_store (gb_store (gb_store (gb_store (gb_store (gb_store HG3.out (Nat.le_refl _)) (Nat.le_refl _)) (Nat.le_refl _)) (Nat.le_refl _)) (Nat.le_refl _)) (Nat.le_refl _)) (Nat.le_refl _)
   exact ⟨ra,rm,rc,(firstReq nAl nTgs 1 0 0 0 0),2,#[.int .i64 4,.string ⟨#[116,103,115]⟩,.int .u64 0,.int .i64 100,.int .i64 0,.int .i64 999,.int .i64 0],rfl,rfl,HX3.out.fr (FR.gb (hgs.out _ _ _ _ _ _ _)),first_len _ _ _ _ _ _ _ (by decide) (by decide),⟨by decide,by decide⟩,put7 HB3.out _ _ _ _ _ _ _,.inr ⟨nTgs,999,0,tA,(rT 999 0),rfl,by decide,by decide,by decide,bnd_tgs tT (.inl rfl) tA (.inl rfl) 999 0 (by decide),.inl rfl,.inr ⟨_,_,rfl,by decide,by decide⟩,bnd6⟩,FR.gb (gb_trans HG23.out (hgs.out _ _ _ _ _ _ _)),HS3.out.gb (hgs.out _ _ _ _ _ _ _)⟩
  ·skip
   have f0 : V3.frozen? ⟨w3.heap.size,0,none⟩ = false := HB3.out.frozen 0
   have f1 : V3.frozen? ⟨w3.heap.size,1,none⟩ = false := HB3.out.frozen 1
   have f2 : V3.frozen? ⟨w3.heap.size,2,none⟩ = false := HB3.out.frozen 2
   have f3 : V3.frozen? ⟨w3.heap.size,3,none⟩ = false := HB3.out.frozen 3
   have f4 : V3.frozen? ⟨w3.heap.size,4,none⟩ = false := HB3.out.frozen 4
   have f5 : V3.frozen? ⟨w3.heap.size,5,none⟩ = false := HB3.out.frozen 5
   have f6 : V3.frozen? ⟨w3.heap.size,6,none⟩ = false := HB3.out.frozen 6
   have g0 : V3.cell? ⟨w3.heap.size,0,none⟩ = some (.int .i64 0) := HB3.out.cell 0
   have g1 : V3.cell? ⟨w3.heap.size,1,none⟩ = some (.string ⟨#[]⟩) := HB3.out.cell 1
   have g2 : V3.cell? ⟨w3.heap.size,2,none⟩ = some (.int .u64 0) := HB3.out.cell 2
   have g3 : V3.cell? ⟨w3.heap.size,3,none⟩ = some (.int .i64 0) := HB3.out.cell 3
   have g4 : V3.cell? ⟨w3.heap.size,4,none⟩ = some (.int .i64 0) := HB3.out.cell 4
   have g5 : V3.cell? ⟨w3.heap.size,5,none⟩ = some (.int .i64 0) := HB3.out.cell 5
   have g6 : V3.cell? ⟨w3.heap.size,6,none⟩ = some (.int .i64 0) := HB3.out.cell 6
   go_wp2
   go_meet
   have hgs : Hid (∀ a0 a1 a2 a3 a4 a5 a6,w3.grownBy (((((((V3.setCell ⟨w3.heap.size,0,none⟩ a0).setCell ⟨w3.heap.size,1,none⟩ a1).setCell ⟨w3.heap.size,2,none⟩ a2).setCell ⟨w3.heap.size,3,none⟩ a3).setCell ⟨w3.heap.size,4,none⟩ a4).setCell ⟨w3.heap.size,5,none⟩ a5).setCell ⟨w3.heap.size,6,none⟩ a6) none) := fun _ _ _ _ _ _ _ => gb_store (gb_store (gb_store (gb_store (gb_store (gb_store (gb_store HG3.out (Nat.le_refl _)) (Nat.le_refl _)) (Nat.le_refl _)) (Nat.le_refl _)) (Nat.le_refl _)) (Nat.le_refl _)) (Nat.le_refl _)
   exact ⟨ra,rm,rc,(firstReq nAl nTgs 1 0 0 0 0),12,#[.int .i64 4,.string ⟨#[116,103,115]⟩,.int .u64 0,.int .i64 100,.int .i64 0,.int .i64 0,.int .i64 32],rfl,rfl,HX3.out.fr (FR.gb (hgs.out _ _ _ _ _ _ _)),first_len _ _ _ _ _ _ _ (by decide) (by decide),⟨by decide,by decide⟩,put7 HB3.out _ _ _ _ _ _ _,.inr ⟨nTgs,0,32,tA,(rT 0 32),rfl,by decide,by decide,by decide,bnd_tgs tT (.inl rfl) tA (.inl rfl) 0 32 (by decide),.inl rfl,.inr ⟨_,_,rfl,by decide,by decide⟩,bnd7⟩,FR.gb (gb_trans HG23.out (hgs.out _ _ _ _ _ _ _)),HS3.out.gb (hgs.out _ _ _ _ _ _ _)⟩
  ·skip
   have f0 : V3.frozen? ⟨w3.heap.size,0,none⟩ = false := HB3.out.frozen 0
   have f1 : V3.frozen? ⟨w3.heap.size,1,none⟩ = false := HB3.out.frozen 1
   have f2 : V3.frozen? ⟨w3.heap.size,2,none⟩ = false := HB3.out.frozen 2
   have f3 : V3.frozen? ⟨w3.heap.size,3,none⟩ = false := HB3.out.frozen 3
   have f4 : V3.frozen? ⟨w3.heap.size,4,none⟩ = false := HB3.out.frozen 4
   have f5 : V3.frozen? ⟨w3.heap.size,5,none⟩ = false := HB3.out.frozen 5
   have f6 : V3.frozen? ⟨w3.heap.size,6,none⟩ = false := HB3.out.frozen 6
   have g0 : V3.cell? ⟨w3.heap.size,0,none⟩ = some (.int .i64 0) := HB3.out.cell 0
   have g1 : V3.cell? ⟨w3.heap.size,1,none⟩ = some (.string ⟨#[]⟩) := HB3.out.cell 1
   have g2 : V3.cell? ⟨w3.heap.size,2,none⟩ = some (.int .u64 0) := HB3.out.cell 2
   have g3 : V3.cell? ⟨w3.heap.size,3,none⟩ = some (.int .i64 0) := HB3.out.cell 3
   have g4 : V3.cell? ⟨w3.heap.size,4,none⟩ = some (.int .i64 0) := HB3.out.cell 4
   have g5 : V3.cell? ⟨w3.heap.size,5,none⟩ = some (.int .i64 0) := HB3.out.cell 5
   have g6 : V3.cell? ⟨w3.heap.size,6,none⟩ = some (.int .i64 0) := HB3.out.cell 6
   go_wp2
   go_meet
   have hgs : Hid (∀ a0 a1 a2 a3 a4 a5 a6,w3.grownBy (((((((V3.setCell ⟨w3.heap.size,0,none⟩ a0).setCell ⟨w3.heap.size,1,none⟩ a1).setCell ⟨w3.heap.size,2,none⟩ a2).setCell ⟨w3.heap.size,3,none⟩ a3).setCell ⟨w3.heap.size,4,none⟩ a4).setCell ⟨w3.heap.size,5,none⟩ a5).setCell ⟨w3.heap.size,6,none⟩ a6) none) := fun _ _ _ _ _ _ _ => gb_store (gb_store (gb_store (gb_store (gb_store (gb_store (gb_store HG3.out (Nat.le_refl _)) (Nat.le_refl _)) (Nat.le_refl _)) (Nat.le_refl _)) (Nat.le_refl _)) (Nat.le_refl _)) (Nat.le_refl _)
   exact ⟨ra,rm,rc,(firstReq nAl nTgs 1 0 0 0 0),25,#[.int .i64 4,.string ⟨#[97,108]⟩,.int .u64 0,.int .i64 100,.int .i64 0,.int .i64 0,.int .i64 1],rfl,rfl,HX3.out.fr (FR.gb (hgs.out _ _ _ _ _ _ _)),first_len _ _ _ _ _ _ _ (by decide) (by decide),⟨by decide,by decide⟩,put7 HB3.out _ _ _ _ _ _ _,.inr ⟨nAl,0,1,(rA 0 1),tT,rfl,by decide,by decide,by decide,bnd_al tT (.inl rfl) tA (.inl rfl) 0 1 (by decide),.inr ⟨_,_,rfl,by decide,by decide⟩,.inl rfl,bnd8⟩,FR.gb (gb_trans HG23.out (hgs.out _ _ _ _ _ _ _)),HS3.out.gb (hgs.out _ _ _ _ _ _ _)⟩
  ·as_aux_lemma =>
    obtain ⟨i0,hif,hz0,hz1,hz2⟩ := info_parts Tryz.info5
    have hown : V3.ownsRow V2.heap.size 5 1 (.slice ra rm rc) (firstReq nAl nTgs 1 0 0 0 0).length ((firstReq nAl nTgs 1 0 0 0 0).map U8) := HM3.out.grown HG3.out
    go_wp2_with (at_builtin; refine wpList_append_at _ rfl _ _ 26 rfl V2.heap.size 5 i0 Tryz.underlying26 hif hz0 hz1 hz2 _ _ _ rfl (hown.alloc _) (some ⟨V3.heap.size,0,none⟩) 1 1 [0] rfl rfl ?a1 ?a2 ?a3 ?a4 ?_)
    case a2 => exact bytes_new V3 _ _ _ rfl
    case a3 => have h := first_len nAl nTgs 1 0 0 0 0 (by decide) (by decide); omega
    case a4 => have h := (gb_trans HG23.out HG3.out).size; simp; omega
    intro v1 w9 hown1 hg1 _
    have HG1 : Hid (V2.grownBy w9 none) := gb_row (gb_alloc (gb_trans HG23.out HG3.out) _) hg1 (fun i hi => (hown.lt i hi).1)
    have RO : KMade V2.heap.size w9 v1 ((firstReq nAl nTgs 1 0 0 0 0) ++ [0]) := by simpa [KMade] using hown1
    have HBb := hid ((HB3.out.alloc _).grown hg1 (fun e => by have := (World.ownsRow.lt HM3.out _ e.symm).2; omega))
    obtain ⟨a1,m1,c1,rfl⟩ := RO.slice
    have HRO := hid RO
    clear hown hown1 hg1 RO
    go_wp2
    go_meet
    exact ⟨a1,m1,c1,_,60,_,rfl,rfl,KX.made HRO.out HK2.out.size,by decide,⟨by decide,by decide⟩,HBb.out,.inl ⟨rfl,bnd9⟩,FR.gb HG1.out,HS2.out.gb HG1.out⟩
 case rest =>
  as_aux_lemma =>
   obtain ⟨qa,qm,qc,req,code,acs,rfl,rfl,hX,hlen,hcode,hB,hsel,hFR,hS⟩ := hcut
   obtain ⟨V4,hwc⟩ : ∃ W,Hid (W = wc) := ⟨_,hid rfl⟩
   obtain rfl := hwc.out
   clear hwc
   have HX4 := hid hX
   have HLn := hid hlen
   have HCd : Hid (In64 code) := hcode
   have HB4 := hid hB
   have HSel := hid hsel
   have HK4 := hid (HK2.out.fr hFR)
   have HS4 := hid hS
   have HBs4 := hid (HB2.out.fr hFR (.inr HSb.out))
   have HA3 : Hid (hi ≤ w3.heap.size) := Nat.le_trans HK2.out.size HG23.out.size
   clear hX hlen hcode hB hsel hFR hS HM3 HG23 HG3 HB3 HX3 HS3 HSz3 HP HK2 HS2 HB2
   have y0 : V4.cell? ⟨w1.heap.size,0,none⟩ = some (.pointer p0) := HK4.out.house.cell 0
   have y1 : V4.cell? ⟨w1.heap.size,1,none⟩ = some (.pointer p1) := HK4.out.house.cell 1
   obtain ⟨kd,hkd⟩ : ∃ kd : Int,V4.cell? ⟨w3.heap.size,0,none⟩ = some (.int .i64 kd) := by
    rcases HSel.out with ⟨e,_⟩ | ⟨_,_,_,_,_,e,_⟩
    ·have := HB4.out; rw [e] at this; exact ⟨_,this.cell 0⟩
    ·have := HB4.out; rw [e] at this; exact ⟨_,this.cell 0⟩
   go_upto_if 73 with fail
   go_cut [14] (fun e wx => e = .int .i64 0 ∧ ∃ z y,GA z ∧ GT y ∧ KS q lo hi wx g ⟨10,bB z y,[],ds⟩ ∧ FR lo hi V4 wx ∧ ∀ ds,answerM ⟨10,bB z y,[],ds⟩ 1000 req = (refusalBox 1000 code,⟨10,bB z y,[],ds⟩))
   case first =>
    as_aux_lemma =>
     rcases HSel.out with ⟨e,hans⟩ | ⟨nm,x,f,z,y,e,hf0,hf1,hnl,hadm,hz,hy,hans⟩
     ·have hb := HB4.out
      rw [e] at hb
      have hk : V4.cell? ⟨w3.heap.size,0,none⟩ = some (.int .i64 0) := hb.cell 0
      obtain rfl : kd = 0 := by rw [hkd] at hk; simpa using hk
      have HAns := hid hans
      clear hb hk e hans
      go_wp2
      go_meet
      exact ⟨rfl,tA,tT,.inl rfl,.inl rfl,HS4.out,FR.refl _ _ _,HAns.out⟩
     ·have hb := HB4.out
      rw [e] at hb
      have a0 : V4.cell? ⟨w3.heap.size,0,none⟩ = some (.int .i64 4) := hb.cell 0
      have a1 : V4.cell? ⟨w3.heap.size,1,none⟩ = some (.string ⟨nm.toArray⟩) := hb.cell 1
      have a2 : V4.cell? ⟨w3.heap.size,2,none⟩ = some (.int .u64 0) := hb.cell 2
      have a3 : V4.cell? ⟨w3.heap.size,3,none⟩ = some (.int .i64 100) := hb.cell 3
      have a4 : V4.cell? ⟨w3.heap.size,4,none⟩ = some (.int .i64 0) := hb.cell 4
      have a5 : V4.cell? ⟨w3.heap.size,5,none⟩ = some (.int .i64 x) := hb.cell 5
      have a6 : V4.cell? ⟨w3.heap.size,6,none⟩ = some (.int .i64 f) := hb.cell 6
      obtain rfl : kd = 4 := by rw [hkd] at a0; simpa using a0
      have HAd := hid (kadm3 q lo hi g p0 p1 ⟨10,bT,[],ds⟩ (bB z y) nm x f V4 HD.out hadm HS4.out (bB_ok (.inl rfl) (.inl rfl)) hf0 hf1 hnl)
      have HAns := hid (And.intro hz (And.intro hy hans))
      clear hb e hans hz hy hadm hf0 hf1 hnl a0
      go_wp2_with fail
      refine HAd.out.mono ?_
      clear HAd
      rintro e W5 ⟨rfl,s5,f5⟩
      have HS5 := hid (And.intro s5 f5)
      clear s5 f5
      go_wp2
      go_meet
      exact ⟨rfl,z,y,HAns.out.1,HAns.out.2.1,HS5.out.1,HS5.out.2,HAns.out.2.2⟩
   case rest =>
    as_aux_lemma =>
     obtain ⟨rfl,z,y,hz,hy,hS,hFR,hans⟩ := hcut
     obtain ⟨V5,hwc⟩ : ∃ W,Hid (W = wc) := ⟨_,hid rfl⟩
     obtain rfl := hwc.out
     clear hwc
     have HZ := hid hz
     have HY := hid hy
     have HS5 := hid hS
     have HK5 := hid (HK4.out.fr hFR)
     have HX5 := hid (HX4.out.fr hFR)
     have HBs5 := hid (HBs4.out.fr hFR (.inr HSb.out))
     have HAns := hid (hans ds)
     clear hz hy hS hFR hans HS4 HK4 HX4 HB4 HBs4 HSel y0 y1 hkd
     have y0 : V5.cell? ⟨w1.heap.size,0,none⟩ = some (.pointer p0) := HK5.out.house.cell 0
     have y1 : V5.cell? ⟨w1.heap.size,1,none⟩ = some (.pointer p1) := HK5.out.house.cell 1
     have HAn := hid (kans2 q lo hi g p0 p1 ⟨10,bB z y,[],ds⟩ ⟨10,bB z y,[],ds⟩ 1000 req (refusalBox 1000 code) (.slice qa qm qc) V5 HD.out HAns.out HS5.out (bB_m HZ.out HY.out ds) HX5.out HLn.out (refusal_len _ _) ⟨by decide,by decide⟩ HK5.out.size)
     go_wp2_with fail
     refine HAn.out.mono ?_
     clear HAn
     rintro e V6 ⟨a6,m6,c6,rfl,x6,s6,f6⟩
     have HX6 := hid x6
     have HS6 := hid s6
     have HK6 := hid (HK5.out.fr f6)
     have HBs6 := hid (HBs5.out.fr f6 (.inr HSb.out))
     clear x6 s6 f6 y0 y1 HS5 HK5 HX5 HBs5 HAns
     have HCo := hid (kcode_any 1000 code (.slice a6 m6 c6) V6 ⟨by decide,by decide⟩ HCd.out HX6.out.1 (HK6.out.tab HTab.out))
     go_wp2_with fail
     refine HCo.out.mono ?_
     clear HCo
     rintro e V7 ⟨rfl,g7⟩
     have HS7 := hid (HS6.out.gb g7)
     have HK7 := hid (HK6.out.fr (FR.gb g7))
     have HBs7 := hid (HBs6.out.grown g7 (by simp))
     clear g7 HS6 HK6 HBs6 HX6
     have y0 : V7.cell? ⟨w1.heap.size,0,none⟩ = some (.pointer p0) := HK7.out.house.cell 0
     have y1 : V7.cell? ⟨w1.heap.size,1,none⟩ = some (.pointer p1) := HK7.out.house.cell 1
     have HSt := hid (kst3 q lo hi g p0 p1 z y ds V7 HD.out HZ.out HY.out HL.out HS7.out)
     go_wp2_with fail
     refine HSt.out.mono ?_
     clear HSt y0 y1
     rintro e V8 ⟨bn,b2,m2,e2,rfl,s0,s1,s2,g8⟩
     have HSs := hid (And.intro s0 (And.intro s1 s2))
     have HS8 := hid (HS7.out.gb g8)
     have HK8 := hid (HK7.out.fr (FR.gb g8))
     have HBs8 := hid (HBs7.out.grown g8 (by simp))
     clear s0 s1 s2 g8 HS7 HK7 HBs7
     go_upto_region 44 with fail
     refine wp_genK (fun V => KB w lo hi w1.heap.size #[.pointer p0,.pointer p1,.int .i64 10,.slice av 480 cv,.int .i64 100,.int .i64 100,.int .i64 100] V ∧ KS q lo hi V g ⟨10,bB z y,[],ds⟩ ∧ Blk V w2.heap.size #[.slice t1 n1 u1,.slice t2 n2 u2,.int .i64 0,.int .i64 480] ∧ Blk V V8.heap.size #[.slice (some ⟨bn,0,none⟩) 3 3,.slice b2 m2 e2,.int .i64 0,.int .i64 480] ∧ V8.grownBy V none) ⟨HK8.out.fr (FR.gb (gb_alloc0 V8 _)),HS8.out.gb (gb_alloc0 V8 _),HBs8.out.alloc _,Blk.new V8 _ _,gb_alloc0 V8 _⟩ ?_
     rintro V9 ⟨hK,hS,hb1,hb2,hg⟩
     have HK9 := hid hK
     have HS9 := hid hS
     have HG9 := hid (And.intro hb1 (And.intro hb2 hg))
     clear hK hS hb1 hb2 hg
     have y0 : V9.cell? ⟨w1.heap.size,0,none⟩ = some (.pointer p0) := HK9.out.house.cell 0
     have y1 : V9.cell? ⟨w1.heap.size,1,none⟩ = some (.pointer p1) := HK9.out.house.cell 1
     have HId := hid (kidle3 q lo hi g p0 p1 ⟨10,bB z y,[],ds⟩ V9 HD.out HS9.out)
     go_wp2_with fail
     refine HId.out.mono ?_
     clear HId y0 y1
     rintro e Va ⟨rfl,ga⟩
     have HKa := hid (HK9.out.fr (FR.gb ga))
     have HSa := hid (HS9.out.gb ga)
     have x0 : Va.cell? ⟨V8.heap.size,0,none⟩ = some (.slice (some ⟨bn,0,none⟩) 3 3) := (HG9.out.2.1.grown ga (by simp)).cell 0
     have x2 : Va.cell? ⟨V8.heap.size,2,none⟩ = some (.int .i64 0) := (HG9.out.2.1.grown ga (by simp)).cell 2
     have x3 : Va.cell? ⟨V8.heap.size,3,none⟩ = some (.int .i64 480) := (HG9.out.2.1.grown ga (by simp)).cell 3
     have b3 : Va.cell? ⟨w2.heap.size,3,none⟩ = some (.int .i64 480) := (HG9.out.1.grown ga (by simp)).cell 3
     have s0 : Va.cell? ⟨bn,0,none⟩ = some (.string ⟨#[97,108]⟩) := ga.cell (HG9.out.2.2.cell HSs.out.1 (by simp)) (by simp)
     have s1 : Va.cell? ⟨bn,1,none⟩ = some (.string ⟨#[116,103,115]⟩) := ga.cell (HG9.out.2.2.cell HSs.out.2.1 (by simp)) (by simp)
     have s2 : Va.cell? ⟨bn,2,none⟩ = some (.string ⟨#[119,101,98]⟩) := ga.cell (HG9.out.2.2.cell HSs.out.2.2 (by simp)) (by simp)
     clear ga HK9 HS9 HG9 HSs HK8 HS8 HBs8
     have hcc : (code != code) = false := by simp
     go_upto_region 47 with fail
     clear x0 x2 x3 b3 s0 s1 s2 hcc
     have y0 : Va.cell? ⟨w1.heap.size,0,none⟩ = some (.pointer p0) := HKa.out.house.cell 0
     have y1 : Va.cell? ⟨w1.heap.size,1,none⟩ = some (.pointer p1) := HKa.out.house.cell 1
     have HAd : Hid (Calls Tryz.prog 8 #[.agg #[.pointer p0,.pointer p1],.agg #[.int .i64 4,.string ⟨#[97,108]⟩,.int .u64 0,.int .i64 100,.int .i64 0,.int .i64 0,.int .i64 0]] Va fun e w' => e = .returned (.int .i64 0) ∧ KS q lo hi w' g ⟨10,bB (rA 0 0) y,[],ds⟩ ∧ FR lo hi Va w') := kadm3 q lo hi g p0 p1 ⟨10,bB z y,[],ds⟩ (bB (rA 0 0) y) nAl 0 0 Va HD.out (bnd_al y HY.out.w z HZ.out.w 0 0 (by decide)) HSa.out (bB_ok HZ.out HY.out) (by decide) (by decide) (by decide)
     go_wp2_with fail
     refine HAd.out.mono ?_
     clear HAd y0 y1
     rintro e Vb ⟨rfl,sb,fb⟩
     have HSb2 := hid sb
     have HKb := hid (HKa.out.fr fb)
     clear sb fb HSa HKa
     have y0 : Vb.cell? ⟨w1.heap.size,0,none⟩ = some (.pointer p0) := HKb.out.house.cell 0
     have y1 : Vb.cell? ⟨w1.heap.size,1,none⟩ = some (.pointer p1) := HKb.out.house.cell 1
     have HGr : Hid (GA (rA 0 0)) := .inr ⟨0,0,rfl,by decide,by decide⟩
     have HGt : Hid (GT (rT 0 0)) := .inr ⟨0,0,rfl,by decide,by decide⟩
     have HAd : Hid (Calls Tryz.prog 8 #[.agg #[.pointer p0,.pointer p1],.agg #[.int .i64 4,.string ⟨#[116,103,115]⟩,.int .u64 0,.int .i64 100,.int .i64 0,.int .i64 0,.int .i64 0]] Vb fun e w' => e = .returned (.int .i64 0) ∧ KS q lo hi w' g ⟨10,bB (rA 0 0) (rT 0 0),[],ds⟩ ∧ FR lo hi Vb w') := kadm3 q lo hi g p0 p1 ⟨10,bB (rA 0 0) y,[],ds⟩ (bB (rA 0 0) (rT 0 0)) nTgs 0 0 Vb HD.out (bnd_tgs y HY.out.w (rA 0 0) HGr.out.w 0 0 (by decide)) HSb2.out (bB_ok HGr.out HY.out) (by decide) (by decide) (by decide)
     go_wp2_with fail
     refine HAd.out.mono ?_
     clear HAd y0 y1
     rintro e V ⟨rfl,sb,fb⟩
     have HS := hid sb
     have HK := hid (HKb.out.fr fb)
     clear sb fb HSb2 HKb
     obtain ⟨k0,hk0⟩ : ∃ k,drawAt ds 0 = k := ⟨_,rfl⟩
     obtain ⟨k1,hk1⟩ : ∃ k,drawAt ds 1 = k := ⟨_,rfl⟩
     obtain ⟨k2,hk2⟩ : ∃ k,drawAt ds 2 = k := ⟨_,rfl⟩
     obtain ⟨d2,hd2⟩ : ∃ d,ds.drop 24 = d := ⟨_,rfl⟩
     have HA := hid (bnd_last ds (by rw [HL.out]; decide))
     rw [hk0,hk1,hk2,hd2] at HA
     clear hk0 hk1 hk2 hd2
     have HM := hid (bB_m HGr.out HGt.out ds)
     have HLq : Hid ((firstReq nAl nTgs 1 0 0 0 0).length ≤ 300) := first_len _ _ _ _ _ _ _ (by decide) (by decide)
     have HLr : Hid ((giveBox 11 (tB k0) (rT 0 0) 1 1 1000002 3 k1 k2).length ≤ 900) := give_len _ _ _ _ _ _ _ _ _ len_alB (by decide)
     have HNow : Hid (In64 1000) := ⟨by decide,by decide⟩
     have HF1 := hid (first_b lo hi)
     have HC1 := hid (came_b k0 k1 k2)
     have HVh := hid HK.out.size
     have y0 : V.cell? ⟨w1.heap.size,0,none⟩ = some (.pointer p0) := HK.out.house.cell 0
     have y1 : V.cell? ⟨w1.heap.size,1,none⟩ = some (.pointer p1) := HK.out.house.cell 1
     go_upto_region 49 with fail
     go_cut [8] (fun okv wx => okv = .bool true ∧ FR lo hi V wx)
     case first =>
      as_aux_lemma =>
       have HSk : Hid (∀ W,FR lo hi V W → (fun w' => w'.cell? ⟨w1.heap.size,0,none⟩ = some (.pointer p0) ∧ w'.cell? ⟨w1.heap.size,1,none⟩ = some (.pointer p1)) W) := fun W k => ⟨(HK.out.fr k).house.cell 0,(HK.out.fr k).house.cell 1⟩
       go_region_held3 (fun w' => w'.cell? ⟨w1.heap.size,0,none⟩ = some (.pointer p0) ∧ w'.cell? ⟨w1.heap.size,1,none⟩ = some (.pointer p1)) (exact HSk.out _ (by (repeat first | with_reducible exact F3.out | with_reducible exact F2.out | with_reducible exact F1.out | with_reducible exact FR.refl _ _ _ | with_reducible refine FR.alloc ?_ _ | with_reducible refine FR.drew ?_ | with_reducible refine FR.stores ?_ _ _ (by first | exact Nat.le_refl _ | exact F1.out.size | exact F2.out.size | exact F3.out.size)))) (first
        | (go_at_call 6; refine (HF1.out _ (Nat.le_trans HVh.out (FR.size (lo := lo) (hi := hi) (a := V) (by (repeat first | with_reducible exact F3.out | with_reducible exact F2.out | with_reducible exact F1.out | with_reducible exact FR.refl _ _ _ | with_reducible refine FR.alloc ?_ _ | with_reducible refine FR.drew ?_ | with_reducible refine FR.stores ?_ _ _ (by first | exact Nat.le_refl _ | exact F1.out.size | exact F2.out.size | exact F3.out.size)))))).mono ?_; rintro e w5 ⟨a5,m5,c5,rfl,x5,g5⟩; have G1 : Hid (V.grownBy w5 none) := gb_trans (by (repeat first | with_reducible exact World.grownBy.refl _ _ | with_reducible refine gb_alloc ?_ _ | with_reducible refine gb_drew1 ?_)) g5; have F1 : Hid (FR lo hi V w5) := FR.gb G1.out; have X5 := hid x5; clear x5 g5)
        | (go_at_call 10; refine (kans2 q lo hi g p0 p1 ⟨10,bB (rA 0 0) (rT 0 0),[],ds⟩ ⟨10,bB (rA 0 0) (rT 0 0),[],d2⟩ 1000 (firstReq nAl nTgs 1 0 0 0 0) (giveBox 11 (tB k0) (rT 0 0) 1 1 1000002 3 k1 k2) (.slice a5 m5 c5) _ HD.out HA.out (HS.out.gb (by (repeat first | with_reducible exact G1.out | with_reducible exact World.grownBy.refl _ _ | with_reducible refine gb_alloc ?_ _ | with_reducible refine gb_drew1 ?_))) HM.out (X5.out.fr (FR.gb (by (repeat first | with_reducible exact World.grownBy.refl _ _ | with_reducible refine gb_alloc ?_ _ | with_reducible refine gb_drew1 ?_)))) HLq.out HLr.out HNow.out (Nat.le_trans HVh.out (FR.size (lo := lo) (hi := hi) (a := V) (by (repeat first | with_reducible exact F3.out | with_reducible exact F2.out | with_reducible exact F1.out | with_reducible exact FR.refl _ _ _ | with_reducible refine FR.alloc ?_ _ | with_reducible refine FR.drew ?_ | with_reducible refine FR.stores ?_ _ _ (by first | exact Nat.le_refl _ | exact F1.out.size | exact F2.out.size | exact F3.out.size)))))).mono ?_; rintro e w6 ⟨a6,m6,c6,rfl,x6,s6,f6⟩; have F2 : Hid (FR lo hi V w6) := FR.trans (by (repeat first | with_reducible exact F3.out | with_reducible exact F2.out | with_reducible exact F1.out | with_reducible exact FR.refl _ _ _ | with_reducible refine FR.alloc ?_ _ | with_reducible refine FR.drew ?_ | with_reducible refine FR.stores ?_ _ _ (by first | exact Nat.le_refl _ | exact F1.out.size | exact F2.out.size | exact F3.out.size))) f6; have X6 := hid (And.intro x6 s6); clear x6 s6 f6)
        | (go_at_call 12; refine (HC1.out _ (.slice a6 m6 c6) (X6.out.1.fr (FR.gb (by (repeat first | with_reducible exact World.grownBy.refl _ _ | with_reducible refine gb_alloc ?_ _ | with_reducible refine gb_drew1 ?_)))).1 (KB.tab (HK.out.fr (by (repeat first | with_reducible exact F3.out | with_reducible exact F2.out | with_reducible exact F1.out | with_reducible exact FR.refl _ _ _ | with_reducible refine FR.alloc ?_ _ | with_reducible refine FR.drew ?_ | with_reducible refine FR.stores ?_ _ _ (by first | exact Nat.le_refl _ | exact F1.out.size | exact F2.out.size | exact F3.out.size)))) HTab.out)).mono ?_; rintro e w7 ⟨cs,ao,m7,c7,rfl,hcs,x7,g7⟩; have HCs := hid hcs; clear hcs; have S7 : Hid (KS q lo hi w7 g ⟨10,bB (rA 0 0) (rT 0 0),[],d2⟩) := X6.out.2.gb (gb_trans (by (repeat first | with_reducible exact World.grownBy.refl _ _ | with_reducible refine gb_alloc ?_ _ | with_reducible refine gb_drew1 ?_)) g7); have X7 : Hid (KX lo hi w7 (.slice ao m7 c7) (ticketBox (tB k0) (rT 0 0) k1)) := KX.made x7 (Nat.le_trans HVh.out (FR.size (lo := lo) (hi := hi) (a := V) (by (repeat first | with_reducible exact F3.out | with_reducible exact F2.out | with_reducible exact F1.out | with_reducible exact FR.refl _ _ _ | with_reducible refine FR.alloc ?_ _ | with_reducible refine FR.drew ?_ | with_reducible refine FR.stores ?_ _ _ (by first | exact Nat.le_refl _ | exact F1.out.size | exact F2.out.size | exact F3.out.size))))); have F3 : Hid (FR lo hi V w7) := FR.trans (by (repeat first | with_reducible exact F3.out | with_reducible exact F2.out | with_reducible exact F1.out | with_reducible exact FR.refl _ _ _ | with_reducible refine FR.alloc ?_ _ | with_reducible refine FR.drew ?_ | with_reducible refine FR.stores ?_ _ _ (by first | exact Nat.le_refl _ | exact F1.out.size | exact F2.out.size | exact F3.out.size))) (FR.gb g7); clear x7 g7))
       all_goals go_wp2
       all_goals go_meet
       all_goals exact ⟨rfl,by (repeat first | with_reducible exact F3.out | with_reducible exact F2.out | with_reducible exact F1.out | with_reducible exact FR.refl _ _ _ | with_reducible refine FR.alloc ?_ _ | with_reducible refine FR.drew ?_ | with_reducible refine FR.stores ?_ _ _ (by first | exact Nat.le_refl _ | exact F1.out.size | exact F2.out.size | exact F3.out.size))⟩
     case rest =>
      as_aux_lemma =>
       obtain ⟨rfl,hF⟩ := hcut
       have HKz := hid (HK.out.fr hF)
       clear hF y0 y1
       go_wp2
       go_ret
       exact ⟨rfl,HKz.out.below⟩
end Go.Proofs.YtpijkgbafjccaaaGreatDoor
