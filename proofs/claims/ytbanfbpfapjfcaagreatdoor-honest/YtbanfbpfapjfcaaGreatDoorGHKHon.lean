/-
  Contract of wardenkeep's Honest: it returns true. Conditions: none beyond the table of powers of ten.
-/
import Derived.Test.YtbanfbpfapjfcaaGreatDoorGHKHouse
import Derived.Test.YtbanfbpfapjfcaaGreatDoorGHKHonM
import Derived.Deep.QuietTactic
import Derived.BigQuiet
namespace Go.Proofs.YtbanfbpfapjfcaaGreatDoor
open Go.RowKit
set_option maxRecDepth 100000
theorem h64t : (1000001 : Int) = ((1000001 : UInt64).toNat : Int) := by decide
theorem h64a : (1000002 : Int) = ((1000002 : UInt64).toNat : Int) := by decide
theorem h64w : (1000003 : Int) = ((1000003 : UInt64).toNat : Int) := by decide
theorem hB_ok {sk a b c at0 : Int} (h : HNum sk a b c at0) (pf : List PF) (ds : List UInt8) (hp : ∀ y ∈ pf,In64 y.time) : MOk ⟨sk,hBook a b c,pf,ds⟩ := ⟨hBook_in a b c ⟨by have := h.a0; omega,by have := h.a1; omega⟩ ⟨by have := h.b0; omega,by have := h.b1; omega⟩ ⟨by have := h.c0; omega,by have := h.c1; omega⟩,hBook_sorted _ _ _,⟨by have := h.sk0; show _ ≤ sk; omega,by have := h.sk1; show sk ≤ _; omega⟩,hp⟩
structure HH (w : World) (lo hi hb lb : Nat) (hc lc : Array Value) (dv : Value) (ds : List UInt8) (W : World) : Prop where
 kb : KB w lo hi hb hc W
 lives : Blk W lb lc
 lt : lb < lo
 drw : KX lo hi W dv ds
theorem HH.fr {w : World} {lo hi hb lb : Nat} {hc lc : Array Value} {dv : Value} {ds : List UInt8} {W W' : World} (h : HH w lo hi hb lb hc lc dv ds W) (k : FR lo hi W W') : HH w lo hi hb lb hc lc dv ds W' := ⟨h.kb.fr k,h.lives.fr k (.inl h.lt),h.lt,h.drw.fr k⟩
theorem draws_addr {lo hi : Nat} {W : World} {av : Option Addr} {cv : Nat} {ds : List UInt8} (h : KX lo hi W (.slice av 480 cv) ds) (hl : ds.length = 480) : ∃ b o,av = some ⟨b,o,none⟩ ∧ 480 ≤ cv ∧ cv ≤ 9223372036854775807 := by
 obtain ⟨⟨ao,cap,e,h1,h2,_,h4⟩,_⟩ := h
 injection e with e1 e2 e3
 subst e1 e3
 obtain ⟨b,o,e4,_⟩ := h4.addr (by omega)
 exact ⟨b,o,e4,by omega,h2⟩
theorem KX.at {lo hi : Nat} {W : World} {av : Option Addr} {n cv : Nat} {ds : List UInt8} (h : KX lo hi W (.slice av n cv) ds) : At W av ds := by
 obtain ⟨⟨ao,cap,e,_,_,_,h4⟩,_⟩ := h
 injection e with e1 e2 e3
 subst e1
 exact h4
theorem key_at {W : World} {av : Option Addr} {ds : List UInt8} (cap : Nat) (h : At W av ds) (hl : 8 ≤ ds.length) : Calls Tryz.prog 20 #[.slice av 8 cap] W fun e w' => e = .returned (.int .u64 ((drawAt ds 0).toNat : Int)) ∧ W = w' :=
 kkey_any (ds.take 8) 8 av cap W (hid (by rw [List.length_take]; omega)) (by decide) (h.take 8)
theorem cut8 (b off cap : Nat) (hc : 8 ≤ cap) (w : World) : (Instr.sliceAt 32 (.slice (some ⟨b,off,none⟩) 480 cap) none (some (.int .i64 8)) none).run Tryz.prog w = .ok (.slice (some ⟨b,off,none⟩) 8 cap) w := by
 have he : Tryz.prog.elem 32 = 5 := by simp [Program.elem,Tryz.underlying32]
 have ht' : Tryz.prog.underlying 32 = some (.slice (Tryz.prog.elem 32)) := by rw [he]; exact Tryz.underlying32
 rw [run_sliceAt_slice w 32 _ _ _ _ ht',run_slice_h w 32 _ _ cap ht' .i64 8 (by decide) (by omega),he]
 have hz : ∀ W,(sizeOf 5).run Tryz.prog W = .ok 1 W := fun _ => by kernel_rfl
 rw [hz]
 simp only [Result.andThen,sliced,Nat.sub_zero,Nat.zero_mul]
 split <;> first | rfl | simp [Addr.add_lit]
theorem cut24 (b off cap : Nat) (hc : 480 ≤ cap) (w : World) : (Instr.sliceAt 32 (.slice (some ⟨b,off,none⟩) 480 cap) (some (.int .i64 24)) (some (.int .i64 32)) none).run Tryz.prog w = .ok (.slice (some ⟨b,off + 24,none⟩) 8 (cap - 24)) w := by
 obtain ⟨i0,hi0,hi1⟩ : ∃ i,Tryz.prog.info? 5 = some i ∧ i.size = 1 := ⟨_,rfl,rfl⟩
 exact run_slice_lo (P := Tryz.prog) 32 5 i0 Tryz.underlying32 hi0 hi1 b off 480 cap 24 32 24 32 rfl rfl (by decide) (by omega) (by omega) w
theorem kl2 (x y : Int) (W : World) : Calls Tryz.prog 16 #[.int .i64 x,.int .i64 y] W fun e w' => e = .returned (.int .i64 (lst x y)) ∧ W = w' := kleast_any x y W
theorem kidle2 (q : Bool) (lo hi g : Nat) (p0 p1 : Option Addr) (M : DM) (w : World) (hd : deskV q g = #[.pointer p0,.pointer p1]) (hS : KS q lo hi w g M) :
  Calls Tryz.prog 22 #[.agg #[.pointer p0,.pointer p1]] w fun e w' => e = .returned (.bool true) ∧ w.grownBy w' none := by
 obtain ⟨_,_,dp,h3,_⟩ := hS
 rw [← hd]
 exact kidle_any q g dp M w h3
theorem first_hh (lo hi : Nat) (nonce sf e : Int) (h1 : In64 nonce) (h2 : In64 sf) (h3 : In64 e) (W : World) (h : hi ≤ W.heap.size) : Calls Tryz.prog 18 #[.string ⟨#[97,108]⟩,.string ⟨#[116,103,115]⟩,.int .i64 nonce,.int .i64 sf,.int .i64 e,.int .i64 0,.int .i64 0] W fun e' w' => ∃ a m c,e' = .returned (.slice a m c) ∧ KX lo hi w' (.slice a m c) (firstReq nAl nTgs nonce sf e 0 0) ∧ W.grownBy w' none := kfirst2 lo hi nAl nTgs nonce sf e 0 0 W h (by decide) (by decide) h1 h2 h3 ⟨by decide,by decide⟩ ⟨by decide,by decide⟩
theorem next_hh (lo hi : Nat) (k0 k1 cnt : UInt64) (n a at0 F tn nonce : Int) (vT : Value) (W : World) (h : hi ≤ W.heap.size) (hT0 : KX lo hi W vT (ticketBox (hT k0 at0 F) (sT a) k1)) (hto : In64 tn) (hno : In64 nonce) (hn : n = (cnt.toNat : Int)) (hcn : cnt.toNat ≤ 9223372036854775807) :
  Calls Tryz.prog 21 #[vT,.int .u64 (k0.toNat : Int),.string ⟨#[97,108]⟩,.int .i64 tn,.int .i64 n,.string ⟨#[119,101,98]⟩,.int .i64 nonce,.int .i64 0,.int .i64 0] W fun e w' => ∃ a' m c,e = .returned (.tuple #[.slice a' m c,.bool true]) ∧ KX lo hi w' (.slice a' m c) (nextReq (ticketBox (hT k0 at0 F) (sT a) k1) (sealedProof (hT k0 at0 F) cnt tn) nWeb nonce 0 0) ∧ W.grownBy w' none := by
 have hh := knext2 lo hi (hT k0 at0 F) (sT a) k1 vT tn cnt nWeb nonce 0 0 W h hT0 len_al (show nTgs.length ≤ 3 by decide) (by decide) hto hcn hno ⟨by decide,by decide⟩ ⟨by decide,by decide⟩
 rw [hn]
 exact hh
theorem came_h1 (k0 k1 k2 : UInt64) (a at0 F nonce : Int) (h1 : In64 at0) (h2 : In64 F) (h3 : In64 nonce) (W : World) (v : Value) (hv : KH W v (giveBox 11 (hT k0 at0 F) (sT a) nonce 1 1000002 3 k1 k2)) (ht : TabHere W) : Calls Tryz.prog 19 #[v,.int .i64 11,.string ⟨#[97,108]⟩,.string ⟨#[116,103,115]⟩,.int .i64 1,.int .u64 1000001,.int .i64 1,.int .u64 1000002,.int .i64 3] W fun e w' => ∃ cs ao m c,e = .returned (.tuple #[.agg cs,.bool true]) ∧ cs = cameC (.slice ao m c) (hT k0 at0 F) (sT a) nonce ∧ KMade W.heap.size w' (.slice ao m c) (ticketBox (hT k0 at0 F) (sT a) k1) ∧ W.grownBy w' none :=
 kcame3 11 (hT k0 at0 F) (sT a) nonce 1 3 1000002 3 k1 k2 1000001 1000002 v W rfl rfl len_al (show nTgs.length ≤ 3 by decide) ⟨by decide,by decide⟩ (hT_in k0 at0 F h1 h2) (i64a 1 rfl) ⟨by decide,by decide⟩ h3 hv ht h64t h64a
theorem came_h2 (k0 j0 j1 j2 : UInt64) (c at0 tn D nonce : Int) (h1 : In64 at0) (h2 : In64 tn) (h3 : In64 D) (h4 : In64 nonce) (W : World) (v : Value) (hv : KH W v (giveBox 13 (hN j0 at0 tn D) (sW c) nonce 0 k0 5 j1 j2)) (ht : TabHere W) : Calls Tryz.prog 19 #[v,.int .i64 13,.string ⟨#[97,108]⟩,.string ⟨#[119,101,98]⟩,.int .i64 1,.int .u64 1000003,.int .i64 0,.int .u64 (k0.toNat : Int),.int .i64 5] W fun e w' => ∃ cs ao m c',e = .returned (.tuple #[.agg cs,.bool true]) ∧ cs = cameC (.slice ao m c') (hN j0 at0 tn D) (sW c) nonce ∧ KMade W.heap.size w' (.slice ao m c') (ticketBox (hN j0 at0 tn D) (sW c) j1) ∧ W.grownBy w' none :=
 kcame3 13 (hN j0 at0 tn D) (sW c) nonce 0 5 k0 5 j1 j2 1000003 (k0.toNat : Int) v W rfl rfl len_al (show nWeb.length ≤ 3 by decide) ⟨by decide,by decide⟩ (hN_in j0 at0 tn D h1 h2 h3) (i64a 1 rfl) ⟨by decide,by decide⟩ h4 hv ht h64w rfl
theorem tmod_in (now : Int) : -1125899906842624 ≤ now.tmod 1125899906842624 ∧ now.tmod 1125899906842624 ≤ 1125899906842624 := by
 have h1 := Int.tmod_lt_of_pos now (show (0 : Int) < 1125899906842624 by decide)
 have h2 := Int.lt_tmod_of_pos now (show (0 : Int) < 1125899906842624 by decide)
 omega
theorem asked_ne {e : Int} (h : e ≠ 0) (x : Int) : lst (asked e) x = lst x e := by rw [show asked e = e from if_neg h,lst_comm]
theorem asked_zero {x : Int} (h : x < 9223372036854775807) : lst (asked 0) x = x := by
 show lst 9223372036854775807 x = x
 unfold lst
 rw [if_neg (by omega)]
set_option maxHeartbeats 16000000 in
theorem honest_any (q : Bool) (skew seed now tgs al web till nonce later : Int) (w : World) (h1 : (-9223372036854775808 ≤ skew ∧ skew ≤ 9223372036854775807)) (_h2 : (-9223372036854775808 ≤ seed ∧ seed ≤ 9223372036854775807)) (_h3 : (-9223372036854775808 ≤ now ∧ now ≤ 9223372036854775807)) (h4 : (-9223372036854775808 ≤ tgs ∧ tgs ≤ 9223372036854775807)) (h5 : (-9223372036854775808 ≤ al ∧ al ≤ 9223372036854775807)) (h6 : (-9223372036854775808 ≤ web ∧ web ≤ 9223372036854775807)) (h7 : (-9223372036854775808 ≤ till ∧ till ≤ 9223372036854775807)) (h8 : (-9223372036854775808 ≤ nonce ∧ nonce ≤ 9223372036854775807)) (h9 : (-9223372036854775808 ≤ later ∧ later ≤ 9223372036854775807)) (htab : TabHere w) :
  Calls Tryz.prog 9 #[.bool q,.int .i64 skew,.int .i64 seed,.int .i64 now,.int .i64 tgs,.int .i64 al,.int .i64 web,.int .i64 till,.int .i64 nonce,.int .i64 later] w fun e w' => e = .returned (.bool true) ∧ Below w.heap.size w w' := by
 have HTab := hid htab
 have HNo : Hid (In64 nonce) := h8
 have HLa := hid h9
 have HTi := hid h7
 have HSw := hid h1
 obtain ⟨at0,hat⟩ : ∃ x : Int,now.tmod 1125899906842624 = x := ⟨_,rfl⟩
 have hT0 : -1125899906842624 ≤ at0 := by rw [← hat]; exact (tmod_in now).1
 have hT1 : at0 ≤ 1125899906842624 := by rw [← hat]; exact (tmod_in now).2
 obtain ⟨P1,hP1⟩ : ∃ P : Int,(pickN tgs 1000 : Int) = P := ⟨_,rfl⟩
 have hp1 := pickN_lt tgs 1000 (by decide)
 have HPk1 : Hid (∀ W,Calls Tryz.prog 14 #[.int .i64 tgs,.int .i64 1000] W fun e w' => e = .returned (.int .i64 P1) ∧ W = w') := fun W => by
  have := kpick_any tgs 1000 W h4 (by decide)
  rw [show (1000 : Int).toNat = 1000 from rfl,hP1] at this
  exact this
 have g1 : 0 ≤ P1 := by omega
 have k1 : P1 ≤ 999 := by omega
 obtain ⟨a,ha⟩ : ∃ x : Int,1 + P1 = x := ⟨_,rfl⟩
 obtain ⟨P2,hP2⟩ : ∃ P : Int,(pickN al 1000 : Int) = P := ⟨_,rfl⟩
 have hp2 := pickN_lt al 1000 (by decide)
 have HPk2 : Hid (∀ W,Calls Tryz.prog 14 #[.int .i64 al,.int .i64 1000] W fun e w' => e = .returned (.int .i64 P2) ∧ W = w') := fun W => by
  have := kpick_any al 1000 W h5 (by decide)
  rw [show (1000 : Int).toNat = 1000 from rfl,hP2] at this
  exact this
 have g2 : 0 ≤ P2 := by omega
 have k2 : P2 ≤ 999 := by omega
 obtain ⟨b,hb⟩ : ∃ x : Int,1 + P2 = x := ⟨_,rfl⟩
 obtain ⟨P3,hP3⟩ : ∃ P : Int,(pickN web 1000 : Int) = P := ⟨_,rfl⟩
 have hp3 := pickN_lt web 1000 (by decide)
 have HPk3 : Hid (∀ W,Calls Tryz.prog 14 #[.int .i64 web,.int .i64 1000] W fun e w' => e = .returned (.int .i64 P3) ∧ W = w') := fun W => by
  have := kpick_any web 1000 W h6 (by decide)
  rw [show (1000 : Int).toNat = 1000 from rfl,hP3] at this
  exact this
 have g3 : 0 ≤ P3 := by omega
 have k3 : P3 ≤ 999 := by omega
 obtain ⟨c,hc⟩ : ∃ x : Int,1 + P3 = x := ⟨_,rfl⟩
 obtain ⟨sk,hsk⟩ : ∃ x : Int,(pickN skew 301 : Int) = x := ⟨_,rfl⟩
 have hps := pickN_lt skew 301 (by decide)
 have HN : Hid (HNum sk a b c at0) := ⟨by omega,by omega,by omega,by omega,by omega,by omega,by omega,by omega,hT0,hT1⟩
 have Ha := hid (And.intro ha (And.intro hb hc))
 have Hsk := hid hsk
 have Hat := hid (And.intro hT0 hT1)
 clear htab h1 _h2 _h3 h4 h5 h6 h7 h8 h9 hP1 hP2 hP3 hp1 hp2 hp3 hps ha hb hc hsk
 go_enter Tryz.func9,Tryz.ntmps9
 go_wp2_with fail
 refine (HPk1.out _).mono ?_
 rintro e wa ⟨rfl,rfl⟩
 go_wp2_with fail
 refine (HPk2.out _).mono ?_
 rintro e wa ⟨rfl,rfl⟩
 go_wp2_with fail
 refine (HPk3.out _).mono ?_
 rintro e wa ⟨rfl,rfl⟩
 go_upto_region 3 with fail
 refine wp_genK (fun V => Blk V w.heap.size #[.int .i64 a,.int .i64 b,.int .i64 c] ∧ w.grownBy V none) ⟨(by rw [← Ha.out.1,← Ha.out.2.1,← Ha.out.2.2]; exact Blk.new w _ _),World.grownBy_alloc w _ none⟩ ?_
 rintro V0 ⟨hLv,hG0⟩
 have HLv := hid hLv
 have HG0 := hid hG0
 have y0 : V0.cell? ⟨w.heap.size,0,none⟩ = some (.int .i64 a) := hLv.cell 0
 have y1 : V0.cell? ⟨w.heap.size,1,none⟩ = some (.int .i64 b) := hLv.cell 1
 have y2 : V0.cell? ⟨w.heap.size,2,none⟩ = some (.int .i64 c) := hLv.cell 2
 clear hLv hG0 HPk1 HPk2 HPk3 g1 g2 g3 k1 k2 k3
 have HHo := hid (khouse_ok q skew seed a b c V0 HSw.out.1 HSw.out.2 (by have := HN.out.a0; omega) (by have := HN.out.a1; omega) (by have := HN.out.b0; omega) (by have := HN.out.b1; omega) (by have := HN.out.c0; omega) (by have := HN.out.c1; omega))
 rw [Hsk.out] at HHo
 go_wp2_with fail
 refine HHo.out.mono ?_
 clear HHo
 rintro e w1 ⟨p0,p1,av,cv,ds,g,lo,hi,rfl,hd,hS,hl,hX,hlo,hhi,hg⟩
 obtain ⟨db,dof,rfl,hcv0,hcv1⟩ := draws_addr hX hl
 have HCv := hid (And.intro hcv0 hcv1)
 have HD := hid hd
 have HL := hid hl
 have HW1 := hid (And.intro hS (And.intro hlo (And.intro hhi (And.intro hg hX))))
 clear hd hS hl hX hlo hhi hg hcv0 hcv1 y0 y1 y2
 go_upto_region 4 with fail
 refine wp_genK (fun V => HH w lo hi w1.heap.size w.heap.size #[.pointer p0,.pointer p1,.int .i64 sk,.slice (some ⟨db,dof,none⟩) 480 cv,.int .i64 a,.int .i64 b,.int .i64 c] #[.int .i64 a,.int .i64 b,.int .i64 c] (.slice (some ⟨db,dof,none⟩) 480 cv) ds V ∧ KS q lo hi V g ⟨sk,hBook a b c,[],ds⟩) ?_ ?_
 ·obtain ⟨hS,hlo,hhi,hg,hX⟩ := HW1.out
  have ga := World.grownBy_alloc w1 (.cells #[.pointer p0,.pointer p1,.int .i64 sk,.slice (some ⟨db,dof,none⟩) 480 cv,.int .i64 a,.int .i64 b,.int .i64 c] 34) none
  have hlt := (World.grownBy_alloc w (.cells #[.int .i64 a,.int .i64 b,.int .i64 c] 0) none)
  have hlb := HLv.out.lt
  have hlh : lo ≤ hi := Nat.le_of_lt (Nat.lt_of_le_of_lt hS.1 hS.2.1)
  exact ⟨⟨⟨(gb_below (gb_trans HG0.out hg)).trans ((gb_below ga).mono (gb_trans HG0.out hg).size),Nat.le_trans hhi ga.size,Blk.new w1 _ _,hhi,Nat.le_trans HG0.out.size hlo,hlh⟩,(HLv.out.grown hg (by simp)).grown ga (by simp),Nat.lt_of_lt_of_le hlb hlo,hX.fr (FR.gb ga)⟩,hS.gb ga⟩
 rintro V ⟨hH,hS⟩
 have HV := hid hH
 have HS := hid hS
 have z0 : V.cell? ⟨w.heap.size,0,none⟩ = some (.int .i64 a) := hH.lives.cell 0
 have z1 : V.cell? ⟨w.heap.size,1,none⟩ = some (.int .i64 b) := hH.lives.cell 1
 obtain ⟨L,hL⟩ : ∃ x : Int,lst a b = x := ⟨_,rfl⟩
 have hL0 : 1 ≤ L := by rcases lst_cases a b with ⟨e,_⟩ | ⟨e,_⟩ <;> have := HN.out.a0 <;> have := HN.out.b0 <;> omega
 have hL1 : L ≤ 1000 := by rcases lst_cases a b with ⟨e,_⟩ | ⟨e,_⟩ <;> have := HN.out.a1 <;> have := HN.out.b1 <;> omega
 have HLs := hid (kl2 a b V)
 rw [hL] at HLs
 have HLL := hid hL
 clear hH hS HW1 hL HLv HG0
 go_wp2_with fail
 refine HLs.out.mono ?_
 rintro e wa ⟨rfl,rfl⟩
 clear HLs z0 z1
 obtain ⟨B,hB⟩ : ∃ B : Bool,(till.tmod 2 != 0) = B := ⟨_,rfl⟩
 go_upto_if 65 with fail
 go_cut [25,26] (fun e f wx => ∃ E F : Int,e = .int .i64 E ∧ f = .int .i64 F ∧ In64 E ∧ lst (asked E) (at0 + L) = F ∧ at0 < F ∧ F ≤ at0 + 1000 ∧ V = wx)
 case first =>
  as_aux_lemma =>
   cases B with
   | false =>
    go_wp2
    go_meet
    exact ⟨0,at0 + L,rfl,rfl,⟨by decide,by decide⟩,asked_zero (by omega),by omega,by omega,rfl⟩
   | true =>
    obtain ⟨P4,hP4⟩ : ∃ P : Int,(pickN till 2000 : Int) = P := ⟨_,rfl⟩
    have hp4 := pickN_lt till 2000 (by decide)
    have HPk : Hid (∀ W,Calls Tryz.prog 14 #[.int .i64 till,.int .i64 2000] W fun e w' => e = .returned (.int .i64 P4) ∧ W = w') := fun W => by
     have := kpick_any till 2000 W HTi.out (by decide)
     rw [show (2000 : Int).toNat = 2000 from rfl,hP4] at this
     exact this
    have g4 : 0 ≤ P4 := by omega
    have k4 : P4 ≤ 1999 := by omega
    clear hP4 hp4
    obtain ⟨Z,hZ⟩ : ∃ B : Bool,(at0 + 1 + P4 == 0) = B := ⟨_,rfl⟩
    go_wp2_with fail
    refine (HPk.out _).mono ?_
    rintro e wa ⟨rfl,rfl⟩
    clear HPk
    cases Z with
    | false =>
     go_wp2_with fail
     refine (kl2 _ _ _).mono ?_
     rintro e wa ⟨rfl,rfl⟩
     go_wp2
     go_meet
     have hne : at0 + 1 + P4 ≠ 0 := by simpa using hZ
     refine ⟨at0 + 1 + P4,lst (at0 + L) (at0 + 1 + P4),rfl,rfl,⟨by omega,by omega⟩,asked_ne hne _,?_,?_,rfl⟩ <;> rcases lst_cases (at0 + L) (at0 + 1 + P4) with ⟨e,_⟩ | ⟨e,_⟩ <;> omega
    | true =>
     go_wp2_with fail
     refine (kl2 _ _ _).mono ?_
     rintro e wa ⟨rfl,rfl⟩
     go_wp2
     go_meet
     refine ⟨1152921504606846976,lst (at0 + L) 1152921504606846976,rfl,rfl,⟨by decide,by decide⟩,asked_ne (by decide) _,?_,?_,rfl⟩ <;> rcases lst_cases (at0 + L) 1152921504606846976 with ⟨e,_⟩ | ⟨e,_⟩ <;> omega
 case rest =>
  as_aux_lemma =>
   obtain ⟨E,F,rfl,rfl,hE,hF,hF0,hF1,rfl⟩ := hcut
   obtain ⟨k0,hk0⟩ : ∃ k,drawAt ds 0 = k := ⟨_,rfl⟩
   obtain ⟨k1,hk1⟩ : ∃ k,drawAt ds 1 = k := ⟨_,rfl⟩
   obtain ⟨k2,hk2⟩ : ∃ k,drawAt ds 2 = k := ⟨_,rfl⟩
   obtain ⟨d2,hd2⟩ : ∃ d,ds.drop 24 = d := ⟨_,rfl⟩
   have HF := hid (And.intro hF0 hF1)
   have HE : Hid (In64 E) := hE
   have HGive : Hid (∀ sf,In64 sf → ¬ at0 + sk < sf → answerM ⟨sk,hBook a b c,[],ds⟩ at0 (firstReq nAl nTgs nonce sf E 0 0) = ((giveBox 11 (hT k0 at0 F) (sT a) nonce 1 1000002 3 k1 k2),⟨sk,hBook a b c,[],d2⟩)) := fun sf hsf hn => by
    have := hon_first HN.out nonce sf E F ds HNo.out hsf hE hn (by rw [HLL.out]; exact hF) hF0 (by rw [HL.out]; decide)
    rw [hk0,hk1,hk2,hd2] at this
    exact this
   have HK0 := hid (And.intro hk0 hd2)
   have HD2 := hid (show d2.length = 456 by rw [← hd2,List.length_drop,HL.out])
   have HIn : Hid (In64 at0) := ⟨by omega,by omega⟩
   obtain ⟨rep,M,hA,hrl,hfar⟩ : ∃ rep M,answerM ⟨sk,hBook a b c,[],ds⟩ at0 (firstReq nAl nTgs nonce 0 E 0 0) = (rep,M) ∧ rep.length ≤ 900 ∧ ((at0 + sk < 0 ∧ M = ⟨sk,hBook a b c,[],ds⟩) ∨ (¬ at0 + sk < 0 ∧ rep = (giveBox 11 (hT k0 at0 F) (sT a) nonce 1 1000002 3 k1 k2) ∧ M = ⟨sk,hBook a b c,[],d2⟩)) := by
    by_cases h : at0 + sk < 0
    ·exact ⟨_,_,hon_far HN.out nonce E ds HNo.out hE h,refusal_len _ _,.inl ⟨h,rfl⟩⟩
    ·exact ⟨_,_,HGive.out 0 ⟨by decide,by decide⟩ h,give_len _ _ _ _ _ _ _ _ _ len_al (show nTgs.length ≤ 3 by decide),.inr ⟨h,rfl,rfl⟩⟩
   have HA := hid hA
   have HLr := hid hrl
   have HFar := hid hfar
   have HM := hid (hB_ok HN.out [] ds (by simp))
   have HLq : Hid ((firstReq nAl nTgs nonce 0 E 0 0).length ≤ 300) := first_len _ _ _ _ _ _ _ (by decide) (by decide)
   have HF1 := hid (first_hh lo hi nonce 0 E HNo.out ⟨by decide,by decide⟩ HE.out)
   have HNow := HIn
   have HK := hid HV.out.kb
   have HVh := hid HK.out.size
   have y0 : V.cell? ⟨w1.heap.size,0,none⟩ = some (.pointer p0) := HK.out.house.cell 0
   have y1 : V.cell? ⟨w1.heap.size,1,none⟩ = some (.pointer p1) := HK.out.house.cell 1
   clear hE hF hF0 hF1 hk0 hk1 hk2 hd2 hA hrl hfar hL0 hL1
   go_upto_region 13 with fail
   go_cut [27] (fun r wx => ∃ (a' : Option Addr) (m' c' : Nat),r = .slice a' m' c' ∧ KX lo hi wx (.slice a' m' c') rep ∧ KS q lo hi wx g M ∧ FR lo hi V wx)
   case first =>
    as_aux_lemma =>
     have HSk : Hid (∀ W,FR lo hi V W → (fun w' => w'.cell? ⟨w1.heap.size,0,none⟩ = some (.pointer p0) ∧ w'.cell? ⟨w1.heap.size,1,none⟩ = some (.pointer p1)) W) := fun W k => ⟨(HK.out.fr k).house.cell 0,(HK.out.fr k).house.cell 1⟩
     go_region_held3 (fun w' => w'.cell? ⟨w1.heap.size,0,none⟩ = some (.pointer p0) ∧ w'.cell? ⟨w1.heap.size,1,none⟩ = some (.pointer p1)) (exact HSk.out _ (by (repeat first | with_reducible exact F3.out | with_reducible exact F2.out | with_reducible exact F1.out | with_reducible exact FR.refl _ _ _ | with_reducible refine FR.alloc ?_ _ | with_reducible refine FR.drew ?_ | with_reducible refine FR.stores ?_ _ _ (by first | exact Nat.le_refl _ | exact F1.out.size | exact F2.out.size | exact F3.out.size)))) (first
      | (go_at_call 18; refine (HF1.out _ (Nat.le_trans HVh.out (FR.size (lo := lo) (hi := hi) (a := V) (by (repeat first | with_reducible exact F3.out | with_reducible exact F2.out | with_reducible exact F1.out | with_reducible exact FR.refl _ _ _ | with_reducible refine FR.alloc ?_ _ | with_reducible refine FR.drew ?_ | with_reducible refine FR.stores ?_ _ _ (by first | exact Nat.le_refl _ | exact F1.out.size | exact F2.out.size | exact F3.out.size)))))).mono ?_; rintro e w5 ⟨a5,m5,c5,rfl,x5,g5⟩; have G1 : Hid (V.grownBy w5 none) := gb_trans (by (repeat first | with_reducible exact World.grownBy.refl _ _ | with_reducible refine gb_alloc ?_ _ | with_reducible refine gb_drew1 ?_)) g5; have F1 : Hid (FR lo hi V w5) := FR.gb G1.out; have X5 := hid x5; clear x5 g5)
      | (go_at_call 17; refine (kans2 q lo hi g p0 p1 ⟨sk,hBook a b c,[],ds⟩ M at0 (firstReq nAl nTgs nonce 0 E 0 0) rep (.slice a5 m5 c5) _ HD.out HA.out (HS.out.gb (by (repeat first | with_reducible exact G1.out | with_reducible exact World.grownBy.refl _ _ | with_reducible refine gb_alloc ?_ _ | with_reducible refine gb_drew1 ?_))) HM.out (X5.out.fr (FR.gb (by (repeat first | with_reducible exact World.grownBy.refl _ _ | with_reducible refine gb_alloc ?_ _ | with_reducible refine gb_drew1 ?_)))) HLq.out HLr.out HNow.out (Nat.le_trans HVh.out (FR.size (lo := lo) (hi := hi) (a := V) (by (repeat first | with_reducible exact F3.out | with_reducible exact F2.out | with_reducible exact F1.out | with_reducible exact FR.refl _ _ _ | with_reducible refine FR.alloc ?_ _ | with_reducible refine FR.drew ?_ | with_reducible refine FR.stores ?_ _ _ (by first | exact Nat.le_refl _ | exact F1.out.size | exact F2.out.size | exact F3.out.size)))))).mono ?_; rintro e w6 ⟨a6,m6,c6,rfl,x6,s6,f6⟩; have F2 : Hid (FR lo hi V w6) := FR.trans (by (repeat first | with_reducible exact F3.out | with_reducible exact F2.out | with_reducible exact F1.out | with_reducible exact FR.refl _ _ _ | with_reducible refine FR.alloc ?_ _ | with_reducible refine FR.drew ?_ | with_reducible refine FR.stores ?_ _ _ (by first | exact Nat.le_refl _ | exact F1.out.size | exact F2.out.size | exact F3.out.size))) f6; have X6 := hid (And.intro x6 s6); clear x6 s6 f6))
     all_goals go_wp2
     all_goals go_meet
     all_goals exact ⟨a6,m6,c6,rfl,X6.out.1,X6.out.2,F2.out⟩
   case rest =>
    as_aux_lemma =>
     obtain ⟨ra,rm,rc,rfl,hX,hS,hFR⟩ := hcut
     obtain ⟨V2,hwc⟩ : ∃ W,Hid (W = wc) := ⟨_,hid rfl⟩
     obtain rfl := hwc.out
     clear hwc
     have HX2 := hid hX
     have HS2 := hid hS
     have HV2 := hid (HV.out.fr hFR)
     clear hX hS hFR HA HLr HM HLq HF1 HK HVh y0 y1 HV HS
     have z2 : V2.cell? ⟨w1.heap.size,2,none⟩ = some (.int .i64 sk) := HV2.out.kb.house.cell 2
     have hsk0 : 0 ≤ sk := HN.out.sk0
     have hsk1 : sk ≤ 300 := HN.out.sk1
     obtain ⟨Z,hZ⟩ : ∃ B : Bool,decide (at0 < -sk) = B := ⟨_,rfl⟩
     go_upto_if 87 with fail
     go_cut [27] (fun r wx => ∃ (a' : Option Addr) (m' c' : Nat),r = .slice a' m' c' ∧ KX lo hi wx (.slice a' m' c') (giveBox 11 (hT k0 at0 F) (sT a) nonce 1 1000002 3 k1 k2) ∧ KS q lo hi wx g ⟨sk,hBook a b c,[],d2⟩ ∧ FR lo hi V2 wx)
     case first =>
      as_aux_lemma =>
       cases Z with
       | false =>
        have hnf : ¬ at0 + sk < 0 := by have := of_decide_eq_false hZ; omega
        have hr := HFar.out.resolve_left (fun h => hnf h.1)
        rw [hr.2.1] at HX2
        rw [hr.2.2] at HS2
        clear hr hnf
        go_wp2
        go_meet
        exact ⟨ra,rm,rc,rfl,HX2.out,HS2.out,FR.refl _ _ _⟩
       | true =>
        have hyf : at0 + sk < 0 := by have := of_decide_eq_true hZ; omega
        have hM : M = ⟨sk,hBook a b c,[],ds⟩ := by
         rcases HFar.out with h | h
         ·exact h.2
         ·exact absurd hyf h.1
        rw [hM] at HS2
        clear hM
        obtain ⟨V,hV⟩ : ∃ V,Hid (V = V2) := ⟨_,hid rfl⟩
        obtain rfl := hV.out
        clear hV z2
        have HS := HS2
        have HA := hid (HGive.out at0 HIn.out (by omega))
        have HM := hid (hB_ok HN.out [] ds (by simp))
        have HLq : Hid ((firstReq nAl nTgs nonce at0 E 0 0).length ≤ 300) := first_len _ _ _ _ _ _ _ (by decide) (by decide)
        have HLr : Hid ((giveBox 11 (hT k0 at0 F) (sT a) nonce 1 1000002 3 k1 k2).length ≤ 900) := give_len _ _ _ _ _ _ _ _ _ len_al (show nTgs.length ≤ 3 by decide)
        have HF1 := hid (first_hh lo hi nonce at0 E HNo.out HIn.out HE.out)
        have HNow := HIn
        have HK := hid HV2.out.kb
        have HVh := hid HK.out.size
        have y0 : V.cell? ⟨w1.heap.size,0,none⟩ = some (.pointer p0) := HK.out.house.cell 0
        have y1 : V.cell? ⟨w1.heap.size,1,none⟩ = some (.pointer p1) := HK.out.house.cell 1
        clear hsk0 hsk1 hyf
        go_upto_region 15 with fail
        have HSk : Hid (∀ W,FR lo hi V W → (fun w' => w'.cell? ⟨w1.heap.size,0,none⟩ = some (.pointer p0) ∧ w'.cell? ⟨w1.heap.size,1,none⟩ = some (.pointer p1)) W) := fun W k => ⟨(HK.out.fr k).house.cell 0,(HK.out.fr k).house.cell 1⟩
        go_region_held3 (fun w' => w'.cell? ⟨w1.heap.size,0,none⟩ = some (.pointer p0) ∧ w'.cell? ⟨w1.heap.size,1,none⟩ = some (.pointer p1)) (exact HSk.out _ (by (repeat first | with_reducible exact F3.out | with_reducible exact F2.out | with_reducible exact F1.out | with_reducible exact FR.refl _ _ _ | with_reducible refine FR.alloc ?_ _ | with_reducible refine FR.drew ?_ | with_reducible refine FR.stores ?_ _ _ (by first | exact Nat.le_refl _ | exact F1.out.size | exact F2.out.size | exact F3.out.size)))) (first
         | (go_at_call 18; refine (HF1.out _ (Nat.le_trans HVh.out (FR.size (lo := lo) (hi := hi) (a := V) (by (repeat first | with_reducible exact F3.out | with_reducible exact F2.out | with_reducible exact F1.out | with_reducible exact FR.refl _ _ _ | with_reducible refine FR.alloc ?_ _ | with_reducible refine FR.drew ?_ | with_reducible refine FR.stores ?_ _ _ (by first | exact Nat.le_refl _ | exact F1.out.size | exact F2.out.size | exact F3.out.size)))))).mono ?_; rintro e w5 ⟨a5,m5,c5,rfl,x5,g5⟩; have G1 : Hid (V.grownBy w5 none) := gb_trans (by (repeat first | with_reducible exact World.grownBy.refl _ _ | with_reducible refine gb_alloc ?_ _ | with_reducible refine gb_drew1 ?_)) g5; have F1 : Hid (FR lo hi V w5) := FR.gb G1.out; have X5 := hid x5; clear x5 g5)
         | (go_at_call 17; refine (kans2 q lo hi g p0 p1 ⟨sk,hBook a b c,[],ds⟩ ⟨sk,hBook a b c,[],d2⟩ at0 (firstReq nAl nTgs nonce at0 E 0 0) (giveBox 11 (hT k0 at0 F) (sT a) nonce 1 1000002 3 k1 k2) (.slice a5 m5 c5) _ HD.out HA.out (HS.out.gb (by (repeat first | with_reducible exact G1.out | with_reducible exact World.grownBy.refl _ _ | with_reducible refine gb_alloc ?_ _ | with_reducible refine gb_drew1 ?_))) HM.out (X5.out.fr (FR.gb (by (repeat first | with_reducible exact World.grownBy.refl _ _ | with_reducible refine gb_alloc ?_ _ | with_reducible refine gb_drew1 ?_)))) HLq.out HLr.out HNow.out (Nat.le_trans HVh.out (FR.size (lo := lo) (hi := hi) (a := V) (by (repeat first | with_reducible exact F3.out | with_reducible exact F2.out | with_reducible exact F1.out | with_reducible exact FR.refl _ _ _ | with_reducible refine FR.alloc ?_ _ | with_reducible refine FR.drew ?_ | with_reducible refine FR.stores ?_ _ _ (by first | exact Nat.le_refl _ | exact F1.out.size | exact F2.out.size | exact F3.out.size)))))).mono ?_; rintro e w6 ⟨a6,m6,c6,rfl,x6,s6,f6⟩; have F2 : Hid (FR lo hi V w6) := FR.trans (by (repeat first | with_reducible exact F3.out | with_reducible exact F2.out | with_reducible exact F1.out | with_reducible exact FR.refl _ _ _ | with_reducible refine FR.alloc ?_ _ | with_reducible refine FR.drew ?_ | with_reducible refine FR.stores ?_ _ _ (by first | exact Nat.le_refl _ | exact F1.out.size | exact F2.out.size | exact F3.out.size))) f6; have X6 := hid (And.intro x6 s6); clear x6 s6 f6))
        all_goals go_wp2
        all_goals go_meet
        all_goals exact ⟨a6,m6,c6,rfl,X6.out.1,X6.out.2,F2.out⟩
     case rest =>
      as_aux_lemma =>
       obtain ⟨sa,sm,sc,rfl,hX,hS,hFR⟩ := hcut
       obtain ⟨V3,hwc⟩ : ∃ W,Hid (W = wc) := ⟨_,hid rfl⟩
       obtain rfl := hwc.out
       clear hwc
       have HX3 := hid hX
       have HS3 := hid hS
       have HV3 := hid (HV2.out.fr hFR)
       clear hX hS hFR HX2 HS2 HV2 z2 hsk0 hsk1 hZ HGive HFar HE
       have HInF : Hid (In64 F) := by have h1 := HF.out; have h2 := Hat.out; exact ⟨by omega,by omega⟩
       have HCm := hid (came_h1 k0 k1 k2 a at0 F nonce HIn.out HInF.out HNo.out V3 (.slice sa sm sc) HX3.out.1 (HV3.out.kb.tab HTab.out))
       go_wp2_with fail
       refine HCm.out.mono ?_
       clear HCm
       rintro e w7 ⟨cs,ao7,m7,c7,rfl,hcs,x7,g7⟩
       have HCs := hid hcs
       have hsz := came_size hcs
       have hst := run_store_live (P := Tryz.prog) cs.toList (came_live (Blk.new w7 zeroCame 44)) (by rw [Array.length_toList,hsz]; exact Nat.le_refl _) (came_one hcs)
       have HX7 : Hid (KX lo hi w7 (.slice ao7 m7 c7) (ticketBox (hT k0 at0 F) (sT a) k1)) := KX.made x7 HV3.out.kb.size
       have HNe := hid (place_ne x7 (cb := w7.heap.size) (.inr (Nat.le_refl _)))
       have HS7 := hid (HS3.out.gb g7)
       have HV7 := hid (HV3.out.fr (FR.gb g7))
       clear hcs x7 g7 HX3 HS3 HV3
       go_upto_region 17 with fail
       refine wp_genK (fun V => HH w lo hi w1.heap.size w.heap.size #[.pointer p0,.pointer p1,.int .i64 sk,.slice (some ⟨db,dof,none⟩) 480 cv,.int .i64 a,.int .i64 b,.int .i64 c] #[.int .i64 a,.int .i64 b,.int .i64 c] (.slice (some ⟨db,dof,none⟩) 480 cv) ds V ∧ KS q lo hi V g ⟨sk,hBook a b c,[],d2⟩ ∧ KX lo hi V (.slice ao7 m7 c7) (ticketBox (hT k0 at0 F) (sT a) k1) ∧ Blk V w7.heap.size (cameC (.slice ao7 m7 c7) (hT k0 at0 F) (sT a) nonce)) ⟨HV7.out.fr (FR.stores (FR.alloc (FR.refl _ _ _) _) _ _ (Nat.le_refl _)),(HS7.out.gb (gb_alloc0 w7 _)).cf (cfs _ _ _) (fun b y e => .inr (by rw [e]; exact HV7.out.kb.size)),(HX7.out.fr (FR.gb (gb_alloc0 w7 _))).cf (cfs _ _ _) (fun b off n c e o e2 => HNe.out b off n c e e2),came_put (Blk.new w7 zeroCame 44) HCs.out⟩ ?_
       rintro V8 ⟨hV,hS,hX,hB⟩
       have HV8 := hid hV
       have HS8 := hid hS
       have HX8 := hid hX
       have HB8 := hid hB
       have HC8 : Hid (hi ≤ w7.heap.size) := HV7.out.kb.size
       clear hV hS hX hB hst hsz HX7 HNe HS7 HV7 HCs
       have q1 : V8.cell? ⟨w7.heap.size,1,none⟩ = some (.int .i64 32) := HB8.out.cell 1
       have q2 : V8.cell? ⟨w7.heap.size,2,none⟩ = some (.int .i64 at0) := HB8.out.cell 2
       have q3 : V8.cell? ⟨w7.heap.size,3,none⟩ = some (.int .i64 at0) := HB8.out.cell 3
       have q4 : V8.cell? ⟨w7.heap.size,4,none⟩ = some (.int .i64 F) := HB8.out.cell 4
       have q5 : V8.cell? ⟨w7.heap.size,5,none⟩ = some (.int .i64 0) := HB8.out.cell 5
       have q6 : V8.cell? ⟨w7.heap.size,6,none⟩ = some (.int .u64 (k0.toNat : Int)) := HB8.out.cell 6
       have q16 : V8.cell? ⟨w7.heap.size,16,none⟩ = some (.int .i64 nonce) := HB8.out.cell 16
       have z3 : V8.cell? ⟨w1.heap.size,3,none⟩ = some (.slice (some ⟨db,dof,none⟩) 480 cv) := HV8.out.kb.house.cell 3
       go_cut [152] (fun z wx => z = .bool false ∧ V8.grownBy wx none)
       case first =>
        as_aux_lemma =>
         have hn1 : (nonce != nonce) = false := by simp
         have hn2 : (at0 != at0) = false := by simp
         have hn3 : (F != F) = false := by simp
         have hn4 : ((k0.toNat : Int) != (k0.toNat : Int)) = false := by simp
         have hc1 : (8 : Int) ≤ (cv : Int) := by have := HCv.out.1; omega
         have hc2 : (cv : Int) ≤ 9223372036854775807 := by have := HCv.out.2; omega
         have hsl := fun W => cut8 db dof cv (by have := HCv.out.1; omega) W
         have HKy : Hid (∀ nq cap,Calls Tryz.prog 20 #[.slice (some ⟨db,dof,none⟩) 8 cap] (V8.drewN nq) fun e w'' => e = .returned (.int .u64 (k0.toNat : Int)) ∧ ∃ m,w'' = V8.drewN m) := fun nq cap => by
          have := key_at (ds := ds) cap (HV8.out.drw.at.drewN nq) (by rw [HL.out]; decide)
          rw [HK0.out.1] at this
          exact this.mono fun _ _ ⟨h1,h2⟩ => ⟨h1,nq,h2.symm⟩
         go_quiet (first | (go_at_call 20; exact HKy.out _ _))
         go_wp2
         go_meet
         exact ⟨rfl,gb_drewN (World.grownBy.refl _ _) _⟩
       case rest =>
        as_aux_lemma =>
         obtain ⟨rfl,hg⟩ := hcut
         obtain ⟨V9,hwc⟩ : ∃ W,Hid (W = wc) := ⟨_,hid rfl⟩
         obtain rfl := hwc.out
         clear hwc
         have HV9 := hid (HV8.out.fr (FR.gb hg))
         have HS9 := hid (HS8.out.gb hg)
         have HX9 := hid (HX8.out.fr (FR.gb hg))
         have HB9 := hid (HB8.out.grown hg (by simp))
         clear hg q1 q2 q3 q4 q5 q6 q16 z3 HV8 HS8 HX8 HB8
         have hF0 : at0 < F := HF.out.1
         have hF1 : F ≤ at0 + 1000 := HF.out.2
         obtain ⟨P5,hP5⟩ : ∃ P : Int,(pickN later (F - at0).toNat : Int) = P := ⟨_,rfl⟩
         have hp5 := pickN_lt later (F - at0).toNat (by omega)
         have HPk : Hid (∀ W,Calls Tryz.prog 14 #[.int .i64 later,.int .i64 (F - at0)] W fun e w' => e = .returned (.int .i64 P5) ∧ W = w') := fun W => by
          have := kpick_any later (F - at0) W HLa.out ⟨by omega,by omega⟩
          rw [hP5] at this
          exact this
         have g5 : 0 ≤ P5 := by omega
         have k5 : P5 < F - at0 := by omega
         clear hP5 hp5
         go_wp2_with fail
         refine (HPk.out _).mono ?_
         rintro e wa ⟨rfl,rfl⟩
         clear HPk
         have hne : (at0 + P5 == F) = false := by simp; omega
         have e0 : V9.cell? ⟨w7.heap.size,0,none⟩ = some (.slice ao7 m7 c7) := HB9.out.cell 0
         have e6 : V9.cell? ⟨w7.heap.size,6,none⟩ = some (.int .u64 (k0.toNat : Int)) := HB9.out.cell 6
         obtain ⟨tn,hto⟩ : ∃ x : Int,at0 + P5 = x := ⟨_,rfl⟩
         have HTo := hid (show at0 ≤ tn ∧ tn < F by omega)
         have HIt : Hid (In64 tn) := ⟨by omega,by omega⟩
         have Hto := hid hto
         clear hto
         have HNx := hid (next_hh lo hi k0 k1 7 7 a at0 F tn nonce (.slice ao7 m7 c7) V9 HV9.out.kb.size HX9.out HIt.out HNo.out rfl (by decide))
         go_wp2_with fail
         rw [Hto.out]
         refine HNx.out.mono ?_
         clear HNx hne
         rintro e Va ⟨qa,qm,qc,rfl,x1,gg1⟩
         have HQa := hid x1
         have HVa := hid (HV9.out.fr (FR.gb gg1))
         have HSa := hid (HS9.out.gb gg1)
         have HBa := hid (HB9.out.grown gg1 (by simp))
         clear x1 gg1 e0 e6 HV9 HS9 HX9 HB9 g5 k5 hF0 hF1 hT0 hT1
         obtain ⟨D,hD⟩ : ∃ x : Int,lst F (tn + lst b c) = x := ⟨_,rfl⟩
         obtain ⟨j0,hj0⟩ : ∃ k,drawAt d2 0 = k := ⟨_,rfl⟩
         obtain ⟨j1,hj1⟩ : ∃ k,drawAt d2 1 = k := ⟨_,rfl⟩
         obtain ⟨j2,hj2⟩ : ∃ k,drawAt d2 2 = k := ⟨_,rfl⟩
         obtain ⟨d3,hd3⟩ : ∃ d,d2.drop 24 = d := ⟨_,rfl⟩
         have HD3 := hid (show d3.length = 432 by rw [← hd3,List.length_drop,HD2.out])
         have HA := hid (hon_next HN.out nonce F tn D d2 k0 k1 HNo.out HTo.out.1 HTo.out.2 HF.out.2 hD (by rw [HD2.out]; decide))
         rw [hj0,hj1,hj2,hd3] at HA
         have HJ0 := hid hj0
         have HDd := hid hD
         have HID : Hid (In64 D) := by
          have h1 := HTo.out
          have h2 := HF.out
          have h3 := Hat.out
          rcases lst_cases F (tn + lst b c) with ⟨e,_⟩ | ⟨e,_⟩
          ·rw [← hD,e]; exact HInF.out
          ·rcases lst_cases b c with ⟨e2,_⟩ | ⟨e2,_⟩ <;> have := HN.out.b0 <;> have := HN.out.b1 <;> have := HN.out.c0 <;> have := HN.out.c1 <;> exact ⟨by omega,by omega⟩
         clear hj0 hj1 hj2 hd3 hD
         have HM := hid (hB_ok HN.out [] d2 (by simp))
         have HLq : Hid ((nextReq (ticketBox (hT k0 at0 F) (sT a) k1) (sealedProof (hT k0 at0 F) 7 tn) nWeb nonce 0 0).length ≤ 300) := nextq_len _ _ _ _ _ _ _ _ _ len_al (show nTgs.length ≤ 3 by decide) (by decide)
         have HLr : Hid ((giveBox 13 (hN j0 at0 tn D) (sW c) nonce 0 k0 5 j1 j2).length ≤ 900) := give_len _ _ _ _ _ _ _ _ _ len_al (show nWeb.length ≤ 3 by decide)
         have HNow := HIt
         have HC1 := hid (came_h2 k0 j0 j1 j2 c at0 tn D nonce HIn.out HIt.out HID.out HNo.out)
         have HK := hid HVa.out.kb
         have HVh := hid HK.out.size
         have y0 : Va.cell? ⟨w1.heap.size,0,none⟩ = some (.pointer p0) := HK.out.house.cell 0
         have y1 : Va.cell? ⟨w1.heap.size,1,none⟩ = some (.pointer p1) := HK.out.house.cell 1
         have e6 : Va.cell? ⟨w7.heap.size,6,none⟩ = some (.int .u64 (k0.toNat : Int)) := HBa.out.cell 6
         go_upto_region 25 with fail
         go_cut [31,24] (fun p okv wx => ∃ (cb : Nat) (ao : Option Addr) (m' c' : Nat),p = .pointer (some ⟨cb,0,none⟩) ∧ okv = .bool true ∧ hi ≤ cb ∧ Blk wx cb (cameC (.slice ao m' c') (hN j0 at0 tn D) (sW c) nonce) ∧ KX lo hi wx (.slice ao m' c') (ticketBox (hN j0 at0 tn D) (sW c) j1) ∧ KS q lo hi wx g ⟨sk,hBook a b c,[⟨nAl,tn,((7 : UInt64).toNat : Int)⟩],d3⟩ ∧ FR lo hi Va wx)
         case first =>
          as_aux_lemma =>
           obtain ⟨V,hV⟩ : ∃ V,Hid (V = Va) := ⟨_,hid rfl⟩
           obtain rfl := hV.out
           have HS := HSa
           clear hV
           obtain ⟨a5,m5,c5,h5⟩ : ∃ a5 m5 c5,Hid ((a5 : Option Addr) = qa ∧ (m5 : Nat) = qm ∧ (c5 : Nat) = qc) := ⟨_,_,_,hid ⟨rfl,rfl,rfl⟩⟩
           obtain ⟨rfl,rfl,rfl⟩ := h5.out
           have X5 := HQa
           clear h5
           have HSk : Hid (∀ W,FR lo hi V W → (fun w' => w'.cell? ⟨w1.heap.size,0,none⟩ = some (.pointer p0) ∧ w'.cell? ⟨w1.heap.size,1,none⟩ = some (.pointer p1) ∧ w'.cell? ⟨w7.heap.size,6,none⟩ = some (.int .u64 (k0.toNat : Int))) W) := fun W k => ⟨(HK.out.fr k).house.cell 0,(HK.out.fr k).house.cell 1,(HBa.out.fr k (.inr HC8.out)).cell 6⟩
           go_region_held3 (fun w' => w'.cell? ⟨w1.heap.size,0,none⟩ = some (.pointer p0) ∧ w'.cell? ⟨w1.heap.size,1,none⟩ = some (.pointer p1) ∧ w'.cell? ⟨w7.heap.size,6,none⟩ = some (.int .u64 (k0.toNat : Int))) (exact HSk.out _ (by (repeat first | with_reducible exact F3.out | with_reducible exact F2.out | with_reducible exact F1.out | with_reducible exact FR.refl _ _ _ | with_reducible refine FR.alloc ?_ _ | with_reducible refine FR.drew ?_ | with_reducible refine FR.stores ?_ _ _ (by first | exact Nat.le_refl _ | exact F1.out.size | exact F2.out.size | exact F3.out.size)))) (first
            | (go_at_call 17; refine (kans2 q lo hi g p0 p1 ⟨sk,hBook a b c,[],d2⟩ ⟨sk,hBook a b c,[⟨nAl,tn,((7 : UInt64).toNat : Int)⟩],d3⟩ tn (nextReq (ticketBox (hT k0 at0 F) (sT a) k1) (sealedProof (hT k0 at0 F) 7 tn) nWeb nonce 0 0) (giveBox 13 (hN j0 at0 tn D) (sW c) nonce 0 k0 5 j1 j2) (.slice a5 m5 c5) _ HD.out HA.out (HS.out.gb (by (repeat first | with_reducible exact G1.out | with_reducible exact World.grownBy.refl _ _ | with_reducible refine gb_alloc ?_ _ | with_reducible refine gb_drew1 ?_))) HM.out (X5.out.fr (FR.gb (by (repeat first | with_reducible exact World.grownBy.refl _ _ | with_reducible refine gb_alloc ?_ _ | with_reducible refine gb_drew1 ?_)))) HLq.out HLr.out HNow.out (Nat.le_trans HVh.out (FR.size (lo := lo) (hi := hi) (a := V) (by (repeat first | with_reducible exact F3.out | with_reducible exact F2.out | with_reducible exact F1.out | with_reducible exact FR.refl _ _ _ | with_reducible refine FR.alloc ?_ _ | with_reducible refine FR.drew ?_ | with_reducible refine FR.stores ?_ _ _ (by first | exact Nat.le_refl _ | exact F1.out.size | exact F2.out.size | exact F3.out.size)))))).mono ?_; rintro e w6 ⟨a6,m6,c6,rfl,x6,s6,f6⟩; have F2 : Hid (FR lo hi V w6) := FR.trans (by (repeat first | with_reducible exact F3.out | with_reducible exact F2.out | with_reducible exact F1.out | with_reducible exact FR.refl _ _ _ | with_reducible refine FR.alloc ?_ _ | with_reducible refine FR.drew ?_ | with_reducible refine FR.stores ?_ _ _ (by first | exact Nat.le_refl _ | exact F1.out.size | exact F2.out.size | exact F3.out.size))) f6; have X6 := hid (And.intro x6 s6); (first | (have HZ2 := hid (Blk.fr (lo := lo) (hi := hi) (Blk.drew (Blk.new V zeroCame 44)) f6 (.inr HVh.out))) | skip); clear x6 s6 f6)
            | (go_at_call 19; refine (HC1.out _ (.slice a6 m6 c6) (X6.out.1.fr (FR.gb (by (repeat first | with_reducible exact World.grownBy.refl _ _ | with_reducible refine gb_alloc ?_ _ | with_reducible refine gb_drew1 ?_)))).1 (KB.tab (HK.out.fr (by (repeat first | with_reducible exact F3.out | with_reducible exact F2.out | with_reducible exact F1.out | with_reducible exact FR.refl _ _ _ | with_reducible refine FR.alloc ?_ _ | with_reducible refine FR.drew ?_ | with_reducible refine FR.stores ?_ _ _ (by first | exact Nat.le_refl _ | exact F1.out.size | exact F2.out.size | exact F3.out.size)))) HTab.out)).mono ?_; rintro e w7 ⟨cs,ao,m7,c7,rfl,hcs,x7,g7⟩; have HCs := hid hcs; clear hcs; have S7 : Hid (KS q lo hi w7 g ⟨sk,hBook a b c,[⟨nAl,tn,((7 : UInt64).toNat : Int)⟩],d3⟩) := X6.out.2.gb (gb_trans (by (repeat first | with_reducible exact World.grownBy.refl _ _ | with_reducible refine gb_alloc ?_ _ | with_reducible refine gb_drew1 ?_)) g7); have X7 : Hid (KX lo hi w7 (.slice ao m7 c7) (ticketBox (hN j0 at0 tn D) (sW c) j1)) := KX.made x7 (Nat.le_trans HVh.out (FR.size (lo := lo) (hi := hi) (a := V) (by (repeat first | with_reducible exact F3.out | with_reducible exact F2.out | with_reducible exact F1.out | with_reducible exact FR.refl _ _ _ | with_reducible refine FR.alloc ?_ _ | with_reducible refine FR.drew ?_ | with_reducible refine FR.stores ?_ _ _ (by first | exact Nat.le_refl _ | exact F1.out.size | exact F2.out.size | exact F3.out.size))))); (first | (have HZ3 := hid (Blk.grown HZ2.out g7 (by simp)); have HNe := hid (place_ne x7 (.inl HZ2.out.lt))) | (have HZ3 := hid (Blk.grown (Blk.new w6 zeroCame 44) g7 (by simp)); have HNe := hid (place_ne x7 (cb := w6.heap.size) (.inl (by rw [World.size_alloc]; omega)))) | (have HZ3 := hid (Blk.new w7 zeroCame 44); have HNe := hid (place_ne x7 (cb := w7.heap.size) (.inr (Nat.le_refl _))))); have hsz := came_size HCs.out; have hst := run_store_live (P := Tryz.prog) cs.toList (came_live HZ3.out) (by rw [Array.length_toList,hsz]; exact Nat.le_refl _) (came_one HCs.out); have F3 : Hid (FR lo hi V w7) := FR.trans (by (repeat first | with_reducible exact F3.out | with_reducible exact F2.out | with_reducible exact F1.out | with_reducible exact FR.refl _ _ _ | with_reducible refine FR.alloc ?_ _ | with_reducible refine FR.drew ?_ | with_reducible refine FR.stores ?_ _ _ (by first | exact Nat.le_refl _ | exact F1.out.size | exact F2.out.size | exact F3.out.size))) (FR.gb g7); clear x7 g7))
           all_goals go_wp2
           all_goals go_meet
           all_goals first
            | exact ⟨_,ao,m7,c7,rfl,rfl,(by first | exact HVh.out | exact Nat.le_trans HVh.out F1.out.size | exact Nat.le_trans HVh.out F2.out.size | exact Nat.le_trans HVh.out F3.out.size),came_put HZ3.out HCs.out,X7.out.cf (cfs w7 _ _) (fun b off n c e o e2 => HNe.out b off n c e e2),S7.out.cf (cfs w7 _ _) (fun b y e => .inr (by rw [e]; first | exact HVh.out | exact Nat.le_trans HVh.out F1.out.size | exact Nat.le_trans HVh.out F2.out.size | exact Nat.le_trans HVh.out F3.out.size)),(by (repeat first | with_reducible exact F3.out | with_reducible exact F2.out | with_reducible exact F1.out | with_reducible exact FR.refl _ _ _ | with_reducible refine FR.alloc ?_ _ | with_reducible refine FR.drew ?_ | with_reducible refine FR.stores ?_ _ _ (by first | exact Nat.le_refl _ | exact F1.out.size | exact F2.out.size | exact F3.out.size)))⟩
            | exact ⟨_,ao,m7,c7,rfl,rfl,(by first | exact HVh.out | exact Nat.le_trans HVh.out F1.out.size | exact Nat.le_trans HVh.out F2.out.size | exact Nat.le_trans HVh.out F3.out.size),came_put HZ3.out HCs.out,(X7.out.fr (FR.gb (gb_alloc0 w7 _))).cf (cfs _ _ _) (fun b off n c e o e2 => HNe.out b off n c e e2),(S7.out.gb (gb_alloc0 w7 _)).cf (cfs _ _ _) (fun b y e => .inr (by rw [e]; exact Nat.le_trans HVh.out F3.out.size)),(by (repeat first | with_reducible exact F3.out | with_reducible exact F2.out | with_reducible exact F1.out | with_reducible exact FR.refl _ _ _ | with_reducible refine FR.alloc ?_ _ | with_reducible refine FR.drew ?_ | with_reducible refine FR.stores ?_ _ _ (by first | exact Nat.le_refl _ | exact F1.out.size | exact F2.out.size | exact F3.out.size)))⟩
         case rest =>
          as_aux_lemma =>
           obtain ⟨cb,ob,mb,rb,rfl,rfl,hcb,hBc,hX,hS,hFR⟩ := hcut
           obtain ⟨Vb,hwc⟩ : ∃ W,Hid (W = wc) := ⟨_,hid rfl⟩
           obtain rfl := hwc.out
           clear hwc
           have HBb := hid hBc
           have HSb := hid hS
           have HVb := hid (HVa.out.fr hFR)
           have HBo := hid (HBa.out.fr hFR (.inr HC8.out))
           clear hcb hBc hX hS hFR HA HM HLq HLr HNow HC1 HK HVh y0 y1 e6 HVa HSa HBa HQa
           have y0 : Vb.cell? ⟨w1.heap.size,0,none⟩ = some (.pointer p0) := HVb.out.kb.house.cell 0
           have y1 : Vb.cell? ⟨w1.heap.size,1,none⟩ = some (.pointer p1) := HVb.out.kb.house.cell 1
           have HId := hid (kidle2 q lo hi g p0 p1 ⟨sk,hBook a b c,[⟨nAl,tn,((7 : UInt64).toNat : Int)⟩],d3⟩ Vb HD.out HSb.out)
           go_wp2_with fail
           refine HId.out.mono ?_
           clear HId y0 y1
           rintro e Vc ⟨rfl,g1⟩
           have HSc := hid (HSb.out.gb g1)
           have HVc := hid (HVb.out.fr (FR.gb g1))
           have HBc := hid (HBb.out.grown g1 (by simp))
           have HBp := hid (HBo.out.grown g1 (by simp))
           clear g1 HSb HVb HBb HBo
           have y0 : Vc.cell? ⟨w1.heap.size,0,none⟩ = some (.pointer p0) := HVc.out.kb.house.cell 0
           have y1 : Vc.cell? ⟨w1.heap.size,1,none⟩ = some (.pointer p1) := HVc.out.kb.house.cell 1
           have HSt := hid (kstate2 q lo hi g p0 p1 ⟨sk,hBook a b c,[⟨nAl,tn,((7 : UInt64).toNat : Int)⟩],d3⟩ 1 432 Vc HD.out HSc.out rfl (by rw [HD3.out]; rfl))
           go_wp2_with fail
           refine HSt.out.mono ?_
           clear HSt y0 y1
           rintro e Vd ⟨t1,n1,u1,t2,n2,u2,rfl,g1⟩
           have HVd := hid (HVc.out.fr (FR.gb g1))
           have HBd := hid (HBc.out.grown g1 (by simp))
           have HBq := hid (HBp.out.grown g1 (by simp))
           clear g1 HVc HBc HBp HSc
           go_upto_region 28 with fail
           refine wp_genK (fun V => HH w lo hi w1.heap.size w.heap.size #[.pointer p0,.pointer p1,.int .i64 sk,.slice (some ⟨db,dof,none⟩) 480 cv,.int .i64 a,.int .i64 b,.int .i64 c] #[.int .i64 a,.int .i64 b,.int .i64 c] (.slice (some ⟨db,dof,none⟩) 480 cv) ds V ∧ Blk V cb (cameC (.slice ob mb rb) (hN j0 at0 tn D) (sW c) nonce) ∧ Blk V w7.heap.size (cameC (.slice ao7 m7 c7) (hT k0 at0 F) (sT a) nonce) ∧ Blk V Vd.heap.size #[.slice t1 n1 u1,.slice t2 n2 u2,.int .i64 1,.int .i64 432]) ⟨HVd.out.fr (FR.gb (gb_alloc0 Vd _)),HBd.out.alloc _,HBq.out.alloc _,Blk.new Vd _ _⟩ ?_
           rintro Ve ⟨hV,hb1,hb2,hb3⟩
           have HVe := hid hV
           have q1 : Ve.cell? ⟨cb,1,none⟩ = some (.int .i64 0) := hb1.cell 1
           have q2 : Ve.cell? ⟨cb,2,none⟩ = some (.int .i64 at0) := hb1.cell 2
           have q3 : Ve.cell? ⟨cb,3,none⟩ = some (.int .i64 tn) := hb1.cell 3
           have q4 : Ve.cell? ⟨cb,4,none⟩ = some (.int .i64 D) := hb1.cell 4
           have q6 : Ve.cell? ⟨cb,6,none⟩ = some (.int .u64 (j0.toNat : Int)) := hb1.cell 6
           have q16 : Ve.cell? ⟨cb,16,none⟩ = some (.int .i64 nonce) := hb1.cell 16
           have r4 : Ve.cell? ⟨w7.heap.size,4,none⟩ = some (.int .i64 F) := hb2.cell 4
           have z1 : Ve.cell? ⟨w.heap.size,1,none⟩ = some (.int .i64 b) := hV.lives.cell 1
           have z2 : Ve.cell? ⟨w.heap.size,2,none⟩ = some (.int .i64 c) := hV.lives.cell 2
           have z3 : Ve.cell? ⟨w1.heap.size,3,none⟩ = some (.slice (some ⟨db,dof,none⟩) 480 cv) := hV.kb.house.cell 3
           have s2 : Ve.cell? ⟨Vd.heap.size,2,none⟩ = some (.int .i64 1) := hb3.cell 2
           have s3 : Ve.cell? ⟨Vd.heap.size,3,none⟩ = some (.int .i64 432) := hb3.cell 3
           clear hV hb1 hb2 hb3 HVd HBd HBq
           have hsl := fun W => cut24 db dof cv HCv.out.1 W
           obtain ⟨L2,hL2⟩ : ∃ x : Int,lst b c = x := ⟨_,rfl⟩
           have l20 : 1 ≤ L2 := by rcases lst_cases b c with ⟨e,_⟩ | ⟨e,_⟩ <;> have := HN.out.b0 <;> have := HN.out.c0 <;> omega
           have l21 : L2 ≤ 1000 := by rcases lst_cases b c with ⟨e,_⟩ | ⟨e,_⟩ <;> have := HN.out.b1 <;> have := HN.out.c1 <;> omega
           have hto0 : -1125899906842624 ≤ tn := by have := HTo.out; have := Hat.out; omega
           have hto1 : tn ≤ 1125899906843624 := by have := HTo.out; have := Hat.out; have := HF.out; omega
           have hw : IntKind.i64.wrap (tn + L2) = tn + L2 := by rw [IntKind.wrap_i64]; omega
           have HL1 : Hid (∀ nq,Calls Tryz.prog 16 #[.int .i64 b,.int .i64 c] (Ve.drewN nq) fun e w'' => e = .returned (.int .i64 L2) ∧ ∃ m,w'' = Ve.drewN m) := fun nq => by
            rw [← hL2]
            exact (kl2 b c (Ve.drewN nq)).mono fun _ _ ⟨h1,h2⟩ => ⟨h1,nq,h2.symm⟩
           have HL3 : Hid (∀ nq,Calls Tryz.prog 16 #[.int .i64 F,.int .i64 (tn + L2)] (Ve.drewN nq) fun e w'' => e = .returned (.int .i64 D) ∧ ∃ m,w'' = Ve.drewN m) := fun nq => by
            rw [← HDd.out,hL2]
            exact (kl2 F (tn + L2) (Ve.drewN nq)).mono fun _ _ ⟨h1,h2⟩ => ⟨h1,nq,h2.symm⟩
           have HKy : Hid (∀ nq,Calls Tryz.prog 20 #[.slice (some ⟨db,dof + 24,none⟩) 8 (cv - 24)] (Ve.drewN nq) fun e w'' => e = .returned (.int .u64 (j0.toNat : Int)) ∧ ∃ m,w'' = Ve.drewN m) := fun nq => by
            have := key_at (ds := d2) (cv - 24) ((show At Ve (some ⟨db,dof + 24,none⟩) d2 by rw [← HK0.out.2]; exact HVe.out.drw.at.drop 24).drewN nq) (by rw [HD2.out]; decide)
            rw [HJ0.out] at this
            exact this.mono fun _ _ ⟨h1,h2⟩ => ⟨h1,nq,h2.symm⟩
           clear hL2 l20 l21 hto0 hto1
           have hn1 : (nonce == nonce) = true := by simp
           have hn2 : (at0 == at0) = true := by simp
           have hn3 : (tn == tn) = true := by simp
           have hn4 : (D == D) = true := by simp
           have hn5 : ((j0.toNat : Int) == (j0.toNat : Int)) = true := by simp
           go_quiet (first
            | (go_at_call 20; exact HKy.out _)
            | (go_at_call 16; with_reducible exact HL1.out _)
            | (go_at_call 16; with_reducible exact HL3.out _)
            | (go_at_call 16; rw [hw]; with_reducible exact HL3.out _))
           go_wp2
           go_ret
           exact ⟨rfl,(HVe.out.fr (FR.gb (gb_drewN (World.grownBy.refl _ _) _))).kb.below⟩
end Go.Proofs.YtbanfbpfapjfcaaGreatDoor
