/-
  
  
  
-/
import Derived.Test.YtpijkgbafjccaaaGreatDoorGTDeskD
import Derived.Test.YtpijkgbafjccaaaGreatDoorGTPNames
import Derived.Test.YtpijkgbafjccaaaGreatDoorGTPBookC
namespace Go.Proofs.YtpijkgbafjccaaaGreatDoor
open Go.RowKit
set_option maxRecDepth 100000
def nameM (s : List UInt8 × Bool) : List UInt8 × (List UInt8 × Bool) :=
 ((takeM 4 s.1 s.2).1,if isNameL (takeM 4 s.1 s.2).1 = true then (takeM 4 s.1 s.2).2 else ([],true))
set_option maxHeartbeats 1000000 in
theorem takeName_any (S : Source) (g : Nat) (l : List UInt8) (f : Bool) (w : World) (hs : At w S.1 S.2) (ng : NotAt S g) (h : Rd w S g l f) :
  Calls Tryz.prog 87 #[.pointer (some ⟨g,0,none⟩)] w fun e w' => e = .returned (.string ⟨(nameM (l,f)).1.toArray⟩) ∧ Rd w' S g (nameM (l,f)).2.1 (nameM (l,f)).2.2 ∧ CF w w' (exG g) := by
 have HT := hid (text_any S g l f w hs h)
 have HS := hid (And.intro hs ng)
 clear h hs ng
 go_enter Tryz.func87,Tryz.ntmps87
 go_wp2_with fail
 refine HT.out.mono ?_
 rintro e w2 ⟨v,rfl,b2,r2,f2⟩
 obtain ⟨a2,c2,rfl,_⟩ := id b2
 have ba := b2.at (w := w2) (NotAt.at HS.out.1 f2.frmG (fun _ e => e ▸ HS.out.2))
 have hcv := run_string_of (P := Tryz.prog) w2 26 9 5 Tryz.underlying26 Tryz.underlying5 Tryz.underlying9 a2 c2 (takeM 4 l f).1 ba.2.2.2.2
 have HI := hid (isName_any (takeM 4 l f).1 (takeM 4 l f).1.length ⟨(takeM 4 l f).1.toArray⟩ w2 (hid rfl) (hid rfl) (by have := ba.2.2.2.1; omega))
 have HN := hid (need_any S g _ _ (isNameL (takeM 4 l f).1) w2 r2)
 have HF := hid f2
 clear HT b2 r2 f2 ba
 go_wp2_with fail
 refine HI.out.mono ?_
 rintro e w3 ⟨rfl,rfl⟩
 go_wp2_with fail
 refine HN.out.mono ?_
 rintro e w4 ⟨rfl,r4,f4⟩
 have F4 := hid (HF.out.trans f4 (fun _ _ _ e => e))
 have HR : Hid (Rd w4 S g (nameM (l,f)).2.1 (nameM (l,f)).2.2) := by
  unfold nameM
  cases hb : isNameL (takeM 4 l f).1
  ·rw [hb] at r4; simp only [Bool.false_eq_true,if_false] at r4 ⊢; exact r4
  ·rw [hb] at r4; simp only [if_true] at r4 ⊢; exact r4
 clear r4 f4 HN HI
 go_wp2
 go_ret
 exact ⟨rfl,HR.out,F4.out⟩
def sealedM (s : List UInt8 × Bool) : (Int × List UInt8) × (List UInt8 × Bool) :=
 (((stepN s).1,(takeM 4 (stepN s).2.1 (stepN s).2.2).1),(takeM 4 (stepN s).2.1 (stepN s).2.2).2)
theorem Tryz.sizeSealed : (Tryz.prog.info? 163).map (·.size) = some 2 := by kernel_rfl
theorem range2 {w : World} {g a : Nat} {c0 c1 : Value} (h0 : w.cell? ⟨g,a,none⟩ = some c0) (h1 : w.cell? ⟨g,a + 1,none⟩ = some c1) : w.rangeAt g a [c0,c1] := by
 intro j u hu
 match j,hu with
 | 0,hu => injection hu with hu; subst hu; exact h0
 | 1,hu => injection hu with hu; subst hu; exact h1
 | j + 2,hu => simp at hu
theorem load_sealed {w : World} {g : Nat} {x y : Value} (h0 : w.cell? ⟨g,0,none⟩ = some x) (h1 : w.cell? ⟨g,1,none⟩ = some y) : (loadVar 163 ⟨g,0,none⟩).run Tryz.prog w = .ok (.agg #[x,y]) w := load_of (range2 h0 h1) 163 _ Tryz.underlying163 rfl Tryz.sizeSealed
set_option maxHeartbeats 1000000 in
theorem takeSealed_any (S : Source) (g : Nat) (l : List UInt8) (f : Bool) (w : World) (hs : At w S.1 S.2) (ng : NotAt S g) (h : Rd w S g l f) :
  Calls Tryz.prog 91 #[.pointer (some ⟨g,0,none⟩)] w fun e w' => ∃ v,e = .returned (.agg #[.int .i64 (sealedM (l,f)).1.1,v]) ∧ Bs S v (sealedM (l,f)).1.2 ∧ Rd w' S g (sealedM (l,f)).2.1 (sealedM (l,f)).2.2 ∧ CF w w' (exG g) := by
 have hgl := h.lt
 have G1 : w.grownBy ((w.alloc (.cells #[.int .i64 0,.slice none 0 0] 163)).alloc (.cells #[.pointer (some ⟨w.heap.size,0,none⟩)] 202)) none := gb_alloc (World.grownBy_alloc w _ none) _
 have r1 : Rd ((w.alloc (.cells #[.int .i64 0,.slice none 0 0] 163)).alloc (.cells #[.pointer (some ⟨w.heap.size,0,none⟩)] 202)) S g l f := h.keep (G1.block g hgl (by simp))
 have sz : (w.alloc (.cells #[.int .i64 0,.slice none 0 0] 163)).heap.size = w.heap.size + 1 := World.size_alloc _ _
 have hB1 := (Blk.new w #[.int .i64 0,.slice none 0 0] 163).alloc (.cells #[.pointer (some ⟨w.heap.size,0,none⟩)] 202)
 have hP1 := Blk.new (w.alloc (.cells #[.int .i64 0,.slice none 0 0] 163)) #[.pointer (some ⟨w.heap.size,0,none⟩)] 202
 rw [sz] at hP1
 have L1 : Live ((w.alloc (.cells #[.int .i64 0,.slice none 0 0] 163)).alloc (.cells #[.pointer (some ⟨w.heap.size,0,none⟩)] 202)) w.heap.size 2 := (Live.new w _ _).alloc _
 have pl : Places ((w.alloc (.cells #[.int .i64 0,.slice none 0 0] 163)).alloc (.cells #[.pointer (some ⟨w.heap.size,0,none⟩)] 202)) g (w.heap.size + 1) [(w.heap.size,0)] := ⟨hP1,fun p hp => by rw [List.mem_singleton.1 hp]; exact L1.mono (by omega),fun p hp => by rw [List.mem_singleton.1 hp]; exact ⟨by show w.heap.size ≠ g; omega,by show w.heap.size ≠ w.heap.size + 1; omega⟩,by omega,by simp⟩
 have stay : Stays ((w.alloc (.cells #[.int .i64 0,.slice none 0 0] 163)).alloc (.cells #[.pointer (some ⟨w.heap.size,0,none⟩)] 202)) S g [(w.heap.size,0)] := Stays.of (hs.below G1) ng (fun p hp => by rw [List.mem_singleton.1 hp]; exact NotAt.new hs (Nat.le_refl _))
 have HT := hid (takeNumbers_any S g (w.heap.size + 1) [(w.heap.size,0)] 1 l f _ (hid rfl) (by omega) stay r1 pl)
 have HST := hid stay
 have HL1 := hid (And.intro L1 hB1)
 have HG1 := hid G1
 clear h r1 pl hP1 hB1 L1 G1 sz stay hs ng
 go_enter Tryz.func91,Tryz.ntmps91
 go_wp2_with fail
 refine HT.out.mono ?_
 rintro e w2 ⟨rfl,r2,c2,f2⟩
 have d0 : w2.cell? ⟨w.heap.size,0,none⟩ = some (.int .i64 (stepN (l,f)).1) := c2 0 (w.heap.size,0) rfl
 have d1 : w2.cell? ⟨w.heap.size,1,none⟩ = some (.slice none 0 0) := f2.cell (HL1.out.2.cell 1) (fun e => by
  rcases e with e | e
  ·omega
  ·simp at e)
 have HX := hid (text_any S g _ _ w2 (HST.out _ f2) r2)
 have HF2 := hid (CF.before HG1.out f2)
 have L2 := hid (HL1.out.1.cf f2)
 clear r2 c2 f2 HT
 go_wp2_with fail
 refine HX.out.mono ?_
 rintro e w3 ⟨v,rfl,b3,r3,f3⟩
 obtain ⟨a3,k3,rfl,_⟩ := id b3
 have hne : w.heap.size ≠ g := by omega
 have e0 := f3.cell d0 hne
 have e1 := f3.cell d1 hne
 have L3 := L2.out.cf f3
 have z0 := L3.frozen 0
 have z1 := L3.frozen 1
 have s2 := HF2.out.size
 have s3 := f3.size
 have c1 : CF w w2 (exG g) := HF2.out.mono (fun b o hb e => by
  rcases e with e | e
  ·exact e
  ·have e2 := List.mem_singleton.1 e
   have e3 : b = w.heap.size := congrArg Prod.fst e2
   omega)
 have HCF : Hid (CF w (((w3.setCell ⟨w.heap.size,1,none⟩ (.slice a3 (takeM 4 (stN (l,f) 1).1 (stN (l,f) 1).2).1.length k3)).setCell ⟨w.heap.size,0,none⟩ (.int .i64 (stepN (l,f)).1)).setCell ⟨w.heap.size,1,none⟩ (.slice a3 (takeM 4 (stN (l,f) 1).1 (stN (l,f) 1).2).1.length k3)) (exG g)) := (((c1.trans f3 (fun _ _ _ e => e)).setCell w.heap.size 1 _ (fun q => absurd q (Nat.lt_irrefl _))).setCell w.heap.size 0 _ (fun q => absurd q (Nat.lt_irrefl _))).setCell w.heap.size 1 _ (fun q => absurd q (Nat.lt_irrefl _))
 have fx : Frm w3 (((w3.setCell ⟨w.heap.size,1,none⟩ (.slice a3 (takeM 4 (stN (l,f) 1).1 (stN (l,f) 1).2).1.length k3)).setCell ⟨w.heap.size,0,none⟩ (.int .i64 (stepN (l,f)).1)).setCell ⟨w.heap.size,1,none⟩ (.slice a3 (takeM 4 (stN (l,f) 1).1 (stN (l,f) 1).2).1.length k3)) (fun b => b = w.heap.size) := (((Frm.refl w3 (fun b => b = w.heap.size)).set (g := w.heap.size) rfl 1 _).set (g := w.heap.size) rfl 0 _).set (g := w.heap.size) rfl 1 _
 have HR := hid (r3.frm fx (fun e => hne e.symm))
 have HBs := hid b3
 have HLd := hid (load_sealed (set_other (.slice a3 (takeM 4 (stN (l,f) 1).1 (stN (l,f) 1).2).1.length k3) (set_same (.int .i64 (stepN (l,f)).1) (set_other (.slice a3 (takeM 4 (stN (l,f) 1).1 (stN (l,f) 1).2).1.length k3) e0 (by decide))) (by decide)) (set_same (.slice a3 (takeM 4 (stN (l,f) 1).1 (stN (l,f) 1).2).1.length k3) (set_other (.int .i64 (stepN (l,f)).1) (set_same (.slice a3 (takeM 4 (stN (l,f) 1).1 (stN (l,f) 1).2).1.length k3) e1) (by decide))))
 clear fx c1 r3 b3 f3 L3 s2 s3 HX
 go_wp2
 exact bodyPost_ret (results_cell1 Tryz.results91 _ _ _ w.heap.size rfl _ HLd.out) rfl ⟨_,rfl,HBs.out,HR.out,HCF.out⟩
def beginM (req : List UInt8) (due : Int) : List UInt8 × Bool :=
 if (stepN (readListM req)).1 = due ∧ req.length ≤ 300 then (stepN (readListM req)).2 else ([],true)
end Go.Proofs.YtpijkgbafjccaaaGreatDoor
namespace Go.Proofs.YtpijkgbafjccaaaGreatDoor
open Go.RowKit
set_option maxRecDepth 100000
theorem readListM_bad (zs : List UInt8) : (readListM zs).2 = true → (readListM zs).1 = [] := by
 unfold readListM
 split
 ·intro e; cases e
 ·exact fun _ => rfl
set_option maxHeartbeats 2000000 in
theorem begin_any (S : Source) (req : List UInt8) (n : Nat) (ao : Option Addr) (cap : Nat) (due : Int) (w : World) (hn : Hid (req.length = n)) (hs : At w S.1 S.2) (h : Bs S (.slice ao n cap) req) :
  Calls Tryz.prog 86 #[.slice ao n cap,.int .i64 due] w fun e w' => ∃ v,e = .returned (.agg #[v,.bool (beginM req due).2]) ∧ Bs S v (beginM req due).1 ∧ w.grownBy w' none := by
 have G0 := World.grownBy_alloc w (.cells #[.slice none 0 0,.bool false] 197) none
 have HB0 := hid (Blk.new w #[.slice none 0 0,.bool false] 197)
 have s0 : (w.alloc (.cells #[.slice none 0 0,.bool false] 197)).heap.size = w.heap.size + 1 := World.size_alloc _ _
 have HL := hid (readList_any S req n ao cap _ hn (hs.below G0) h)
 have HG0 := hid G0
 obtain ⟨kk,HK⟩ : ∃ kk,Hid ((stepN (readListM req)).1 = kk) := ⟨_,hid rfl⟩
 obtain ⟨ok,hok1,hok2⟩ : ∃ ok : Bool,(ok = true ↔ kk = due ∧ n ≤ 300) ∧ True := ⟨decide (kk = due ∧ n ≤ 300),by simp,trivial⟩
 have HM : Hid (beginM req due = if ok = true then (stepN (readListM req)).2 else ([],true)) := by
  show _ = _
  unfold beginM
  rw [HK.out,hn.out]
  by_cases e : kk = due ∧ n ≤ 300
  ·rw [if_pos e,if_pos (hok1.2 e)]
  ·rw [if_neg e,if_neg (fun q => e (hok1.1 q))]
 have HS0 := hid (hs.below G0)
 clear h G0 hok2 hs
 go_enter Tryz.func86,Tryz.ntmps86
 go_wp2_with fail
 refine HL.out.mono ?_
 rintro e w1 ⟨v,rfl,b1,g1⟩
 obtain ⟨a1,c1,rfl,_⟩ := id b1
 have s1 := g1.size
 obtain ⟨ll,HLL⟩ : ∃ ll,Hid (readListM req = ll) := ⟨_,hid rfl⟩
 rw [HLL.out] at b1 HK HM
 have hbad := readListM_bad req
 rw [HLL.out] at hbad ⊢
 have za : (w1.alloc (.cells #[.slice a1 ll.1.length c1,.bool ll.2] 197)).heap.size = w1.heap.size + 1 := World.size_alloc _ _
 have zb : ((w1.alloc (.cells #[.slice a1 ll.1.length c1,.bool ll.2] 197)).alloc (.cells #[.int .i64 0] 2)).heap.size = w1.heap.size + 1 + 1 := by rw [World.size_alloc,za]
 have ga := World.grownBy_alloc w1 (.cells #[.slice a1 ll.1.length c1,.bool ll.2] 197) none
 have gx : (w1.alloc (.cells #[.slice a1 ll.1.length c1,.bool ll.2] 197)).grownBy (((w1.alloc (.cells #[.slice a1 ll.1.length c1,.bool ll.2] 197)).alloc (.cells #[.int .i64 0] 2)).alloc (.cells #[.pointer (some ⟨w1.heap.size + 1,0,none⟩)] 202)) none := gb_alloc (World.grownBy_alloc _ _ none) _
 have r1 := Rd.new (w := w1) b1 hbad 197
 have R1 : Rd (((w1.alloc (.cells #[.slice a1 ll.1.length c1,.bool ll.2] 197)).alloc (.cells #[.int .i64 0] 2)).alloc (.cells #[.pointer (some ⟨w1.heap.size + 1,0,none⟩)] 202)) S w1.heap.size ll.1 ll.2 := r1.keep (gx.block _ (by omega) (by simp))
 have hI := (Blk.new (w1.alloc (.cells #[.slice a1 ll.1.length c1,.bool ll.2] 197)) #[.int .i64 0] 2).alloc (.cells #[.pointer (some ⟨w1.heap.size + 1,0,none⟩)] 202)
 rw [za] at hI
 have hP := Blk.new ((w1.alloc (.cells #[.slice a1 ll.1.length c1,.bool ll.2] 197)).alloc (.cells #[.int .i64 0] 2)) #[.pointer (some ⟨w1.heap.size + 1,0,none⟩)] 202
 rw [zb] at hP
 have LI : Live (((w1.alloc (.cells #[.slice a1 ll.1.length c1,.bool ll.2] 197)).alloc (.cells #[.int .i64 0] 2)).alloc (.cells #[.pointer (some ⟨w1.heap.size + 1,0,none⟩)] 202)) (w1.heap.size + 1) 1 := by
  have := (Live.new (w1.alloc (.cells #[.slice a1 ll.1.length c1,.bool ll.2] 197)) #[.int .i64 0] 2).alloc (.cells #[.pointer (some ⟨w1.heap.size + 1,0,none⟩)] 202)
  rw [za] at this
  exact this
 have pl : Places (((w1.alloc (.cells #[.slice a1 ll.1.length c1,.bool ll.2] 197)).alloc (.cells #[.int .i64 0] 2)).alloc (.cells #[.pointer (some ⟨w1.heap.size + 1,0,none⟩)] 202)) w1.heap.size (w1.heap.size + 1 + 1) [(w1.heap.size + 1,0)] := ⟨hP,fun p hp => by rw [List.mem_singleton.1 hp]; exact LI,fun p hp => by rw [List.mem_singleton.1 hp]; exact ⟨by show w1.heap.size + 1 ≠ w1.heap.size; omega,by show w1.heap.size + 1 ≠ w1.heap.size + 1 + 1; omega⟩,by omega,by simp⟩
 have hs1 := HS0.out.below g1
 have stay := Stays.of (ps := [(w1.heap.size + 1,0)]) ((hs1.below ga).below gx) (NotAt.new hs1 (Nat.le_refl w1.heap.size)) (fun p hp => by rw [List.mem_singleton.1 hp]; exact NotAt.new hs1 (Nat.le_succ _))
 have HT := hid (takeNumbers_any S w1.heap.size (w1.heap.size + 1 + 1) [(w1.heap.size + 1,0)] 1 ll.1 ll.2 _ (hid rfl) (by omega) stay R1 pl)
 have HBx : Hid (Blk (((w1.alloc (.cells #[.slice a1 ll.1.length c1,.bool ll.2] 197)).alloc (.cells #[.int .i64 0] 2)).alloc (.cells #[.pointer (some ⟨w1.heap.size + 1,0,none⟩)] 202)) w.heap.size #[.slice none 0 0,.bool false]) := ((HB0.out.grown g1 (by simp)).grown ga (by simp)).grown gx (by simp)
 have HGx := hid (gb_trans HG0.out (gb_trans g1 (gb_trans ga gx)))
 have HLx := hid LI
 have zw : (((w1.alloc (.cells #[.slice a1 ll.1.length c1,.bool ll.2] 197)).alloc (.cells #[.int .i64 0] 2)).alloc (.cells #[.pointer (some ⟨w1.heap.size + 1,0,none⟩)] 202)).heap.size = w1.heap.size + 1 + 1 + 1 := by rw [World.size_alloc,zb]
 clear ga gx r1 R1 hI hP LI pl HG0 HB0 g1 b1 HL hs1 stay HS0
 go_wp2_with fail
 refine HT.out.mono ?_
 rintro e w2 ⟨rfl,r2,c2,f2⟩
 have d0 : w2.cell? ⟨w1.heap.size + 1,0,none⟩ = some (.int .i64 kk) := by rw [← HK.out]; exact c2 0 (w1.heap.size + 1,0) rfl
 have hB2 : Blk w2 w.heap.size #[.slice none 0 0,.bool false] := HBx.out.kept (f2.block _ HBx.out.lt (fun o e => by
  rcases e with e | e
  ·omega
  ·have e2 := congrArg Prod.fst (List.mem_singleton.1 e); have e3 : w.heap.size = w1.heap.size + 1 := e2; omega))
 have hG2 : w.grownBy w2 none := ⟨f2.os.trans HGx.out.os,f2.tape.trans HGx.out.tape,f2.output.trans HGx.out.output,Nat.le_trans HGx.out.size f2.size,fun b hb _ => by
  rw [f2.block b (by omega) (fun o e => by
   rcases e with e | e
   ·omega
   ·have e2 := congrArg Prod.fst (List.mem_singleton.1 e); have e3 : b = w1.heap.size + 1 := e2; omega),HGx.out.block b hb (by simp)]⟩
 have s2 := f2.size
 have HN := hid (need_any S w1.heap.size _ _ ok w2 r2)
 have H2 := hid (And.intro hB2 hG2)
 clear r2 c2 f2 hB2 hG2 HT
 have hcase : (ok = true ∧ (kk == due) = true ∧ (n : Int) ≤ 300) ∨ (ok = false ∧ (kk == due) = true ∧ decide ((n : Int) ≤ 300) = false) ∨ (ok = false ∧ (kk == due) = false ∧ True) := by
  by_cases e1 : kk = due
  ·by_cases e2 : n ≤ 300
   ·exact .inl ⟨hok1.2 ⟨e1,e2⟩,by rw [e1]; exact beq_self_eq_true _,by omega⟩
   ·refine .inr (.inl ⟨?_,by rw [e1]; exact beq_self_eq_true _,decide_eq_false (by omega)⟩)
    cases ok
    ·rfl
    ·exact absurd (hok1.1 rfl).2 e2
  ·refine .inr (.inr ⟨?_,by rw [beq_eq_false_iff_ne]; exact e1,trivial⟩)
   cases ok
   ·rfl
   ·exact absurd (hok1.1 rfl).1 e1
 have hne : w.heap.size ≠ w1.heap.size := by omega
 have hw1 : w.heap.size ≤ w1.heap.size ∧ w1.heap.size < w2.heap.size := by omega
 clear hok1 hbad s0 s1 za zb zw s2 HBx HGx HLx HLL
 have hst : stN (ll.1,ll.2) 1 = (stepN ll).2 := rfl
 rw [hst] at HN
 clear hst
 rcases hcase with ⟨rfl,hq,hle⟩ | ⟨rfl,hq,hle⟩ | ⟨rfl,hq,_⟩
 all_goals
  go_wp2_with fail
  refine HN.out.mono ?_
  rintro e w4 ⟨rfl,r4,f4⟩
  simp only [Bool.false_eq_true,if_false,if_true] at r4 HM
  obtain ⟨a4,c4,hb4,p1,p2,p3,p4,p6⟩ := r4
  obtain ⟨c0,c1⟩ := hb4.two
  have hB4 : Blk w4 w.heap.size #[.slice none 0 0,.bool false] := H2.out.1.kept (f4.frmG.block _ H2.out.1.lt hne)
  obtain ⟨d2,d1⟩ := hB4.two
  have g0 := hB4.frozen 0
  have g1 := hB4.frozen 1
  have HG4 := hid (gb_frm_new H2.out.2 f4.frmG hw1.1)
  have HP4 := hid (And.intro hb4 (And.intro hB4 (And.intro p1 (And.intro p2 (And.intro p3 p4)))))
  have s4 := f4.size
  clear hb4 hB4 p1 p2 p3 p4 p6 f4 HN H2 d0
  go_wp2
  refine bodyPost_ret (results_cell1 Tryz.results86 _ _ _ w.heap.size rfl _ (load_two ((HP4.out.2.1.set 0 _).set 1 _))) rfl ⟨_,by rw [HM.out],?_,?_⟩
  ·rw [HM.out]
   exact ⟨a4,c4,rfl,HP4.out.2.2.1,HP4.out.2.2.2.1,HP4.out.2.2.2.2.1,HP4.out.2.2.2.2.2⟩
  ·exact gb_store (gb_store HG4.out (Nat.le_refl _)) (Nat.le_refl _)
end Go.Proofs.YtpijkgbafjccaaaGreatDoor
namespace Go.Proofs.YtpijkgbafjccaaaGreatDoor
open Go.RowKit
set_option maxRecDepth 100000
theorem Blk.cf {w w' : World} {ex : Nat → Nat → Prop} {g : Nat} {cs cs' : Array Value} (h : Blk w g cs) (k : CF w w' ex) (hs : cs'.size = cs.size) (hc : ∀ j,j < cs.size → w'.cell? ⟨g,j,none⟩ = cs'[j]?) : Blk w' g cs' := by
 obtain ⟨e,he⟩ := h
 obtain ⟨cur,h1,h2,_⟩ := k.cells g cs e (0,0) he
 refine ⟨e,?_⟩
 have hb : Blk w' g cur := ⟨e,h1⟩
 have : cur = cs' := Array.ext_getElem? fun j => by
  by_cases hj : j < cs.size
  ·rw [← hc j hj,hb.cell j]
  ·rw [Array.getElem?_eq_none (by omega),Array.getElem?_eq_none (by omega)]
 rw [← this]
 exact h1
structure RS (w W : World) (ex : Nat → Nat → Prop) (S : Source) (g : Nat) (s : List UInt8 × Bool) (fb : Nat) (cs : Array Value) : Prop where
 rd : Rd W S g s.1 s.2
 blk : Blk W fb cs
 cf : CF w W ex
 src : At W S.1 S.2
 ng : NotAt S g
 nf : NotAt S fb
 hf : w.heap.size ≤ fb
 hg : w.heap.size ≤ g
 ne : fb ≠ g
variable {w W W' : World} {ex : Nat → Nat → Prop} {S : Source} {g fb : Nat} {s s' : List UInt8 × Bool} {cs : Array Value}
theorem RS.read (h : RS w W ex S g s fb cs) (c : CF W W' (exG g)) (r : Rd W' S g s'.1 s'.2) : RS w W' ex S g s' fb cs :=
 ⟨r,h.blk.kept (c.frmG.block fb h.blk.lt h.ne),h.cf.trans c (fun i _ hi e => by have e : i = g := e; have := h.hg; omega),NotAt.at h.src c.frmG (fun _ e => e ▸ h.ng),h.ng,h.nf,h.hf,h.hg,h.ne⟩
theorem RS.store (h : RS w W ex S g s fb cs) (j : Nat) (v : Value) : RS w (W.setCell ⟨fb,j,none⟩ v) ex S g s fb (cs.setIfInBounds j v) := by
 have f : Frm W (W.setCell ⟨fb,j,none⟩ v) (fun b => b = fb) := (Frm.refl W (fun b => b = fb)).set (g := fb) rfl j v
 exact ⟨h.rd.frm f (fun e => h.ne e.symm),h.blk.set j v,h.cf.setCell fb j v (fun q => by have := h.hf; omega),NotAt.at h.src f (fun _ e => e ▸ h.nf),h.ng,h.nf,h.hf,h.hg,h.ne⟩
theorem RS.grown (h : RS w W ex S g s fb cs) (k : W.grownBy W' none) : RS w W' ex S g s fb cs :=
 ⟨h.rd.keep (k.block g h.rd.lt (by simp)),h.blk.grown k (by simp),h.cf.grown k,h.src.below k,h.ng,h.nf,h.hf,h.hg,h.ne⟩
theorem RS.alloc (h : RS w W ex S g s fb cs) (o : Obj) : RS w (W.alloc o) ex S g s fb cs := h.grown (World.grownBy_alloc W o none)
theorem RS.nums {ps : List (Nat × Nat)} {cs' : Array Value} (h : RS w W ex S g s fb cs) (c : CF W W' (exN g ps)) (r : Rd W' S g s'.1 s'.2) (hp : ∀ p ∈ ps,p.1 = fb) (hs : cs'.size = cs.size) (hc : ∀ j,j < cs.size → W'.cell? ⟨fb,j,none⟩ = cs'[j]?) : RS w W' ex S g s' fb cs' := by
 refine ⟨r,h.blk.cf c hs hc,h.cf.trans c (fun i o hi e => ?_),Stays.of h.src h.ng (fun p q => by rw [hp p q]; exact h.nf) W' c,h.ng,h.nf,h.hf,h.hg,h.ne⟩
 rcases e with e | e
 ·have := h.hg; omega
 ·have e2 : i = fb := hp _ e
  have := h.hf; omega
theorem RS.size (h : RS w W ex S g s fb cs) : w.heap.size ≤ W.heap.size ∧ fb < W.heap.size ∧ g < W.heap.size := ⟨h.cf.size,h.blk.lt,h.rd.lt⟩
theorem RS.places (h : RS w W ex S g s fb cs) (js : List Nat) (hj : ∀ j ∈ js,j < cs.size) (hnd : js.Nodup) (t : TypeId) : Places (W.alloc (.cells ((js.map fun j => (fb,j)).map fun p => Value.pointer (some ⟨p.1,p.2,none⟩)).toArray t)) g W.heap.size (js.map fun j => (fb,j)) := by
 obtain ⟨z1,z2,z4⟩ := h.size
 have L : Live W fb cs.size := by obtain ⟨e,he⟩ := h.blk; exact ⟨cs,e,he,Nat.le_refl _⟩
 refine ⟨Blk.new W _ t,fun p hp => ?_,fun p hp => ?_,by omega,?_⟩
 ·obtain ⟨j,hj1,rfl⟩ := List.mem_map.1 hp
  exact (L.mono (by have := hj j hj1; show j + 1 ≤ _; omega)).alloc _
 ·obtain ⟨j,hj1,rfl⟩ := List.mem_map.1 hp
  exact ⟨h.ne,by show fb ≠ _; omega⟩
 ·exact List.pairwise_map.2 (hnd.imp fun hab e => hab (by injection e))
theorem RS.stays (h : RS w W ex S g s fb cs) (js : List Nat) : Stays W S g (js.map fun j => (fb,j)) := Stays.of h.src h.ng (fun p hp => by
 obtain ⟨j,_,rfl⟩ := List.mem_map.1 hp
 exact h.nf)
theorem RS.other {g' : Nat} (h : RS w W ex S g s fb cs) (c : CF W W' (exG g')) (n' : NotAt S g') (h1 : g' ≠ g) (h2 : g' ≠ fb) (h3 : w.heap.size ≤ g') : RS w W' ex S g s fb cs :=
 ⟨h.rd.frm c.frmG (fun e => h1 e.symm),h.blk.kept (c.frmG.block fb h.blk.lt (fun e => h2 e.symm)),h.cf.trans c (fun i _ hi e => by have e : i = g' := e; omega),NotAt.at h.src c.frmG (fun _ e => e ▸ n'),h.ng,h.nf,h.hf,h.hg,h.ne⟩
theorem takeName_s (S : Source) (g : Nat) (s : List UInt8 × Bool) (w : World) (hs : At w S.1 S.2) (ng : NotAt S g) (h : Rd w S g s.1 s.2) :
  Calls Tryz.prog 87 #[.pointer (some ⟨g,0,none⟩)] w fun e w' => e = .returned (.string ⟨(nameM s).1.toArray⟩) ∧ Rd w' S g (nameM s).2.1 (nameM s).2.2 ∧ CF w w' (exG g) := takeName_any S g s.1 s.2 w hs ng h
theorem takeSealed_s (S : Source) (g : Nat) (s : List UInt8 × Bool) (w : World) (hs : At w S.1 S.2) (ng : NotAt S g) (h : Rd w S g s.1 s.2) :
  Calls Tryz.prog 91 #[.pointer (some ⟨g,0,none⟩)] w fun e w' => ∃ v,e = .returned (.agg #[.int .i64 (sealedM s).1.1,v]) ∧ Bs S v (sealedM s).1.2 ∧ Rd w' S g (sealedM s).2.1 (sealedM s).2.2 ∧ CF w w' (exG g) := takeSealed_any S g s.1 s.2 w hs ng h
theorem takeNumbers_s (S : Source) (g pb : Nat) (ps : List (Nat × Nat)) (n : Nat) (s : List UInt8 × Bool) (w : World) (hn : Hid (ps.length = n)) (hnl : n ≤ 100) (hs : Stays w S g ps) (h : Rd w S g s.1 s.2) (hp : Places w g pb ps) :
  Calls Tryz.prog 88 #[.pointer (some ⟨g,0,none⟩),.slice (some ⟨pb,0,none⟩) n n] w fun e w' => e = .returned (.tuple #[]) ∧ Rd w' S g (stN s n).1 (stN s n).2 ∧ (∀ j p,ps[j]? = some p → w'.cell? ⟨p.1,p.2,none⟩ = some (.int .i64 (stepN (stN s j)).1)) ∧ CF w w' (exN g ps) := takeNumbers_any S g pb ps n s.1 s.2 w hn hnl hs h hp
theorem RS.slot (h : RS w W ex S g s fb cs) (j : Nat) (hj : j < cs.size) : (∃ x,W.cell? ⟨fb,j,none⟩ = some x) ∧ W.frozen? ⟨fb,j,none⟩ = false := by
 have L : Live W fb cs.size := by obtain ⟨e,he⟩ := h.blk; exact ⟨cs,e,he,Nat.le_refl _⟩
 exact ⟨Option.isSome_iff_exists.1 (L.some j hj),L.frozen j⟩
theorem stepN_bad {s : List UInt8 × Bool} (h : s.2 = true → s.1 = []) : (stepN s).2.2 = true → (stepN s).2.1 = [] := by
 rw [stepN_eq]
 simp only
 split
 ·exact fun e => (takeM_bad 2 s.1 s.2 h e).2
 ·exact fun _ => rfl
theorem beginM_bad (req : List UInt8) (due : Int) : (beginM req due).2 = true → (beginM req due).1 = [] := by
 unfold beginM
 split
 ·exact stepN_bad (readListM_bad req)
 ·exact fun _ => rfl
theorem Blk.ten {w : World} {g : Nat} {c0 c1 c2 c3 c4 c5 c6 c7 c8 c9 : Value} (h : Blk w g #[c0,c1,c2,c3,c4,c5,c6,c7,c8,c9]) : w.cell? ⟨g,0,none⟩ = some c0 ∧ w.cell? ⟨g,1,none⟩ = some c1 ∧ w.cell? ⟨g,2,none⟩ = some c2 ∧ w.cell? ⟨g,3,none⟩ = some c3 ∧ w.cell? ⟨g,4,none⟩ = some c4 ∧ w.cell? ⟨g,5,none⟩ = some c5 ∧ w.cell? ⟨g,6,none⟩ = some c6 ∧ w.cell? ⟨g,7,none⟩ = some c7 ∧ w.cell? ⟨g,8,none⟩ = some c8 ∧ w.cell? ⟨g,9,none⟩ = some c9 := ⟨h.cell 0,h.cell 1,h.cell 2,h.cell 3,h.cell 4,h.cell 5,h.cell 6,h.cell 7,h.cell 8,h.cell 9⟩
def set10 (W : World) (g : Nat) (c0 c1 c2 c3 c4 c5 c6 c7 c8 c9 : Value) : World := (((((((((W.setCell ⟨g,0,none⟩ c0).setCell ⟨g,1,none⟩ c1).setCell ⟨g,2,none⟩ c2).setCell ⟨g,3,none⟩ c3).setCell ⟨g,4,none⟩ c4).setCell ⟨g,5,none⟩ c5).setCell ⟨g,6,none⟩ c6).setCell ⟨g,7,none⟩ c7).setCell ⟨g,8,none⟩ c8).setCell ⟨g,9,none⟩ c9
theorem Tryz.sizeFirst : (Tryz.prog.info? 165).map (·.size) = some 10 := by kernel_rfl
theorem RS.set10 {x0 x1 x2 x3 x4 x5 x6 x7 x8 x9 : Value} (h : RS w W ex S g s fb #[x0,x1,x2,x3,x4,x5,x6,x7,x8,x9]) (c0 c1 c2 c3 c4 c5 c6 c7 c8 c9 : Value) : RS w (set10 W fb c0 c1 c2 c3 c4 c5 c6 c7 c8 c9) ex S g s fb #[c0,c1,c2,c3,c4,c5,c6,c7,c8,c9] := by
 have h0 : RS w (W.setCell ⟨fb,0,none⟩ c0) ex S g s fb #[c0,x1,x2,x3,x4,x5,x6,x7,x8,x9] := h.store 0 c0
 have h1 : RS w ((W.setCell ⟨fb,0,none⟩ c0).setCell ⟨fb,1,none⟩ c1) ex S g s fb #[c0,c1,x2,x3,x4,x5,x6,x7,x8,x9] := h0.store 1 c1
 have h2 : RS w (((W.setCell ⟨fb,0,none⟩ c0).setCell ⟨fb,1,none⟩ c1).setCell ⟨fb,2,none⟩ c2) ex S g s fb #[c0,c1,c2,x3,x4,x5,x6,x7,x8,x9] := h1.store 2 c2
 have h3 : RS w ((((W.setCell ⟨fb,0,none⟩ c0).setCell ⟨fb,1,none⟩ c1).setCell ⟨fb,2,none⟩ c2).setCell ⟨fb,3,none⟩ c3) ex S g s fb #[c0,c1,c2,c3,x4,x5,x6,x7,x8,x9] := h2.store 3 c3
 have h4 : RS w (((((W.setCell ⟨fb,0,none⟩ c0).setCell ⟨fb,1,none⟩ c1).setCell ⟨fb,2,none⟩ c2).setCell ⟨fb,3,none⟩ c3).setCell ⟨fb,4,none⟩ c4) ex S g s fb #[c0,c1,c2,c3,c4,x5,x6,x7,x8,x9] := h3.store 4 c4
 have h5 : RS w ((((((W.setCell ⟨fb,0,none⟩ c0).setCell ⟨fb,1,none⟩ c1).setCell ⟨fb,2,none⟩ c2).setCell ⟨fb,3,none⟩ c3).setCell ⟨fb,4,none⟩ c4).setCell ⟨fb,5,none⟩ c5) ex S g s fb #[c0,c1,c2,c3,c4,c5,x6,x7,x8,x9] := h4.store 5 c5
 have h6 : RS w (((((((W.setCell ⟨fb,0,none⟩ c0).setCell ⟨fb,1,none⟩ c1).setCell ⟨fb,2,none⟩ c2).setCell ⟨fb,3,none⟩ c3).setCell ⟨fb,4,none⟩ c4).setCell ⟨fb,5,none⟩ c5).setCell ⟨fb,6,none⟩ c6) ex S g s fb #[c0,c1,c2,c3,c4,c5,c6,x7,x8,x9] := h5.store 6 c6
 have h7 : RS w ((((((((W.setCell ⟨fb,0,none⟩ c0).setCell ⟨fb,1,none⟩ c1).setCell ⟨fb,2,none⟩ c2).setCell ⟨fb,3,none⟩ c3).setCell ⟨fb,4,none⟩ c4).setCell ⟨fb,5,none⟩ c5).setCell ⟨fb,6,none⟩ c6).setCell ⟨fb,7,none⟩ c7) ex S g s fb #[c0,c1,c2,c3,c4,c5,c6,c7,x8,x9] := h6.store 7 c7
 have h8 : RS w (((((((((W.setCell ⟨fb,0,none⟩ c0).setCell ⟨fb,1,none⟩ c1).setCell ⟨fb,2,none⟩ c2).setCell ⟨fb,3,none⟩ c3).setCell ⟨fb,4,none⟩ c4).setCell ⟨fb,5,none⟩ c5).setCell ⟨fb,6,none⟩ c6).setCell ⟨fb,7,none⟩ c7).setCell ⟨fb,8,none⟩ c8) ex S g s fb #[c0,c1,c2,c3,c4,c5,c6,c7,c8,x9] := h7.store 8 c8
 have h9 : RS w ((((((((((W.setCell ⟨fb,0,none⟩ c0).setCell ⟨fb,1,none⟩ c1).setCell ⟨fb,2,none⟩ c2).setCell ⟨fb,3,none⟩ c3).setCell ⟨fb,4,none⟩ c4).setCell ⟨fb,5,none⟩ c5).setCell ⟨fb,6,none⟩ c6).setCell ⟨fb,7,none⟩ c7).setCell ⟨fb,8,none⟩ c8).setCell ⟨fb,9,none⟩ c9) ex S g s fb #[c0,c1,c2,c3,c4,c5,c6,c7,c8,c9] := h8.store 9 c9
 exact h9
theorem RS.load10 {c0 c1 c2 c3 c4 c5 c6 c7 c8 c9 : Value} (h : RS w W ex S g s fb #[c0,c1,c2,c3,c4,c5,c6,c7,c8,c9]) : (loadVar 165 ⟨fb,0,none⟩).run Tryz.prog W = .ok (.agg #[c0,c1,c2,c3,c4,c5,c6,c7,c8,c9]) W := h.blk.load 165 _ Tryz.underlying165 rfl Tryz.sizeFirst
def rfA (req : List UInt8) : List UInt8 × (List UInt8 × Bool) := nameM (beginM req 10)
def rfB (req : List UInt8) : List UInt8 × (List UInt8 × Bool) := nameM (rfA req).2
def rfN (req : List UInt8) (j : Nat) : Int := (stepN (stN (rfB req).2 j)).1
def rfC (req : List UInt8) : List UInt8 × (List UInt8 × Bool) := takeM 48 (stN (rfB req).2 5).1 (stN (rfB req).2 5).2
def rfP (req : List UInt8) : (Int × List UInt8) × (List UInt8 × Bool) :=
 if (rfC req).1 = [] then ((0,[]),((rfC req).1,(rfC req).2.2)) else sealedM ((rfC req).1,(rfC req).2.2)
def rfOk (req : List UInt8) : Bool := (!(rfP req).2.2 && decide ((rfP req).2.1 = [])) && (!(rfC req).2.2 && decide ((rfC req).2.1 = []))
abbrev firstZ : Array Value := #[.string ⟨#[]⟩,.string ⟨#[]⟩,.int .i64 0,.int .i64 0,.int .i64 0,.int .i64 0,.int .i64 0,.bool false,.int .i64 0,.slice none 0 0]
def firstCs (req : List UInt8) (v : Value) : List Value := [.string ⟨(rfA req).1.toArray⟩,.string ⟨(rfB req).1.toArray⟩,.int .i64 (rfN req 0),.int .i64 (rfN req 1),.int .i64 (rfN req 2),.int .i64 (rfN req 3),.int .i64 (rfN req 4),.bool (decide ((rfC req).1 ≠ [])),.int .i64 (rfP req).1.1,v]
set_option maxHeartbeats 1000000 in
theorem readFirst_any (S : Source) (req : List UInt8) (n : Nat) (ao : Option Addr) (cap : Nat) (w : World) (hn : Hid (req.length = n)) (hs : At w S.1 S.2) (h : Bs S (.slice ao n cap) req) :
  Calls Tryz.prog 67 #[.slice ao n cap] w fun e w' => ∃ cs,e = .returned (.tuple #[.agg cs,.bool (rfOk req)]) ∧ (rfOk req = true → ∃ v,cs = (firstCs req v).toArray ∧ Bs S v (rfP req).1.2) ∧ (cs.size = 10 ∧ cs.toList.all (·.oneCell') = true) ∧ w.grownBy w' none := by
 have G0 := World.grownBy_alloc w (.cells firstZ 165) none
 have s0 : (w.alloc (.cells firstZ 165)).heap.size = w.heap.size + 1 := World.size_alloc _ _
 have HL := hid (begin_any S req n ao cap 10 _ hn (hs.below G0) h)
 have HB0 := hid (And.intro (Blk.new w firstZ 165) G0)
 have HS0 := hid hs
 have hbad := beginM_bad req 10
 obtain ⟨q0,h0⟩ : ∃ q,beginM req 10 = q := ⟨_,rfl⟩
 obtain ⟨qA,hA⟩ : ∃ q,nameM q0 = q := ⟨_,rfl⟩
 obtain ⟨qB,hqB⟩ : ∃ q,nameM qA.2 = q := ⟨_,rfl⟩
 obtain ⟨N,hN⟩ : ∃ N : Nat → Int,∀ j,(stepN (stN qB.2 j)).1 = N j := ⟨_,fun _ => rfl⟩
 obtain ⟨q5,h5⟩ : ∃ q,stN qB.2 5 = q := ⟨_,rfl⟩
 obtain ⟨qC,hC⟩ : ∃ q,takeM 48 q5.1 q5.2 = q := ⟨_,rfl⟩
 have HQ := hid (And.intro h0 (And.intro hA (And.intro hqB (And.intro hN (And.intro h5 hC)))))
 rw [h0] at HL hbad
 clear hs h G0 h0 hA hqB hN h5 hC
 go_enter Tryz.func67,Tryz.ntmps67
 go_wp2_with fail
 refine HL.out.mono ?_
 rintro e w1 ⟨v,rfl,b1,g1⟩
 obtain ⟨a1,c1,rfl,_⟩ := id b1
 have rs1 : RS w (w1.alloc (.cells #[.slice a1 q0.1.length c1,.bool q0.2] 197)) (fun _ _ => False) S w1.heap.size q0 w.heap.size firstZ := by
  have z := g1.size
  have hs1 := (HS0.out.below HB0.out.2).below g1
  exact ⟨Rd.new (w := w1) b1 hbad _,(HB0.out.1.grown g1 (by simp)).alloc _,CF.of_gb (gb_alloc (gb_trans HB0.out.2 g1) _) _,hs1.below (World.grownBy_alloc _ _ none),NotAt.new hs1 (Nat.le_refl _),NotAt.new HS0.out (Nat.le_refl _),Nat.le_refl _,by omega,by omega⟩
 have HT1 := hid (takeName_s S w1.heap.size q0 _ rs1.src rs1.ng rs1.rd)
 rw [HQ.out.2.1] at HT1
 have H1 := hid rs1
 clear b1 g1 HB0 HL rs1 hbad
 go_wp2_with fail
 refine HT1.out.mono ?_
 rintro e w2 ⟨rfl,r2,f2⟩
 have rs2 : RS w w2 (fun _ _ => False) S w1.heap.size qA.2 w.heap.size firstZ := H1.out.read f2 r2
 obtain ⟨⟨d2,hd2⟩,hz2⟩ := rs2.slot 0 (by show 0 < 10; decide)
 have rs2' : RS w (w2.setCell ⟨w.heap.size,0,none⟩ (.string ⟨qA.1.toArray⟩)) (fun _ _ => False) S w1.heap.size qA.2 w.heap.size #[.string ⟨qA.1.toArray⟩,.string ⟨#[]⟩,.int .i64 0,.int .i64 0,.int .i64 0,.int .i64 0,.int .i64 0,.bool false,.int .i64 0,.slice none 0 0] := rs2.store 0 _
 have HT2 := hid (takeName_s S w1.heap.size qA.2 _ rs2'.src rs2'.ng rs2'.rd)
 rw [HQ.out.2.2.1] at HT2
 have H2 := hid rs2'
 clear r2 f2 rs2 rs2' HT1 H1
 go_wp2_with fail
 refine HT2.out.mono ?_
 rintro e w3 ⟨rfl,r3,f3⟩
 have rs3 : RS w w3 (fun _ _ => False) S w1.heap.size qB.2 w.heap.size #[.string ⟨qA.1.toArray⟩,.string ⟨#[]⟩,.int .i64 0,.int .i64 0,.int .i64 0,.int .i64 0,.int .i64 0,.bool false,.int .i64 0,.slice none 0 0] := H2.out.read f3 r3
 obtain ⟨⟨d3,hd3⟩,hz3⟩ := rs3.slot 1 (by show 1 < 10; decide)
 have rs3' : RS w (w3.setCell ⟨w.heap.size,1,none⟩ (.string ⟨qB.1.toArray⟩)) (fun _ _ => False) S w1.heap.size qB.2 w.heap.size #[.string ⟨qA.1.toArray⟩,.string ⟨qB.1.toArray⟩,.int .i64 0,.int .i64 0,.int .i64 0,.int .i64 0,.int .i64 0,.bool false,.int .i64 0,.slice none 0 0] := rs3.store 1 _
 have pl := rs3'.places [2,3,4,5,6] (fun j hj => by show j < 10; simp at hj; omega) (by decide) 202
 rw [World.size_setCell] at pl
 have rs3a := rs3'.alloc (.cells #[.pointer (some ⟨w.heap.size,2,none⟩),.pointer (some ⟨w.heap.size,3,none⟩),.pointer (some ⟨w.heap.size,4,none⟩),.pointer (some ⟨w.heap.size,5,none⟩),.pointer (some ⟨w.heap.size,6,none⟩)] 202)
 have HT3 := hid (takeNumbers_s S w1.heap.size w3.heap.size _ 5 qB.2 _ (hid rfl) (by omega) (rs3a.stays [2,3,4,5,6]) rs3a.rd pl)
 simp only [HQ.out.2.2.2.1] at HT3
 rw [HQ.out.2.2.2.2.1] at HT3
 have H3 := hid rs3a
 clear r3 f3 rs3 rs3' HT2 H2 pl rs3a
 go_wp2_with fail
 refine HT3.out.mono ?_
 rintro e w4 ⟨rfl,r4,c4,f4⟩
 have rs4 : RS w w4 (fun _ _ => False) S w1.heap.size q5 w.heap.size #[.string ⟨qA.1.toArray⟩,.string ⟨qB.1.toArray⟩,.int .i64 (N 0),.int .i64 (N 1),.int .i64 (N 2),.int .i64 (N 3),.int .i64 (N 4),.bool false,.int .i64 0,.slice none 0 0] := by
  refine H3.out.nums f4 r4 (fun p hp => ?_) rfl (fun j hj => ?_)
  ·obtain ⟨j,_,rfl⟩ := List.mem_map.1 hp
   rfl
  ·have hj' : j < 10 := hj
   match j,hj' with
   | 0,_ => exact f4.cell (H3.out.blk.cell 0) (fun e => by rcases e with e | e; exact H3.out.ne e; simp at e)
   | 1,_ => exact f4.cell (H3.out.blk.cell 1) (fun e => by rcases e with e | e; exact H3.out.ne e; simp at e)
   | 2,_ => exact c4 0 (w.heap.size,2) rfl
   | 3,_ => exact c4 1 (w.heap.size,3) rfl
   | 4,_ => exact c4 2 (w.heap.size,4) rfl
   | 5,_ => exact c4 3 (w.heap.size,5) rfl
   | 6,_ => exact c4 4 (w.heap.size,6) rfl
   | 7,_ => exact f4.cell (H3.out.blk.cell 7) (fun e => by rcases e with e | e; exact H3.out.ne e; simp at e)
   | 8,_ => exact f4.cell (H3.out.blk.cell 8) (fun e => by rcases e with e | e; exact H3.out.ne e; simp at e)
   | 9,_ => exact f4.cell (H3.out.blk.cell 9) (fun e => by rcases e with e | e; exact H3.out.ne e; simp at e)
 have HT4 := hid (list_any S w1.heap.size q5.1 q5.2 _ rs4.src rs4.rd)
 have HbC := hid (takeM_bad 48 q5.1 q5.2 rs4.rd.bad)
 rw [HQ.out.2.2.2.2.2] at HT4 HbC
 have H4 := hid rs4
 clear r4 c4 f4 rs4 HT3 H3
 go_wp2_with fail
 refine HT4.out.mono ?_
 rintro e w5 ⟨v5,rfl,b5,r5,f5⟩
 obtain ⟨a5,c5,rfl,_⟩ := id b5
 have rs5 : RS w w5 (fun _ _ => False) S w1.heap.size qC.2 w.heap.size #[.string ⟨qA.1.toArray⟩,.string ⟨qB.1.toArray⟩,.int .i64 (N 0),.int .i64 (N 1),.int .i64 (N 2),.int .i64 (N 3),.int .i64 (N 4),.bool false,.int .i64 0,.slice none 0 0] := H4.out.read f5 r5
 have z5 := rs5.size
 have rp5 := Rd.new (w := w5) b5 (fun e => (HbC.out e).1) 197
 have HNp := hid (NotAt.new rs5.src (Nat.le_refl w5.heap.size))
 have rs5a := rs5.alloc (.cells #[.slice a5 qC.1.length c5,.bool qC.2.2] 197)
 have HE := hid (empty_any S w5.heap.size _ _ _ rp5)
 have H5 := hid (And.intro rs5a rp5)
 clear b5 r5 f5 rs5 HT4 H4 rp5 rs5a hd2 hz2 hd3 hz3
 go_wp2_with fail
 refine HE.out.mono ?_
 rintro e wE ⟨rfl,rfl⟩
 obtain ⟨w6,hw6⟩ : ∃ w6,w6 = w5.alloc (.cells #[.slice a5 qC.1.length c5,.bool qC.2.2] 197) := ⟨_,rfl⟩
 have z5a : w6.heap.size = w5.heap.size + 1 := by rw [hw6]; exact World.size_alloc _ _
 rw [← hw6] at H5 ⊢
 clear hw6 HE
 have HRA : Hid (rfA req = qA) := by show _ = _; rw [rfA,HQ.out.1,HQ.out.2.1]
 have HRB : Hid (rfB req = qB) := by show _ = _; rw [rfB,HRA.out,HQ.out.2.2.1]
 have HRN : Hid (∀ j,rfN req j = N j) := fun j => by rw [rfN,HRB.out,HQ.out.2.2.2.1]
 have HRC : Hid (rfC req = qC) := by show _ = _; rw [rfC,HRB.out,HQ.out.2.2.2.2.1,HQ.out.2.2.2.2.2]
 clear HQ HbC hn s0
 by_cases hpre : qC.1 = []
 ·have hd : decide (qC.1 = []) = true := by rw [hpre]; rfl
  rw [hd]
  have HP : Hid (rfP req = ((0,[]),(qC.1,qC.2.2))) := by show _ = _; rw [rfP,HRC.out,if_pos hpre]
  have HOK : Hid (rfOk req = ((!qC.2.2 && decide (qC.1 = [])) && (!qC.2.2 && decide (qC.2.1 = [])))) := by show _ = _; rw [rfOk,HP.out,HRC.out]
  have HT := hid H5.out
  clear H5
  obtain ⟨y0,y1,y2,y3,y4,y5,y6,y7,y8,y9⟩ := HT.out.1.blk.ten
  have zz0 := (HT.out.1.slot 0 (by show 0 < 10; decide)).2
  have zz1 := (HT.out.1.slot 1 (by show 1 < 10; decide)).2
  have zz2 := (HT.out.1.slot 2 (by show 2 < 10; decide)).2
  have zz3 := (HT.out.1.slot 3 (by show 3 < 10; decide)).2
  have zz4 := (HT.out.1.slot 4 (by show 4 < 10; decide)).2
  have zz5 := (HT.out.1.slot 5 (by show 5 < 10; decide)).2
  have zz6 := (HT.out.1.slot 6 (by show 6 < 10; decide)).2
  have zz7 := (HT.out.1.slot 7 (by show 7 < 10; decide)).2
  have zz8 := (HT.out.1.slot 8 (by show 8 < 10; decide)).2
  have zz9 := (HT.out.1.slot 9 (by show 9 < 10; decide)).2
  have HD1 := hid (done_any S w5.heap.size _ _ _ HT.out.2)
  have HD2 := hid (done_any S w1.heap.size _ _ _ HT.out.1.rd)
  have HZ := hid (HT.out.1.set10 (.string ⟨#[]⟩) (.string ⟨#[]⟩) (.int .i64 0) (.int .i64 0) (.int .i64 0) (.int .i64 0) (.int .i64 0) (.bool false) (.int .i64 0) (.slice none 0 0))
  have HY := hid (HT.out.1.set10 (.string ⟨qA.1.toArray⟩) (.string ⟨qB.1.toArray⟩) (.int .i64 (N 0)) (.int .i64 (N 1)) (.int .i64 (N 2)) (.int .i64 (N 3)) (.int .i64 (N 4)) (.bool false) (.int .i64 0) (.slice none 0 0))
  unfold set10 at HZ HY
  cases hq1 : (!qC.2.2 && decide (qC.1 = []))
  ·have HOk : Hid (rfOk req = false) := by show _ = _; rw [HOK.out,hq1]; rfl
   rw [hq1] at HD1
   go_wp2_with fail
   refine HD1.out.mono ?_
   rintro e w8 ⟨rfl,rfl⟩
   clear HD1 HD2 HY hq1
   go_wp2
   refine bodyPost_ret (results_celltmp Tryz.results67 _ _ _ w.heap.size rfl _ HZ.out.load10) rfl ⟨_,by rw [HOk.out]; rfl,fun e => (by rw [HOk.out] at e; cases e),⟨rfl,rfl⟩,HZ.out.cf.gb (fun _ _ _ e => e)⟩
  ·rw [hq1] at HD1
   cases hq2 : (!qC.2.2 && decide (qC.2.1 = []))
   ·have HOk : Hid (rfOk req = false) := by show _ = _; rw [HOK.out,hq1,hq2]; rfl
    rw [hq2] at HD2
    go_wp2_with fail
    refine HD1.out.mono ?_
    rintro e w8 ⟨rfl,rfl⟩
    go_wp2_with fail
    refine HD2.out.mono ?_
    rintro e w8 ⟨rfl,rfl⟩
    clear HD1 HD2 HY hq1 hq2
    go_wp2
    refine bodyPost_ret (results_celltmp Tryz.results67 _ _ _ w.heap.size rfl _ HZ.out.load10) rfl ⟨_,by rw [HOk.out]; rfl,fun e => (by rw [HOk.out] at e; cases e),⟨rfl,rfl⟩,HZ.out.cf.gb (fun _ _ _ e => e)⟩
   ·have HOk : Hid (rfOk req = true) := by show _ = _; rw [HOK.out,hq1,hq2]; rfl
    rw [hq2] at HD2
    go_wp2_with fail
    refine HD1.out.mono ?_
    rintro e w8 ⟨rfl,rfl⟩
    go_wp2_with fail
    refine HD2.out.mono ?_
    rintro e w8 ⟨rfl,rfl⟩
    clear HD1 HD2 HZ hq1 hq2
    go_wp2
    refine bodyPost_ret (results_celltmp Tryz.results67 _ _ _ w.heap.size rfl _ HY.out.load10) rfl ⟨_,by rw [HOk.out]; rfl,fun _ => ?_,⟨rfl,rfl⟩,HY.out.cf.gb (fun _ _ _ e => e)⟩
    exact ⟨_,by rw [firstCs,HRA.out,HRB.out,HRN.out,HRN.out,HRN.out,HRN.out,HRN.out,HRC.out,HP.out,hpre]; rfl,by rw [HP.out]; exact Bs.nil _⟩
 ·have hd : decide (qC.1 = []) = false := decide_eq_false hpre
  rw [hd]
  obtain ⟨⟨x7,hx7⟩,hz7⟩ := H5.out.1.slot 7 (by show 7 < 10; decide)
  have rs6 : RS w (w6.setCell ⟨w.heap.size,7,none⟩ (.bool true)) (fun _ _ => False) S w1.heap.size qC.2 w.heap.size #[.string ⟨qA.1.toArray⟩,.string ⟨qB.1.toArray⟩,.int .i64 (N 0),.int .i64 (N 1),.int .i64 (N 2),.int .i64 (N 3),.int .i64 (N 4),.bool true,.int .i64 0,.slice none 0 0] := H5.out.1.store 7 _
  have fx6 : Frm w6 (w6.setCell ⟨w.heap.size,7,none⟩ (.bool true)) (fun b => b = w.heap.size) := (Frm.refl _ (fun b => b = w.heap.size)).set (g := w.heap.size) rfl 7 _
  have rp6 := H5.out.2.frm fx6 (by omega)
  obtain ⟨qP,hqP⟩ : ∃ q,sealedM (qC.1,qC.2.2) = q := ⟨_,rfl⟩
  have HP : Hid (rfP req = qP) := by show _ = _; rw [rfP,HRC.out,if_neg hpre]; exact hqP
  have HOK : Hid (rfOk req = ((!qP.2.2 && decide (qP.2.1 = [])) && (!qC.2.2 && decide (qC.2.1 = [])))) := by show _ = _; rw [rfOk,HP.out,HRC.out]
  have HS := hid (takeSealed_s S w5.heap.size (qC.1,qC.2.2) _ rs6.src HNp.out rp6)
  rw [hqP] at HS
  have H6 := hid rs6
  have hpF : decide (qC.1 ≠ []) = true := decide_eq_true hpre
  have HPF := hid hpF
  clear hqP rs6 rp6 fx6 H5 hpF
  go_wp2_with fail
  refine HS.out.mono ?_
  rintro e w7 ⟨v7,rfl,b7,r7,f7⟩
  obtain ⟨a7,c7,rfl,_⟩ := id b7
  have rs7 := H6.out.other f7 HNp.out (by omega) (by omega) (by omega)
  obtain ⟨⟨x8,hx8⟩,hz8⟩ := rs7.slot 8 (by show 8 < 10; decide)
  obtain ⟨⟨x9,hx9⟩,hz9⟩ := rs7.slot 9 (by show 9 < 10; decide)
  have rs8 : RS w ((w7.setCell ⟨w.heap.size,8,none⟩ (.int .i64 qP.1.1)).setCell ⟨w.heap.size,9,none⟩ (.slice a7 qP.1.2.length c7)) (fun _ _ => False) S w1.heap.size qC.2 w.heap.size #[.string ⟨qA.1.toArray⟩,.string ⟨qB.1.toArray⟩,.int .i64 (N 0),.int .i64 (N 1),.int .i64 (N 2),.int .i64 (N 3),.int .i64 (N 4),.bool true,.int .i64 qP.1.1,.slice a7 qP.1.2.length c7] := (rs7.store 8 _).store 9 _
  have fx8 : Frm w7 ((w7.setCell ⟨w.heap.size,8,none⟩ (.int .i64 qP.1.1)).setCell ⟨w.heap.size,9,none⟩ (.slice a7 qP.1.2.length c7)) (fun b => b = w.heap.size) := ((Frm.refl w7 (fun b => b = w.heap.size)).set (g := w.heap.size) rfl 8 _).set (g := w.heap.size) rfl 9 _
  have z7 := rs7.size
  have rp8 := r7.frm fx8 (by omega)
  have HB8 := hid b7
  have HT := hid (And.intro rs8 rp8)
  clear rs7 rs8 rp8 fx8 r7 f7 b7 H6 HS
  obtain ⟨y0,y1,y2,y3,y4,y5,y6,y7,y8,y9⟩ := HT.out.1.blk.ten
  have zz0 := (HT.out.1.slot 0 (by show 0 < 10; decide)).2
  have zz1 := (HT.out.1.slot 1 (by show 1 < 10; decide)).2
  have zz2 := (HT.out.1.slot 2 (by show 2 < 10; decide)).2
  have zz3 := (HT.out.1.slot 3 (by show 3 < 10; decide)).2
  have zz4 := (HT.out.1.slot 4 (by show 4 < 10; decide)).2
  have zz5 := (HT.out.1.slot 5 (by show 5 < 10; decide)).2
  have zz6 := (HT.out.1.slot 6 (by show 6 < 10; decide)).2
  have zz7 := (HT.out.1.slot 7 (by show 7 < 10; decide)).2
  have zz8 := (HT.out.1.slot 8 (by show 8 < 10; decide)).2
  have zz9 := (HT.out.1.slot 9 (by show 9 < 10; decide)).2
  have HD1 := hid (done_any S w5.heap.size _ _ _ HT.out.2)
  have HD2 := hid (done_any S w1.heap.size _ _ _ HT.out.1.rd)
  have HZ := hid (HT.out.1.set10 (.string ⟨#[]⟩) (.string ⟨#[]⟩) (.int .i64 0) (.int .i64 0) (.int .i64 0) (.int .i64 0) (.int .i64 0) (.bool false) (.int .i64 0) (.slice none 0 0))
  have HY := hid (HT.out.1.set10 (.string ⟨qA.1.toArray⟩) (.string ⟨qB.1.toArray⟩) (.int .i64 (N 0)) (.int .i64 (N 1)) (.int .i64 (N 2)) (.int .i64 (N 3)) (.int .i64 (N 4)) (.bool true) (.int .i64 qP.1.1) (.slice a7 qP.1.2.length c7))
  unfold set10 at HZ HY
  cases hq1 : (!qP.2.2 && decide (qP.2.1 = []))
  ·have HOk : Hid (rfOk req = false) := by show _ = _; rw [HOK.out,hq1]; rfl
   rw [hq1] at HD1
   go_wp2_with fail
   refine HD1.out.mono ?_
   rintro e w8 ⟨rfl,rfl⟩
   clear HD1 HD2 HY hq1
   go_wp2
   refine bodyPost_ret (results_celltmp Tryz.results67 _ _ _ w.heap.size rfl _ HZ.out.load10) rfl ⟨_,by rw [HOk.out]; rfl,fun e => (by rw [HOk.out] at e; cases e),⟨rfl,rfl⟩,HZ.out.cf.gb (fun _ _ _ e => e)⟩
  ·rw [hq1] at HD1
   cases hq2 : (!qC.2.2 && decide (qC.2.1 = []))
   ·have HOk : Hid (rfOk req = false) := by show _ = _; rw [HOK.out,hq1,hq2]; rfl
    rw [hq2] at HD2
    go_wp2_with fail
    refine HD1.out.mono ?_
    rintro e w8 ⟨rfl,rfl⟩
    go_wp2_with fail
    refine HD2.out.mono ?_
    rintro e w8 ⟨rfl,rfl⟩
    clear HD1 HD2 HY hq1 hq2
    go_wp2
    refine bodyPost_ret (results_celltmp Tryz.results67 _ _ _ w.heap.size rfl _ HZ.out.load10) rfl ⟨_,by rw [HOk.out]; rfl,fun e => (by rw [HOk.out] at e; cases e),⟨rfl,rfl⟩,HZ.out.cf.gb (fun _ _ _ e => e)⟩
   ·have HOk : Hid (rfOk req = true) := by show _ = _; rw [HOK.out,hq1,hq2]; rfl
    rw [hq2] at HD2
    go_wp2_with fail
    refine HD1.out.mono ?_
    rintro e w8 ⟨rfl,rfl⟩
    go_wp2_with fail
    refine HD2.out.mono ?_
    rintro e w8 ⟨rfl,rfl⟩
    clear HD1 HD2 HZ hq1 hq2
    go_wp2
    refine bodyPost_ret (results_celltmp Tryz.results67 _ _ _ w.heap.size rfl _ HY.out.load10) rfl ⟨_,by rw [HOk.out]; rfl,fun _ => ?_,⟨rfl,rfl⟩,HY.out.cf.gb (fun _ _ _ e => e)⟩
    exact ⟨_,by rw [firstCs,HRA.out,HRB.out,HRN.out,HRN.out,HRN.out,HRN.out,HRN.out,HRC.out,HP.out,HPF.out],by rw [HP.out]; exact HB8.out⟩
end Go.Proofs.YtpijkgbafjccaaaGreatDoor
