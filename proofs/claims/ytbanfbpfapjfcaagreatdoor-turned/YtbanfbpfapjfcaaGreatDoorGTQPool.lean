/-
  
  
-/
import Derived.Test.YtbanfbpfapjfcaaGreatDoorGTPFindP
import Derived.Defers
import Derived.Test.YtbanfbpfapjfcaaGreatDoorGTQLookC
namespace Go.Proofs.YtbanfbpfapjfcaaGreatDoor
open Go.RowKit
set_option maxRecDepth 100000
structure PoolAt (w : World) (g o : Nat) (t0 t1 : Bool) : Prop where
 live : Live w g (o + 602)
 c0 : w.cell? ⟨g,o + 300,none⟩ = some (.bool t0)
 c1 : w.cell? ⟨g,o + 601,none⟩ = some (.bool t1)
theorem PoolAt.cf {w w' : World} {ex : Nat → Nat → Prop} {g o : Nat} {t0 t1 : Bool} (h : PoolAt w g o t0 t1) (k : CF w w' ex) (h0 : ¬ ex g (o + 300)) (h1 : ¬ ex g (o + 601)) : PoolAt w' g o t0 t1 := ⟨h.live.cf k,k.cell h.c0 h0,k.cell h.c1 h1⟩
set_option maxHeartbeats 1000000 in
theorem take_first (g o : Nat) (t1 : Bool) (w : World) (h : PoolAt w g o false t1) :
  Calls Tryz.prog 317 #[.pointer (some ⟨g,o,none⟩)] w fun e w' => e = .returned (.pointer (some ⟨g,o,none⟩)) ∧ PoolAt w' g o true t1 ∧ CF w w' (fun b y => b = g ∧ y = o + 300) := by
 have c0 := h.c0
 have f0 := h.live.frozen (o + 300)
 have HC : Hid (CF w (w.setCell ⟨g,o + 300,none⟩ (.bool true)) (fun b y => b = g ∧ y = o + 300)) := (CF.refl _ _).setCell g (o + 300) _ (fun _ => ⟨rfl,rfl⟩)
 have HP : Hid (PoolAt (w.setCell ⟨g,o + 300,none⟩ (.bool true)) g o true t1) := ⟨h.live.cf HC.out,World.cell?_setCell_same _ _ _ c0,HC.out.cell h.c1 (fun e => by omega)⟩
 clear h
 go_enter Tryz.func317,Tryz.ntmps317
 go_wp2
 go_loopw [3,4,5] (fun _ _ i wr => i = .int .i64 0 ∧ wr = w) (fun _ _ i _ => 2 - (intOf i).toNat)
 case atStart => exact ⟨rfl,rfl⟩
 case round =>
  obtain ⟨rfl,rfl⟩ := hrel
  go_wp2
  go_ret
  exact ⟨rfl,HP.out,HC.out⟩
set_option maxHeartbeats 1000000 in
theorem take_second (g o : Nat) (w : World) (h : PoolAt w g o true false) :
  Calls Tryz.prog 317 #[.pointer (some ⟨g,o,none⟩)] w fun e w' => e = .returned (.pointer (some ⟨g,o + 301,none⟩)) ∧ PoolAt w' g o true true ∧ CF w w' (fun b y => b = g ∧ y = o + 601) := by
 have c0 := h.c0
 have c1 := h.c1
 have f1 := h.live.frozen (o + 601)
 have HC : Hid (CF w (w.setCell ⟨g,o + 601,none⟩ (.bool true)) (fun b y => b = g ∧ y = o + 601)) := (CF.refl _ _).setCell g (o + 601) _ (fun _ => ⟨rfl,rfl⟩)
 have HP : Hid (PoolAt (w.setCell ⟨g,o + 601,none⟩ (.bool true)) g o true true) := ⟨h.live.cf HC.out,HC.out.cell h.c0 (fun e => by omega),World.cell?_setCell_same _ _ _ c1⟩
 clear h
 go_enter Tryz.func317,Tryz.ntmps317
 go_wp2
 go_loopw [3,4,5] (fun _ _ i wr => (i = .int .i64 0 ∨ i = .int .i64 1) ∧ wr = w) (fun _ _ i _ => 2 - (intOf i).toNat)
 case atStart => exact ⟨.inl rfl,rfl⟩
 case round =>
  obtain ⟨rfl | rfl,rfl⟩ := hrel
  ·go_wp2
   go_roundw
   case rel => exact ⟨.inr rfl,by first | rfl | trivial⟩
   case measure => simp [intOf]
  ·go_wp2
   go_ret
   exact ⟨rfl,HP.out,HC.out⟩
set_option maxHeartbeats 1000000 in
theorem room_any (g o : Nat) (w : World) :
  Calls Tryz.prog 319 #[.pointer (some ⟨g,o,none⟩)] w fun e w' => e = .returned (.slice (some ⟨g,o,none⟩) 0 300) ∧ w = w' := by
 go_enter Tryz.func319,Tryz.ntmps319
 go_wp2
 go_ret
 exact ⟨rfl,rfl⟩
theorem Tryz.zeroBuf : Tryz.zeroCells158.size = 301 := by kernel_rfl
theorem Tryz.zeroBufOne : Tryz.zeroCells158.all (·.oneCell') = true := by kernel_rfl
theorem Tryz.zeroBuf300 : Tryz.zeroCells158.toList[300]? = some (.bool false) := by kernel_rfl
set_option maxHeartbeats 1000000 in
theorem giveBack_any (g o : Nat) (u : FrameMode) (w : World) (h : Live w g (o + 301)) :
  CallsD Tryz.prog 318 #[.pointer (some ⟨g,o,none⟩)] u w fun e u' w' => u' = u ∧ (e = .returned (.tuple #[]) ∧ w'.cell? ⟨g,o + 300,none⟩ = some (.bool false) ∧ CF w w' (fun b y => b = g ∧ o ≤ y ∧ y < o + 301)) := by
 have hlen : Tryz.zeroCells158.toList.length = 301 := by rw [Array.length_toList,Tryz.zeroBuf]
 have hst := run_store_mid (P := Tryz.prog) o Tryz.zeroCells158.toList h (by rw [hlen]; exact Nat.le_refl _) (fun v hv => by have := Tryz.zeroBufOne; rw [Array.all_eq_true_iff_forall_mem] at this; exact this v (Array.mem_toList_iff.1 hv))
 have HC : Hid (CF w (w.setCells g o Tryz.zeroCells158.toList) (fun b y => b = g ∧ o ≤ y ∧ y < o + 301)) := CF.setCells g _ o w (CF.refl _ _) (fun j hj _ => ⟨rfl,by omega,by rw [hlen] at hj; omega⟩)
 have HR := hid (World.rangeAt_setCells_same w g o Tryz.zeroCells158.toList (h.there o _ (by rw [hlen]; exact Nat.le_refl _)))
 clear hlen h
 go_enter_d Tryz.func318,Tryz.ntmps318
 go_wp2
 go_end0
 exact ⟨rfl,HR.out 300 _ Tryz.zeroBuf300,HC.out⟩
end Go.Proofs.YtbanfbpfapjfcaaGreatDoor
namespace Go.Proofs.YtbanfbpfapjfcaaGreatDoor
open Go.RowKit
set_option maxRecDepth 100000
def LooksOf (W : World) (g : Nat) (es : List BE) : Prop := ∃ ls nx,LookAt W g 188 ls nx ∧ ∀ e ∈ ls,BE.find es e.name = some e
theorem LooksOf.cf {W W' : World} {ex : Nat → Nat → Prop} {g : Nat} {es : List BE} (h : LooksOf W g es) (k : CF W W' ex) (hx : ∀ j,188 ≤ j → j < 222 → ¬ ex g j) : LooksOf W' g es := by
 obtain ⟨ls,nx,h1,h2⟩ := h
 exact ⟨ls,nx,h1.cf k hx,h2⟩
abbrev exL (g : Nat) (b y : Nat) : Prop := b = g ∧ 188 ≤ y ∧ y < 222
abbrev exQ (g : Nat) (b y : Nat) : Prop := ¬ (b = g ∧ (2 ≤ y ∧ y < 163 ∨ 188 ≤ y ∧ y < 222))
def QJ (g : Nat) (es : List BE) (W : World) : Prop := BookAt W g 2 es ∧ LooksOf W g es
theorem QJ.cf {W W' : World} {ex : Nat → Nat → Prop} {g : Nat} {es : List BE} (h : QJ g es W) (k : CF W W' ex) (hx : ∀ j,(2 ≤ j ∧ j < 163 ∨ 188 ≤ j ∧ j < 222) → ¬ ex g j) : QJ g es W' :=
 ⟨h.1.cf k (fun j h1 h2 => hx j (.inl ⟨h1,h2⟩)),h.2.cf k (fun j h1 h2 => hx j (.inr ⟨h1,h2⟩))⟩
theorem eightTwice (w : World) (b : Nat) (v0 v1 v2 v3 v4 v5 v6 v7 u0 u1 u2 u3 u4 u5 u6 u7 : Value) (h : Live w b 8) :
  ((((((((((((((((w.setCell ⟨b,0,none⟩ v0).setCell ⟨b,1,none⟩ v1).setCell ⟨b,2,none⟩ v2).setCell ⟨b,3,none⟩ v3).setCell ⟨b,4,none⟩ v4).setCell ⟨b,5,none⟩ v5).setCell ⟨b,6,none⟩ v6).setCell ⟨b,7,none⟩ v7).setCell ⟨b,0,none⟩ u0).setCell ⟨b,1,none⟩ u1).setCell ⟨b,2,none⟩ u2).setCell ⟨b,3,none⟩ u3).setCell ⟨b,4,none⟩ u4).setCell ⟨b,5,none⟩ u5).setCell ⟨b,6,none⟩ u6).setCell ⟨b,7,none⟩ u7).rangeAt b 0 [u0,u1,u2,u3,u4,u5,u6,u7] := by
 obtain ⟨⟨d0,q0⟩,⟨d1,q1⟩,⟨d2,q2⟩,⟨d3,q3⟩,⟨d4,q4⟩,⟨d5,q5⟩,⟨d6,q6⟩,⟨d7,q7⟩,_⟩ := live_eight h
 obtain ⟨r0,r1,r2,r3,r4,r5,r6,r7⟩ := eight_cells (eightSet w b v0 v1 v2 v3 v4 v5 v6 v7 q0 q1 q2 q3 q4 q5 q6 q7)
 exact eightSet _ b u0 u1 u2 u3 u4 u5 u6 u7 r0 r1 r2 r3 r4 r5 r6 r7
theorem find_name' {es : List BE} {l : List UInt8} {e : BE} (h : BE.find es l = some e) : e.name = l ∧ e ∈ es := by
 have := List.find?_some h
 exact ⟨by simpa using this,List.mem_of_find?_eq_some h⟩
set_option maxHeartbeats 2000000 in
theorem qfind_hit (g : Nat) (ls : List BE) (nx : Nat) (l : List UInt8) (e : BE) (w : World) (h : LookAt w g 188 ls nx) (hf : BE.find ls l = some e) :
  Calls Tryz.prog 315 #[.pointer (some ⟨g,0,none⟩),.string ⟨l.toArray⟩] w fun r w' => r = .returned (foundV (some e)) ∧ w.grownBy w' none := by
 have G0 := World.grownBy_alloc w (.cells noEntry 138) none
 have hB := lfind_any g 188 ls nx l _ (h.grown G0)
 rw [hf] at hB
 obtain ⟨v0,v1,v2,v3,v4,v5,v6,v7,hv,hv0⟩ := pcells_eight e
 clear hv0
 simp only [foundV,foundC,Option.isSome_some] at hB ⊢
 rw [hv] at hB
 rw [hv]
 have HB := hid hB
 have HG := hid G0
 have HL := hid (Live.new w noEntry 138)
 clear hB G0 hv h hf
 go_enter Tryz.func315,Tryz.ntmps315
 go_wp2_with (first | (go_at_call 320; refine HB.out.mono ?_; clear HB; rintro r w1 ⟨rfl,g1⟩; have HG1 := hid (gb_trans HG.out g1); have hL := HL.out.grown g1; clear g1; obtain ⟨⟨d0,q0⟩,⟨d1,q1⟩,⟨d2,q2⟩,⟨d3,q3⟩,⟨d4,q4⟩,⟨d5,q5⟩,⟨d6,q6⟩,⟨d7,q7⟩,f0,f1,f2,f3,f4,f5,f6,f7⟩ := live_eight hL; have HL1 := hid hL; clear hL))
 refine bodyPost_ret (results_celltmp Tryz.results315 _ _ _ w.heap.size rfl _ (load_of (eightTwice w1 w.heap.size _ _ _ _ _ _ _ _ _ _ _ _ _ _ _ _ HL1.out) 138 _ Tryz.underlying138 rfl Tryz.sizeEntry)) rfl ⟨rfl,?_⟩
 repeat refine gb_store ?_ (Nat.le_refl _)
 exact HG1.out
structure QK (w : World) (g : Nat) (es ls : List BE) (nx : Nat) (W : World) : Prop where
 book : BookAt W g 2 es
 look : LookAt W g 188 ls nx
 live : Live W w.heap.size 8
 gb : w.grownBy W none
theorem QK.grown {w W W' : World} {g nx : Nat} {es ls : List BE} (h : QK w g es ls nx W) (k : W.grownBy W' none) : QK w g es ls nx W' := ⟨h.book.grown k,h.look.grown k,h.live.grown k,gb_trans h.gb k⟩
theorem QK.done {w W : World} {g nx : Nat} {es ls : List BE} (h : QK w g es ls nx W) (hg : ∀ e ∈ ls,BE.find es e.name = some e) : QJ g es W ∧ CF w W (exL g) := ⟨⟨h.book,ls,nx,h.look,hg⟩,CF.of_gb h.gb _⟩
theorem QK.set8 {w W : World} {g nx : Nat} {es ls : List BE} (h : QK w g es ls nx W) (hg : g < w.heap.size) (v0 v1 v2 v3 v4 v5 v6 v7 : Value) : QK w g es ls nx ((((((((W.setCell ⟨w.heap.size,0,none⟩ v0).setCell ⟨w.heap.size,1,none⟩ v1).setCell ⟨w.heap.size,2,none⟩ v2).setCell ⟨w.heap.size,3,none⟩ v3).setCell ⟨w.heap.size,4,none⟩ v4).setCell ⟨w.heap.size,5,none⟩ v5).setCell ⟨w.heap.size,6,none⟩ v6).setCell ⟨w.heap.size,7,none⟩ v7) := by
 have k : CF W ((((((((W.setCell ⟨w.heap.size,0,none⟩ v0).setCell ⟨w.heap.size,1,none⟩ v1).setCell ⟨w.heap.size,2,none⟩ v2).setCell ⟨w.heap.size,3,none⟩ v3).setCell ⟨w.heap.size,4,none⟩ v4).setCell ⟨w.heap.size,5,none⟩ v5).setCell ⟨w.heap.size,6,none⟩ v6).setCell ⟨w.heap.size,7,none⟩ v7) (fun b _ => b = w.heap.size) := by
  repeat refine CF.setCell ?_ _ _ _ (fun _ => rfl)
  exact CF.refl _ _
 refine ⟨h.book.cf k (fun _ _ _ e => by omega),h.look.cf k (fun _ _ _ e => by omega),h.live.cf k,?_⟩
 repeat refine gb_store ?_ (Nat.le_refl _)
 exact h.gb
set_option maxHeartbeats 2000000 in
theorem qfind_miss (g : Nat) (es ls : List BE) (nx : Nat) (l : List UInt8) (w : World) (hb : BookAt w g 2 es) (hs : es.Pairwise (fun x y => Op.bytesLess x.name y.name = true)) (h : LookAt w g 188 ls nx) (hf : BE.find ls l = none) (hg : ∀ e ∈ ls,BE.find es e.name = some e) :
  Calls Tryz.prog 315 #[.pointer (some ⟨g,0,none⟩),.string ⟨l.toArray⟩] w fun r w' => r = .returned (foundV (BE.find es l)) ∧ QJ g es w' ∧ CF w w' (exL g) := by
 have G0 := World.grownBy_alloc w (.cells noEntry 138) none
 have hgl : g < w.heap.size := h.live.lt
 have HK0 : Hid (QK w g es ls nx (w.alloc (.cells noEntry 138))) := ⟨hb.grown G0,h.grown G0,Live.new w noEntry _,G0⟩
 have hB := lfind_any g 188 ls nx l _ (h.grown G0)
 rw [hf] at hB
 have HD : Hid (∀ W,QK w g es ls nx W → Calls Tryz.prog 321 #[.pointer (some ⟨g,0,none⟩),.string ⟨l.toArray⟩] W fun e w' => e = .returned (foundV (BE.find es l)) ∧ W.grownBy w' none) := fun W k => deskFind_any g es l W k.book hs
 obtain ⟨x,hx⟩ : ∃ x,BE.find es l = x := ⟨_,rfl⟩
 rw [hx] at HD
 rw [hx]
 have HX := hid hx
 obtain ⟨v0,v1,v2,v3,v4,v5,v6,v7,hv⟩ := foundC_eight x
 simp only [foundV] at HD hB ⊢
 rw [hv] at HD
 rw [hv]
 have HV := hid hv
 have HB : Hid (Calls Tryz.prog 320 #[.pointer (some ⟨g,188,none⟩),.string ⟨l.toArray⟩] (w.alloc (.cells noEntry 138)) fun e w' => e = .returned (.tuple #[.agg #[.string ⟨#[]⟩,.int .i64 0,.int .u64 0,.int .u64 0,.int .i64 0,.int .i64 0,.int .i64 0,.int .i64 0],.bool false]) ∧ (w.alloc (.cells noEntry 138)).grownBy w' none) := hB
 have HS8 : Hid (∀ W v0 v1 v2 v3 v4 v5 v6 v7,QK w g es ls nx W → QK w g es ls nx ((((((((W.setCell ⟨w.heap.size,0,none⟩ v0).setCell ⟨w.heap.size,1,none⟩ v1).setCell ⟨w.heap.size,2,none⟩ v2).setCell ⟨w.heap.size,3,none⟩ v3).setCell ⟨w.heap.size,4,none⟩ v4).setCell ⟨w.heap.size,5,none⟩ v5).setCell ⟨w.heap.size,6,none⟩ v6).setCell ⟨w.heap.size,7,none⟩ v7)) := fun W v0 v1 v2 v3 v4 v5 v6 v7 k => k.set8 hgl v0 v1 v2 v3 v4 v5 v6 v7
 have HGd := hid hg
 have Hgl := hid hgl
 clear hB G0 hv h hf hb hs hg hx hgl
 cases x with
 | none =>
  simp only [Option.isSome_none] at HD ⊢
  go_enter Tryz.func315,Tryz.ntmps315
  go_wp2_with (first
   | (go_at_call 320; refine HB.out.mono ?_; clear HB; rintro r w1 ⟨rfl,g1⟩; have HK1 := hid (HK0.out.grown g1); clear g1; obtain ⟨⟨d0,q0⟩,⟨d1,q1⟩,⟨d2,q2⟩,⟨d3,q3⟩,⟨d4,q4⟩,⟨d5,q5⟩,⟨d6,q6⟩,⟨d7,q7⟩,f0,f1,f2,f3,f4,f5,f6,f7⟩ := live_eight HK1.out.live)
   | (go_at_call 321; refine (HD.out _ (HS8.out _ _ _ _ _ _ _ _ _ HK1.out)).mono ?_; rintro r w2 ⟨rfl,g2⟩; have HK2 := hid ((HS8.out _ _ _ _ _ _ _ _ _ HK1.out).grown g2); clear g2 q0 q1 q2 q3 q4 q5 q6 q7 f0 f1 f2 f3 f4 f5 f6 f7; obtain ⟨⟨d0,q0⟩,⟨d1,q1⟩,⟨d2,q2⟩,⟨d3,q3⟩,⟨d4,q4⟩,⟨d5,q5⟩,⟨d6,q6⟩,⟨d7,q7⟩,f0,f1,f2,f3,f4,f5,f6,f7⟩ := live_eight HK2.out.live))
  refine bodyPost_ret (results_celltmp Tryz.results315 _ _ _ w.heap.size rfl _ (load_of (eightTwice w2 w.heap.size _ _ _ _ _ _ _ _ _ _ _ _ _ _ _ _ HK2.out.live) 138 _ Tryz.underlying138 rfl Tryz.sizeEntry)) rfl ⟨rfl,(HS8.out _ _ _ _ _ _ _ _ _ (HS8.out _ _ _ _ _ _ _ _ _ HK2.out)).done HGd.out⟩
 | some e =>
  simp only [Option.isSome_some] at HD ⊢
  go_enter Tryz.func315,Tryz.ntmps315
  go_wp2_with (first
   | (go_at_call 320; refine HB.out.mono ?_; clear HB; rintro r w1 ⟨rfl,g1⟩; have HK1 := hid (HK0.out.grown g1); clear g1; obtain ⟨⟨d0,q0⟩,⟨d1,q1⟩,⟨d2,q2⟩,⟨d3,q3⟩,⟨d4,q4⟩,⟨d5,q5⟩,⟨d6,q6⟩,⟨d7,q7⟩,f0,f1,f2,f3,f4,f5,f6,f7⟩ := live_eight HK1.out.live)
   | (go_at_call 321; refine (HD.out _ (HS8.out _ _ _ _ _ _ _ _ _ HK1.out)).mono ?_; rintro r w2 ⟨rfl,g2⟩; have HK2 := hid ((HS8.out _ _ _ _ _ _ _ _ _ HK1.out).grown g2); clear g2 q0 q1 q2 q3 q4 q5 q6 q7 f0 f1 f2 f3 f4 f5 f6 f7; obtain ⟨⟨d0,q0⟩,⟨d1,q1⟩,⟨d2,q2⟩,⟨d3,q3⟩,⟨d4,q4⟩,⟨d5,q5⟩,⟨d6,q6⟩,⟨d7,q7⟩,f0,f1,f2,f3,f4,f5,f6,f7⟩ := live_eight HK2.out.live))
  obtain ⟨W3,hW3⟩ : ∃ W,W = ((((((((w2.setCell ⟨w.heap.size,0,none⟩ (.string v0)).setCell ⟨w.heap.size,1,none⟩ (.int .i64 v1)).setCell ⟨w.heap.size,2,none⟩ (.int .u64 v2)).setCell ⟨w.heap.size,3,none⟩ (.int .u64 v3)).setCell ⟨w.heap.size,4,none⟩ (.int .i64 v4)).setCell ⟨w.heap.size,5,none⟩ (.int .i64 v5)).setCell ⟨w.heap.size,6,none⟩ (.int .i64 v6)).setCell ⟨w.heap.size,7,none⟩ (.int .i64 v7)) := ⟨_,rfl⟩
  rw [← hW3]
  have HK3 : Hid (QK w g es ls nx W3) := by
   show QK _ _ _ _ _ _
   rw [hW3]
   exact HS8.out _ _ _ _ _ _ _ _ _ HK2.out
  have HR3 : Hid (W3.rangeAt w.heap.size 0 [.string v0,.int .i64 v1,.int .u64 v2,.int .u64 v3,.int .i64 v4,.int .i64 v5,.int .i64 v6,.int .i64 v7]) := by
   show World.rangeAt _ _ _ _
   rw [hW3]
   exact eightSet w2 w.heap.size _ _ _ _ _ _ _ _ q0 q1 q2 q3 q4 q5 q6 q7
  clear hW3 q0 q1 q2 q3 q4 q5 q6 q7 f0 f1 f2 f3 f4 f5 f6 f7 HK2 HK1 HK0 HD
  obtain ⟨x0,x1,x2,x3,x4,x5,x6,x7⟩ := eight_cells HR3.out
  have HM : Hid (∀ W,QK w g es ls nx W → Calls Tryz.prog 322 #[.pointer (some ⟨g,188,none⟩),.agg #[.string v0,.int .i64 v1,.int .u64 v2,.int .u64 v3,.int .i64 v4,.int .i64 v5,.int .i64 v6,.int .i64 v7]] W fun r w' => r = .returned (.tuple #[]) ∧ (∃ nx',LookAt w' g 188 (remM ls nx e) nx') ∧ CF W w' (fun b y => b = g ∧ 188 ≤ y ∧ y < 188 + 34)) := fun W k => by
   have h1 := remember_any g 188 ls nx e W k.look
   have h2 : e.pcells = [.string v0,.int .i64 v1,.int .u64 v2,.int .u64 v3,.int .i64 v4,.int .i64 v5,.int .i64 v6,.int .i64 v7] := HV.out
   rw [h2] at h1
   exact h1
  go_wp2_with fail
  go_region_held3 (fun w' => w'.cell? ⟨w.heap.size,0,none⟩ = some (.string v0) ∧ w'.cell? ⟨w.heap.size,1,none⟩ = some (.int .i64 v1) ∧ w'.cell? ⟨w.heap.size,2,none⟩ = some (.int .u64 v2) ∧ w'.cell? ⟨w.heap.size,3,none⟩ = some (.int .u64 v3) ∧ w'.cell? ⟨w.heap.size,4,none⟩ = some (.int .i64 v4) ∧ w'.cell? ⟨w.heap.size,5,none⟩ = some (.int .i64 v5) ∧ w'.cell? ⟨w.heap.size,6,none⟩ = some (.int .i64 v6) ∧ w'.cell? ⟨w.heap.size,7,none⟩ = some (.int .i64 v7)) (go_keep) (first | (go_at_call 322; refine (HM.out _ (HK3.out.grown (gb_drewN (World.grownBy.refl _ _) 1))).mono ?_; rintro r w4 ⟨rfl,hl4,C4⟩; have HL4 := hid hl4; have HC4 := hid C4.undrew; have HR4 := hid (C4.undrew.range HR3.out (fun _ _ e => by have := Hgl.out; omega)); clear hl4 C4 x0 x1 x2 x3 x4 x5 x6 x7; obtain ⟨x0,x1,x2,x3,x4,x5,x6,x7⟩ := eight_cells HR4.out; have HLv := hid (HK3.out.live.cf HC4.out); obtain ⟨_,_,_,_,_,_,_,_,f0,f1,f2,f3,f4,f5,f6,f7⟩ := live_eight HLv.out))
  go_wp2
  have C9 : ∀ W,CF w4 W (fun b _ => b = w.heap.size) → QJ g es W ∧ CF w W (exL g) := fun W k => by
   have c1 : CF w w4 (exL g) := (CF.of_gb HK3.out.gb _).trans HC4.out (fun _ _ _ e => e)
   obtain ⟨nx',hl4⟩ := HL4.out
   refine ⟨⟨(HK3.out.book.cf HC4.out (fun _ _ _ e => by omega)).cf k (fun _ _ _ e => by have := Hgl.out; omega),_,nx',hl4.cf k (fun _ _ _ e => by have := Hgl.out; omega),fun x hx => ?_⟩,c1.trans k (fun _ _ h e => by omega)⟩
   rcases remM_mem hx with hx | hx
   ·exact HGd.out x hx
   ·rw [hx,(find_name' HX.out).1]
    exact HX.out
  refine bodyPost_ret (results_celltmp Tryz.results315 _ _ _ w.heap.size rfl _ (load_of (eightSet w4 w.heap.size _ _ _ _ _ _ _ _ x0 x1 x2 x3 x4 x5 x6 x7) 138 _ Tryz.underlying138 rfl Tryz.sizeEntry)) rfl ⟨rfl,C9 _ ?_⟩
  repeat refine CF.setCell ?_ _ _ _ (fun _ => rfl)
  exact CF.refl _ _
theorem finds_quick (g : Nat) (es : List BE) (hs : es.Pairwise (fun x y => Op.bytesLess x.name y.name = true)) : Finds (findF 152) (QJ g es) (exL g) (exQ g) (.pointer (some ⟨g,0,none⟩)) es := by
 refine ⟨fun W hW l => ?_,fun W W' hW k => hW.cf k (fun j hj e => e ⟨rfl,hj⟩)⟩
 have e : findF 152 = 315 := rfl
 rw [e]
 obtain ⟨hB,ls,nx,hl,hg⟩ := hW
 cases hf : BE.find ls l with
 | none => exact qfind_miss g es ls nx l W hB hs hl hf hg
 | some x =>
  refine (qfind_hit g ls nx l x W hl hf).mono ?_
  rintro r w' ⟨rfl,g1⟩
  obtain ⟨h1,h2⟩ := find_name' hf
  have h3 := hg x h2
  rw [h1] at h3
  rw [h3]
  exact ⟨rfl,⟨hB.grown g1,ls,nx,hl.grown g1,hg⟩,CF.of_gb g1 _⟩
theorem meth_quick (g : Nat) : ∀ W,(method 555 152 (.pointer (some ⟨g,0,none⟩)) "Find").run Tryz.prog W = .ok (findF 152,.pointer (some ⟨g,0,none⟩)) W := fun _ => by kernel_rfl
end Go.Proofs.YtbanfbpfapjfcaaGreatDoor
