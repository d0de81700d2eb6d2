/-
  
  
  
  
-/
import Derived.Test.YtpijkgbafjccaaaGreatDoorGTQNew
import Derived.Test.YtpijkgbafjccaaaGreatDoorGTKReadE
namespace Go.Proofs.YtpijkgbafjccaaaGreatDoor
open Go.RowKit
set_option maxRecDepth 100000
def pickN (c : Int) (n : Nat) : Nat := if c < 0 then (-(c + 1)).toNat % n else c.toNat % n
theorem ret_i64K {a b : Int} (h : a = b) : Ending.returned (.int .i64 a) = .returned (.int .i64 b) := by rw [h]
theorem pickN_neg (c n : Int) (h : c < 0) (hn : 1 ≤ n) : -(c + 1).tmod n = ((pickN c n.toNat : Nat) : Int) := by
 unfold pickN
 rw [if_pos h,← Int.neg_tmod,Int.tmod_eq_emod_of_nonneg (by omega),Int.natCast_emod,Int.toNat_of_nonneg (by omega),Int.toNat_of_nonneg (by omega)]
theorem pickN_pos (c n : Int) (h : 0 ≤ c) (hn : 1 ≤ n) : c % n = ((pickN c n.toNat : Nat) : Int) := by
 unfold pickN
 rw [if_neg (by omega),Int.natCast_emod,Int.toNat_of_nonneg h,Int.toNat_of_nonneg (by omega)]
theorem pickN_lt (c : Int) (n : Nat) (hn : 1 ≤ n) : pickN c n < n := by
 unfold pickN; split <;> exact Nat.mod_lt _ hn
set_option maxHeartbeats 400000 in
theorem kpick_any (c : Int) (n : Int) (w : World) (hc : -9223372036854775808 ≤ c ∧ c ≤ 9223372036854775807) (hn : 1 ≤ n ∧ n ≤ 9223372036854775807) :
  Calls Tryz.prog 7 #[.int .i64 c,.int .i64 n] w fun e w' => e = .returned (.int .i64 (pickN c n.toNat : Int)) ∧ w = w' := by
 obtain ⟨c1,c2⟩ := hc
 obtain ⟨n1,n2⟩ := hn
 by_cases h : c < 0
 ·go_enter Tryz.func7,Tryz.ntmps7
  go_wp2
  go_ret
  exact ⟨ret_i64K (pickN_neg c n h n1),rfl⟩
 ·go_enter Tryz.func7,Tryz.ntmps7
  go_wp2
  go_ret
  exact ⟨ret_i64K (pickN_pos c n (by omega) n1),rfl⟩
def KMade (n : Nat) (w : World) (o : Value) (z : List UInt8) : Prop := w.ownsRow n 5 1 o z.length (z.map U8)
def KH (w : World) (v : Value) (zs : List UInt8) : Prop := ∃ ao cap,v = .slice ao zs.length cap ∧ zs.length ≤ cap ∧ cap ≤ 9223372036854775807 ∧ (ao = none → cap = 0) ∧ At w ao zs
theorem KH.grown {w w' : World} {v : Value} {zs : List UInt8} (h : KH w v zs) (k : w.grownBy w' none) : KH w' v zs := by
 obtain ⟨ao,cap,h1,h2,h3,h4,h5⟩ := h
 exact ⟨ao,cap,h1,h2,h3,h4,h5.below k⟩
theorem KH.out {w : World} {v : Value} {p : Option Pl} {zs : List UInt8} (h : Out w v p zs) : KH w v zs := by
 obtain ⟨ao,cap,h1,h2,h3,h4,h5⟩ := h.shape
 exact ⟨ao,cap,h1,h2,by unfold maxLen at h3; exact h3,h5,h4⟩
theorem KMade.has {n : Nat} {w : World} {o : Value} {z : List UInt8} (h : KMade n w o z) : KH w o z := by
 obtain ⟨p,ho,_⟩ := Out.own h
 exact KH.out ho
theorem KH.shape {w : World} {v : Value} {zs : List UInt8} (h : KH w v zs) : ∃ ao cap,v = .slice ao zs.length cap := by
 obtain ⟨ao,cap,h1,_⟩ := h
 exact ⟨ao,cap,h1⟩
theorem KMade.grown {n : Nat} {w w' : World} {o : Value} {z : List UInt8} (h : KMade n w o z) (k : w.grownBy w' none) : KMade n w' o z := World.ownsRow.kept h k (Classical.em _)
set_option maxHeartbeats 1000000 in
theorem kname_any (l : List UInt8) (w : World) (hl : l.length ≤ 255) :
  Calls Tryz.prog 19 #[.string ⟨l.toArray⟩] w fun e w' => ∃ o,e = .returned o ∧ KMade w.heap.size w' o (txtBox l) ∧ w.grownBy w' none := by
 have hl2 : l.length ≤ 140737488355328 := by omega
 go_enter Tryz.func19,Tryz.ntmps19
 go_wp2_with (first | (refine wpList_bytes_of _ rfl _ 9 26 rfl 5 Tryz.underlying9 Tryz.underlying26 Tryz.underlying5 l rfl hl2 ?_; intro b3 cap3 w3 hc3 hc3m hat3 hg3) | (go_at_call 33; refine (kbox_any 4 l l.length _ _ _ (hid rfl) hl (hid (fun h => by cases h)) hat3).mono ?_; rintro e w1 ⟨o,rfl,q1,q2⟩))
 go_ret
 exact ⟨_,rfl,own_base q1 hg3.size,gb_trans hg3 q2⟩
set_option maxHeartbeats 1000000 in
theorem kstate_any (q : Bool) (g : Nat) (dp : Option Pl) (M : DM) (w : World) (h : DeskIs q w g dp M) :
  Calls Tryz.prog 5 #[.agg (deskV q g)] w fun e w' => ∃ bn bu,e = .returned (.agg #[.slice (some ⟨bn,0,none⟩) M.book.length M.book.length,.slice (some ⟨bu,0,none⟩) M.book.length M.book.length,.int .i64 M.proofs.length,.int .i64 M.draws.length]) ∧ w'.ownsRow w.heap.size 9 1 (.slice (some ⟨bn,0,none⟩) M.book.length M.book.length) M.book.length (M.book.map fun x => .string ⟨x.name.toArray⟩) ∧ w.grownBy w' none := by
 cases q with
 | false =>
  have G0 := hid (gb_alloc (World.grownBy_alloc w (.cells #[.pointer (some ⟨g,0,none⟩),.pointer none] 25) none) (.cells #[.slice none 0 0,.slice none 0 0,.int .i64 0,.int .i64 0] 35))
  obtain ⟨W0,hW0⟩ : ∃ W,W = (w.alloc (.cells #[.pointer (some ⟨g,0,none⟩),.pointer none] 25)).alloc (.cells #[.slice none 0 0,.slice none 0 0,.int .i64 0,.int .i64 0] 35) := ⟨_,rfl⟩
  rw [← hW0] at G0
  have D0 : W0.cell? ⟨w.heap.size,0,none⟩ = some (.pointer (some ⟨g,0,none⟩)) := by
   have h := range_gb (cells_range w #[.pointer (some ⟨g,0,none⟩),.pointer none] 25) (World.grownBy_alloc _ (.cells #[.slice none 0 0,.slice none 0 0,.int .i64 0,.int .i64 0] 35) none)
   rw [hW0]
   exact h 0 _ rfl
  have HL : Hid (Live W0 (w.heap.size + 1) 4) := by
   show Live _ _ _
   have h := Live.new (w.alloc (.cells #[.pointer (some ⟨g,0,none⟩),.pointer none] 25)) #[.slice none 0 0,.slice none 0 0,.int .i64 0,.int .i64 0] 35
   rw [World.size_alloc] at h
   rw [hW0]
   exact h
  have HS := hid (plainState_any g dp M W0 (DeskIs.grown (q := false) h G0.out))
  have HW0 := hid hW0
  clear h hW0
  unfold deskV
  go_enter Tryz.func5,Tryz.ntmps5
  go_wp2_with (first | (rw [← HW0.out]; fail_if_success done) | (go_at_call 15; refine HS.out.mono ?_; clear HS; rintro e wx ⟨bn,bu,rfl,oN,oU,gx⟩; have L := HL.out.grown gx; obtain ⟨d0,q0⟩ := Option.isSome_iff_exists.1 (L.some 0 (by decide)); obtain ⟨d1,q1⟩ := Option.isSome_iff_exists.1 (L.some 1 (by decide)); obtain ⟨d2,q2⟩ := Option.isSome_iff_exists.1 (L.some 2 (by decide)); obtain ⟨d3,q3⟩ := Option.isSome_iff_exists.1 (L.some 3 (by decide)); have f0 := L.frozen 0; have f1 := L.frozen 1; have f2 := L.frozen 2; have f3 := L.frozen 3; have GX := hid (gb_trans G0.out gx); have ON := hid (And.intro oN gx); clear L gx oN oU))
  have s1 : w.heap.size + 1 < w.heap.size + 1 + 1 := Nat.lt_succ_self _
  have s0 : w.heap.size + 1 + 1 ≤ W0.heap.size := by have h := HL.out.lt; omega
  refine bodyPost_ret (results_onecell Tryz.results5 _ _ _ (w.heap.size + 1) rfl _ (load_of (fourSet wx (w.heap.size + 1) _ _ _ _ q0 q1 q2 q3) 35 _ Tryz.underlying35 rfl Tryz.sizeState)) rfl ⟨bn,bu,rfl,?_,?_⟩
  ·exact own_base (own_store (own_store (own_store (own_store (own_base ON.out.1 s0) s1) s1) s1) s1) (by omega)
  ·exact gb_store (gb_store (gb_store (gb_store GX.out (Nat.le_succ _)) (Nat.le_succ _)) (Nat.le_succ _)) (Nat.le_succ _)
 | true =>
  obtain ⟨W0,hW0⟩ : ∃ W,W = (w.alloc (.cells #[.pointer none,.pointer (some ⟨g,0,none⟩)] 25)).alloc (.cells #[.slice none 0 0,.slice none 0 0,.int .i64 0,.int .i64 0] 35) := ⟨_,rfl⟩
  have G0 : Hid (w.grownBy W0 none) := by show World.grownBy _ _ _; rw [hW0]; exact gb_alloc (World.grownBy_alloc w _ none) _
  have RD := range_gb (cells_range w #[.pointer none,.pointer (some ⟨g,0,none⟩)] 25) (World.grownBy_alloc _ (.cells #[.slice none 0 0,.slice none 0 0,.int .i64 0,.int .i64 0] 35) none)
  rw [← hW0] at RD
  have D0 : W0.cell? ⟨w.heap.size,0,none⟩ = some (.pointer none) := RD 0 _ rfl
  have D1 : W0.cell? ⟨w.heap.size,1,none⟩ = some (.pointer (some ⟨g,0,none⟩)) := RD 1 _ rfl
  have HL : Hid (Live W0 (w.heap.size + 1) 4) := by
   show Live _ _ _
   have h := Live.new (w.alloc (.cells #[.pointer none,.pointer (some ⟨g,0,none⟩)] 25)) #[.slice none 0 0,.slice none 0 0,.int .i64 0,.int .i64 0] 35
   rw [World.size_alloc] at h
   rw [hW0]
   exact h
  have HS := hid (wquickState_any g dp M W0 (QuickAt.desk (DeskIs.grown (q := true) h G0.out)))
  have HW0 := hid hW0
  clear h hW0 RD
  unfold deskV
  go_enter Tryz.func5,Tryz.ntmps5
  go_wp2_with (first | (rw [← HW0.out]; fail_if_success done) | (go_at_call 16; refine HS.out.mono ?_; clear HS; rintro e wx ⟨bn,bu,rfl,oN,oU,gx⟩; have L := HL.out.grown gx; obtain ⟨d0,q0⟩ := Option.isSome_iff_exists.1 (L.some 0 (by decide)); obtain ⟨d1,q1⟩ := Option.isSome_iff_exists.1 (L.some 1 (by decide)); obtain ⟨d2,q2⟩ := Option.isSome_iff_exists.1 (L.some 2 (by decide)); obtain ⟨d3,q3⟩ := Option.isSome_iff_exists.1 (L.some 3 (by decide)); have f0 := L.frozen 0; have f1 := L.frozen 1; have f2 := L.frozen 2; have f3 := L.frozen 3; have GX := hid (gb_trans G0.out gx); have ON := hid (And.intro oN gx); clear L gx oN oU))
  have s1 : w.heap.size + 1 < w.heap.size + 1 + 1 := Nat.lt_succ_self _
  have s0 : w.heap.size + 1 + 1 ≤ W0.heap.size := by have h := HL.out.lt; omega
  refine bodyPost_ret (results_onecell Tryz.results5 _ _ _ (w.heap.size + 1) rfl _ (load_of (fourSet wx (w.heap.size + 1) _ _ _ _ q0 q1 q2 q3) 35 _ Tryz.underlying35 rfl Tryz.sizeState)) rfl ⟨bn,bu,rfl,?_,?_⟩
  ·exact own_base (own_store (own_store (own_store (own_store (own_base ON.out.1 s0) s1) s1) s1) s1) (by omega)
  ·exact gb_store (gb_store (gb_store (gb_store GX.out (Nat.le_succ _)) (Nat.le_succ _)) (Nat.le_succ _)) (Nat.le_succ _)
set_option maxHeartbeats 1000000 in
theorem kidle_any (q : Bool) (g : Nat) (dp : Option Pl) (M : DM) (w : World) (h : DeskIs q w g dp M) :
  Calls Tryz.prog 11 #[.agg (deskV q g)] w fun e w' => e = .returned (.bool true) ∧ w.grownBy w' none := by
 cases q with
 | false =>
  have G0 := hid (World.grownBy_alloc w (.cells #[.pointer (some ⟨g,0,none⟩),.pointer none] 25) none)
  clear h
  unfold deskV
  go_enter Tryz.func11,Tryz.ntmps11
  go_wp2
  go_ret
  exact ⟨rfl,G0.out⟩
 | true =>
  have G0 := hid (World.grownBy_alloc w (.cells #[.pointer none,.pointer (some ⟨g,0,none⟩)] 25) none)
  have HP := hid (wquickPool_any g dp M _ (QuickAt.grown h G0.out))
  clear h
  unfold deskV
  go_enter Tryz.func11,Tryz.ntmps11
  go_wp2_with (go_at_call 25; refine HP.out.mono ?_; rintro e w1 ⟨k,hk,rfl,g1⟩; have HG1 := hid (gb_trans G0.out g1); have hk0 : (0 : Int) ≤ (k : Int) := Int.natCast_nonneg _; have hk4 : (k : Int) ≤ 4 := (by omega); clear g1)
  go_ret
  exact ⟨rfl,gb_alloc HG1.out _⟩
end Go.Proofs.YtpijkgbafjccaaaGreatDoor
namespace Go.Proofs.YtpijkgbafjccaaaGreatDoor
open Go.RowKit
set_option maxRecDepth 100000
def KAcc (W : World) (L : List (Value × List UInt8)) : Prop := ∀ x ∈ L,KH W x.1 x.2
theorem KAcc.nil (W : World) : KAcc W [] := fun _ h => by simp at h
theorem KAcc.grown {W W' : World} {L : List (Value × List UInt8)} (h : KAcc W L) (k : W.grownBy W' none) : KAcc W' L := fun x hx => (h x hx).grown k
theorem KAcc.push {W W' : World} {L : List (Value × List UInt8)} {o : Value} {z : List UInt8} (h : KAcc W L) (k : W.grownBy W' none) (q : KH W' o z) : KAcc W' ((o,z) :: L) := by
 intro x hx
 rcases List.mem_cons.1 hx with e | e
 ·subst e; exact q
 ·exact h.grown k x e
theorem kits {W : World} : ∀ {L : List (Value × List UInt8)},(∀ x ∈ L,KH W x.1 x.2) → ∃ its : List KIt,its.length = L.length ∧ its.map (fun x => x.2.2) = L.map (fun x => x.2) ∧ (∀ j (h1 : j < its.length) (h2 : j < L.length),L[j].1 = .slice (its[j]).1 (its[j]).2.2.length (its[j]).2.1 ∧ At W (its[j]).1 (its[j]).2.2 ∧ ((its[j]).1 = none → (its[j]).2.1 = 0))
 | [],_ => ⟨[],rfl,rfl,fun j h1 => absurd h1 (by simp)⟩
 | x :: L,h => by
  obtain ⟨its,h1,h2,h3⟩ := kits (L := L) (fun y hy => h y (List.mem_cons_of_mem _ hy))
  obtain ⟨ao,cap,q1,_,_,q4,q5⟩ := h x (List.mem_cons_self ..)
  refine ⟨(ao,cap,x.2) :: its,by simp [h1],by simp [h2],fun j j1 j2 => ?_⟩
  cases j with
  | zero => exact ⟨q1,q5,q4⟩
  | succ j => exact h3 j (by simpa using j1) (by simpa using j2)
theorem KAcc.list {W : World} {L : List (Value × List UInt8)} (h : KAcc W L) (vs : Array Value) (n : Nat) (hvs : vs = (L.reverse.map fun x => x.1).toArray) (hn : L.reverse.length = n) (hml : n ≤ 1000) (hB : (L.reverse.map fun x => x.2).flatten.length ≤ 255) :
  Calls Tryz.prog 17 #[.slice (some ⟨W.heap.size,0,none⟩) n n] (W.alloc (.cells vs 26)) fun e w' => ∃ o,e = .returned o ∧ KMade W.heap.size w' o (lstBox (L.reverse.map fun x => x.2)) ∧ W.grownBy w' none := by
 obtain ⟨its,h1,h2,h3⟩ := kits (W := W) (L := L.reverse) (fun x hx => h x (List.mem_reverse.1 hx))
 have G := World.grownBy_alloc W (.cells vs 26) none
 have hcat : kcat its = (L.reverse.map fun x => x.2).flatten := by unfold kcat; rw [h2]
 have hi : KItems (W.alloc (.cells vs 26)) (some ⟨W.heap.size,0,none⟩) its := by
  intro j hj
  have hj2 : j < L.reverse.length := by omega
  obtain ⟨q1,q2,q3⟩ := h3 j hj hj2
  refine ⟨W.heap.size,rfl,?_,q2.below G,q3⟩
  rw [← q1]
  have := cells_range W vs 26 j (L.reverse[j].1) (by rw [hvs]; simp only [List.getElem?_map]; rw [List.getElem?_eq_getElem hj2]; rfl)
  simpa using this
 refine (klist_any _ n n its _ (hid (by rw [h1,hn])) hml (by rw [hcat]; exact hB) hi).mono ?_
 rintro e w' ⟨o,q1,q2,q3⟩
 rw [hcat] at q2
 exact ⟨o,q1,own_base q2 (by rw [World.size_alloc]; omega),gb_trans G q3⟩
theorem klist_nil (w : World) : Calls Tryz.prog 17 #[.slice none 0 0] w fun e w' => ∃ o,e = .returned o ∧ KMade w.heap.size w' o (lstBox []) ∧ w.grownBy w' none := by
 refine (klist_any none 0 0 [] w (hid rfl) (by omega) (by simp [kcat]) (fun j hj => absurd hj (by simp))).mono ?_
 rintro e w' ⟨o,q1,q2,q3⟩
 exact ⟨o,q1,q2,q3⟩
def firstReq (client service : List UInt8) (nonce sFrom till rtime opts : Int) : List UInt8 := lstBox [numBox 10,txtBox client,txtBox service,numBox nonce,numBox sFrom,numBox till,numBox rtime,numBox opts,lstBox []]
theorem knum_m (v : Int) (w : World) (h : In64 v) : Calls Tryz.prog 18 #[.int .i64 v] w fun e w' => ∃ o,e = .returned o ∧ KMade w.heap.size w' o (numBox v) ∧ w.grownBy w' none := knumber_any v w h.1 h.2
theorem ktext_m (zs : List UInt8) (v : Value) (w : World) (hl : zs.length ≤ 255) (h : KH w v zs) : Calls Tryz.prog 26 #[v] w fun e w' => ∃ o,e = .returned o ∧ KMade w.heap.size w' o (txtBox zs) ∧ w.grownBy w' none := by
 obtain ⟨ao,cap,rfl,_,_,h4,h5⟩ := h
 exact ktext_any zs zs.length ao cap w (hid rfl) hl (hid h4) h5
theorem box_small {tag : UInt8} {l : List UInt8} (h : l.length ≤ 127) : (Box.box tag l).length = l.length + 2 := by
 rw [Box.box_length,if_pos (by omega)]
theorem num10 (v : Int) : (numBox v).length ≤ 10 := (numBox_length v).2
theorem box_four (tag : UInt8) (l : List UInt8) : (Box.box tag l).length ≤ l.length + 4 := by
 rw [Box.box_length]
 split <;> (try split) <;> omega
theorem first_flat (client service : List UInt8) (nonce sFrom till rtime opts : Int) (hc : client.length ≤ 20) (hs : service.length ≤ 20) : ([numBox 10,txtBox client,txtBox service,numBox nonce,numBox sFrom,numBox till,numBox rtime,numBox opts,lstBox []] : List (List UInt8)).flatten.length ≤ 120 := by
 have n1 := num10 10
 have n2 := num10 nonce
 have n3 := num10 sFrom
 have n4 := num10 till
 have n5 := num10 rtime
 have n6 := num10 opts
 have t1 : (txtBox client).length = client.length + 2 := box_small (by omega)
 have t2 : (txtBox service).length = service.length + 2 := box_small (by omega)
 have t3 : (lstBox []).length = 2 := rfl
 simp only [List.flatten_cons,List.flatten_nil,List.length_append,List.length_nil]
 omega
set_option maxHeartbeats 2000000 in
theorem kfirst_any (client service : List UInt8) (nonce sFrom till rtime opts : Int) (w : World) (hc : client.length ≤ 20) (hs : service.length ≤ 20) (h1 : In64 nonce) (h2 : In64 sFrom) (h3 : In64 till) (h4 : In64 rtime) (h5 : In64 opts) :
  Calls Tryz.prog 6 #[.string ⟨client.toArray⟩,.string ⟨service.toArray⟩,.int .i64 nonce,.int .i64 sFrom,.int .i64 till,.int .i64 rtime,.int .i64 opts] w fun e w' => ∃ o,e = .returned o ∧ KMade w.heap.size w' o (firstReq client service nonce sFrom till rtime opts) ∧ w.grownBy w' none := by
 have HFl := hid (first_flat client service nonce sFrom till rtime opts hc hs)
 go_enter Tryz.func6,Tryz.ntmps6
 go_wp2_with fail
 refine (knum_m 10 _ ⟨by decide,by decide⟩).mono ?_
 rintro e w1 ⟨o1,rfl,q1,g1⟩
 obtain ⟨a1,c1,hv1⟩ := q1.has.shape
 subst hv1
 have A1 := hid (KAcc.nil _ |>.push g1 q1.has)
 have G1 := hid (g1)
 clear q1 g1
 go_wp2_with fail
 refine (kname_any client _ (by omega)).mono ?_
 rintro e w2 ⟨o2,rfl,q2,g2⟩
 obtain ⟨a2,c2,hv2⟩ := q2.has.shape
 subst hv2
 have A2 := hid (A1.out |>.push g2 q2.has)
 have G2 := hid (gb_trans G1.out g2)
 clear q2 g2 A1 G1
 go_wp2_with fail
 refine (kname_any service _ (by omega)).mono ?_
 rintro e w3 ⟨o3,rfl,q3,g3⟩
 obtain ⟨a3,c3,hv3⟩ := q3.has.shape
 subst hv3
 have A3 := hid (A2.out |>.push g3 q3.has)
 have G3 := hid (gb_trans G2.out g3)
 clear q3 g3 A2 G2
 go_wp2_with fail
 refine (knum_m nonce _ h1).mono ?_
 rintro e w4 ⟨o4,rfl,q4,g4⟩
 obtain ⟨a4,c4,hv4⟩ := q4.has.shape
 subst hv4
 have A4 := hid (A3.out |>.push g4 q4.has)
 have G4 := hid (gb_trans G3.out g4)
 clear q4 g4 A3 G3
 go_wp2_with fail
 refine (knum_m sFrom _ h2).mono ?_
 rintro e w5 ⟨o5,rfl,q5,g5⟩
 obtain ⟨a5,c5,hv5⟩ := q5.has.shape
 subst hv5
 have A5 := hid (A4.out |>.push g5 q5.has)
 have G5 := hid (gb_trans G4.out g5)
 clear q5 g5 A4 G4
 go_wp2_with fail
 refine (knum_m till _ h3).mono ?_
 rintro e w6 ⟨o6,rfl,q6,g6⟩
 obtain ⟨a6,c6,hv6⟩ := q6.has.shape
 subst hv6
 have A6 := hid (A5.out |>.push g6 q6.has)
 have G6 := hid (gb_trans G5.out g6)
 clear q6 g6 A5 G5
 go_wp2_with fail
 refine (knum_m rtime _ h4).mono ?_
 rintro e w7 ⟨o7,rfl,q7,g7⟩
 obtain ⟨a7,c7,hv7⟩ := q7.has.shape
 subst hv7
 have A7 := hid (A6.out |>.push g7 q7.has)
 have G7 := hid (gb_trans G6.out g7)
 clear q7 g7 A6 G6
 go_wp2_with fail
 refine (knum_m opts _ h5).mono ?_
 rintro e w8 ⟨o8,rfl,q8,g8⟩
 obtain ⟨a8,c8,hv8⟩ := q8.has.shape
 subst hv8
 have A8 := hid (A7.out |>.push g8 q8.has)
 have G8 := hid (gb_trans G7.out g8)
 clear q8 g8 A7 G7
 go_wp2_with fail
 refine (klist_nil _).mono ?_
 rintro e w9 ⟨o9,rfl,q9,g9⟩
 obtain ⟨a9,c9,hv9⟩ := q9.has.shape
 subst hv9
 have A9 := hid (A8.out |>.push g9 q9.has)
 have G9 := hid (gb_trans G8.out g9)
 clear q9 g9 A8 G8
 go_wp2_with fail
 refine (A9.out.list _ 9 rfl rfl (by decide) (Nat.le_trans HFl.out (by decide))).mono ?_
 rintro e w10 ⟨o10,rfl,q10,g10⟩
 have HR := hid (And.intro (own_base q10 G9.out.size) (gb_trans G9.out g10))
 clear q10 g10
 go_wp2
 go_ret
 exact ⟨_,rfl,HR.out.1,HR.out.2⟩
def proofPlain (client : List UInt8) (at0 count : Int) : List UInt8 := lstBox [txtBox client,numBox at0,numBox count]
end Go.Proofs.YtpijkgbafjccaaaGreatDoor
namespace Go.Proofs.YtpijkgbafjccaaaGreatDoor
open Go.RowKit
set_option maxRecDepth 100000
abbrev numP (v : Int) : Pie := (2,Box.low v (Box.size v))
abbrev txtP (l : List UInt8) : Pie := (4,l)
def catP (ps : List Pie) : List UInt8 := (ps.map fun p => Box.box p.1 p.2).flatten
abbrev lstP (ps : List Pie) : Pie := (48,catP ps)
theorem catP_cons (p : Pie) (ps : List Pie) : catP (p :: ps) = Box.box p.1 p.2 ++ catP ps := rfl
theorem catP_cuts : ∀ (ps : List Pie),(∀ p ∈ ps,p.2.length ≤ 65535) → Box.cutsL (catP ps) = some ps
 | [],_ => rfl
 | p :: ps,h => by
  rw [catP_cons,Box.cutsL_box _ _ _ (h p (List.mem_cons_self ..)),catP_cuts ps (fun q hq => h q (List.mem_cons_of_mem _ hq))]
  rfl
theorem cut_one (p : Pie) (h : p.2.length ≤ 65535) : Box.cut (Box.box p.1 p.2) = some (p.1,p.2,[]) := by
 have := Box.cut_box p.1 p.2 [] h
 rwa [List.append_nil] at this
def Tells (d : Nat) (p : Pie) : Prop := ∃ t,Box.pshow d p.1 p.2 = some t
theorem tells_num (d : Nat) (v : Int) (h : In64 v) : Tells d (numP v) := by
 refine ⟨Lib.itoa v,?_⟩
 rw [Box.pshow_leaf d 2 _ (by decide),Box.leaf,if_pos (by decide),Box.num_low v h.1 h.2]
 rfl
theorem tells_txt (d : Nat) (l : List UInt8) : Tells d (txtP l) := by
 refine ⟨34 :: Box.hex l ++ [34],?_⟩
 rw [Box.pshow_leaf d 4 _ (by decide),Box.leaf,if_neg (by decide),if_pos (by decide)]
theorem tells_all (d : Nat) : ∀ (ps : List Pie),(∀ p ∈ ps,Tells d p) → ∃ ts,Box.tells d ps = some ts
 | [],_ => ⟨[],rfl⟩
 | p :: ps,h => by
  obtain ⟨t,ht⟩ := h p (List.mem_cons_self ..)
  obtain ⟨ts,hts⟩ := tells_all d ps (fun q hq => h q (List.mem_cons_of_mem _ hq))
  exact ⟨t :: ts,by simp only [Box.tells,ht,hts,Option.map_some]⟩
theorem tells_lst (d : Nat) (ps : List Pie) (h : ∀ p ∈ ps,Tells d p) (hl : ∀ p ∈ ps,p.2.length ≤ 65535) : Tells (d + 1) (lstP ps) := by
 obtain ⟨ts,hts⟩ := tells_all d ps h
 unfold Tells
 rw [Box.pshow_list d 48 _ (by decide)]
 simp only [catP_cuts ps hl,hts]
 exact ⟨_,rfl⟩
theorem leaf_text2 {w : World} {ok : Nat → Prop} {bs : List UInt8} {cs : List Value} {d : Nat} (h : PartIs d w ok 4 bs cs) : ∃ a c,cs = [.int .u8 116,.int .i64 0,.slice a bs.length c,.slice none 0 0] ∧ At w a bs ∧ (∀ b off,a = some ⟨b,off,none⟩ → ok b) ∧ CapOk a bs.length c := by
 have hl : LeafIs w ok 4 bs cs := by
  cases d with
  | zero => exact h
  | succ d =>
   rcases h with h | ⟨h,_⟩
   ·exact h
   ·exact absurd h (by decide)
 rcases hl with ⟨h,_⟩ | ⟨_,a,c,h1,h2,h3,h4⟩
 ·exact absurd h (by decide)
 ·exact ⟨a,c,h1,h2,h3,h4⟩
def PartsAt (d : Nat) (w : World) (ok : Nat → Prop) (g : Nat) (ps : List Pie) : Prop :=
 ∀ k (hk : k < ps.length),∃ cs : List Value,cs.length = 4 ∧ PartIs d w ok ps[k].1 ps[k].2 cs ∧ ok g ∧ ∀ j,j < 4 → w.cell? ⟨g,k * 4 + j,none⟩ = cs[j]?
theorem PartsAt.keep {d : Nat} {w w' : World} {ok : Nat → Prop} {g : Nat} {ps : List Pie} (h : PartsAt d w ok g ps) (k : ∀ b,ok b → w'.heap[b]? = w.heap[b]?) : PartsAt d w' ok g ps := by
 intro i hi
 obtain ⟨cs,h1,h2,h3,h4⟩ := h i hi
 exact ⟨cs,h1,h2.keep k (fun _ h => h),h3,fun j hj => by rw [cell_kept (k g h3)]; exact h4 j hj⟩
theorem PartsAt.ok {d : Nat} {w : World} {ok : Nat → Prop} {g : Nat} {ps : List Pie} (h : PartsAt d w ok g ps) (hne : ps ≠ []) : ok g := by
 obtain ⟨cs,_,_,h3,_⟩ := h 0 (List.length_pos_iff.2 hne)
 exact h3
theorem PartsAt.num {d : Nat} {w : World} {ok : Nat → Prop} {g : Nat} {ps : List Pie} (h : PartsAt d w ok g ps) (k : Nat) (v : Int) (hp : ps[k]? = some (numP v)) (hv : In64 v) : w.cell? ⟨g,k * 4,none⟩ = some (.int .u8 110) ∧ w.cell? ⟨g,k * 4 + 1,none⟩ = some (.int .i64 v) := by
 obtain ⟨hk,he⟩ := List.getElem?_eq_some_iff.1 hp
 obtain ⟨cs,h1,h2,h3,h4⟩ := h k hk
 rw [he] at h2
 have := leaf_num (v := v) ⟨hv.1,hv.2⟩ h2
 subst this
 exact ⟨h4 0 (by decide),h4 1 (by decide)⟩
theorem PartsAt.txt3 {d : Nat} {w : World} {ok : Nat → Prop} {g : Nat} {ps : List Pie} (h : PartsAt d w ok g ps) (k : Nat) (l : List UInt8) (hp : ps[k]? = some (txtP l)) : w.cell? ⟨g,k * 4,none⟩ = some (.int .u8 116) ∧ ∃ a c,w.cell? ⟨g,k * 4 + 2,none⟩ = some (.slice a l.length c) ∧ At w a l ∧ (∀ b off,a = some ⟨b,off,none⟩ → ok b) ∧ CapOk a l.length c := by
 obtain ⟨hk,he⟩ := List.getElem?_eq_some_iff.1 hp
 obtain ⟨cs,h1,h2,h3,h4⟩ := h k hk
 rw [he] at h2
 obtain ⟨a,c,rfl,hat,hok⟩ := leaf_text2 h2
 exact ⟨h4 0 (by decide),a,c,h4 2 (by decide),hat,hok⟩
theorem PartsAt.txt {d : Nat} {w : World} {ok : Nat → Prop} {g : Nat} {ps : List Pie} (h : PartsAt d w ok g ps) (k : Nat) (l : List UInt8) (hp : ps[k]? = some (txtP l)) : w.cell? ⟨g,k * 4,none⟩ = some (.int .u8 116) ∧ ∃ a c,w.cell? ⟨g,k * 4 + 2,none⟩ = some (.slice a l.length c) ∧ At w a l ∧ ∀ b off,a = some ⟨b,off,none⟩ → ok b := by
 obtain ⟨q0,a,c,q1,q2,q3,_⟩ := h.txt3 k l hp
 exact ⟨q0,a,c,q1,q2,q3⟩
theorem PartsAt.lst {d : Nat} {w : World} {ok : Nat → Prop} {g : Nat} {ps : List Pie} (h : PartsAt (d + 1) w ok g ps) (k : Nat) (qs : List Pie) (hp : ps[k]? = some (lstP qs)) (hq : ∀ p ∈ qs,p.2.length ≤ 65535) (hne : qs ≠ []) : ∃ g' c,w.cell? ⟨g,k * 4,none⟩ = some (.int .u8 108) ∧ w.cell? ⟨g,k * 4 + 1,none⟩ = some (.int .i64 0) ∧ w.cell? ⟨g,k * 4 + 2,none⟩ = some (.slice none 0 0) ∧ w.cell? ⟨g,k * 4 + 3,none⟩ = some (.slice (some ⟨g',0,none⟩) qs.length c) ∧ PartsAt d w ok g' qs := by
 obtain ⟨hk,he⟩ := List.getElem?_eq_some_iff.1 hp
 obtain ⟨cs,h1,h2,h3,h4⟩ := h k hk
 rw [he] at h2
 obtain ⟨qs',a,c,css,e1,rfl,e3,e4⟩ := leaf_list h2
 rw [catP_cuts qs hq] at e1
 injection e1 with e1
 subst e1
 have h0 : 0 < qs.length := List.length_pos_iff.2 hne
 obtain ⟨_,_,g',ha,_,_⟩ := e4 0 h0 (by omega)
 refine ⟨g',c,h4 0 (by decide),h4 1 (by decide),h4 2 (by decide),by rw [← ha]; exact h4 3 (by decide),fun i hi => ?_⟩
 obtain ⟨f1,f2,g2,f3,f4,f5⟩ := e4 i hi (by omega)
 rw [ha] at f3
 injection f3 with f3
 injection f3 with f3
 subst f3
 exact ⟨css[i]'(by omega),f1,f2,f4,f5⟩
theorem kshown_list (ps : List Pie) (v : Value) (w : World) (hne : ps ≠ []) (hl : ∀ p ∈ ps,p.2.length ≤ 65535) (ht : ∀ p ∈ ps,Tells 7 p) (h300 : (Box.box 48 (catP ps)).length ≤ 300) (hv : KH w v (Box.box 48 (catP ps))) (htab : TabHere w) :
  Calls Tryz.prog 22 #[v] w fun e w' => ∃ g c,e = .returned (.agg #[.int .u8 108,.int .i64 0,.slice none 0 0,.slice (some ⟨g,0,none⟩) ps.length c]) ∧ PartsAt 7 w' (fun b => w.heap.size ≤ b ∧ b < w'.heap.size) g ps ∧ w.grownBy w' none := by
 obtain ⟨ao,cap,rfl,h2,h3,h4,h5⟩ := hv
 obtain ⟨t,ht'⟩ := tells_lst 7 ps ht hl
 have hc : (catP ps).length ≤ 300 := Nat.le_trans (by rw [Box.box_length]; omega) h300
 refine (kshown_any 48 (catP ps) t _ _ ao cap w (hid rfl) h300 h2 h3 h5 (hid (cut_one (lstP ps) (by show (catP ps).length ≤ _; omega))) (hid ht') hc htab).mono ?_
 rintro e w' ⟨kk,vv,a2,n2,c2,a3,n3,c3,rfl,hP,hg⟩
 obtain ⟨qs',a,c,css,e1,e2,e3,e4⟩ := leaf_list hP
 rw [catP_cuts ps hl] at e1
 injection e1 with e1
 subst e1
 simp only [partCells,List.cons.injEq,and_true] at e2
 obtain ⟨q1,q2,q3,q4⟩ := e2
 have h0 : 0 < ps.length := List.length_pos_iff.2 hne
 obtain ⟨_,_,g',ha,_,_⟩ := e4 0 h0 (by omega)
 refine ⟨g',c,by rw [q1,q2,q3,q4,ha],fun i hi => ?_,hg⟩
 obtain ⟨f1,f2,g2,f3,f4,f5⟩ := e4 i hi (by omega)
 rw [ha] at f3
 injection f3 with f3
 injection f3 with f3
 subst f3
 exact ⟨css[i]'(by omega),f1,f2,f4,f5⟩
end Go.Proofs.YtpijkgbafjccaaaGreatDoor
namespace Go.Proofs.YtpijkgbafjccaaaGreatDoor
open Go.RowKit
set_option maxRecDepth 100000
set_option maxHeartbeats 1000000 in
theorem kkey_any (l : List UInt8) (n : Nat) (ao : Option Addr) (cap : Nat) (w : World) (hn : Hid (l.length = n)) (hl : n ≤ 1000) (hat : At w ao l) :
  Calls Tryz.prog 41 #[.slice ao n cap] w fun e w' => e = .returned (.int .u64 ((Pure.joinL 0 l).toNat : Int)) ∧ w = w' := by
 have HA := hid hat
 clear hat
 go_enter Tryz.func41,Tryz.ntmps41
 go_wp2
 go_loopw [3,4] (fun v i wr => ∃ k : Nat,k ≤ n ∧ i = .int .i64 k ∧ v = .int .u64 ((Pure.joinL 0 (l.take k)).toNat : Int) ∧ w = wr) (fun _ i _ => n - (intOf i).toNat)
 case atStart => exact ⟨0,Nat.zero_le _,rfl,rfl,rfl⟩
 case round =>
  obtain ⟨k,hk,rfl,rfl,rfl⟩ := hrel
  by_cases hlt : k < n
  ·have hlt' : k < l.length := by rw [hn.out]; exact hlt
   have hkI : (k : Int) < (n : Int) := by omega
   have hk0 : (0 : Int) ≤ (k : Int) := by omega
   obtain ⟨b,off,rfl,hc⟩ := HA.out k hlt'
   obtain ⟨x,hx⟩ : ∃ x,Pure.joinL 0 (l.take k) = x := ⟨_,rfl⟩
   obtain ⟨z,hz⟩ : ∃ z,l[k] = z := ⟨_,rfl⟩
   rw [hz] at hc
   rw [hx]
   have hzb : z.toNat < 256 := z.toNat_lt
   have hxb : x.toNat < 18446744073709551616 := x.toNat_lt
   have HX := hid (And.intro hx hz)
   clear hx hz
   go_wp2
   go_roundw
   case rel =>
    refine ⟨k + 1,by omega,by go_num,?_,by first | rfl | trivial⟩
    rw [List.take_succ_eq_append_getElem hlt',Pure.joinL_snoc,HX.out.1,HX.out.2,Pure.join1_toNat]
    congr 1
    rw [IntKind.wrap_u64,IntKind.wrap_u64]
    omega
   case measure => simp [intOf]; omega
  ·have hkm : k = n := by omega
   subst hkm
   have hkI : ¬ (k : Int) < (k : Int) := by omega
   go_wp2
   go_ret
   refine ⟨?_,rfl⟩
   rw [List.take_of_length_le (by rw [hn.out]; omega)]
   rfl
theorem numP_len (v : Int) : (numP v).2.length ≤ 65535 := by
 show (Box.low _ _).length ≤ _
 rw [Box.low_length]
 have := size_bounds v
 omega
theorem kis_list (ps : List Pie) (g c : Nat) (K : ByteArray) (w : World) (hK : K.size = ps.length) (hm : ps.length ≤ 100) (hk : ∀ k (h : k < K.size),k < ps.length → ∃ z : UInt8,w.cell? ⟨g,k * 4,none⟩ = some (.int .u8 (z.toNat : Int)) ∧ K[k]'h = z) :
  Calls Tryz.prog 23 #[.agg #[.int .u8 108,.int .i64 0,.slice none 0 0,.slice (some ⟨g,0,none⟩) ps.length c],.string K] w fun e w' => e = .returned (.bool true) ∧ w.grownBy w' none :=
 kis_any 0 none 0 0 g ps.length c K w hK hm (fun k hk' => by
  obtain ⟨z,h1,h2⟩ := hk k (by omega) hk'
  exact ⟨z,h1,fun h => h2⟩)
set_option maxHeartbeats 2000000 in
theorem kcode_any (now code : Int) (v : Value) (w : World) (h1 : In64 now) (h2 : In64 code) (hv : KH w v (refusalBox now code)) (htab : TabHere w) :
  Calls Tryz.prog 9 #[v,.int .i64 now] w fun e w' => e = .returned (.int .i64 code) ∧ w.grownBy w' none := by
 have hlen : (Box.box 48 (catP [numP 30,numP now,numP code])).length ≤ 300 := by
  have n1 := num10 30
  have n2 := num10 now
  have n3 := num10 code
  have h := box_four 48 (catP [numP 30,numP now,numP code])
  have e : (catP [numP 30,numP now,numP code]).length = (numBox 30).length + (numBox now).length + (numBox code).length := by
   simp only [catP,List.map_cons,List.map_nil,List.flatten_cons,List.flatten_nil,List.length_append,List.length_nil,numBox]
   omega
  omega
 have HS := hid (kshown_list [numP 30,numP now,numP code] v w (by simp) (fun p hp => by
   simp only [List.mem_cons,List.not_mem_nil,or_false] at hp
   rcases hp with rfl | rfl | rfl <;> exact numP_len _) (fun p hp => by
   simp only [List.mem_cons,List.not_mem_nil,or_false] at hp
   rcases hp with rfl | rfl | rfl
   ·exact tells_num 7 30 ⟨by decide,by decide⟩
   ·exact tells_num 7 now h1
   ·exact tells_num 7 code h2) hlen hv htab)
 obtain ⟨ao,cap,hvs⟩ := hv.shape
 obtain ⟨n,hn⟩ : ∃ n,(refusalBox now code).length = n := ⟨_,rfl⟩
 rw [hn] at hvs
 subst hvs
 have H12 := hid (And.intro h1 h2)
 clear hlen hv htab h1 h2 hn
 go_enter Tryz.func9,Tryz.ntmps9
 go_wp2_with fail
 refine HS.out.mono ?_
 rintro e w1 ⟨g,c,rfl,hP,g1⟩
 have GA := World.grownBy_alloc w1 (.cells #[.int .u8 108,.int .i64 0,.slice none 0 0,.slice (some ⟨g,0,none⟩) 3 c] 70) none
 have hP2 := hP.keep (fun b hb => GA.block b hb.2 (by simp))
 obtain ⟨a0,a1⟩ := hP2.num 0 30 rfl ⟨by decide,by decide⟩
 obtain ⟨b0,b1⟩ := hP2.num 1 now rfl H12.out.1
 obtain ⟨c0,c1⟩ := hP2.num 2 code rfl H12.out.2
 have HI := hid (kis_list [numP 30,numP now,numP code] g c ⟨#[110,110,110]⟩ _ rfl (by show 3 ≤ 100; omega) (fun k h h' => by
  match k,h' with
  | 0,_ => exact ⟨110,a0,rfl⟩
  | 1,_ => exact ⟨110,b0,rfl⟩
  | 2,_ => exact ⟨110,c0,rfl⟩))
 have HG := hid (gb_trans g1 GA)
 have HC := hid (And.intro a1 (And.intro b1 c1))
 have HBk := hid (Blk.new w1 #[.int .u8 108,.int .i64 0,.slice none 0 0,.slice (some ⟨g,0,none⟩) 3 c] 70)
 clear HS hP hP2 a0 a1 b0 b1 c0 c1 g1 GA
 go_wp2_with fail
 refine HI.out.mono ?_
 rintro e w2 ⟨rfl,g2⟩
 obtain ⟨a1,b1,c1⟩ := HC.out
 have x1 := g2.cell a1 (by simp)
 have x2 := g2.cell b1 (by simp)
 have x3 := g2.cell c1 (by simp)
 have x4 : w2.cell? ⟨w1.heap.size,3,none⟩ = some (.slice (some ⟨g,0,none⟩) 3 c) := g2.cell (HBk.out.cell 3) (by simp)
 have HG2 := hid (gb_trans HG.out g2)
 clear a1 b1 c1 g2 HI HC HG
 go_wp2
 go_ret
 exact ⟨rfl,HG2.out⟩
end Go.Proofs.YtpijkgbafjccaaaGreatDoor
