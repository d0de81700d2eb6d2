/-
  
-/
import Derived.Test.YtpijkgbafjccaaaGreatDoorGTKTick
namespace Go.Proofs.YtpijkgbafjccaaaGreatDoor
open Go.RowKit
set_option maxRecDepth 100000
abbrev zeroCame : Array Value := #[.slice none 0 0,.int .i64 0,.int .i64 0,.int .i64 0,.int .i64 0,.int .i64 0,.int .u64 0,.string ⟨#[]⟩,.int .i64 0,.int .i64 0,.int .i64 0,.int .i64 0,.int .i64 0,.int .i64 0,.int .u64 0,.string ⟨#[]⟩,.int .i64 0]
theorem Tryz.sizeKCame : (Tryz.prog.info? 50).map (·.size) = some 17 := by kernel_rfl
theorem gb_allocs (w : World) (o1 o2 : Obj) : w.grownBy ((w.alloc o1).alloc o2) none := gb_alloc (World.grownBy_alloc w o1 none) o2
theorem KH.cfK {w w' : World} {ex : Nat → Nat → Prop} {ao : Option Addr} {n cap : Nat} {zs : List UInt8} (h : KH w (.slice ao n cap) zs) (k : CF w w' ex) (hx : ∀ b off,ao = some ⟨b,off,none⟩ → (∃ o,ex b o) → False) : KH w' (.slice ao n cap) zs := by
 obtain ⟨a2,c2,h1,h2,h3,h4,h5⟩ := h
 have e1 : ao = a2 := by injection h1
 subst e1
 exact ⟨ao,c2,h1,h2,h3,h4,h5.cf k (fun b off e j _ n => hx b off e ⟨_,n⟩)⟩
theorem blk8K {w : World} {g : Nat} {c0 c1 c2 c3 c4 c5 c6 c7 : Value} (h : Blk w g #[c0,c1,c2,c3,c4,c5,c6,c7]) : w.cell? ⟨g,0,none⟩ = some c0 ∧ w.cell? ⟨g,1,none⟩ = some c1 ∧ w.cell? ⟨g,2,none⟩ = some c2 ∧ w.cell? ⟨g,3,none⟩ = some c3 ∧ w.cell? ⟨g,4,none⟩ = some c4 ∧ w.cell? ⟨g,5,none⟩ = some c5 ∧ w.cell? ⟨g,6,none⟩ = some c6 ∧ w.cell? ⟨g,7,none⟩ = some c7 := ⟨h.cell 0,h.cell 1,h.cell 2,h.cell 3,h.cell 4,h.cell 5,h.cell 6,h.cell 7⟩
theorem blk17K {w : World} {g : Nat} {c0 c1 c2 c3 c4 c5 c6 c7 c8 c9 c10 c11 c12 c13 c14 c15 c16 : Value} (h : Blk w g #[c0,c1,c2,c3,c4,c5,c6,c7,c8,c9,c10,c11,c12,c13,c14,c15,c16]) : w.cell? ⟨g,0,none⟩ = some c0 ∧ w.cell? ⟨g,1,none⟩ = some c1 ∧ w.cell? ⟨g,2,none⟩ = some c2 ∧ w.cell? ⟨g,3,none⟩ = some c3 ∧ w.cell? ⟨g,4,none⟩ = some c4 ∧ w.cell? ⟨g,5,none⟩ = some c5 ∧ w.cell? ⟨g,6,none⟩ = some c6 ∧ w.cell? ⟨g,7,none⟩ = some c7 ∧ w.cell? ⟨g,8,none⟩ = some c8 ∧ w.cell? ⟨g,9,none⟩ = some c9 ∧ w.cell? ⟨g,10,none⟩ = some c10 ∧ w.cell? ⟨g,11,none⟩ = some c11 ∧ w.cell? ⟨g,12,none⟩ = some c12 ∧ w.cell? ⟨g,13,none⟩ = some c13 ∧ w.cell? ⟨g,14,none⟩ = some c14 ∧ w.cell? ⟨g,15,none⟩ = some c15 ∧ w.cell? ⟨g,16,none⟩ = some c16 := ⟨h.cell 0,h.cell 1,h.cell 2,h.cell 3,h.cell 4,h.cell 5,h.cell 6,h.cell 7,h.cell 8,h.cell 9,h.cell 10,h.cell 11,h.cell 12,h.cell 13,h.cell 14,h.cell 15,h.cell 16⟩
theorem frz17K {w : World} {g : Nat} {cs : Array Value} (h : Blk w g cs) : w.frozen? ⟨g,0,none⟩ = false ∧ w.frozen? ⟨g,1,none⟩ = false ∧ w.frozen? ⟨g,2,none⟩ = false ∧ w.frozen? ⟨g,3,none⟩ = false ∧ w.frozen? ⟨g,4,none⟩ = false ∧ w.frozen? ⟨g,5,none⟩ = false ∧ w.frozen? ⟨g,6,none⟩ = false ∧ w.frozen? ⟨g,7,none⟩ = false ∧ w.frozen? ⟨g,8,none⟩ = false ∧ w.frozen? ⟨g,9,none⟩ = false ∧ w.frozen? ⟨g,10,none⟩ = false ∧ w.frozen? ⟨g,11,none⟩ = false ∧ w.frozen? ⟨g,12,none⟩ = false ∧ w.frozen? ⟨g,13,none⟩ = false ∧ w.frozen? ⟨g,14,none⟩ = false ∧ w.frozen? ⟨g,15,none⟩ = false ∧ w.frozen? ⟨g,16,none⟩ = false := ⟨h.frozen 0,h.frozen 1,h.frozen 2,h.frozen 3,h.frozen 4,h.frozen 5,h.frozen 6,h.frozen 7,h.frozen 8,h.frozen 9,h.frozen 10,h.frozen 11,h.frozen 12,h.frozen 13,h.frozen 14,h.frozen 15,h.frozen 16⟩
theorem putA {w : World} {g : Nat} {c0 c1 c2 c3 c4 c5 c6 c7 c8 c9 c10 c11 c12 c13 c14 c15 c16 : Value} (h : Blk w g #[c0,c1,c2,c3,c4,c5,c6,c7,c8,c9,c10,c11,c12,c13,c14,c15,c16]) (v1 v2 v3 v4 v5 v6 v7 v8 : Value) : Blk ((((((((w.setCell ⟨g,1,none⟩ v1).setCell ⟨g,2,none⟩ v2).setCell ⟨g,3,none⟩ v3).setCell ⟨g,4,none⟩ v4).setCell ⟨g,5,none⟩ v5).setCell ⟨g,6,none⟩ v6).setCell ⟨g,7,none⟩ v7).setCell ⟨g,8,none⟩ v8) g #[c0,v1,v2,v3,v4,v5,v6,v7,v8,c9,c10,c11,c12,c13,c14,c15,c16] := by
 simpa using ((((((((h.set 1 v1).set 2 v2).set 3 v3).set 4 v4).set 5 v5).set 6 v6).set 7 v7).set 8 v8)
theorem putB {w : World} {g : Nat} {c0 c1 c2 c3 c4 c5 c6 c7 c8 c9 c10 c11 c12 c13 c14 c15 c16 : Value} (h : Blk w g #[c0,c1,c2,c3,c4,c5,c6,c7,c8,c9,c10,c11,c12,c13,c14,c15,c16]) (v9 v10 v11 v12 v13 v14 v15 v16 : Value) : Blk ((((((((w.setCell ⟨g,9,none⟩ v9).setCell ⟨g,10,none⟩ v10).setCell ⟨g,11,none⟩ v11).setCell ⟨g,12,none⟩ v12).setCell ⟨g,13,none⟩ v13).setCell ⟨g,14,none⟩ v14).setCell ⟨g,15,none⟩ v15).setCell ⟨g,16,none⟩ v16) g #[c0,c1,c2,c3,c4,c5,c6,c7,c8,v9,v10,v11,v12,v13,v14,v15,v16] := by
 simpa using ((((((((h.set 9 v9).set 10 v10).set 11 v11).set 12 v12).set 13 v13).set 14 v14).set 15 v15).set 16 v16)
theorem putC {w : World} {g : Nat} {c0 c1 c2 c3 c4 c5 c6 c7 c8 c9 c10 c11 c12 c13 c14 c15 c16 : Value} (h : Blk w g #[c0,c1,c2,c3,c4,c5,c6,c7,c8,c9,c10,c11,c12,c13,c14,c15,c16]) (v0 v1 v2 v3 v4 v5 v6 v7 v8 v9 v10 v11 v12 v13 v14 v15 v16 : Value) : Blk (((((((((((((((((w.setCell ⟨g,0,none⟩ v0).setCell ⟨g,1,none⟩ v1).setCell ⟨g,2,none⟩ v2).setCell ⟨g,3,none⟩ v3).setCell ⟨g,4,none⟩ v4).setCell ⟨g,5,none⟩ v5).setCell ⟨g,6,none⟩ v6).setCell ⟨g,7,none⟩ v7).setCell ⟨g,8,none⟩ v8).setCell ⟨g,9,none⟩ v9).setCell ⟨g,10,none⟩ v10).setCell ⟨g,11,none⟩ v11).setCell ⟨g,12,none⟩ v12).setCell ⟨g,13,none⟩ v13).setCell ⟨g,14,none⟩ v14).setCell ⟨g,15,none⟩ v15).setCell ⟨g,16,none⟩ v16) g #[v0,v1,v2,v3,v4,v5,v6,v7,v8,v9,v10,v11,v12,v13,v14,v15,v16] := by
 simpa using (((((((((((((((((h.set 0 v0).set 1 v1).set 2 v2).set 3 v3).set 4 v4).set 5 v5).set 6 v6).set 7 v7).set 8 v8).set 9 v9).set 10 v10).set 11 v11).set 12 v12).set 13 v13).set 14 v14).set 15 v15).set 16 v16)
theorem othA {w : World} {g b : Nat} {cs : Array Value} (h : Blk w g cs) (hne : g ≠ b) (v1 v2 v3 v4 v5 v6 v7 v8 : Value) : Blk ((((((((w.setCell ⟨b,1,none⟩ v1).setCell ⟨b,2,none⟩ v2).setCell ⟨b,3,none⟩ v3).setCell ⟨b,4,none⟩ v4).setCell ⟨b,5,none⟩ v5).setCell ⟨b,6,none⟩ v6).setCell ⟨b,7,none⟩ v7).setCell ⟨b,8,none⟩ v8) g cs := by
 repeat refine Blk.other ?_ _ _ hne
 exact h
theorem othB {w : World} {g b : Nat} {cs : Array Value} (h : Blk w g cs) (hne : g ≠ b) (v9 v10 v11 v12 v13 v14 v15 v16 : Value) : Blk ((((((((w.setCell ⟨b,9,none⟩ v9).setCell ⟨b,10,none⟩ v10).setCell ⟨b,11,none⟩ v11).setCell ⟨b,12,none⟩ v12).setCell ⟨b,13,none⟩ v13).setCell ⟨b,14,none⟩ v14).setCell ⟨b,15,none⟩ v15).setCell ⟨b,16,none⟩ v16) g cs := by
 repeat refine Blk.other ?_ _ _ hne
 exact h
theorem gbA {a w : World} {b : Nat} (h : a.grownBy w none) (hb : a.heap.size ≤ b) (v1 v2 v3 v4 v5 v6 v7 v8 : Value) : a.grownBy ((((((((w.setCell ⟨b,1,none⟩ v1).setCell ⟨b,2,none⟩ v2).setCell ⟨b,3,none⟩ v3).setCell ⟨b,4,none⟩ v4).setCell ⟨b,5,none⟩ v5).setCell ⟨b,6,none⟩ v6).setCell ⟨b,7,none⟩ v7).setCell ⟨b,8,none⟩ v8) none := by
 iterate 8 refine gb_store ?_ hb
 exact h
theorem gbB {a w : World} {b : Nat} (h : a.grownBy w none) (hb : a.heap.size ≤ b) (v9 v10 v11 v12 v13 v14 v15 v16 : Value) : a.grownBy ((((((((w.setCell ⟨b,9,none⟩ v9).setCell ⟨b,10,none⟩ v10).setCell ⟨b,11,none⟩ v11).setCell ⟨b,12,none⟩ v12).setCell ⟨b,13,none⟩ v13).setCell ⟨b,14,none⟩ v14).setCell ⟨b,15,none⟩ v15).setCell ⟨b,16,none⟩ v16) none := by
 iterate 8 refine gb_store ?_ hb
 exact h
theorem gbC {a w : World} {b : Nat} (h : a.grownBy w none) (hb : a.heap.size ≤ b) (v0 v1 v2 v3 v4 v5 v6 v7 v8 v9 v10 v11 v12 v13 v14 v15 v16 : Value) : a.grownBy (((((((((((((((((w.setCell ⟨b,0,none⟩ v0).setCell ⟨b,1,none⟩ v1).setCell ⟨b,2,none⟩ v2).setCell ⟨b,3,none⟩ v3).setCell ⟨b,4,none⟩ v4).setCell ⟨b,5,none⟩ v5).setCell ⟨b,6,none⟩ v6).setCell ⟨b,7,none⟩ v7).setCell ⟨b,8,none⟩ v8).setCell ⟨b,9,none⟩ v9).setCell ⟨b,10,none⟩ v10).setCell ⟨b,11,none⟩ v11).setCell ⟨b,12,none⟩ v12).setCell ⟨b,13,none⟩ v13).setCell ⟨b,14,none⟩ v14).setCell ⟨b,15,none⟩ v15).setCell ⟨b,16,none⟩ v16) none := by
 iterate 17 refine gb_store ?_ hb
 exact h
theorem owA {n b : Nat} {w : World} {o : Value} {z : List UInt8} (h : KMade n w o z) (hb : b < n) (v1 v2 v3 v4 v5 v6 v7 v8 : Value) : KMade n ((((((((w.setCell ⟨b,1,none⟩ v1).setCell ⟨b,2,none⟩ v2).setCell ⟨b,3,none⟩ v3).setCell ⟨b,4,none⟩ v4).setCell ⟨b,5,none⟩ v5).setCell ⟨b,6,none⟩ v6).setCell ⟨b,7,none⟩ v7).setCell ⟨b,8,none⟩ v8) o z := by
 iterate 8 refine ownsRow_setCell_below ?_ hb _
 exact h
theorem owB {n b : Nat} {w : World} {o : Value} {z : List UInt8} (h : KMade n w o z) (hb : b < n) (v9 v10 v11 v12 v13 v14 v15 v16 : Value) : KMade n ((((((((w.setCell ⟨b,9,none⟩ v9).setCell ⟨b,10,none⟩ v10).setCell ⟨b,11,none⟩ v11).setCell ⟨b,12,none⟩ v12).setCell ⟨b,13,none⟩ v13).setCell ⟨b,14,none⟩ v14).setCell ⟨b,15,none⟩ v15).setCell ⟨b,16,none⟩ v16) o z := by
 iterate 8 refine ownsRow_setCell_below ?_ hb _
 exact h
theorem owC {n b : Nat} {w : World} {o : Value} {z : List UInt8} (h : KMade n w o z) (hb : b < n) (v0 v1 v2 v3 v4 v5 v6 v7 v8 v9 v10 v11 v12 v13 v14 v15 v16 : Value) : KMade n (((((((((((((((((w.setCell ⟨b,0,none⟩ v0).setCell ⟨b,1,none⟩ v1).setCell ⟨b,2,none⟩ v2).setCell ⟨b,3,none⟩ v3).setCell ⟨b,4,none⟩ v4).setCell ⟨b,5,none⟩ v5).setCell ⟨b,6,none⟩ v6).setCell ⟨b,7,none⟩ v7).setCell ⟨b,8,none⟩ v8).setCell ⟨b,9,none⟩ v9).setCell ⟨b,10,none⟩ v10).setCell ⟨b,11,none⟩ v11).setCell ⟨b,12,none⟩ v12).setCell ⟨b,13,none⟩ v13).setCell ⟨b,14,none⟩ v14).setCell ⟨b,15,none⟩ v15).setCell ⟨b,16,none⟩ v16) o z := by
 iterate 17 refine ownsRow_setCell_below ?_ hb _
 exact h
theorem cfC {a w : World} {ex : Nat → Nat → Prop} {b : Nat} (h : CF a w ex) (hb : ∀ o,ex b o) (v0 v1 v2 v3 v4 v5 v6 v7 v8 v9 v10 v11 v12 v13 v14 v15 v16 : Value) : CF a (((((((((((((((((w.setCell ⟨b,0,none⟩ v0).setCell ⟨b,1,none⟩ v1).setCell ⟨b,2,none⟩ v2).setCell ⟨b,3,none⟩ v3).setCell ⟨b,4,none⟩ v4).setCell ⟨b,5,none⟩ v5).setCell ⟨b,6,none⟩ v6).setCell ⟨b,7,none⟩ v7).setCell ⟨b,8,none⟩ v8).setCell ⟨b,9,none⟩ v9).setCell ⟨b,10,none⟩ v10).setCell ⟨b,11,none⟩ v11).setCell ⟨b,12,none⟩ v12).setCell ⟨b,13,none⟩ v13).setCell ⟨b,14,none⟩ v14).setCell ⟨b,15,none⟩ v15).setCell ⟨b,16,none⟩ v16) ex := by
 iterate 17 refine CF.setCell ?_ _ _ _ (fun _ => hb _)
 exact h
theorem cfD {a w : World} {ex : Nat → Nat → Prop} (h : CF a w ex) : CF a w.drew ex := h.trans (ex2 := fun _ _ => False) (CF.of_gb (gb_drewN (World.grownBy.refl w none) 1) _) (fun _ _ _ e => e.elim)
theorem blk4K {w : World} {g : Nat} {a b c d : Value} (h : Blk w g #[a,b,c,d]) : w.cell? ⟨g,0,none⟩ = some a ∧ w.cell? ⟨g,1,none⟩ = some b ∧ w.cell? ⟨g,2,none⟩ = some c ∧ w.cell? ⟨g,3,none⟩ = some d := ⟨h.cell 0,h.cell 1,h.cell 2,h.cell 3⟩
set_option maxHeartbeats 8000000 in
theorem kcame_ok (kind : Int) (t : TK) (s : BE) (nonce number x : Int) (key use a b : UInt64) (v : Value) (w : World) (hx : isU x = true) (hu : Hid (x = use.toNat)) (hc : t.client.length ≤ 3) (hs : s.name.length ≤ 3) (hk : In64 kind) (ht : t.In) (hsn : In64 s.number) (hn : In64 number) (hno : In64 nonce) (hv : KH w v (giveBox kind t s nonce number key use a b)) (htab : TabHere w) :
  Calls Tryz.prog 12 #[v,.int .i64 kind,.string ⟨t.client.toArray⟩,.string ⟨s.name.toArray⟩,.int .i64 s.number,.int .u64 (s.key.toNat : Int),.int .i64 number,.int .u64 (key.toNat : Int),.int .i64 x] w fun e w' => ∃ ob,e = .returned (.tuple #[.agg (ob :: (grantC t.flags t.auth t.start t.fin t.renew t.session t.client 0 ++ grantC t.flags t.auth t.start t.fin t.renew t.session s.name nonce)).toArray,.bool true]) ∧ KMade w.heap.size w' ob (ticketBox t s a) ∧ w.grownBy w' none := by
 have HLe := hid (gv_len kind t s nonce number key use a b hc hs)
 obtain ⟨hp1,hp2⟩ := gv_ok kind t s nonce number key use a b hc hs hk hsn hn
 have G0 := gb_allocs w (.cells zeroCame 50) (.cells zeroCame 50)
 have HS := hid (kshown_list (gvPies kind t s nonce number key use a b) v _ (by simp [gvPies]) hp1 hp2 (by have := HLe.out; rw [gv_box] at this; omega) (by rw [← gv_box]; exact hv.grown G0) (tab_grownK htab G0))
 have HL0 : Hid (Live ((w.alloc (.cells zeroCame 50)).alloc (.cells zeroCame 50)) w.heap.size 17 ∧ Live ((w.alloc (.cells zeroCame 50)).alloc (.cells zeroCame 50)) (w.heap.size + 1) 17) := by
  refine ⟨(Live.new w zeroCame 50).alloc _,?_⟩
  have h := Live.new (w.alloc (.cells zeroCame 50)) zeroCame 50
  rw [World.size_alloc] at h
  exact h
 have HZ0 : Hid (Blk ((w.alloc (.cells zeroCame 50)).alloc (.cells zeroCame 50)) w.heap.size zeroCame ∧ Blk ((w.alloc (.cells zeroCame 50)).alloc (.cells zeroCame 50)) (w.heap.size + 1) zeroCame) := by
  refine ⟨(Blk.new w zeroCame 50).alloc _,?_⟩
  have h := Blk.new (w.alloc (.cells zeroCame 50)) zeroCame 50
  rw [World.size_alloc] at h
  exact h
 have HG0 := hid G0
 have HTb := hid htab
 have HT := hid (And.intro ht (And.intro hk (And.intro hsn (And.intro hn hno))))
 have HTB := hid (tb_ok t s a hc hs hsn 6)
 have HPB := hid (pb_ok t s nonce number key use b hs hn 6)
 have HLc := hid (And.intro hc hs)
 obtain ⟨av,cv,hvs⟩ := hv.shape
 obtain ⟨m0,hm0⟩ : ∃ m,(giveBox kind t s nonce number key use a b).length = m := ⟨_,rfl⟩
 rw [hm0] at hvs
 subst hvs
 clear hp1 hp2 hv G0 htab hm0 ht hk hsn hn hno hc hs HLe
 go_enter Tryz.func12,Tryz.ntmps12
 go_wp2_with fail
 refine HS.out.mono ?_
 rintro e w1 ⟨g,c,rfl,hP,g1⟩
 have hlen : (gvPies kind t s nonce number key use a b).length = 4 := rfl
 rw [hlen]
 clear hlen HS
 have GA := World.grownBy_alloc w1 (.cells #[.int .u8 108,.int .i64 0,.slice none 0 0,.slice (some ⟨g,0,none⟩) 4 c] 70) none
 have hP2 := hP.keep (fun b hb => GA.block b hb.2 (by simp))
 obtain ⟨A0,A1⟩ := hP2.num 0 kind rfl HT.out.2.1
 obtain ⟨B0,ab,cb,B2,B3,B4,B5⟩ := hP2.txt3 1 t.client rfl
 obtain ⟨gT,cT,C0,C1,C2,C3,PT⟩ := hP2.lst 2 (tbPies t s a) rfl HTB.out.1 (by simp [tbPies])
 obtain ⟨gS,cS,D0,D1,D2,D3,PS⟩ := hP2.lst 3 (pbPies t s nonce number key use b) rfl HPB.out.1 (by simp [pbPies])
 have HI := hid (kis_list (gvPies kind t s nonce number key use a b) g c ⟨#[110,116,108,108]⟩ _ rfl (by show 4 ≤ 100; omega) (fun k h h' => by
  match k,h' with
  | 0,_ => exact ⟨110,A0,rfl⟩
  | 1,_ => exact ⟨116,B0,rfl⟩
  | 2,_ => exact ⟨108,C0,rfl⟩
  | 3,_ => exact ⟨108,D0,rfl⟩))
 have HG1 := hid (gb_trans (gb_trans HG0.out g1) GA)
 have HGz := hid (gb_trans g1 GA)
 have HL1 := hid (And.intro ((HL0.out.1.grown g1).grown GA) ((HL0.out.2.grown g1).grown GA))
 have HC := hid (And.intro A1 (And.intro B2 (And.intro B3 (And.intro (And.intro C0 (And.intro C1 (And.intro C2 C3))) (And.intro D0 (And.intro D1 (And.intro D2 D3)))))))
 have HPs := hid (And.intro PT PS)
 have Hs1 := hid HL0.out.2.lt
 have HBk := hid (Blk.new w1 #[.int .u8 108,.int .i64 0,.slice none 0 0,.slice (some ⟨g,0,none⟩) 4 c] 70)
 clear hP hP2 A0 A1 B0 B2 B3 B4 B5 C0 C1 C2 C3 D0 D1 D2 D3 PT PS GA g1 HL0 HG0
 go_wp2_with fail
 refine HI.out.mono ?_
 rintro e w2 ⟨rfl,g2⟩
 obtain ⟨A1,B2,B3,⟨C0,C1,C2,C3⟩,D0,D1,D2,D3⟩ := HC.out
 have x1 : w2.cell? ⟨g,1,none⟩ = some (.int .i64 kind) := g2.cell A1 (by simp)
 have x6 : w2.cell? ⟨g,6,none⟩ = some (.slice ab t.client.length cb) := g2.cell B2 (by simp)
 have x8 : w2.cell? ⟨g,8,none⟩ = some (.int .u8 108) := g2.cell C0 (by simp)
 have x9 : w2.cell? ⟨g,9,none⟩ = some (.int .i64 0) := g2.cell C1 (by simp)
 have x10 : w2.cell? ⟨g,10,none⟩ = some (.slice none 0 0) := g2.cell C2 (by simp)
 have x11 : w2.cell? ⟨g,11,none⟩ = some (.slice (some ⟨gT,0,none⟩) 3 cT) := g2.cell C3 (by simp)
 have x12 : w2.cell? ⟨g,12,none⟩ = some (.int .u8 108) := g2.cell D0 (by simp)
 have x13 : w2.cell? ⟨g,13,none⟩ = some (.int .i64 0) := g2.cell D1 (by simp)
 have x14 : w2.cell? ⟨g,14,none⟩ = some (.slice none 0 0) := g2.cell D2 (by simp)
 have x15 : w2.cell? ⟨g,15,none⟩ = some (.slice (some ⟨gS,0,none⟩) 2 cS) := g2.cell D3 (by simp)
 have xp : w2.cell? ⟨w1.heap.size,3,none⟩ = some (.slice (some ⟨g,0,none⟩) 4 c) := g2.cell (HBk.out.cell 3) (by simp)
 have rs := run_string_of (P := Tryz.prog) w2 26 9 5 Tryz.underlying26 Tryz.underlying5 Tryz.underlying9 ab cb t.client (B3.below g2)
 have HG2 := hid (gb_trans HG1.out g2)
 have HGw : Hid (((w.alloc (.cells zeroCame 50)).alloc (.cells zeroCame 50)).grownBy w2 none) := gb_trans HGz.out g2
 have HL2 := hid (And.intro (HL1.out.1.grown g2) (HL1.out.2.grown g2))
 have HB2 := hid (And.intro (HBk.out.lt) g2)
 have GT := World.grownBy_alloc w2 (.cells #[.int .u8 108,.int .i64 0,.slice none 0 0,.slice (some ⟨gT,0,none⟩) 3 cT] 70) none
 have y12 := GT.cell x12 (by simp)
 have y13 := GT.cell x13 (by simp)
 have y14 := GT.cell x14 (by simp)
 have y15 := GT.cell x15 (by simp)
 have yp := GT.cell xp (by simp)
 have GTS := gb_allocs w2 (.cells #[.int .u8 108,.int .i64 0,.slice none 0 0,.slice (some ⟨gT,0,none⟩) 3 cT] 70) (.cells #[.int .u8 108,.int .i64 0,.slice none 0 0,.slice (some ⟨gS,0,none⟩) 2 cS] 70)
 have bT := (Blk.new w2 #[.int .u8 108,.int .i64 0,.slice none 0 0,.slice (some ⟨gT,0,none⟩) 3 cT] 70).alloc (.cells #[.int .u8 108,.int .i64 0,.slice none 0 0,.slice (some ⟨gS,0,none⟩) 2 cS] 70)
 have bS : Blk ((w2.alloc (.cells #[.int .u8 108,.int .i64 0,.slice none 0 0,.slice (some ⟨gT,0,none⟩) 3 cT] 70)).alloc (.cells #[.int .u8 108,.int .i64 0,.slice none 0 0,.slice (some ⟨gS,0,none⟩) 2 cS] 70)) (w2.heap.size + 1) #[.int .u8 108,.int .i64 0,.slice none 0 0,.slice (some ⟨gS,0,none⟩) 2 cS] := by
  have h := Blk.new (w2.alloc (.cells #[.int .u8 108,.int .i64 0,.slice none 0 0,.slice (some ⟨gT,0,none⟩) 3 cT] 70)) #[.int .u8 108,.int .i64 0,.slice none 0 0,.slice (some ⟨gS,0,none⟩) 2 cS] 70
  rw [World.size_alloc] at h
  exact h
 obtain ⟨t0,t1,t2,t3⟩ := blk4K bT
 have GTS0 := hid GTS
 have PT := HPs.out.1.keep (w' := (w2.alloc (.cells #[.int .u8 108,.int .i64 0,.slice none 0 0,.slice (some ⟨gT,0,none⟩) 3 cT] 70)).alloc (.cells #[.int .u8 108,.int .i64 0,.slice none 0 0,.slice (some ⟨gS,0,none⟩) 2 cS] 70)) (fun b hb => (gb_trans g2 GTS).block b (Nat.lt_trans hb.2 HBk.out.lt) (by simp))
 have PS := HPs.out.2.keep (w' := (w2.alloc (.cells #[.int .u8 108,.int .i64 0,.slice none 0 0,.slice (some ⟨gT,0,none⟩) 3 cT] 70)).alloc (.cells #[.int .u8 108,.int .i64 0,.slice none 0 0,.slice (some ⟨gS,0,none⟩) 2 cS] 70)) (fun b hb => (gb_trans g2 GTS).block b (Nat.lt_trans hb.2 HBk.out.lt) (by simp))
 obtain ⟨E0,an,cn,E2,E3,E4,E5⟩ := PT.txt3 0 s.name rfl
 obtain ⟨F0,F1⟩ := PT.num 1 s.number rfl HT.out.2.2.1
 obtain ⟨K0,ak,ck,K2,K3,K4,K5⟩ := PT.txt3 2 (Pure.sealL s.key 2 a t.plain) rfl
 obtain ⟨M0,M1⟩ := PS.num 0 number rfl HT.out.2.2.2.1
 obtain ⟨N0,ap,cp,N2,N3,N4,N5⟩ := PS.txt3 1 (Pure.sealL key use b (partPlain t nonce s)) rfl
 have okT := (PT.ok (by simp [tbPies]))
 have okS := (PS.ok (by simp [pbPies]))
 have HI1 := hid (kis_list (tbPies t s a) gT cT ⟨#[116,110,116]⟩ _ rfl (by show 3 ≤ 100; omega) (fun k h h' => by
  match k,h' with
  | 0,_ => exact ⟨116,E0,rfl⟩
  | 1,_ => exact ⟨110,F0,rfl⟩
  | 2,_ => exact ⟨116,K0,rfl⟩))
 have HM0 := hid (And.intro M0 N0)
 have HC2 := hid (And.intro E2 (And.intro F1 (And.intro K2 (And.intro M1 N2))))
 have HAt := hid (And.intro E3 (And.intro K3 N3))
 have HCp := hid (And.intro E5 (And.intro K5 N5))
 have Hok := hid (And.intro okT okS)
 have HKo := hid (And.intro K4 N4)
 have HBT := hid (And.intro bT bS)
 have HG3 := hid (gb_trans (gb_trans HG1.out g2) GTS)
 have HL3 := hid (And.intro ((HL1.out.1.grown g2).grown GTS) ((HL1.out.2.grown g2).grown GTS))
 clear bT bS PT PS E0 E2 E3 E4 E5 F0 F1 K0 K2 K3 K4 K5 M0 M1 N0 N2 N3 N4 N5 okT okS HG2 HL2 HB2 HBk HPs GT GTS
 clear A1 B2 B3 C0 C1 C2 C3 D0 D1 D2 D3 g2 HI HC HG1 HL1
 go_wp2_with fail
 refine HI1.out.mono ?_
 rintro e w3 ⟨rfl,g3⟩
 clear x1 x6 x8 x9 x10 x11 x12 x13 x14 x15 xp y12 y13 y14 y15 yp rs t0 t1 t2 t3 HI1
 obtain ⟨s0,s1,s2,s3⟩ := blk4K (HBT.out.2.grown g3 (by simp))
 have HI2 := hid (kis_list (pbPies t s nonce number key use b) gS cS ⟨#[110,116]⟩ w3 rfl (by show 2 ≤ 100; omega) (fun k h h' => by
  match k,h' with
  | 0,_ => exact ⟨110,g3.cell HM0.out.1 (by simp),rfl⟩
  | 1,_ => exact ⟨116,g3.cell HM0.out.2 (by simp),rfl⟩))
 go_wp2_with fail
 refine HI2.out.mono ?_
 rintro e w4 ⟨rfl,g4⟩
 have G34 := gb_trans g3 g4
 obtain ⟨E2,F1,K2,M1,N2⟩ := HC2.out
 clear HI2 HM0 s0 s1 s2 s3
 have x2 : w4.cell? ⟨gT,2,none⟩ = some (.slice an s.name.length cn) := G34.cell E2 (by simp)
 have x5 : w4.cell? ⟨gT,5,none⟩ = some (.int .i64 s.number) := G34.cell F1 (by simp)
 have x1 : w4.cell? ⟨gS,1,none⟩ = some (.int .i64 number) := G34.cell M1 (by simp)
 have HKK : Hid (w4.cell? ⟨gT,10,none⟩ = some (.slice ak (Pure.sealL s.key 2 a t.plain).length ck)) := G34.cell K2 (by simp)
 have HKN : Hid (w4.cell? ⟨gS,6,none⟩ = some (.slice ap (Pure.sealL key use b (partPlain t nonce s)).length cp)) := G34.cell N2 (by simp)
 have xT : w4.cell? ⟨w2.heap.size,3,none⟩ = some (.slice (some ⟨gT,0,none⟩) 3 cT) := G34.cell (HBT.out.1.cell 3) (by simp)
 have xS : w4.cell? ⟨w2.heap.size + 1,3,none⟩ = some (.slice (some ⟨gS,0,none⟩) 2 cS) := G34.cell (HBT.out.2.cell 3) (by simp)
 have rs := run_string_of (P := Tryz.prog) w4 26 9 5 Tryz.underlying26 Tryz.underlying5 Tryz.underlying9 an cn s.name (HAt.out.1.below G34)
 have HH : Hid (KH w4 (.slice an s.name.length cn) s.name ∧ KH w4 (.slice ak (Pure.sealL s.key 2 a t.plain).length ck) (Pure.sealL s.key 2 a t.plain) ∧ KH w4 (.slice ap (Pure.sealL key use b (partPlain t nonce s)).length cp) (Pure.sealL key use b (partPlain t nonce s))) :=
  ⟨⟨an,cn,rfl,HCp.out.1.1,HCp.out.1.2.1,HCp.out.1.2.2,HAt.out.1.below G34⟩,⟨ak,ck,rfl,HCp.out.2.1.1,HCp.out.2.1.2.1,HCp.out.2.1.2.2,HAt.out.2.1.below G34⟩,⟨ap,cp,rfl,HCp.out.2.2.1,HCp.out.2.2.2.1,HCp.out.2.2.2.2,HAt.out.2.2.below G34⟩⟩
 have HG4 := hid (gb_trans HG3.out G34)
 have HZ4 := hid (And.intro (HZ0.out.1.grown (gb_trans (gb_trans HGw.out GTS0.out) G34) (by simp)) (HZ0.out.2.grown (gb_trans (gb_trans HGw.out GTS0.out) G34) (by simp)))
 have HL4 := hid (And.intro (HL3.out.1.grown G34) (HL3.out.2.grown G34))
 have Hw2 := hid HBT.out.1.lt
 have HW12 : Hid (w.heap.size + 2 ≤ w2.heap.size) := by
  have h := HGw.out.size
  have h1 := Hs1.out
  simp only [World.size_alloc] at h h1
  show _ ≤ _
  omega
 clear E2 F1 K2 M1 N2 G34 g3 g4 HBT HC2 HAt HCp HG3 HL3
 go_wp2_with fail
 have hgT : gT ≠ w.heap.size + 1 := fun e => by have h := Hok.out.1.1; simp only [World.size_alloc] at h; omega
 have hgS : gS ≠ w.heap.size + 1 := fun e => by have h := Hok.out.2.1; simp only [World.size_alloc] at h; omega
 have HK := hid HKK.out
 have HSl := hid (And.intro xS HKN.out)
 obtain ⟨LK,hLK⟩ : ∃ L,(Pure.sealL s.key 2 a t.plain).length = L := ⟨_,rfl⟩
 have HH1 := hid HH.out.1
 have HH2 := hid HH.out.2.1
 have HH3 := hid HH.out.2.2
 have HLK : Hid (LK ≤ 83) := by
  have h1 := tk_len3 t HLc.out.1
  have h2 := Pure.sealL_length s.key 2 a t.plain
  show LK ≤ 83
  omega
 rw [hLK] at HK HH2
 have xK := HK.out
 have HSk : Hid (∀ W,CF w4 W (fun b _ => b = w.heap.size + 1) → (fun w' => w'.cell? ⟨w2.heap.size,3,none⟩ = some (.slice (some ⟨gT,0,none⟩) 3 cT) ∧ w'.cell? ⟨gT,2,none⟩ = some (.slice an s.name.length cn) ∧ w'.cell? ⟨gT,5,none⟩ = some (.int .i64 s.number) ∧ w'.cell? ⟨gT,10,none⟩ = some (.slice ak LK ck)) W) := fun W k => by
  refine ⟨k.cell xT (fun e => ?_),k.cell x2 hgT,k.cell x5 hgT,k.cell xK hgT⟩
  have h := Hw2.out
  have h1 := Hok.out.1.2
  have h2 := Hok.out.1.1
  simp only [World.size_alloc] at h h2
  have h3 := HW12.out
  omega
 have HFl : Hid (([txtBox s.name,numBox s.number,txtBox (Pure.sealL s.key 2 a t.plain)] : List (List UInt8)).flatten.length ≤ 255) := Nat.le_trans (tb_len t s a HLc.out.1 HLc.out.2) (by decide)
 clear rs x1 xS HKK HKN HH HK HTB HPB hgT
 go_region_held3 (fun w' => w'.cell? ⟨w2.heap.size,3,none⟩ = some (.slice (some ⟨gT,0,none⟩) 3 cT) ∧ w'.cell? ⟨gT,2,none⟩ = some (.slice an s.name.length cn) ∧ w'.cell? ⟨gT,5,none⟩ = some (.int .i64 s.number) ∧ w'.cell? ⟨gT,10,none⟩ = some (.slice ak LK ck)) (exact HSk.out _ (by (repeat refine CF.setCell ?_ _ _ _ (fun _ => rfl)); refine CF.of_gb ?_ _; (first | exact G7.out | exact gb_drewN G7.out _ | exact gb_alloc G7.out _ | exact G6.out | exact gb_drewN G6.out _ | exact G5.out | exact gb_drewN G5.out _ | exact World.grownBy.refl _ _ | exact gb_drewN (World.grownBy.refl _ _) _))) (first
  | (go_at_call 26; refine (ktext_m s.name (.slice an s.name.length cn) _ (by have := HLc.out.2; omega) (HH1.out.grown (by (first | exact G7.out | exact gb_drewN G7.out _ | exact gb_alloc G7.out _ | exact G6.out | exact gb_drewN G6.out _ | exact G5.out | exact gb_drewN G5.out _ | exact World.grownBy.refl _ _ | exact gb_drewN (World.grownBy.refl _ _) _)))).mono ?_; rintro e w5 ⟨o5,rfl,q5,g5⟩; obtain ⟨a5,c5,hv5⟩ := q5.has.shape; subst hv5; have A5 := hid (KAcc.nil _ |>.push g5 q5.has); have G5 : Hid (w4.grownBy w5 none) := gb_trans (by (first | exact G7.out | exact gb_drewN G7.out _ | exact gb_alloc G7.out _ | exact G6.out | exact gb_drewN G6.out _ | exact G5.out | exact gb_drewN G5.out _ | exact World.grownBy.refl _ _ | exact gb_drewN (World.grownBy.refl _ _) _)) g5; clear q5 g5)
  | (go_at_call 18; refine (knum_m s.number _ HT.out.2.2.1).mono ?_; rintro e w6 ⟨o6,rfl,q6,g6⟩; obtain ⟨a6,c6,hv6⟩ := q6.has.shape; subst hv6; have A6 := hid (A5.out |>.push g6 q6.has); have G6 := hid (gb_trans G5.out g6); clear q6 g6 A5)
  | (go_at_call 26; refine (ktext_m (Pure.sealL s.key 2 a t.plain) (.slice ak LK ck) _ (by have := HLK.out; omega) (HH2.out.grown (by (first | exact G7.out | exact gb_drewN G7.out _ | exact gb_alloc G7.out _ | exact G6.out | exact gb_drewN G6.out _ | exact G5.out | exact gb_drewN G5.out _ | exact World.grownBy.refl _ _ | exact gb_drewN (World.grownBy.refl _ _) _)))).mono ?_; rintro e w7 ⟨o7,rfl,q7,g7⟩; obtain ⟨a7,c7,hv7⟩ := q7.has.shape; subst hv7; have A7 := hid (A6.out |>.push g7 q7.has); have G7 := hid (gb_trans G6.out g7); clear q7 g7 A6)
  | (go_at_call 17; refine (A7.out.list _ 3 rfl rfl (by decide) HFl.out).mono ?_; rintro e w8 ⟨o8,rfl,q8,g8⟩; obtain ⟨a8,c8,hv8⟩ := q8.has.shape; subst hv8; have G8 := hid (gb_trans G7.out g8); have HO8 := hid q8; have L := HL4.out.2.grown G8.out; obtain ⟨d0,z0⟩ := Option.isSome_iff_exists.1 (L.some 0 (by decide)); have f0 := L.frozen 0; have HS47 := hid G7.out.size; have G7 := G8; clear q8 g8 L))
 go_wp2_with fail
 clear z0 f0 G5 G6 A7 G7 xK x2 x5 xT HSk
 have HT7 := hid G8.out.size
 obtain ⟨W9,hW9⟩ : ∃ W,W = w8.setCell ⟨w.heap.size + 1,0,none⟩ (Value.slice a8 (lstBox [txtBox s.name,numBox s.number,txtBox (Pure.sealL s.key 2 a t.plain)]).length c8) := ⟨_,rfl⟩
 rw [← hW9]
 have hcf : CF w4 W9 (fun b _ => b = w.heap.size + 1) := by rw [hW9]; exact (CF.of_gb G8.out _).setCell _ _ _ (fun _ => rfl)
 have G9 : w.grownBy W9 none := by rw [hW9]; exact gb_store (gb_trans HG4.out G8.out) (by omega)
 have hO9 : KMade w7.heap.size W9 (Value.slice a8 (lstBox [txtBox s.name,numBox s.number,txtBox (Pure.sealL s.key 2 a t.plain)]).length c8) (ticketBox t s a) := by
  rw [hW9]
  have h := ownsRow_setCell_below (a := ⟨w.heap.size + 1,0,none⟩) HO8.out (by have h1 := HL4.out.2.lt; have h2 := HS47.out; show w.heap.size + 1 < _; omega) (Value.slice a8 (lstBox [txtBox s.name,numBox s.number,txtBox (Pure.sealL s.key 2 a t.plain)]).length c8)
  exact h
 have hsz2 : w.heap.size + 2 ≤ ((w.alloc (.cells zeroCame 50)).alloc (.cells zeroCame 50)).heap.size := by simp only [World.size_alloc]; omega
 have hk2 : KH W9 (.slice ak LK ck) (Pure.sealL s.key 2 a t.plain) := HH2.out.cfK hcf (fun b off e ⟨_,n⟩ => by have h := (HKo.out.1 b off e).1; omega)
 have hk3 : KH W9 (.slice ap (Pure.sealL key use b (partPlain t nonce s)).length cp) (Pure.sealL key use b (partPlain t nonce s)) := HH3.out.cfK hcf (fun b off e ⟨_,n⟩ => by have h := (HKo.out.2 b off e).1; omega)
 have y3 : W9.cell? ⟨w2.heap.size + 1,3,none⟩ = some (.slice (some ⟨gS,0,none⟩) 2 cS) := hcf.cell HSl.out.1 (fun e => by have h := HW12.out; omega)
 have y6 : W9.cell? ⟨gS,6,none⟩ = some (.slice ap (Pure.sealL key use b (partPlain t nonce s)).length cp) := hcf.cell HSl.out.2 hgS
 have bR : Blk W9 w.heap.size zeroCame := by rw [hW9]; exact (HZ4.out.1.grown G8.out (by simp)).other _ _ (by show w.heap.size ≠ w.heap.size + 1; omega)
 have bC : Blk W9 (w.heap.size + 1) #[(Value.slice a8 (lstBox [txtBox s.name,numBox s.number,txtBox (Pure.sealL s.key 2 a t.plain)]).length c8),.int .i64 0,.int .i64 0,.int .i64 0,.int .i64 0,.int .i64 0,.int .u64 0,.string ⟨#[]⟩,.int .i64 0,.int .i64 0,.int .i64 0,.int .i64 0,.int .i64 0,.int .i64 0,.int .u64 0,.string ⟨#[]⟩,.int .i64 0] := by rw [hW9]; exact (HZ4.out.2.grown G8.out (by simp)).set 0 _
 obtain ⟨LP,hLP⟩ : ∃ L,(Pure.sealL key use b (partPlain t nonce s)).length = L := ⟨_,rfl⟩
 rw [hLP] at hk3 y6
 obtain ⟨n8,hn8⟩ : ∃ n,(lstBox [txtBox s.name,numBox s.number,txtBox (Pure.sealL s.key 2 a t.plain)]).length = n := ⟨_,rfl⟩
 rw [hn8] at hO9 bC
 have Hn7 : Hid (w.heap.size + 1 < w7.heap.size) := by have h1 := HL4.out.2.lt; have h2 := HS47.out; show _ < _; omega
 have HTk := hid (kticketed_any s.key a t _ W9 (by have h := HLc.out.1; omega) HT.out.1 hk2 (tab_grownK HTb.out G9))
 have HK3 := hid hk3
 have HO9 := hid hO9
 have HG9 := hid G9
 have HB9 := hid (And.intro bR bC)
 have HY := hid (And.intro y3 y6)
 clear hcf hO9 hk2 hk3 y3 y6 bR bC G9 hW9 hn8 hLP hLK HH1 HH2 HH3 HSl HO8 HT7 HG4 HZ4 HL4 Hw2 HFl HLK HZ0 HGz HGw hgS hsz2
 simp only [grantC] at HTk
 refine HTk.out.mono ?_
 rintro e w10 ⟨rfl,g10⟩
 have GX := World.grownBy_alloc w10 (.cells (grantC t.flags t.auth t.start t.fin t.renew t.session t.client 0).toArray 48) none
 have g11 := gb_trans g10 GX
 have HPt := hid (kparted_any key use b x t nonce s _ _ hx hu (by have h := HLc.out.2; omega) HT.out.1 HT.out.2.2.2.2 (HK3.out.grown g11) (tab_grownK HTb.out (gb_trans HG9.out g11)))
 have y3 := g11.cell HY.out.1 (by simp)
 have y6 := g11.cell HY.out.2 (by simp)
 have HX11 := hid (Blk.new w10 (grantC t.flags t.auth t.start t.fin t.renew t.session t.client 0).toArray 48)
 have HG11 := hid (gb_trans HG9.out g11)
 have HO11 := hid (HO9.out.grown g11)
 have HB11 := hid (And.intro (HB9.out.1.grown g11 (by simp)) (HB9.out.2.grown g11 (by simp)))
 have Hs10 := hid (Nat.lt_of_lt_of_le HB9.out.2.lt g10.size)
 clear HTk HK3 HO9 HG9 HB9 HY GX g10 g11
 simp only [grantC] at y3 y6 HX11 HG11 HO11 HB11 HPt
 go_wp2_with fail
 refine HPt.out.mono ?_
 rintro e w12 ⟨rfl,g12⟩
 have GY := World.grownBy_alloc w12 (.cells (grantC t.flags t.auth t.start t.fin t.renew t.session s.name nonce).toArray 48) none
 have g13 := gb_trans g12 GY
 have bX := HX11.out.grown g13 (by simp)
 have bY := Blk.new w12 (grantC t.flags t.auth t.start t.fin t.renew t.session s.name nonce).toArray 48
 have bR := HB11.out.1.grown g13 (by simp)
 have bC := HB11.out.2.grown g13 (by simp)
 have HO13 := hid (HO11.out.grown g13)
 have HG13 := hid (gb_trans HG11.out g13)
 have Hs12 := hid (Nat.lt_of_lt_of_le HX11.out.lt g12.size)
 simp only [grantC] at bX bY bR bC HO13 HG13
 clear HPt HX11 HG11 HO11 HB11 GY g12 g13 y3 y6
 have hXC : w10.heap.size ≠ w.heap.size + 1 := by have h := Hs10.out; omega
 have hYC : w12.heap.size ≠ w.heap.size + 1 := by have h := Hs10.out; have h2 := Hs12.out; omega
 have hRC : w.heap.size ≠ w.heap.size + 1 := by omega
 have bX14 := othA bX hXC (.int .i64 t.flags) (.int .i64 t.auth) (.int .i64 t.start) (.int .i64 t.fin) (.int .i64 t.renew) (.int .u64 (t.session.toNat : Int)) (.string ⟨t.client.toArray⟩) (.int .i64 0)
 have bY14 := othA bY hYC (.int .i64 t.flags) (.int .i64 t.auth) (.int .i64 t.start) (.int .i64 t.fin) (.int .i64 t.renew) (.int .u64 (t.session.toNat : Int)) (.string ⟨t.client.toArray⟩) (.int .i64 0)
 have bR14 := othA bR hRC (.int .i64 t.flags) (.int .i64 t.auth) (.int .i64 t.start) (.int .i64 t.fin) (.int .i64 t.renew) (.int .u64 (t.session.toNat : Int)) (.string ⟨t.client.toArray⟩) (.int .i64 0)
 have bC14 := putA bC (.int .i64 t.flags) (.int .i64 t.auth) (.int .i64 t.start) (.int .i64 t.fin) (.int .i64 t.renew) (.int .u64 (t.session.toNat : Int)) (.string ⟨t.client.toArray⟩) (.int .i64 0)
 have bX16 := othB bX14 hXC (.int .i64 t.flags) (.int .i64 t.auth) (.int .i64 t.start) (.int .i64 t.fin) (.int .i64 t.renew) (.int .u64 (t.session.toNat : Int)) (.string ⟨s.name.toArray⟩) (.int .i64 nonce)
 have bY16 := othB bY14 hYC (.int .i64 t.flags) (.int .i64 t.auth) (.int .i64 t.start) (.int .i64 t.fin) (.int .i64 t.renew) (.int .u64 (t.session.toNat : Int)) (.string ⟨s.name.toArray⟩) (.int .i64 nonce)
 have bR16 := othB bR14 hRC (.int .i64 t.flags) (.int .i64 t.auth) (.int .i64 t.start) (.int .i64 t.fin) (.int .i64 t.renew) (.int .u64 (t.session.toNat : Int)) (.string ⟨s.name.toArray⟩) (.int .i64 nonce)
 have bC16 := putB bC14 (.int .i64 t.flags) (.int .i64 t.auth) (.int .i64 t.start) (.int .i64 t.fin) (.int .i64 t.renew) (.int .u64 (t.session.toNat : Int)) (.string ⟨s.name.toArray⟩) (.int .i64 nonce)
 obtain ⟨X0,X1,X2,X3,X4,X5,X6,X7⟩ := blk8K bX
 obtain ⟨_,C1,C2,C3,C4,C5,C6,C7,C8,_⟩ := blk17K bC
 obtain ⟨_,F1,F2,F3,F4,F5,F6,F7,F8,_⟩ := frz17K bC
 obtain ⟨Y0,Y1,Y2,Y3,Y4,Y5,Y6,Y7⟩ := blk8K bY14
 obtain ⟨_,_,_,_,_,_,_,_,_,C9,C10,C11,C12,C13,C14,C15,C16⟩ := blk17K bC14
 obtain ⟨_,_,_,_,_,_,_,_,_,F9,F10,F11,F12,F13,F14,F15,F16⟩ := frz17K bC14
 obtain ⟨P0,P1,P2,P3,P4,P5,P6,_⟩ := blk8K bX16
 obtain ⟨Q0,Q1,Q2,Q3,Q4,Q5,Q6,_⟩ := blk8K bY16
 have HB16 := hid (And.intro bX16 (And.intro bY16 (And.intro bR16 bC16)))
 clear bX bY bR bC bX14 bY14 bR14 bC14 bX16 bY16 bR16 bC16
 go_wp2_with fail
 refine wp_genK (fun V => (Blk V w10.heap.size #[.int .i64 t.flags,.int .i64 t.auth,.int .i64 t.start,.int .i64 t.fin,.int .i64 t.renew,.int .u64 (t.session.toNat : Int),.string ⟨t.client.toArray⟩,.int .i64 0] ∧ Blk V w12.heap.size #[.int .i64 t.flags,.int .i64 t.auth,.int .i64 t.start,.int .i64 t.fin,.int .i64 t.renew,.int .u64 (t.session.toNat : Int),.string ⟨s.name.toArray⟩,.int .i64 nonce] ∧ Blk V w.heap.size zeroCame ∧ Blk V (w.heap.size + 1) #[.slice a8 n8 c8,.int .i64 t.flags,.int .i64 t.auth,.int .i64 t.start,.int .i64 t.fin,.int .i64 t.renew,.int .u64 (t.session.toNat : Int),.string ⟨t.client.toArray⟩,.int .i64 0,.int .i64 t.flags,.int .i64 t.auth,.int .i64 t.start,.int .i64 t.fin,.int .i64 t.renew,.int .u64 (t.session.toNat : Int),.string ⟨s.name.toArray⟩,.int .i64 nonce]) ∧ w.grownBy V none ∧ KMade w7.heap.size V (.slice a8 n8 c8) (ticketBox t s a)) ⟨HB16.out,gbB (gbA HG13.out (Nat.le_succ _) (.int .i64 t.flags) (.int .i64 t.auth) (.int .i64 t.start) (.int .i64 t.fin) (.int .i64 t.renew) (.int .u64 (t.session.toNat : Int)) (.string ⟨t.client.toArray⟩) (.int .i64 0)) (Nat.le_succ _) (.int .i64 t.flags) (.int .i64 t.auth) (.int .i64 t.start) (.int .i64 t.fin) (.int .i64 t.renew) (.int .u64 (t.session.toNat : Int)) (.string ⟨s.name.toArray⟩) (.int .i64 nonce),owB (owA HO13.out Hn7.out (.int .i64 t.flags) (.int .i64 t.auth) (.int .i64 t.start) (.int .i64 t.fin) (.int .i64 t.renew) (.int .u64 (t.session.toNat : Int)) (.string ⟨t.client.toArray⟩) (.int .i64 0)) Hn7.out (.int .i64 t.flags) (.int .i64 t.auth) (.int .i64 t.start) (.int .i64 t.fin) (.int .i64 t.renew) (.int .u64 (t.session.toNat : Int)) (.string ⟨s.name.toArray⟩) (.int .i64 nonce)⟩ ?_
 clear X0 X1 X2 X3 X4 X5 X6 X7 C1 C2 C3 C4 C5 C6 C7 C8 C9 C10 C11 C12 C13 C14 C15 C16 F1 F2 F3 F4 F5 F6 F7 F8 F9 F10 F11 F12 F13 F14 F15 F16 Y0 Y1 Y2 Y3 Y4 Y5 Y6 Y7 P0 P1 P2 P3 P4 P5 P6 Q0 Q1 Q2 Q3 Q4 Q5 Q6 HB16 HG13 HO13
 intro V hV
 have HV := hid hV
 obtain ⟨⟨bX,bY,bR,bC⟩,_,_⟩ := hV
 have HSk : Hid (∀ W,CF V W (fun b _ => b = w.heap.size) → (fun w' => w'.cell? ⟨w.heap.size + 1,0,none⟩ = some (.slice a8 n8 c8) ∧ w'.cell? ⟨w.heap.size + 1,1,none⟩ = some (.int .i64 t.flags) ∧ w'.cell? ⟨w.heap.size + 1,2,none⟩ = some (.int .i64 t.auth) ∧ w'.cell? ⟨w.heap.size + 1,3,none⟩ = some (.int .i64 t.start) ∧ w'.cell? ⟨w.heap.size + 1,4,none⟩ = some (.int .i64 t.fin) ∧ w'.cell? ⟨w.heap.size + 1,5,none⟩ = some (.int .i64 t.renew) ∧ w'.cell? ⟨w.heap.size + 1,6,none⟩ = some (.int .u64 (t.session.toNat : Int)) ∧ w'.cell? ⟨w.heap.size + 1,7,none⟩ = some (.string ⟨t.client.toArray⟩) ∧ w'.cell? ⟨w.heap.size + 1,8,none⟩ = some (.int .i64 0) ∧ w'.cell? ⟨w.heap.size + 1,9,none⟩ = some (.int .i64 t.flags) ∧ w'.cell? ⟨w.heap.size + 1,10,none⟩ = some (.int .i64 t.auth) ∧ w'.cell? ⟨w.heap.size + 1,11,none⟩ = some (.int .i64 t.start) ∧ w'.cell? ⟨w.heap.size + 1,12,none⟩ = some (.int .i64 t.fin) ∧ w'.cell? ⟨w.heap.size + 1,13,none⟩ = some (.int .i64 t.renew) ∧ w'.cell? ⟨w.heap.size + 1,14,none⟩ = some (.int .u64 (t.session.toNat : Int)) ∧ w'.cell? ⟨w.heap.size + 1,15,none⟩ = some (.string ⟨s.name.toArray⟩) ∧ w'.cell? ⟨w.heap.size + 1,16,none⟩ = some (.int .i64 nonce) ∧ w'.cell? ⟨w10.heap.size,6,none⟩ = some (.string ⟨t.client.toArray⟩) ∧ w'.cell? ⟨w12.heap.size,6,none⟩ = some (.string ⟨s.name.toArray⟩)) W) := fun W k => by
  have hn : ¬ (w.heap.size + 1 = w.heap.size) := by omega
  have hX : ¬ (w10.heap.size = w.heap.size) := by have h := Hs10.out; omega
  have hY : ¬ (w12.heap.size = w.heap.size) := by have h := Hs10.out; have h2 := Hs12.out; omega
  exact ⟨k.cell (bC.cell 0) hn,k.cell (bC.cell 1) hn,k.cell (bC.cell 2) hn,k.cell (bC.cell 3) hn,k.cell (bC.cell 4) hn,k.cell (bC.cell 5) hn,k.cell (bC.cell 6) hn,k.cell (bC.cell 7) hn,k.cell (bC.cell 8) hn,k.cell (bC.cell 9) hn,k.cell (bC.cell 10) hn,k.cell (bC.cell 11) hn,k.cell (bC.cell 12) hn,k.cell (bC.cell 13) hn,k.cell (bC.cell 14) hn,k.cell (bC.cell 15) hn,k.cell (bC.cell 16) hn,k.cell (bX.cell 6) hX,k.cell (bY.cell 6) hY⟩
 obtain ⟨C0,C1,C2,C3,C4,C5,C6,C7,C8,C9,C10,C11,C12,C13,C14,C15,C16⟩ := blk17K bC
 have X6 := bX.cell 6
 have Y6 := bY.cell 6
 obtain ⟨R0,R1,R2,R3,R4,R5,R6,R7,R8,R9,R10,R11,R12,R13,R14,R15,R16⟩ := blk17K bR
 obtain ⟨F0,F1,F2,F3,F4,F5,F6,F7,F8,F9,F10,F11,F12,F13,F14,F15,F16⟩ := frz17K bR
 simp only [List.getElem?_toArray,List.getElem?_cons_zero,List.getElem?_cons_succ] at X6 Y6
 clear bX bY bR bC
 have HSv : Hid ((fun w' => w'.cell? ⟨w.heap.size + 1,0,none⟩ = some (.slice a8 n8 c8) ∧ w'.cell? ⟨w.heap.size + 1,1,none⟩ = some (.int .i64 t.flags) ∧ w'.cell? ⟨w.heap.size + 1,2,none⟩ = some (.int .i64 t.auth) ∧ w'.cell? ⟨w.heap.size + 1,3,none⟩ = some (.int .i64 t.start) ∧ w'.cell? ⟨w.heap.size + 1,4,none⟩ = some (.int .i64 t.fin) ∧ w'.cell? ⟨w.heap.size + 1,5,none⟩ = some (.int .i64 t.renew) ∧ w'.cell? ⟨w.heap.size + 1,6,none⟩ = some (.int .u64 (t.session.toNat : Int)) ∧ w'.cell? ⟨w.heap.size + 1,7,none⟩ = some (.string ⟨t.client.toArray⟩) ∧ w'.cell? ⟨w.heap.size + 1,8,none⟩ = some (.int .i64 0) ∧ w'.cell? ⟨w.heap.size + 1,9,none⟩ = some (.int .i64 t.flags) ∧ w'.cell? ⟨w.heap.size + 1,10,none⟩ = some (.int .i64 t.auth) ∧ w'.cell? ⟨w.heap.size + 1,11,none⟩ = some (.int .i64 t.start) ∧ w'.cell? ⟨w.heap.size + 1,12,none⟩ = some (.int .i64 t.fin) ∧ w'.cell? ⟨w.heap.size + 1,13,none⟩ = some (.int .i64 t.renew) ∧ w'.cell? ⟨w.heap.size + 1,14,none⟩ = some (.int .u64 (t.session.toNat : Int)) ∧ w'.cell? ⟨w.heap.size + 1,15,none⟩ = some (.string ⟨s.name.toArray⟩) ∧ w'.cell? ⟨w.heap.size + 1,16,none⟩ = some (.int .i64 nonce) ∧ w'.cell? ⟨w10.heap.size,6,none⟩ = some (.string ⟨t.client.toArray⟩) ∧ w'.cell? ⟨w12.heap.size,6,none⟩ = some (.string ⟨s.name.toArray⟩)) V) := HSk.out _ (CF.of_gb (World.grownBy.refl _ _) _)
 have HS0 : Hid ((fun w' => w'.cell? ⟨w.heap.size + 1,0,none⟩ = some (.slice a8 n8 c8) ∧ w'.cell? ⟨w.heap.size + 1,1,none⟩ = some (.int .i64 t.flags) ∧ w'.cell? ⟨w.heap.size + 1,2,none⟩ = some (.int .i64 t.auth) ∧ w'.cell? ⟨w.heap.size + 1,3,none⟩ = some (.int .i64 t.start) ∧ w'.cell? ⟨w.heap.size + 1,4,none⟩ = some (.int .i64 t.fin) ∧ w'.cell? ⟨w.heap.size + 1,5,none⟩ = some (.int .i64 t.renew) ∧ w'.cell? ⟨w.heap.size + 1,6,none⟩ = some (.int .u64 (t.session.toNat : Int)) ∧ w'.cell? ⟨w.heap.size + 1,7,none⟩ = some (.string ⟨t.client.toArray⟩) ∧ w'.cell? ⟨w.heap.size + 1,8,none⟩ = some (.int .i64 0) ∧ w'.cell? ⟨w.heap.size + 1,9,none⟩ = some (.int .i64 t.flags) ∧ w'.cell? ⟨w.heap.size + 1,10,none⟩ = some (.int .i64 t.auth) ∧ w'.cell? ⟨w.heap.size + 1,11,none⟩ = some (.int .i64 t.start) ∧ w'.cell? ⟨w.heap.size + 1,12,none⟩ = some (.int .i64 t.fin) ∧ w'.cell? ⟨w.heap.size + 1,13,none⟩ = some (.int .i64 t.renew) ∧ w'.cell? ⟨w.heap.size + 1,14,none⟩ = some (.int .u64 (t.session.toNat : Int)) ∧ w'.cell? ⟨w.heap.size + 1,15,none⟩ = some (.string ⟨s.name.toArray⟩) ∧ w'.cell? ⟨w.heap.size + 1,16,none⟩ = some (.int .i64 nonce) ∧ w'.cell? ⟨w10.heap.size,6,none⟩ = some (.string ⟨t.client.toArray⟩) ∧ w'.cell? ⟨w12.heap.size,6,none⟩ = some (.string ⟨s.name.toArray⟩)) V.drew) := HSk.out _ (CF.of_gb (gb_drewN (World.grownBy.refl _ _) 1) _)
 have HS1 : Hid ((fun w' => w'.cell? ⟨w.heap.size + 1,0,none⟩ = some (.slice a8 n8 c8) ∧ w'.cell? ⟨w.heap.size + 1,1,none⟩ = some (.int .i64 t.flags) ∧ w'.cell? ⟨w.heap.size + 1,2,none⟩ = some (.int .i64 t.auth) ∧ w'.cell? ⟨w.heap.size + 1,3,none⟩ = some (.int .i64 t.start) ∧ w'.cell? ⟨w.heap.size + 1,4,none⟩ = some (.int .i64 t.fin) ∧ w'.cell? ⟨w.heap.size + 1,5,none⟩ = some (.int .i64 t.renew) ∧ w'.cell? ⟨w.heap.size + 1,6,none⟩ = some (.int .u64 (t.session.toNat : Int)) ∧ w'.cell? ⟨w.heap.size + 1,7,none⟩ = some (.string ⟨t.client.toArray⟩) ∧ w'.cell? ⟨w.heap.size + 1,8,none⟩ = some (.int .i64 0) ∧ w'.cell? ⟨w.heap.size + 1,9,none⟩ = some (.int .i64 t.flags) ∧ w'.cell? ⟨w.heap.size + 1,10,none⟩ = some (.int .i64 t.auth) ∧ w'.cell? ⟨w.heap.size + 1,11,none⟩ = some (.int .i64 t.start) ∧ w'.cell? ⟨w.heap.size + 1,12,none⟩ = some (.int .i64 t.fin) ∧ w'.cell? ⟨w.heap.size + 1,13,none⟩ = some (.int .i64 t.renew) ∧ w'.cell? ⟨w.heap.size + 1,14,none⟩ = some (.int .u64 (t.session.toNat : Int)) ∧ w'.cell? ⟨w.heap.size + 1,15,none⟩ = some (.string ⟨s.name.toArray⟩) ∧ w'.cell? ⟨w.heap.size + 1,16,none⟩ = some (.int .i64 nonce) ∧ w'.cell? ⟨w10.heap.size,6,none⟩ = some (.string ⟨t.client.toArray⟩) ∧ w'.cell? ⟨w12.heap.size,6,none⟩ = some (.string ⟨s.name.toArray⟩)) (((((((((((((((((V.setCell ⟨w.heap.size,0,none⟩ (.slice a8 n8 c8)).setCell ⟨w.heap.size,1,none⟩ (.int .i64 t.flags)).setCell ⟨w.heap.size,2,none⟩ (.int .i64 t.auth)).setCell ⟨w.heap.size,3,none⟩ (.int .i64 t.start)).setCell ⟨w.heap.size,4,none⟩ (.int .i64 t.fin)).setCell ⟨w.heap.size,5,none⟩ (.int .i64 t.renew)).setCell ⟨w.heap.size,6,none⟩ (.int .u64 (t.session.toNat : Int))).setCell ⟨w.heap.size,7,none⟩ (.string ⟨t.client.toArray⟩)).setCell ⟨w.heap.size,8,none⟩ (.int .i64 0)).setCell ⟨w.heap.size,9,none⟩ (.int .i64 t.flags)).setCell ⟨w.heap.size,10,none⟩ (.int .i64 t.auth)).setCell ⟨w.heap.size,11,none⟩ (.int .i64 t.start)).setCell ⟨w.heap.size,12,none⟩ (.int .i64 t.fin)).setCell ⟨w.heap.size,13,none⟩ (.int .i64 t.renew)).setCell ⟨w.heap.size,14,none⟩ (.int .u64 (t.session.toNat : Int))).setCell ⟨w.heap.size,15,none⟩ (.string ⟨s.name.toArray⟩)).setCell ⟨w.heap.size,16,none⟩ (.int .i64 nonce)).drew) := HSk.out _ (cfD (cfC (CF.of_gb (World.grownBy.refl V none) _) (fun _ => rfl) (.slice a8 n8 c8) (.int .i64 t.flags) (.int .i64 t.auth) (.int .i64 t.start) (.int .i64 t.fin) (.int .i64 t.renew) (.int .u64 (t.session.toNat : Int)) (.string ⟨t.client.toArray⟩) (.int .i64 0) (.int .i64 t.flags) (.int .i64 t.auth) (.int .i64 t.start) (.int .i64 t.fin) (.int .i64 t.renew) (.int .u64 (t.session.toNat : Int)) (.string ⟨s.name.toArray⟩) (.int .i64 nonce)))
 clear HSk
 go_region_held3 (fun w' => w'.cell? ⟨w.heap.size + 1,0,none⟩ = some (.slice a8 n8 c8) ∧ w'.cell? ⟨w.heap.size + 1,1,none⟩ = some (.int .i64 t.flags) ∧ w'.cell? ⟨w.heap.size + 1,2,none⟩ = some (.int .i64 t.auth) ∧ w'.cell? ⟨w.heap.size + 1,3,none⟩ = some (.int .i64 t.start) ∧ w'.cell? ⟨w.heap.size + 1,4,none⟩ = some (.int .i64 t.fin) ∧ w'.cell? ⟨w.heap.size + 1,5,none⟩ = some (.int .i64 t.renew) ∧ w'.cell? ⟨w.heap.size + 1,6,none⟩ = some (.int .u64 (t.session.toNat : Int)) ∧ w'.cell? ⟨w.heap.size + 1,7,none⟩ = some (.string ⟨t.client.toArray⟩) ∧ w'.cell? ⟨w.heap.size + 1,8,none⟩ = some (.int .i64 0) ∧ w'.cell? ⟨w.heap.size + 1,9,none⟩ = some (.int .i64 t.flags) ∧ w'.cell? ⟨w.heap.size + 1,10,none⟩ = some (.int .i64 t.auth) ∧ w'.cell? ⟨w.heap.size + 1,11,none⟩ = some (.int .i64 t.start) ∧ w'.cell? ⟨w.heap.size + 1,12,none⟩ = some (.int .i64 t.fin) ∧ w'.cell? ⟨w.heap.size + 1,13,none⟩ = some (.int .i64 t.renew) ∧ w'.cell? ⟨w.heap.size + 1,14,none⟩ = some (.int .u64 (t.session.toNat : Int)) ∧ w'.cell? ⟨w.heap.size + 1,15,none⟩ = some (.string ⟨s.name.toArray⟩) ∧ w'.cell? ⟨w.heap.size + 1,16,none⟩ = some (.int .i64 nonce) ∧ w'.cell? ⟨w10.heap.size,6,none⟩ = some (.string ⟨t.client.toArray⟩) ∧ w'.cell? ⟨w12.heap.size,6,none⟩ = some (.string ⟨s.name.toArray⟩)) (first | with_reducible exact HSv.out | with_reducible exact HS0.out | with_reducible exact HS1.out) (fail)
 go_wp2
 refine bodyPost_ret (results_celltmp Tryz.results12 _ _ _ w.heap.size rfl _ (Blk.load (Blk.drew (putC HV.out.1.2.2.1 _ _ _ _ _ _ _ _ _ _ _ _ _ _ _ _ _)) 50 _ Tryz.underlying50 rfl Tryz.sizeKCame)) rfl ⟨.slice a8 n8 c8,rfl,?_,?_⟩
 ·exact own_base (KMade.grown (owC HV.out.2.2 (Nat.lt_trans (Nat.lt_succ_self _) Hn7.out) _ _ _ _ _ _ _ _ _ _ _ _ _ _ _ _ _) (gb_drewN (World.grownBy.refl _ _) 1)) (Nat.le_of_lt (Nat.lt_trans (Nat.lt_succ_self _) Hn7.out))
 ·exact gb_drewN (gbC HV.out.2.1 (Nat.le_refl _) _ _ _ _ _ _ _ _ _ _ _ _ _ _ _ _ _) 1
end Go.Proofs.YtpijkgbafjccaaaGreatDoor
