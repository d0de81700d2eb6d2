/-
  
  
  
-/
import Derived.Test.YtpijkgbafjccaaaGreatDoorGTPBookA
import Derived.Test.YtpijkgbafjccaaaGreatDoorGTPNames
import Derived.Test.YtpijkgbafjccaaaGreatDoorGTBlk
import Derived.Shelf.Spec.SlicesInsert
import Derived.Deep.RegionLaw
namespace Go.Proofs.YtpijkgbafjccaaaGreatDoor
open Go.RowKit
set_option maxRecDepth 100000
abbrev polCells (life renew expire flags : Int) : Array Value := #[.int .i64 life,.int .i64 renew,.int .i64 expire,.int .i64 flags]
set_option maxHeartbeats 400000 in
theorem policyOf_any (a : Adm) (w : World) : Calls Tryz.prog 64 #[.agg a.cells] w fun e w' => e = .returned (.agg (polCells a.life a.renew a.expire a.flags)) ∧ w.grownBy w' none := by
 obtain ⟨ak,an,key,life,renew,expire,flags⟩ := a
 simp only [Adm.cells]
 go_enter Tryz.func64,Tryz.ntmps64
 go_wp2
 exact bodyPost_ret (v := .agg #[.int .i64 life,.int .i64 renew,.int .i64 expire,.int .i64 flags]) (by simp [results,Tryz.results64,go_sem]) rfl ⟨rfl,gb_alloc (World.grownBy_alloc w _ none) _⟩
set_option maxHeartbeats 400000 in
theorem mayBe_any (a : Adm) (w : World) (h0 : -9223372036854775808 ≤ a.flags) (h1 : a.flags ≤ 9223372036854775807) : Calls Tryz.prog 76 #[.agg (polCells a.life a.renew a.expire a.flags)] w fun e w' => e = .returned (.bool a.pol) ∧ w.grownBy w' none := by
 obtain ⟨ak,an,key,life,renew,expire,flags⟩ := a
 have HP : Hid (Adm.pol ⟨ak,an,key,life,renew,expire,flags⟩ = decide (0 ≤ life ∧ 0 ≤ renew ∧ 0 ≤ flags ∧ flags < 64)) := rfl
 have hb := andNot63 flags h0 h1
 simp only at h0 h1 ⊢
 by_cases k1 : 0 ≤ life
 ·by_cases k2 : 0 ≤ renew
  ·have HF : Hid (Adm.pol ⟨ak,an,key,life,renew,expire,flags⟩ = decide (0 ≤ flags ∧ flags < 64)) := by show _ = _; rw [HP.out]; simp [k1,k2]
   clear HP
   have HB := hid hb
   cases hv : (bits .andNot .i64 flags 63 == 0)
   all_goals
    have HV := hid (HB.out.symm.trans hv)
    clear hb HB
    go_enter Tryz.func76,Tryz.ntmps76
    go_wp2
    go_ret
    exact ⟨by rw [HF.out,HV.out]; rfl,World.grownBy_alloc w _ none⟩
  ·have HF : Hid (Adm.pol ⟨ak,an,key,life,renew,expire,flags⟩ = false) := by show _ = _; rw [HP.out]; simp [k2]
   clear hb
   go_enter Tryz.func76,Tryz.ntmps76
   go_wp2
   go_ret
   exact ⟨by rw [HF.out]; rfl,World.grownBy_alloc w _ none⟩
 ·have HF : Hid (Adm.pol ⟨ak,an,key,life,renew,expire,flags⟩ = false) := by show _ = _; rw [HP.out]; simp [k1]
  clear hb
  go_enter Tryz.func76,Tryz.ntmps76
  go_wp2
  go_ret
  exact ⟨by rw [HF.out]; rfl,World.grownBy_alloc w _ none⟩
theorem range8 {w : World} {g a : Nat} {c0 c1 c2 c3 c4 c5 c6 c7 : Value} (h0 : w.cell? ⟨g,a,none⟩ = some c0) (h1 : w.cell? ⟨g,a + 1,none⟩ = some c1) (h2 : w.cell? ⟨g,a + 2,none⟩ = some c2) (h3 : w.cell? ⟨g,a + 3,none⟩ = some c3) (h4 : w.cell? ⟨g,a + 4,none⟩ = some c4) (h5 : w.cell? ⟨g,a + 5,none⟩ = some c5) (h6 : w.cell? ⟨g,a + 6,none⟩ = some c6) (h7 : w.cell? ⟨g,a + 7,none⟩ = some c7) :
  w.rangeAt g a [c0,c1,c2,c3,c4,c5,c6,c7] := by
 intro j u hu
 match j,hu with
 | 0,hu => injection hu with hu; subst hu; exact h0
 | 1,hu => injection hu with hu; subst hu; exact h1
 | 2,hu => injection hu with hu; subst hu; exact h2
 | 3,hu => injection hu with hu; subst hu; exact h3
 | 4,hu => injection hu with hu; subst hu; exact h4
 | 5,hu => injection hu with hu; subst hu; exact h5
 | 6,hu => injection hu with hu; subst hu; exact h6
 | 7,hu => injection hu with hu; subst hu; exact h7
 | j + 8,hu => simp at hu
theorem set_same {w : World} {a : Addr} {u : Value} (v : Value) (h : w.cell? a = some u) : (w.setCell a v).cell? a = some v := World.cell?_setCell_same _ _ _ h
theorem set_other {w : World} {g i j : Nat} {u : Value} (v : Value) (h : w.cell? ⟨g,j,none⟩ = some u) (hne : i ≠ j) : (w.setCell ⟨g,i,none⟩ v).cell? ⟨g,j,none⟩ = some u := by
 rw [World.cell?_setCell_other _ _ _ _ (fun e => hne (by injection e))]; exact h
def exB (g o : Nat) (b j : Nat) : Prop := b = g ∧ o ≤ j ∧ j < o + 161
theorem BookAt.setEntry {w w' : World} {g o : Nat} {es : List BE} (h : BookAt w g o es) (i : Nat) (hi : i < es.length) (y : BE) (f : CF w w' (fun b j => b = g ∧ o + i * 8 ≤ j ∧ j < o + i * 8 + 8)) (hy : w'.rangeAt g (o + i * 8) y.pcells) : BookAt w' g o (es.set i y) ∧ CF w w' (exB g o) := by
 have hl := h.len
 refine ⟨⟨h.live.cf f,?_,?_,by rw [List.length_set]; exact hl⟩,f.mono (fun b j _ e => ⟨e.1,by omega,by omega⟩)⟩
 ·intro j u hu
  have hj : j < (es.set i y).length * 8 := by have := (List.getElem?_eq_some_iff.1 hu).1; rwa [beCells_length] at this
  rw [List.length_set] at hj
  have hk : j / 8 < es.length := by omega
  have hd := beCells_get (es.set i y) (j / 8) (j % 8) (by rw [List.length_set]; exact hk) (by omega)
  rw [show j / 8 * 8 + j % 8 = j from by omega,hu] at hd
  by_cases e : j / 8 = i
  ·have e2 : (es.set i y)[j / 8]'(by rw [List.length_set]; exact hk) = y := by
    subst e; simp
   rw [e2] at hd
   have := hy (j % 8) u hd.symm
   rw [show o + i * 8 + j % 8 = o + j from by omega] at this
   exact this
  ·have e2 : (es.set i y)[j / 8]'(by rw [List.length_set]; exact hk) = es[j / 8] := by
    rw [List.getElem_set_ne (fun q => e q.symm)]
   rw [e2,← beCells_get es (j / 8) (j % 8) hk (by omega),show j / 8 * 8 + j % 8 = j from by omega] at hd
   exact f.cell (h.room j u hd.symm) (fun q => by omega)
 ·rw [List.length_set]
  exact f.cell h.count (fun q => by omega)
theorem at_ins_some {es : List BE} (hs : es.Pairwise (fun x y => Op.bytesLess x.name y.name = true)) (l : List UInt8) (h : (BE.at? es l).isSome = true) : ∃ hi : BE.ins es l < es.length,BE.at? es l = some (BE.ins es l) ∧ es[BE.ins es l].name = l := by
 have e := at_ins hs l
 rw [e] at h
 split at h
 ·rename_i hi
  split at h
  ·rename_i hn
   exact ⟨hi,by rw [e,dif_pos hi,if_pos hn],hn⟩
  ·cases h
 ·cases h
set_option maxHeartbeats 1000000 in
theorem rekey_any (g o : Nat) (es : List BE) (l : List UInt8) (S : ByteArray) (key : UInt64) (w : World) (h : BookAt w g o es) (hs : es.Pairwise (fun x y => Op.bytesLess x.name y.name = true)) (hS : Hid (S = ⟨l.toArray⟩)) (hnum : ∀ e ∈ es,1 ≤ e.number ∧ e.number ≤ 4611686018427387904) :
  Calls Tryz.prog 62 #[.pointer (some ⟨g,o,none⟩),.string S,.int .u64 (key.toNat : Int)] w fun e w' =>
   ((BE.at? es l).isSome = false → e = .returned (.int .i64 6) ∧ w.grownBy w' none) ∧ (∀ i (hi : i < es.length),BE.at? es l = some i → e = .returned (.int .i64 0) ∧ BookAt w' g o (es.set i (es[i].rekeyed key)) ∧ CF w w' (exB g o)) := by
 have HSo := hid hs
 have HNum := hid hnum
 clear hs hnum
 go_enter Tryz.func62,Tryz.ntmps62
 go_wp2_with fail
 refine (place_any g o es l S w h HSo.out hS).mono ?_
 rintro e w1 ⟨rfl,hg1⟩
 have h1 := h.grown hg1
 cases hat : (BE.at? es l).isSome
 ·have HA := hid hat
  go_wp2
  go_ret
  exact ⟨fun _ => ⟨rfl,hg1⟩,fun i hi q => by have := HA.out; rw [q] at this; cases this⟩
 ·obtain ⟨hi,he,hn⟩ := at_ins_some HSo.out l hat
  have HE := hid he
  have HA := hid hat
  obtain ⟨i,HI⟩ : ∃ i,Hid (i = BE.ins es l) := ⟨_,hid rfl⟩
  have hil : i < es.length := by rw [HI.out]; exact hi
  have HE' : Hid (BE.at? es l = some i) := by show _ = _; rw [HI.out]; exact HE.out
  have hent := h1.entry i hil
  have hnx := HNum.out _ (List.getElem_mem hil)
  have hl20 := h1.len
  obtain ⟨x,HX⟩ : ∃ x,Hid (x = es[i]) := ⟨_,hid rfl⟩
  rw [← HX.out] at hent hnx
  obtain ⟨name,number,kk,before,life,renew,expire,flags⟩ := x
  obtain ⟨n1,n2⟩ := hnx
  simp only at n1 n2
  have k0 : w1.cell? ⟨g,o + i * 8,none⟩ = some (.string ⟨name.toArray⟩) := hent 0 _ rfl
  have k1 : w1.cell? ⟨g,o + i * 8 + 1,none⟩ = some (.int .i64 number) := hent 1 _ rfl
  have k2 : w1.cell? ⟨g,o + i * 8 + 2,none⟩ = some (.int .u64 (kk.toNat : Int)) := hent 2 _ rfl
  have k3 : w1.cell? ⟨g,o + i * 8 + 3,none⟩ = some (.int .u64 (before.toNat : Int)) := hent 3 _ rfl
  have k4 : w1.cell? ⟨g,o + i * 8 + 4,none⟩ = some (.int .i64 life) := hent 4 _ rfl
  have k5 : w1.cell? ⟨g,o + i * 8 + 5,none⟩ = some (.int .i64 renew) := hent 5 _ rfl
  have k6 : w1.cell? ⟨g,o + i * 8 + 6,none⟩ = some (.int .i64 expire) := hent 6 _ rfl
  have k7 : w1.cell? ⟨g,o + i * 8 + 7,none⟩ = some (.int .i64 flags) := hent 7 _ rfl
  have fz : ∀ j,w1.frozen? ⟨g,j,none⟩ = false := fun j => h1.live.frozen j
  have hiI : (i : Int) < 20 := by omega
  have hi0 : (0 : Int) ≤ (i : Int) := by omega
  have R : Hid (BookAt (((w1.setCell ⟨g,o + i * 8 + 1,none⟩ (.int .i64 (number + 1))).setCell ⟨g,o + i * 8 + 3,none⟩ (.int .u64 (kk.toNat : Int))).setCell ⟨g,o + i * 8 + 2,none⟩ (.int .u64 (key.toNat : Int))) g o (es.set i (es[i].rekeyed key)) ∧ CF w (((w1.setCell ⟨g,o + i * 8 + 1,none⟩ (.int .i64 (number + 1))).setCell ⟨g,o + i * 8 + 3,none⟩ (.int .u64 (kk.toNat : Int))).setCell ⟨g,o + i * 8 + 2,none⟩ (.int .u64 (key.toNat : Int))) (exB g o)) := by
   have hr : w1.rangeAt g (o + i * 8) (BE.pcells ⟨name,number,kk,before,life,renew,expire,flags⟩) := hent
   have Q := h1.setEntry (w' := ((w1.setCell ⟨g,o + i * 8 + 1,none⟩ (.int .i64 (number + 1))).setCell ⟨g,o + i * 8 + 3,none⟩ (.int .u64 (kk.toNat : Int))).setCell ⟨g,o + i * 8 + 2,none⟩ (.int .u64 (key.toNat : Int))) i hil (es[i].rekeyed key)
    ((((CF.refl _ _).setCell _ _ _ (fun _ => ⟨rfl,by omega,by omega⟩)).setCell _ _ _ (fun _ => ⟨rfl,by omega,by omega⟩)).setCell _ _ _ (fun _ => ⟨rfl,by omega,by omega⟩))
    (by
     rw [← HX.out]
     refine range8 ?_ ?_ ?_ ?_ ?_ ?_ ?_ ?_
     ·exact set_other _ (set_other _ (set_other _ k0 (by omega)) (by omega)) (by omega)
     ·exact set_other _ (set_other _ (set_same _ k1) (by omega)) (by omega)
     ·exact set_same _ (set_other _ (set_other _ k2 (by omega)) (by omega))
     ·exact set_other _ (set_same _ (set_other _ k3 (by omega))) (by omega)
     ·exact set_other _ (set_other _ (set_other _ k4 (by omega)) (by omega)) (by omega)
     ·exact set_other _ (set_other _ (set_other _ k5 (by omega)) (by omega)) (by omega)
     ·exact set_other _ (set_other _ (set_other _ k6 (by omega)) (by omega)) (by omega)
     ·exact set_other _ (set_other _ (set_other _ k7 (by omega)) (by omega)) (by omega))
   exact ⟨Q.1,CF.before hg1 Q.2⟩
  rw [← HI.out]
  have f1 := fz (o + i * 8 + 1)
  have f2 := fz (o + i * 8 + 2)
  have f3 := fz (o + i * 8 + 3)
  clear hent h h1 hg1 he hn hi hat HE fz HX
  go_wp2
  go_ret
  exact ⟨fun q => absurd (q.symm.trans HA.out) (by simp),fun j hj q => by have e := HE'.out.symm.trans q; injection e with e; subst e; exact ⟨rfl,R.out.1,R.out.2⟩⟩
end Go.Proofs.YtpijkgbafjccaaaGreatDoor
namespace Go.Proofs.YtpijkgbafjccaaaGreatDoor
open Go.RowKit
set_option maxRecDepth 100000
theorem BookAt.eight {w : World} {g o : Nat} {es : List BE} (h : BookAt w g o es) (i : Nat) (hi : i < es.length) (x : BE) (hx : x = es[i]) :
  w.cell? ⟨g,o + i * 8,none⟩ = some (.string ⟨x.name.toArray⟩) ∧ w.cell? ⟨g,o + i * 8 + 1,none⟩ = some (.int .i64 x.number) ∧ w.cell? ⟨g,o + i * 8 + 2,none⟩ = some (.int .u64 (x.key.toNat : Int)) ∧ w.cell? ⟨g,o + i * 8 + 3,none⟩ = some (.int .u64 (x.before.toNat : Int)) ∧ w.cell? ⟨g,o + i * 8 + 4,none⟩ = some (.int .i64 x.life) ∧ w.cell? ⟨g,o + i * 8 + 5,none⟩ = some (.int .i64 x.renew) ∧ w.cell? ⟨g,o + i * 8 + 6,none⟩ = some (.int .i64 x.expire) ∧ w.cell? ⟨g,o + i * 8 + 7,none⟩ = some (.int .i64 x.flags) := by
 have hent := h.entry i hi
 subst hx
 exact ⟨hent 0 _ rfl,hent 1 _ rfl,hent 2 _ rfl,hent 3 _ rfl,hent 4 _ rfl,hent 5 _ rfl,hent 6 _ rfl,hent 7 _ rfl⟩
theorem gb_cell {w w' : World} (h : w.grownBy w' none) {b o : Nat} {v : Value} (hc : w.cell? ⟨b,o,none⟩ = some v) : w'.cell? ⟨b,o,none⟩ = some v := (CF.of_gb h (fun _ _ => False)).cell hc (fun e => e)
set_option maxHeartbeats 1000000 in
theorem repolicy_any (g o : Nat) (es : List BE) (l : List UInt8) (S : ByteArray) (a : Adm) (w : World) (h : BookAt w g o es) (hs : es.Pairwise (fun x y => Op.bytesLess x.name y.name = true)) (hS : Hid (S = ⟨l.toArray⟩)) (hf0 : -9223372036854775808 ≤ a.flags) (hf1 : a.flags ≤ 9223372036854775807) :
  Calls Tryz.prog 63 #[.pointer (some ⟨g,o,none⟩),.string S,.agg (polCells a.life a.renew a.expire a.flags)] w fun e w' =>
   ((BE.at? es l).isSome = false → e = .returned (.int .i64 6) ∧ w.grownBy w' none) ∧ ((BE.at? es l).isSome = true → a.pol = false → e = .returned (.int .i64 1) ∧ w.grownBy w' none) ∧ (∀ i (hi : i < es.length),BE.at? es l = some i → a.pol = true → e = .returned (.int .i64 0) ∧ BookAt w' g o (es.set i (es[i].repol a)) ∧ CF w w' (exB g o)) := by
 have HSo := hid hs
 have hne : w.heap.size ≠ g := fun e => by have := h.live.lt; omega
 have G0 := World.grownBy_alloc w (.cells (polCells a.life a.renew a.expire a.flags) 88) none
 have hB := h.grown G0
 have M := fun w => mayBe_any a w hf0 hf1
 obtain ⟨ak,an,key,pl,pr,pe,pf⟩ := a
 simp only at M hf0 hf1 G0 hB ⊢
 have c0 : (w.alloc (.cells #[.int .i64 pl,.int .i64 pr,.int .i64 pe,.int .i64 pf] 88)).cell? ⟨w.heap.size,0,none⟩ = some (.int .i64 pl) := by simp [go_sem]
 have c1 : (w.alloc (.cells #[.int .i64 pl,.int .i64 pr,.int .i64 pe,.int .i64 pf] 88)).cell? ⟨w.heap.size,1,none⟩ = some (.int .i64 pr) := by simp [go_sem]
 have c2 : (w.alloc (.cells #[.int .i64 pl,.int .i64 pr,.int .i64 pe,.int .i64 pf] 88)).cell? ⟨w.heap.size,2,none⟩ = some (.int .i64 pe) := by simp [go_sem]
 have c3 : (w.alloc (.cells #[.int .i64 pl,.int .i64 pr,.int .i64 pe,.int .i64 pf] 88)).cell? ⟨w.heap.size,3,none⟩ = some (.int .i64 pf) := by simp [go_sem]
 have HC := hid (And.intro c0 (And.intro c1 (And.intro c2 c3)))
 have HG := hid G0
 have HBk := hid hB
 clear hs h c0 c1 c2 c3 G0 hB
 go_enter Tryz.func63,Tryz.ntmps63
 go_wp2_with fail
 refine (place_any g o es l S _ HBk.out HSo.out hS).mono ?_
 rintro e w1 ⟨rfl,hg1⟩
 have h1 := HBk.out.grown hg1
 have hp0 := gb_cell hg1 HC.out.1
 have hp1 := gb_cell hg1 HC.out.2.1
 have hp2 := gb_cell hg1 HC.out.2.2.1
 have hp3 := gb_cell hg1 HC.out.2.2.2
 have G1 := hid (gb_trans HG.out hg1)
 clear HBk HC HG hg1
 cases hat : (BE.at? es l).isSome
 ·have HA := hid hat
  go_wp2
  go_ret
  exact ⟨fun _ => ⟨rfl,G1.out⟩,fun q => absurd (q.symm.trans HA.out) (by simp),fun i hi q => by have := HA.out; rw [q] at this; cases this⟩
 ·obtain ⟨hi,he,hn⟩ := at_ins_some HSo.out l hat
  have HA := hid hat
  obtain ⟨i,HI⟩ : ∃ i,Hid (i = BE.ins es l) := ⟨_,hid rfl⟩
  have hil : i < es.length := by rw [HI.out]; exact hi
  have HE : Hid (BE.at? es l = some i) := by show _ = _; rw [HI.out]; exact he
  have HB1 := hid h1
  rw [← HI.out]
  clear he hn hi hat h1
  go_wp2_with fail
  refine (M _).mono ?_
  rintro e w2 ⟨rfl,hg2⟩
  have h2 := HB1.out.grown hg2
  have hq0 := gb_cell hg2 hp0
  have hq1 := gb_cell hg2 hp1
  have hq2 := gb_cell hg2 hp2
  have hq3 := gb_cell hg2 hp3
  have G2 := hid (gb_trans G1.out hg2)
  clear HB1 hp0 hp1 hp2 hp3 G1 hg2
  cases hpol : Adm.pol ⟨ak,an,key,pl,pr,pe,pf⟩
  ·have HP := hid hpol
   go_wp2
   go_ret
   exact ⟨fun q => absurd (q.symm.trans HA.out) (by simp),fun _ _ => ⟨rfl,G2.out⟩,fun i hi q q2 => absurd (q2.symm.trans HP.out) (by simp)⟩
  ·have HP := hid hpol
   have hl20 := h2.len
   obtain ⟨x,HX⟩ : ∃ x,Hid (x = es[i]) := ⟨_,hid rfl⟩
   obtain ⟨k0,k1,k2,k3,k4,k5,k6,k7⟩ := h2.eight i hil x HX.out
   have f4 := h2.live.frozen (o + i * 8 + 4)
   have f5 := h2.live.frozen (o + i * 8 + 5)
   have f6 := h2.live.frozen (o + i * 8 + 6)
   have f7 := h2.live.frozen (o + i * 8 + 7)
   have hiI : (i : Int) < 20 := by omega
   have hi0 : (0 : Int) ≤ (i : Int) := by omega
   have HB2 := hid h2
   clear h2 hpol M
   go_wp2
   go_region
   go_wp2
   go_ret
   have R : BookAt ((((w2.setCell ⟨g,o + i * 8 + 4,none⟩ (.int .i64 pl)).setCell ⟨g,o + i * 8 + 4 + 1,none⟩ (.int .i64 pr)).setCell ⟨g,o + i * 8 + 4 + 2,none⟩ (.int .i64 pe)).setCell ⟨g,o + i * 8 + 4 + 3,none⟩ (.int .i64 pf)) g o (es.set i (es[i].repol ⟨ak,an,key,pl,pr,pe,pf⟩)) ∧ CF w2 ((((w2.setCell ⟨g,o + i * 8 + 4,none⟩ (.int .i64 pl)).setCell ⟨g,o + i * 8 + 4 + 1,none⟩ (.int .i64 pr)).setCell ⟨g,o + i * 8 + 4 + 2,none⟩ (.int .i64 pe)).setCell ⟨g,o + i * 8 + 4 + 3,none⟩ (.int .i64 pf)) (exB g o) := by
    refine HB2.out.setEntry i hil _ (((((CF.refl _ _).setCell _ _ _ (fun _ => ⟨rfl,by omega,by omega⟩)).setCell _ _ _ (fun _ => ⟨rfl,by omega,by omega⟩)).setCell _ _ _ (fun _ => ⟨rfl,by omega,by omega⟩)).setCell _ _ _ (fun _ => ⟨rfl,by omega,by omega⟩)) ?_
    rw [← HX.out]
    refine range8 ?_ ?_ ?_ ?_ ?_ ?_ ?_ ?_
    ·exact set_other _ (set_other _ (set_other _ (set_other _ k0 (by omega)) (by omega)) (by omega)) (by omega)
    ·exact set_other _ (set_other _ (set_other _ (set_other _ k1 (by omega)) (by omega)) (by omega)) (by omega)
    ·exact set_other _ (set_other _ (set_other _ (set_other _ k2 (by omega)) (by omega)) (by omega)) (by omega)
    ·exact set_other _ (set_other _ (set_other _ (set_other _ k3 (by omega)) (by omega)) (by omega)) (by omega)
    ·exact set_other _ (set_other _ (set_other _ (set_same _ k4) (by omega)) (by omega)) (by omega)
    ·exact set_other _ (set_other _ (set_same _ (set_other _ k5 (by omega))) (by omega)) (by omega)
    ·exact set_other _ (set_same _ (set_other _ (set_other _ k6 (by omega)) (by omega))) (by omega)
    ·exact set_same _ (set_other _ (set_other _ (set_other _ k7 (by omega)) (by omega)) (by omega))
   exact ⟨fun q => absurd (q.symm.trans HA.out) (by simp),fun _ q => absurd (q.symm.trans HP.out) (by simp),fun j hj q _ => by have e := HE.out.symm.trans q; injection e with e; subst e; exact ⟨rfl,R.1.drewN 1,(CF.before G2.out R.2).drew⟩⟩
theorem results_celltmp {fn : Func} {a u : Tmp} {ty : TypeId} (h : fn.results = #[.cell a ty,.tmp u]) (tmps : Array Value) (P : Program) (w : World) (b : Nat) (hp : tmps.getD a undef = .pointer (some ⟨b,0,none⟩)) (x : Value) (hl : (loadVar ty ⟨b,0,none⟩).run P w = .ok x w) :
  (results fn tmps).run P w = .ok (.tuple #[x,tmps.getD u undef]) w := by
 have hp' : tmps[a]?.getD undef = .pointer (some ⟨b,0,none⟩) := by simpa using hp
 simp [results,h,hp',hl,asAddr]
theorem gb_setCells {a : World} (b : Nat) (hb : a.heap.size ≤ b) : ∀ (vs : List Value) (o : Nat) (w : World),a.grownBy w none → a.grownBy (w.setCells b o vs) none := by
 intro vs o w h
 have C := CF.setCells (a := a) (ex := fun _ _ => False) b vs o w (CF.of_gb h _) (fun j _ hlt => by omega)
 exact C.gb (fun _ _ _ e => e)
theorem load_of {P : Program} {w : World} {b : Nat} {cs : List Value} (h : w.rangeAt b 0 cs) (ty : TypeId) (d : TypeDesc) (hu : P.underlying ty = some d) (hd : d.isRow = true) (hi : (P.info? ty).map (·.size) = some cs.length) : (loadVar ty ⟨b,0,none⟩).run P w = .ok (.agg cs.toArray) w := run_loadVar_mid (P := P) w b 0 ty cs d h hu hd hi
theorem eightSet (w : World) (b : Nat) (v0 v1 v2 v3 v4 v5 v6 v7 : Value) {d0 d1 d2 d3 d4 d5 d6 d7 : Value} (q0 : w.cell? ⟨b,0,none⟩ = some d0) (q1 : w.cell? ⟨b,1,none⟩ = some d1) (q2 : w.cell? ⟨b,2,none⟩ = some d2) (q3 : w.cell? ⟨b,3,none⟩ = some d3) (q4 : w.cell? ⟨b,4,none⟩ = some d4) (q5 : w.cell? ⟨b,5,none⟩ = some d5) (q6 : w.cell? ⟨b,6,none⟩ = some d6) (q7 : w.cell? ⟨b,7,none⟩ = some d7) :
  ((((((((w.setCell ⟨b,0,none⟩ v0).setCell ⟨b,1,none⟩ v1).setCell ⟨b,2,none⟩ v2).setCell ⟨b,3,none⟩ v3).setCell ⟨b,4,none⟩ v4).setCell ⟨b,5,none⟩ v5).setCell ⟨b,6,none⟩ v6).setCell ⟨b,7,none⟩ v7).rangeAt b 0 [v0,v1,v2,v3,v4,v5,v6,v7] := by
 refine range8 ?_ ?_ ?_ ?_ ?_ ?_ ?_ ?_ <;> try simp only [Nat.zero_add]
 ·exact set_other _ (set_other _ (set_other _ (set_other _ (set_other _ (set_other _ (set_other _ (set_same _ q0) (by decide)) (by decide)) (by decide)) (by decide)) (by decide)) (by decide)) (by decide)
 ·exact set_other _ (set_other _ (set_other _ (set_other _ (set_other _ (set_other _ (set_same _ (set_other _ q1 (by decide))) (by decide)) (by decide)) (by decide)) (by decide)) (by decide)) (by decide)
 ·exact set_other _ (set_other _ (set_other _ (set_other _ (set_other _ (set_same _ (set_other _ (set_other _ q2 (by decide)) (by decide))) (by decide)) (by decide)) (by decide)) (by decide)) (by decide)
 ·exact set_other _ (set_other _ (set_other _ (set_other _ (set_same _ (set_other _ (set_other _ (set_other _ q3 (by decide)) (by decide)) (by decide))) (by decide)) (by decide)) (by decide)) (by decide)
 ·exact set_other _ (set_other _ (set_other _ (set_same _ (set_other _ (set_other _ (set_other _ (set_other _ q4 (by decide)) (by decide)) (by decide)) (by decide))) (by decide)) (by decide)) (by decide)
 ·exact set_other _ (set_other _ (set_same _ (set_other _ (set_other _ (set_other _ (set_other _ (set_other _ q5 (by decide)) (by decide)) (by decide)) (by decide)) (by decide))) (by decide)) (by decide)
 ·exact set_other _ (set_same _ (set_other _ (set_other _ (set_other _ (set_other _ (set_other _ (set_other _ q6 (by decide)) (by decide)) (by decide)) (by decide)) (by decide)) (by decide))) (by decide)
 ·exact set_same _ (set_other _ (set_other _ (set_other _ (set_other _ (set_other _ (set_other _ (set_other _ q7 (by decide)) (by decide)) (by decide)) (by decide)) (by decide)) (by decide)) (by decide))
abbrev noEntry : Array Value := #[.string ⟨#[]⟩,.int .i64 0,.int .u64 0,.int .u64 0,.int .i64 0,.int .i64 0,.int .i64 0,.int .i64 0]
set_option maxHeartbeats 1000000 in
theorem find_any (g o : Nat) (es : List BE) (l : List UInt8) (S : ByteArray) (w : World) (h : BookAt w g o es) (hs : es.Pairwise (fun x y => Op.bytesLess x.name y.name = true)) (hS : Hid (S = ⟨l.toArray⟩)) :
  Calls Tryz.prog 225 #[.pointer (some ⟨g,o,none⟩),.string S] w fun e w' =>
   ((BE.at? es l).isSome = false → e = .returned (.tuple #[.agg noEntry,.bool false])) ∧ (∀ i (hi : i < es.length),BE.at? es l = some i → e = .returned (.tuple #[.agg (es[i]).pcells.toArray,.bool true])) ∧ w.grownBy w' none := by
 have HSo := hid hs
 have hne : w.heap.size ≠ g := fun e => by have := h.live.lt; omega
 have G0 := hid (World.grownBy_alloc w (.cells noEntry 90) none)
 have HBk := hid (h.grown G0.out)
 clear hs h
 have HL := hid (Live.new w noEntry 90)
 go_enter Tryz.func225,Tryz.ntmps225
 go_wp2_with fail
 refine (place_any g o es l S _ HBk.out HSo.out hS).mono ?_
 rintro e w1 ⟨rfl,hg1⟩
 have h1 := HBk.out.grown hg1
 have G1 := hid (gb_trans G0.out hg1)
 have hL := HL.out.grown hg1
 have hc : ∀ j,j < 8 → ∃ v,w1.cell? ⟨w.heap.size,j,none⟩ = some v := fun j hj => Option.isSome_iff_exists.1 (hL.some j hj)
 have fz := fun j => hL.frozen j
 obtain ⟨d0,q0⟩ := hc 0 (by decide)
 obtain ⟨d1,q1⟩ := hc 1 (by decide)
 obtain ⟨d2,q2⟩ := hc 2 (by decide)
 obtain ⟨d3,q3⟩ := hc 3 (by decide)
 obtain ⟨d4,q4⟩ := hc 4 (by decide)
 obtain ⟨d5,q5⟩ := hc 5 (by decide)
 obtain ⟨d6,q6⟩ := hc 6 (by decide)
 obtain ⟨d7,q7⟩ := hc 7 (by decide)
 have f0 := fz 0
 have f1 := fz 1
 have f2 := fz 2
 have f3 := fz 3
 have f4 := fz 4
 have f5 := fz 5
 have f6 := fz 6
 have f7 := fz 7
 have HR := hid (fun v0 v1 v2 v3 v4 v5 v6 v7 => eightSet w1 w.heap.size v0 v1 v2 v3 v4 v5 v6 v7 q0 q1 q2 q3 q4 q5 q6 q7)
 clear HBk hg1 HL G0 hL hc fz
 cases hat : (BE.at? es l).isSome
 ·have HA := hid hat
  clear h1
  go_wp2
  refine bodyPost_ret (v := .tuple #[.agg noEntry,.bool false]) ?_ rfl ⟨fun _ => rfl,fun i hi q => (by have := HA.out; rw [q] at this; cases this),?_⟩
  ·exact results_celltmp Tryz.results225 _ _ _ w.heap.size rfl _ (load_of (HR.out _ _ _ _ _ _ _ _) 90 _ Tryz.underlying90 rfl Tryz.sizeEntry)
  ·repeat refine gb_store ?_ (Nat.le_refl _)
   exact G1.out
 ·obtain ⟨hi,he,hn⟩ := at_ins_some HSo.out l hat
  obtain ⟨i,HI⟩ : ∃ i,Hid (i = BE.ins es l) := ⟨_,hid rfl⟩
  have hil : i < es.length := by rw [HI.out]; exact hi
  have HE : Hid (BE.at? es l = some i) := by show _ = _; rw [HI.out]; exact he
  have HA := hid hat
  have hl20 := h1.len
  have hiI : (i : Int) < 20 := by omega
  have hi0 : (0 : Int) ≤ (i : Int) := by omega
  obtain ⟨x,HX⟩ : ∃ x,Hid (x = es[i]) := ⟨_,hid rfl⟩
  obtain ⟨k0,k1,k2,k3,k4,k5,k6,k7⟩ := h1.eight i hil x HX.out
  rw [← HI.out]
  clear he hn hi hat h1
  go_wp2
  refine bodyPost_ret (v := .tuple #[.agg x.pcells.toArray,.bool true]) ?_ rfl ⟨fun q => absurd (q.symm.trans HA.out) (by simp),fun j hj q => (by have e := HE.out.symm.trans q; injection e with e; subst e; rw [HX.out]),?_⟩
  ·exact results_celltmp Tryz.results225 _ _ _ w.heap.size rfl _ (load_of (cs := x.pcells) (HR.out _ _ _ _ _ _ _ _) 90 _ Tryz.underlying90 rfl Tryz.sizeEntry)
  ·repeat refine gb_store ?_ (Nat.le_refl _)
   exact G1.out
end Go.Proofs.YtpijkgbafjccaaaGreatDoor
namespace Go.Proofs.YtpijkgbafjccaaaGreatDoor
open Go.RowKit
set_option maxRecDepth 100000
theorem run_copy_many {P : Program} (w : World) (dT sT ty elem : TypeId) (k b o dLen dCap : Nat) (a : Addr) (sLen sCap : Nat) (cs : List Value)
  (hu : P.underlying dT = some (.slice elem)) (hs : (P.info? elem).map (·.size) = some k) (hn : cs.length = Nat.min sLen dLen * k)
  (hsrc : ∀ j v,cs[j]? = some v → w.cell? (a.add j) = some v) (hc : ∀ j,j < cs.length → (w.cell? ⟨b,o + j,none⟩).isSome = true) (hf : ∀ j,j < cs.length → w.frozen? ⟨b,o + j,none⟩ = false) (h1 : ∀ v ∈ cs,v.oneCell' = true) :
  (Builtin.copy_ #[dT,sT] ty #[.slice (some ⟨b,o,none⟩) dLen dCap,.slice (some a) sLen sCap]).run P w = .ok (goInt (Nat.min sLen dLen)) (w.setCells b o cs) := by
 have hl := run_loadCells_list (P := P) w a cs hsrc
 have hst := run_storeCells_cells (P := P) b o cs 0 w (by simpa using hc) (by simpa using hf) h1
 cases hq : P.info? elem with
 | none => simp [hq] at hs
 | some i =>
  have hi : i.size = k := by simpa [hq] using hs
  simp [Builtin.copy_,run_underlying hu,Builtin.lenOf,Builtin.firstCells,sizeOf,typeInfo,hq,hi,← hn,hl,hst]
theorem beCells_one (es : List BE) : ∀ v ∈ beCells es,v.oneCell' = true := by
 intro v hv
 simp only [beCells,List.mem_flatten,List.mem_map] at hv
 obtain ⟨l,⟨e,_,rfl⟩,hv⟩ := hv
 simp only [BE.pcells,List.mem_cons,List.not_mem_nil,or_false] at hv
 rcases hv with rfl | rfl | rfl | rfl | rfl | rfl | rfl | rfl <;> rfl
theorem run_copy_zero {P : Program} (w : World) (dT sT ty elem : TypeId) (k : Nat) (d a : Option Addr) (dLen dCap sLen sCap : Nat) (hu : P.underlying dT = some (.slice elem)) (hs : (P.info? elem).map (·.size) = some k) (hn : Nat.min sLen dLen = 0) :
  (Builtin.copy_ #[dT,sT] ty #[.slice d dLen dCap,.slice a sLen sCap]).run P w = .ok (goInt 0) w := by
 cases hq : P.info? elem with
 | none => simp [hq] at hs
 | some i =>
  have hl : ∀ (x : Addr),(loadCells x 0).run P w = .ok #[] w := fun x => by simpa using run_loadCells_list (P := P) w x [] (by simp)
  cases d <;> cases a <;> simp [Builtin.copy_,run_underlying hu,Builtin.lenOf,Builtin.firstCells,sizeOf,typeInfo,hq,hn,storeCells,hl]
theorem BookAt.copy {w : World} {g o : Nat} {es : List BE} (h : BookAt w g o es) (ty : TypeId) (i j dLen dCap sLen sCap : Nat) (d a : Addr) (hda : 0 < sLen → d = ⟨g,o + j * 8,none⟩ ∧ a = ⟨g,o + i * 8,none⟩) (hs : i + sLen = es.length) (hd : sLen ≤ dLen) (hj : j + sLen ≤ 20) :
  (Builtin.copy_ #[150,150] ty #[.slice (some d) dLen dCap,.slice (some a) sLen sCap]).run Tryz.prog w = .ok (goInt sLen) (w.setCells g (o + j * 8) (beCells (es.drop i))) := by
 have hlen : (beCells (es.drop i)).length = sLen * 8 := by rw [beCells_length,List.length_drop,← hs,Nat.add_sub_cancel_left]
 have hm : Nat.min sLen dLen = sLen := Nat.min_eq_left hd
 rcases Nat.eq_zero_or_pos sLen with h0 | h0
 ·have e : beCells (es.drop i) = [] := List.eq_nil_of_length_eq_zero (by rw [hlen,h0])
  rw [e,h0]
  exact run_copy_zero (P := Tryz.prog) w 150 150 ty 90 8 (some d) (some a) dLen dCap 0 sCap Tryz.underlying150 Tryz.sizeEntry (Nat.zero_min _)
 obtain ⟨rfl,rfl⟩ := hda h0
 have := run_copy_many (P := Tryz.prog) w 150 150 ty 90 8 g (o + j * 8) dLen dCap ⟨g,o + i * 8,none⟩ sLen sCap (beCells (es.drop i)) Tryz.underlying150 Tryz.sizeEntry (by rw [hm,hlen])
  (fun q v hv => by
   have hq : q < sLen * 8 := by have := (List.getElem?_eq_some_iff.1 hv).1; rwa [hlen] at this
   have e : (beCells es)[i * 8 + q]? = some v := by
    conv => lhs; rw [← List.take_append_drop i es,beCells_append]
    rw [List.getElem?_append_right (by rw [beCells_length,List.length_take]; omega),beCells_length,List.length_take,show i * 8 + q - min i es.length * 8 = q from by rw [Nat.min_eq_left (by omega)]; omega]
    exact hv
   have := h.room _ _ e
   rw [← Nat.add_assoc] at this
   have ha : (⟨g,o + i * 8,none⟩ : Addr).add q = ⟨g,o + i * 8 + q,none⟩ := by unfold Addr.add; split <;> simp_all
   rw [ha]
   exact this)
  (fun q hq => h.live.some _ (by rw [hlen] at hq; omega)) (fun q _ => h.live.frozen _) (beCells_one _)
 rw [hm] at this
 exact this
theorem room_from (g o k : Nat) (hk : k ≤ 20) : ∃ a : Addr,(∀ w,(Instr.sliceAt 91 (.pointer (some ⟨g,o,none⟩)) (some (.int .i64 (k : Int))) none none).run Tryz.prog w = .ok (.slice (some a) (20 - k) (20 - k)) w) ∧ (k < 20 → a = ⟨g,o + k * 8,none⟩) := by
 refine ⟨if 20 = k then ⟨g,o,none⟩ else (⟨g,o,none⟩ : Addr).add (k * 8),fun w => ?_,fun h => ?_⟩
 ·have e := run_sliceAt_array_l (P := Tryz.prog) w 91 ⟨g,o,none⟩ Tryz.underlying91 .i64 (k : Int) (by omega) (by show (k : Int) ≤ 20; omega)
  rw [e]
  rfl
 ·rw [if_neg (by omega)]
  unfold Addr.add; split <;> simp_all
theorem room_lh (g o k h : Nat) (hk : k ≤ h) (hh : h ≤ 20) : ∃ a : Addr,(∀ w,(Instr.sliceAt 91 (.pointer (some ⟨g,o,none⟩)) (some (.int .i64 (k : Int))) (some (.int .i64 (h : Int))) none).run Tryz.prog w = .ok (.slice (some a) (h - k) (20 - k)) w) ∧ (k < 20 → a = ⟨g,o + k * 8,none⟩) := by
 refine ⟨if 20 = k then ⟨g,o,none⟩ else (⟨g,o,none⟩ : Addr).add (k * 8),fun w => ?_,fun h => ?_⟩
 ·have e := run_sliceAt_array_lh (P := Tryz.prog) w 91 ⟨g,o,none⟩ Tryz.underlying91 .i64 .i64 (k : Int) (h : Int) (by omega) (by omega) (by show (h : Int) ≤ 20; omega)
  rw [e]
  rfl
 ·rw [if_neg (by omega)]
  unfold Addr.add; split <;> simp_all
theorem BookAt.removed {w w2 w4 : World} {g o : Nat} {es : List BE} (h : BookAt w g o es) (i m : Nat) (hm : es.length = m + 1) (hi : i ≤ m) (h2 : w2 = w.setCells g (o + i * 8) (beCells (es.drop (i + 1)))) (f : CF w2 w4 (fun b j => b = g ∧ o + m * 8 ≤ j ∧ j < o + 161)) (hc : w4.cell? ⟨g,o + 160,none⟩ = some (.int .i64 (m : Int))) : BookAt w4 g o (es.take i ++ es.drop (i + 1)) ∧ CF w w4 (exB g o) := by
 have hlen : (beCells (es.drop (i + 1))).length = (m - i) * 8 := by rw [beCells_length,List.length_drop,hm]; congr 1; omega
 have hl20 := h.len
 have f2 : CF w w2 (fun b j => b = g ∧ o + i * 8 ≤ j ∧ j < o + m * 8) := by
  rw [h2]
  exact CF.setCells g _ _ _ (CF.refl _ _) (fun j hj _ => ⟨rfl,by omega,by rw [hlen] at hj; omega⟩)
 have hL : (es.take i ++ es.drop (i + 1)).length = m := by rw [List.length_append,List.length_take,List.length_drop,hm]; omega
 have fA : CF w w4 (exB g o) := (f2.mono (fun b j _ e => ⟨e.1,by omega,by omega⟩)).trans f (fun b j _ e => ⟨e.1,by omega,by omega⟩)
 refine ⟨⟨h.live.cf fA,?_,?_,by omega⟩,fA⟩
 ·rw [beCells_append]
  intro j u hu
  have hT : (beCells (es.take i)).length = i * 8 := by rw [beCells_length,List.length_take,Nat.min_eq_left (by omega)]
  by_cases hj : j < i * 8
  ·rw [List.getElem?_append_left (by rw [hT]; exact hj)] at hu
   have e : (beCells es)[j]? = some u := by
    conv => lhs; rw [← List.take_append_drop i es,beCells_append]
    rw [List.getElem?_append_left (by rw [hT]; exact hj)]
    exact hu
   exact f.cell (f2.cell (h.room j u e) (fun q => by omega)) (fun q => by omega)
  ·rw [List.getElem?_append_right (by rw [hT]; omega),hT] at hu
   have hj2 : j - i * 8 < (m - i) * 8 := by have := (List.getElem?_eq_some_iff.1 hu).1; rwa [hlen] at this
   have e := World.cell?_setCells_in g (beCells (es.drop (i + 1))) (o + i * 8) w (fun q hq => h.live.some _ (by rw [hlen] at hq; omega)) (j - i * 8) (by rw [hlen]; exact hj2)
   rw [← h2,show o + i * 8 + (j - i * 8) = o + j from by omega] at e
   rw [List.getElem?_eq_getElem (by rw [hlen]; exact hj2)] at hu
   exact f.cell (e.trans hu) (fun q => by omega)
 ·rw [hL]; exact hc
theorem BookAt.removed8 {w w2 : World} {g o : Nat} {es : List BE} (h : BookAt w g o es) (i m : Nat) (hm : es.length = m + 1) (hi : i ≤ m) (h2 : w2 = w.setCells g (o + i * 8) (beCells (es.drop (i + 1)))) {u : Value} (hcnt2 : w2.cell? ⟨g,o + 160,none⟩ = some u) {v0 v1 v2 v3 v4 v5 v6 v7 : Value} :
  BookAt (((((((((w2.setCell ⟨g,o + 160,none⟩ (.int .i64 (m : Int))).setCell ⟨g,o + m * 8,none⟩ v0).setCell ⟨g,o + m * 8 + 1,none⟩ v1).setCell ⟨g,o + m * 8 + 2,none⟩ v2).setCell ⟨g,o + m * 8 + 3,none⟩ v3).setCell ⟨g,o + m * 8 + 4,none⟩ v4).setCell ⟨g,o + m * 8 + 5,none⟩ v5).setCell ⟨g,o + m * 8 + 6,none⟩ v6).setCell ⟨g,o + m * 8 + 7,none⟩ v7) g o (es.take i ++ es.drop (i + 1)) ∧ CF w (((((((((w2.setCell ⟨g,o + 160,none⟩ (.int .i64 (m : Int))).setCell ⟨g,o + m * 8,none⟩ v0).setCell ⟨g,o + m * 8 + 1,none⟩ v1).setCell ⟨g,o + m * 8 + 2,none⟩ v2).setCell ⟨g,o + m * 8 + 3,none⟩ v3).setCell ⟨g,o + m * 8 + 4,none⟩ v4).setCell ⟨g,o + m * 8 + 5,none⟩ v5).setCell ⟨g,o + m * 8 + 6,none⟩ v6).setCell ⟨g,o + m * 8 + 7,none⟩ v7) (exB g o) := by
 have hl20 := h.len
 refine h.removed i m hm hi h2 ?_ ?_
 ·exact ((((((((((CF.refl _ _).setCell _ _ _ (fun _ => ⟨rfl,by omega,by omega⟩)).setCell _ _ _ (fun _ => ⟨rfl,by omega,by omega⟩)).setCell _ _ _ (fun _ => ⟨rfl,by omega,by omega⟩)).setCell _ _ _ (fun _ => ⟨rfl,by omega,by omega⟩)).setCell _ _ _ (fun _ => ⟨rfl,by omega,by omega⟩)).setCell _ _ _ (fun _ => ⟨rfl,by omega,by omega⟩)).setCell _ _ _ (fun _ => ⟨rfl,by omega,by omega⟩)).setCell _ _ _ (fun _ => ⟨rfl,by omega,by omega⟩)).setCell _ _ _ (fun _ => ⟨rfl,by omega,by omega⟩))
 ·exact set_other _ (set_other _ (set_other _ (set_other _ (set_other _ (set_other _ (set_other _ (set_other _ (set_same _ hcnt2) (by omega)) (by omega)) (by omega)) (by omega)) (by omega)) (by omega)) (by omega)) (by omega)
set_option maxHeartbeats 1000000 in
theorem remove_any (g o : Nat) (es : List BE) (l : List UInt8) (S : ByteArray) (w : World) (h : BookAt w g o es) (hs : es.Pairwise (fun x y => Op.bytesLess x.name y.name = true)) (hS : Hid (S = ⟨l.toArray⟩)) :
  Calls Tryz.prog 61 #[.pointer (some ⟨g,o,none⟩),.string S] w fun e w' =>
   ((BE.at? es l).isSome = false → e = .returned (.int .i64 6) ∧ w.grownBy w' none) ∧ (∀ i,BE.at? es l = some i → e = .returned (.int .i64 0) ∧ BookAt w' g o (es.take i ++ es.drop (i + 1)) ∧ CF w w' (exB g o)) := by
 have HSo := hid hs
 clear hs
 go_enter Tryz.func61,Tryz.ntmps61
 go_wp2_with fail
 refine (place_any g o es l S _ h HSo.out hS).mono ?_
 rintro e w1 ⟨rfl,hg1⟩
 have h1 := h.grown hg1
 cases hat : (BE.at? es l).isSome
 ·have HA := hid hat
  go_wp2
  go_ret
  exact ⟨fun _ => ⟨rfl,hg1⟩,fun i q => by have := HA.out; rw [q] at this; cases this⟩
 ·obtain ⟨hi,he,hn⟩ := at_ins_some HSo.out l hat
  have HA := hid hat
  obtain ⟨i,HI⟩ : ∃ i,Hid (i = BE.ins es l) := ⟨_,hid rfl⟩
  have hil : i < es.length := by rw [HI.out]; exact hi
  have HE : Hid (BE.at? es l = some i) := by show _ = _; rw [HI.out]; exact he
  have hl20 := h1.len
  obtain ⟨m,HM⟩ : ∃ m,Hid (es.length = m + 1) := ⟨es.length - 1,hid (by omega)⟩
  have hcnt := h1.count
  rw [HM.out] at hcnt hl20 hil
  rw [show ((m + 1 : Nat) : Int) = (m : Int) + 1 from by omega] at hcnt
  have HB := hid h1
  have HG := hid hg1
  rw [← HI.out]
  clear he hn hi hat h h1 hg1
  have hiI : (i : Int) < 20 := by omega
  have hi0 : (0 : Int) ≤ (i : Int) := by omega
  have hmI : (m : Int) < 20 := by omega
  have hm0 : (0 : Int) ≤ (m : Int) := by omega
  have himI : (i : Int) ≤ (m : Int) := by omega
  obtain ⟨d,hd,HD⟩ := room_from g o i (by omega)
  obtain ⟨a,ha,HA2⟩ := room_lh g o (i + 1) (m + 1) (by omega) (by omega)
  have hw : IntKind.i64.wrap ((i : Int) + 1) = (i : Int) + 1 := by rw [IntKind.wrap_i64]; omega
  have hw2 : IntKind.i64.wrap (m : Int) = (m : Int) := by rw [IntKind.wrap_i64]; omega
  have ha' : ∀ w,(Instr.sliceAt 91 (.pointer (some ⟨g,o,none⟩)) (some (.int .i64 ((i : Int) + 1))) (some (.int .i64 ((m : Int) + 1))) none).run Tryz.prog w = .ok (.slice (some a) (m - i) (19 - i)) w := fun w => by
   have := ha w
   rw [show ((i + 1 : Nat) : Int) = (i : Int) + 1 from by omega,show ((m + 1 : Nat) : Int) = (m : Int) + 1 from by omega,show m + 1 - (i + 1) = m - i from by omega,show 20 - (i + 1) = 19 - i from by omega] at this
   exact this
  obtain ⟨w2,HW2⟩ : ∃ w2,Hid (w2 = w1.drew.setCells g (o + i * 8) (beCells (es.drop (i + 1)))) := ⟨_,hid rfl⟩
  have CR := (HB.out.drewN 1).copy 3 (i + 1) i (20 - i) (20 - i) (m - i) (19 - i) d a (fun h0 => ⟨HD (by omega),HA2 (by omega)⟩) (by rw [HM.out]; omega) (by omega) (by omega)
  have CR2 : (Builtin.copy_ #[150,150] 3 #[.slice (some d) (20 - i) (20 - i),.slice (some a) (m - i) (19 - i)]).run Tryz.prog w1.drew = .ok (.int .i64 ((m - i : Nat) : Int)) w2 := by rw [HW2.out]; exact CR
  have hf2 : CF w1 w2 (fun b j => b = g ∧ o + i * 8 ≤ j ∧ j < o + 160) := by
   rw [HW2.out]
   exact CF.setCells g _ _ _ (CF.refl w1 _).drew (fun j hj _ => ⟨rfl,by omega,by rw [beCells_length,List.length_drop,HM.out] at hj; omega⟩)
  have hcnt2 := hf2.cell hcnt (fun q => by omega)
  have hL2 := HB.out.live.cf hf2
  have fz2 := hL2.frozen (o + 160)
  obtain ⟨c0,p0⟩ := Option.isSome_iff_exists.1 (hL2.some (o + m * 8) (by omega))
  obtain ⟨c1,p1⟩ := Option.isSome_iff_exists.1 (hL2.some (o + m * 8 + 1) (by omega))
  obtain ⟨c2,p2⟩ := Option.isSome_iff_exists.1 (hL2.some (o + m * 8 + 2) (by omega))
  obtain ⟨c3,p3⟩ := Option.isSome_iff_exists.1 (hL2.some (o + m * 8 + 3) (by omega))
  obtain ⟨c4,p4⟩ := Option.isSome_iff_exists.1 (hL2.some (o + m * 8 + 4) (by omega))
  obtain ⟨c5,p5⟩ := Option.isSome_iff_exists.1 (hL2.some (o + m * 8 + 5) (by omega))
  obtain ⟨c6,p6⟩ := Option.isSome_iff_exists.1 (hL2.some (o + m * 8 + 6) (by omega))
  obtain ⟨c7,p7⟩ := Option.isSome_iff_exists.1 (hL2.some (o + m * 8 + 7) (by omega))
  have z0 := hL2.frozen (o + m * 8)
  have z1 := hL2.frozen (o + m * 8 + 1)
  have z2 := hL2.frozen (o + m * 8 + 2)
  have z3 := hL2.frozen (o + m * 8 + 3)
  have z4 := hL2.frozen (o + m * 8 + 4)
  have z5 := hL2.frozen (o + m * 8 + 5)
  have z6 := hL2.frozen (o + m * 8 + 6)
  have z7 := hL2.frozen (o + m * 8 + 7)
  have HDA := hid (And.intro HD HA2)
  clear HD HA2 ha CR hf2 hL2
  go_wp2
  go_region
  go_wp2
  go_region
  go_wp2
  go_ret
  have R := BookAt.removed8 (HB.out.drewN 1) i m HM.out (by omega) HW2.out hcnt2 (v0 := .string ⟨#[]⟩) (v1 := .int .i64 0) (v2 := .int .u64 0) (v3 := .int .u64 0) (v4 := .int .i64 0) (v5 := .int .i64 0) (v6 := .int .i64 0) (v7 := .int .i64 0)
  exact ⟨fun q => absurd (q.symm.trans HA.out) (by simp),fun j q => by have e := HE.out.symm.trans q; injection e with e; subst e; exact ⟨rfl,R.1.drewN 1,(CF.before HG.out R.2.undrewN).drew⟩⟩
end Go.Proofs.YtpijkgbafjccaaaGreatDoor
