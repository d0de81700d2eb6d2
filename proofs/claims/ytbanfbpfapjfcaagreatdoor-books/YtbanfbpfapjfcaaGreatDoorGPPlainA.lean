/-
  Contracts of the plain desk's Admin and State. Conditions: in each statement.
  The contract of draws.Of. Conditions: in each statement.
  The contract of desk.New where it refuses. Conditions: in each statement.
  The contract of desk.New where it makes a desk. Conditions: in each statement.
  The contract of NewPlain. Conditions: in each statement.
  The contract of NewPlain at bytes that were lent. Conditions: in each statement.
-/
import Derived.Test.YtbanfbpfapjfcaaGreatDoorGPBookG
import Derived.Test.YtbanfbpfapjfcaaGreatDoorGLaw4
namespace Go.Proofs.YtbanfbpfapjfcaaGreatDoor
open Go.RowKit
set_option maxRecDepth 100000

set_option maxHeartbeats 1000000 in
theorem plainAdmin_any (g : Nat) (es : List BE) (a : Adm) (w : World) (h : BookAt w g 2 es) (hs : es.Pairwise (fun x y => Op.bytesLess x.name y.name = true)) (hnum : ∀ e ∈ es, 1 ≤ e.number ∧ e.number ≤ 4611686018427387904) (hf0 : -9223372036854775808 ≤ a.flags) (hf1 : a.flags ≤ 9223372036854775807) (hl : a.name.length ≤ 9223372036854775807) :
    Calls Tryz.prog 45 #[.pointer (some ⟨g, 0, none⟩), .agg a.cells] w fun e w' => e = .returned (.int .i64 (admB es a).2) ∧ BookAt w' g 2 (admB es a).1 ∧ CF w w' (exB g 2) := by
  have HCh := hid (fun w h => deskAdmin_any g 0 es a w h hs hnum hf0 hf1 hl)
  have G0 := hid (World.grownBy_alloc w (.cells a.cells 61) none)
  have HB := hid (h.grown G0.out)
  have hlt := h.live.lt
  have hne : w.heap.size ≠ g := fun e => by omega
  obtain ⟨c0, c1, c2, c3, c4, c5, c6⟩ := AdmAt.new w a 61
  clear h hs hnum hf0 hf1 hl
  go_enter Tryz.func45, Tryz.ntmps45
  go_wp2_with fail
  go_region_held3 (fun w' => w'.cell? ⟨w.heap.size, 0, none⟩ = some (.int .i64 a.kind) ∧ w'.cell? ⟨w.heap.size, 1, none⟩ = some (.string ⟨a.name.toArray⟩) ∧ w'.cell? ⟨w.heap.size, 2, none⟩ = some (.int .u64 (a.key.toNat : Int)) ∧ w'.cell? ⟨w.heap.size, 3, none⟩ = some (.int .i64 a.life) ∧ w'.cell? ⟨w.heap.size, 4, none⟩ = some (.int .i64 a.renew) ∧ w'.cell? ⟨w.heap.size, 5, none⟩ = some (.int .i64 a.expire) ∧ w'.cell? ⟨w.heap.size, 6, none⟩ = some (.int .i64 a.flags)) (go_keep) (first | (go_at_call 66; refine (HCh.out _ (HB.out.drewN 1)).mono ?_; rintro e w6 ⟨rfl, b6, C6⟩; have e0 := C6.undrew.cell c0 (fun q => hne q.1); have e1 := C6.undrew.cell c1 (fun q => hne q.1); have e2 := C6.undrew.cell c2 (fun q => hne q.1); have e3 := C6.undrew.cell c3 (fun q => hne q.1); have e4 := C6.undrew.cell c4 (fun q => hne q.1); have e5 := C6.undrew.cell c5 (fun q => hne q.1); have e6 := C6.undrew.cell c6 (fun q => hne q.1)))
  go_wp2
  go_ret
  exact ⟨rfl, b6, CF.before G0.out C6.undrew⟩
set_option maxHeartbeats 400000 in
theorem plainAdmin_nil (a : Adm) (w : World) : Calls Tryz.prog 45 #[.pointer none, .agg a.cells] w fun e w' => e = .returned (.int .i64 1) ∧ w.grownBy w' none := by
  have G0 := hid (World.grownBy_alloc w (.cells a.cells 61) none)
  go_enter Tryz.func45, Tryz.ntmps45
  go_wp2
  go_ret
  exact ⟨rfl, G0.out⟩
set_option maxHeartbeats 1000000 in
theorem plainState_any (g : Nat) (dp : Option Pl) (d : DM) (w : World) (h : DeskAt w g 0 dp d) :
    Calls Tryz.prog 43 #[.pointer (some ⟨g, 0, none⟩)] w fun e w' => ∃ bn bu, e = .returned (.agg #[.slice (some ⟨bn, 0, none⟩) d.book.length d.book.length, .slice (some ⟨bu, 0, none⟩) d.book.length d.book.length, .int .i64 d.proofs.length, .int .i64 d.draws.length]) ∧ w'.ownsRow w.heap.size 9 1 (.slice (some ⟨bn, 0, none⟩) d.book.length d.book.length) d.book.length (d.book.map fun x => .string ⟨x.name.toArray⟩) ∧ w'.ownsRow w.heap.size 3 1 (.slice (some ⟨bu, 0, none⟩) d.book.length d.book.length) d.book.length (d.book.map fun x => .int .i64 x.number) ∧ w.grownBy w' none := by
  have G0 := hid (World.grownBy_alloc w (.cells #[.slice none 0 0, .slice none 0 0, .int .i64 0, .int .i64 0] 53) none)
  have HD := hid (h.grown G0.out)
  have HL : Hid (Live (w.alloc (.cells #[.slice none 0 0, .slice none 0 0, .int .i64 0, .int .i64 0] 53)) w.heap.size 4) := Live.new w _ _
  clear h
  go_enter Tryz.func43, Tryz.ntmps43
  go_wp2_with fail
  refine (deskState_any g 0 dp d _ HD.out).mono ?_
  rintro e wx ⟨bn, bu, rfl, oN, oU, gx⟩
  have L := HL.out.grown gx
  obtain ⟨d0, q0⟩ := Option.isSome_iff_exists.1 (L.some 0 (by decide))
  obtain ⟨d1, q1⟩ := Option.isSome_iff_exists.1 (L.some 1 (by decide))
  obtain ⟨d2, q2⟩ := Option.isSome_iff_exists.1 (L.some 2 (by decide))
  obtain ⟨d3, q3⟩ := Option.isSome_iff_exists.1 (L.some 3 (by decide))
  have f0 := L.frozen 0
  have f1 := L.frozen 1
  have f2 := L.frozen 2
  have f3 := L.frozen 3
  have GX := hid (gb_trans G0.out gx)
  have ON := hid oN
  have OU := hid oU
  clear L gx oN oU
  go_wp2
  have s0 : w.heap.size < w.heap.size + 1 := Nat.lt_succ_self _
  have hs : w.heap.size + 1 ≤ (w.alloc (.cells #[.slice none 0 0, .slice none 0 0, .int .i64 0, .int .i64 0] 53)).heap.size := by rw [World.size_alloc]; exact Nat.le_refl _
  have oN1 := own_base ON.out hs
  have oU1 := own_base OU.out hs
  refine bodyPost_ret (results_onecell Tryz.results43 _ _ _ w.heap.size rfl _ (load_of (fourSet wx w.heap.size _ _ _ _ q0 q1 q2 q3) 53 _ Tryz.underlying53 rfl Tryz.sizeState)) rfl ⟨bn, bu, rfl, ?_, ?_, ?_⟩
  · exact own_base (own_store (own_store (own_store (own_store oN1 s0) s0) s0) s0) (Nat.le_succ _)
  · exact own_base (own_store (own_store (own_store (own_store oU1 s0) s0) s0) s0) (Nat.le_succ _)
  · exact gb_store (gb_store (gb_store (gb_store GX.out (Nat.le_refl _)) (Nat.le_refl _)) (Nat.le_refl _)) (Nat.le_refl _)
end Go.Proofs.YtbanfbpfapjfcaaGreatDoor
namespace Go.Proofs.YtbanfbpfapjfcaaGreatDoor
open Go.RowKit
set_option maxRecDepth 100000

theorem Tryz.sizeDraws : (Tryz.prog.info? 134).map (·.size) = some 1 := by kernel_rfl
theorem gb_cellA {w w' : World} (h : w.grownBy w' none) {a : Addr} {v : Value} (hc : w.cell? a = some v) : w'.cell? a = some v := by
  rw [World.cell?_of_block (h.block a.block (World.block_lt_of_cell? w _ hc) (by simp))]; exact hc
set_option maxHeartbeats 1000000 in
theorem of_at (a : Addr) (n c : Nat) (bs : List UInt8) (w : World) (hn : Hid (bs.length = n)) (hbig : n ≤ 140737488355328) (hc : ∀ i, i < n → w.cell? (a.add i) = some (.int .u8 ((bs.map fun z => (z.toNat : Int)).getD i 0))) :
    Calls Tryz.prog 128 #[.slice (some a) n c] w fun e w' => ∃ v, e = .returned (.agg #[v]) ∧ w'.ownsRow w.heap.size 5 1 v n (bs.map U8) ∧ w.grownBy w' none := by
  have G0 := hid (World.grownBy_alloc w (.cells #[.slice none 0 0] 134) none)
  have HL : Hid (Live (w.alloc (.cells #[.slice none 0 0] 134)) w.heap.size 1) := Live.new w _ _
  go_enter Tryz.func128, Tryz.ntmps128
  go_wp2_with fail
  refine (Tryz.bytes_Clone_at a n c (bs.map fun z => (z.toNat : Int)) _ (by rw [List.length_map]; exact hn.out) hbig (fun i hi => ?_)).mono ?_
  · exact gb_cellA G0.out (hc i hi)
  rintro e w1 ⟨v, rfl, own, hnz, hb⟩
  have G1 : World.grownBy (w.alloc (.cells #[.slice none 0 0] 134)) w1 none := ⟨hb.os, hb.tape, hb.output, hb.size, fun b hb' _ => hb.block b hb'⟩
  have L := HL.out.grown G1
  obtain ⟨d0, q0⟩ := Option.isSome_iff_exists.1 (L.some 0 (by decide))
  have f0 := L.frozen 0
  have GX := hid (gb_trans G0.out G1)
  have OW := hid own
  obtain ⟨va, vc, rfl⟩ := own_shape own
  have HZ := hid hnz
  clear own hb L G1 hc hnz
  go_wp2
  have s0 : w.heap.size < w.heap.size + 1 := Nat.lt_succ_self _
  have hs : w.heap.size + 1 ≤ (w.alloc (.cells #[.slice none 0 0] 134)).heap.size := by rw [World.size_alloc]; exact Nat.le_refl _
  have o1 := own_base OW.out hs
  rw [List.map_map] at o1
  obtain ⟨gg, hgg⟩ : ∃ gg, va = some ⟨gg, 0, none⟩ := by
    rcases o1.2 with ⟨hv, _⟩ | ⟨gg, cap, cur, hv, _⟩
    · exact absurd hv HZ.out
    · injection hv with e1 _ _
      exact ⟨gg, e1⟩
  subst hgg
  refine bodyPost_ret (results_onecell Tryz.results128 _ _ _ w.heap.size rfl _ (load_of (cs := [.slice (some ⟨gg, 0, none⟩) n vc]) (fun j u hu => ?_) 134 _ Tryz.underlying134 rfl Tryz.sizeDraws)) rfl ⟨_, rfl, ?_, ?_⟩
  · match j, hu with
    | 0, hu => injection hu with hu; subst hu; exact set_same _ q0
    | j + 1, hu => simp at hu
  · exact own_base (own_store o1 s0) (Nat.le_succ _)
  · exact gb_store GX.out (Nat.le_refl _)
end Go.Proofs.YtbanfbpfapjfcaaGreatDoor
namespace Go.Proofs.YtbanfbpfapjfcaaGreatDoor
open Go.RowKit
set_option maxRecDepth 100000

theorem Tryz.sizeDesk : (Tryz.prog.info? 148).map (·.size) = some 188 := by kernel_rfl
theorem Tryz.zeroDesk : Tryz.zeroCells148.size = 188 := by kernel_rfl
theorem Tryz.zeroDeskOne : Tryz.zeroCells148.all (·.oneCell') = true := by kernel_rfl
theorem run_store_live {P : Program} {W : World} {b n : Nat} (vs : List Value) (h : Live W b n) (hn : vs.length ≤ n) (h1 : ∀ v ∈ vs, v.oneCell' = true) : (storeCells ⟨b, 0, none⟩ vs).run P W = .ok () (W.setCells b 0 vs) := by
  have := run_storeCells_cells (P := P) b 0 vs 0 W (fun j hj => h.some _ (by omega)) (fun j _ => h.frozen _) h1
  simpa using this
set_option maxHeartbeats 1000000 in
theorem deskNew_bad (skew : Int) (v : Value) (w : World) (h : skew < 0 ∨ 300 < skew) :
    Calls Tryz.prog 86 #[.int .i64 skew, v] w fun e w' => ∃ x : Array Value, x.size = 188 ∧ (∀ v ∈ x.toList, v.oneCell' = true) ∧ e = .returned (.tuple #[.agg x, .int .i64 1]) ∧ w.grownBy w' none := by
  have HL := hid (Live.new w Tryz.zeroCells148 148)
  have HO : Hid (∀ v ∈ Tryz.zeroCells148.toList, v.oneCell' = true) := fun v hv => by have := Tryz.zeroDeskOne; rw [Array.all_eq_true_iff_forall_mem] at this; exact this v (Array.mem_toList_iff.1 hv)
  have hst := run_store_live (P := Tryz.prog) Tryz.zeroCells148.toList HL.out (by rw [Array.length_toList]; exact Nat.le_refl _) HO.out
  have G := hid (gb_setCells w.heap.size (Nat.le_refl _) Tryz.zeroCells148.toList 0 _ (World.grownBy_alloc w (.cells Tryz.zeroCells148 148) none))
  have R := hid (World.rangeAt_setCells_same (w.alloc (.cells Tryz.zeroCells148 148)) w.heap.size 0 Tryz.zeroCells148.toList (HL.out.there 0 _ (by rw [Array.length_toList]; omega)))
  have RL := hid (load_of R.out 148 _ Tryz.underlying148 rfl (by rw [Tryz.sizeDesk, Array.length_toList, Tryz.zeroDesk]))
  rcases h with h | h
  · go_enter Tryz.func86, Tryz.ntmps86
    go_wp2
    exact bodyPost_ret (results_celltmp Tryz.results86 _ _ _ w.heap.size rfl _ RL.out) rfl ⟨_, Tryz.zeroDesk, (by first | exact HO.out | (intro v hv; exact HO.out v (Array.mem_toList_iff.2 hv))), rfl, G.out⟩
  · have h0 : ¬ skew < 0 := by omega
    go_enter Tryz.func86, Tryz.ntmps86
    go_wp2
    exact bodyPost_ret (results_celltmp Tryz.results86 _ _ _ w.heap.size rfl _ RL.out) rfl ⟨_, Tryz.zeroDesk, (by first | exact HO.out | (intro v hv; exact HO.out v (Array.mem_toList_iff.2 hv))), rfl, G.out⟩
end Go.Proofs.YtbanfbpfapjfcaaGreatDoor
namespace Go.Proofs.YtbanfbpfapjfcaaGreatDoor
open Go.RowKit
set_option maxRecDepth 100000

/-- The cells of a new desk. -/
def newCells (Z : List Value) (skew : Int) (dv : Value) : List Value := (Z.set 0 (.int .i64 skew)).set 1 dv
theorem newDesk_length (skew : Int) (dv : Value) : (newCells Tryz.zeroCells148.toList skew dv).length = 188 := by
  rw [newCells, List.length_set, List.length_set, Array.length_toList, Tryz.zeroDesk]
theorem newDesk_one (skew : Int) (dv : Value) (h : dv.oneCell' = true) : ∀ v ∈ newCells Tryz.zeroCells148.toList skew dv, v.oneCell' = true := by
  intro v hv
  rcases List.mem_or_eq_of_mem_set hv with hv | rfl
  · rcases List.mem_or_eq_of_mem_set hv with hv | rfl
    · have := Tryz.zeroDeskOne
      rw [Array.all_eq_true_iff_forall_mem] at this
      exact this v (Array.mem_toList_iff.1 hv)
    · rfl
  · exact h
set_option maxHeartbeats 1000000 in
theorem deskNew_ok (skew : Int) (v : Value) (n : Nat) (xs : List Value) (w : World) (h0 : 0 ≤ skew) (h1 : skew ≤ 300) (C : ∀ w1, w.grownBy w1 none → Calls Tryz.prog 128 #[v] w1 fun e w' => ∃ ao c, e = .returned (.agg #[.slice ao n c]) ∧ w'.ownsRow w1.heap.size 5 1 (.slice ao n c) n xs ∧ w1.grownBy w' none) :
    Calls Tryz.prog 86 #[.int .i64 skew, v] w fun e w' => ∃ ao c, e = .returned (.tuple #[.agg (newCells Tryz.zeroCells148.toList skew (.slice ao n c)).toArray, .int .i64 0]) ∧ w'.ownsRow (w.heap.size + 1) 5 1 (.slice ao n c) n xs ∧ w.grownBy w' none := by
  have hn : ¬ skew < 0 := by omega
  have hm : ¬ 300 < skew := by omega
  have HC := hid C
  clear C
  have HL := hid (Live.new w Tryz.zeroCells148 148)
  have G0 := hid (World.grownBy_alloc w (.cells Tryz.zeroCells148 148) none)
  go_enter Tryz.func86, Tryz.ntmps86
  go_wp2_with fail
  refine (HC.out _ G0.out).mono ?_
  rintro e w1 ⟨ao, c, rfl, own, hg1⟩
  have L1 := HL.out.grown hg1
  rw [Tryz.zeroDesk] at L1
  have hst := run_store_live (P := Tryz.prog) (newCells Tryz.zeroCells148.toList skew (.slice ao n c)) L1 (by rw [newDesk_length]; exact Nat.le_refl _) (newDesk_one _ _ rfl)
  have RA := World.rangeAt_setCells_same w1 w.heap.size 0 (newCells Tryz.zeroCells148.toList skew (.slice ao n c)) (L1.there 0 _ (by rw [newDesk_length]; omega))
  have RL := hid (load_of RA 148 _ Tryz.underlying148 rfl (by rw [Tryz.sizeDesk, newDesk_length]))
  have GX := hid (gb_setCells w.heap.size (Nat.le_refl _) (newCells Tryz.zeroCells148.toList skew (.slice ao n c)) 0 w1 (gb_trans G0.out hg1))
  have o1 : w1.ownsRow (w.heap.size + 1) 5 1 (.slice ao n c) n xs := own_base own (by rw [World.size_alloc]; exact Nat.le_refl _)
  have OX : Hid ((w1.setCells w.heap.size 0 (newCells Tryz.zeroCells148.toList skew (.slice ao n c))).ownsRow (w.heap.size + 1) 5 1 (.slice ao n c) n xs) := by
    refine own_keep o1 (fun b hb => ?_)
    have hlt : w.heap.size + 1 ≤ b := by
      rcases o1.2 with ⟨hv, _⟩ | ⟨g', cap, cur, hv, hb', _⟩
      · injection hv with e1 _ _; subst e1; cases hb
      · injection hv with e1 _ _; subst e1; injection hb with hb; subst hb; exact hb'
    exact ((CF.setCells (a := w1) (ex := fun q _ => q = w.heap.size) w.heap.size _ 0 w1 (CF.refl _ _) (fun _ _ _ => rfl)).block b (by
      rcases o1.2 with ⟨hv, _⟩ | ⟨g', cap, cur, hv, _, hg, _⟩
      · injection hv with e1 _ _; subst e1; cases hb
      · injection hv with e1 _ _; subst e1; injection hb with hb; subst hb; exact (Array.getElem?_eq_some_iff.1 hg).1) (fun _ q => by omega))
  unfold newCells at hst RL GX OX
  clear RA L1 own hg1 o1
  go_wp2
  exact bodyPost_ret (results_celltmp Tryz.results86 _ _ _ w.heap.size rfl _ RL.out) rfl ⟨ao, c, rfl, OX.out, GX.out⟩
end Go.Proofs.YtbanfbpfapjfcaaGreatDoor
namespace Go.Proofs.YtbanfbpfapjfcaaGreatDoor
open Go.RowKit
set_option maxRecDepth 100000

theorem fold_set (l : List Value) : ∀ (k : Nat) (Z : Array Value) (i : Nat), k + l.length ≤ Z.size → ((l.zipIdx k).foldl (fun (acc : Array Value) (x : Value × Nat) => acc.setIfInBounds x.snd x.fst) Z)[i]? = if k ≤ i ∧ i < k + l.length then l[i - k]? else Z[i]? := by
  induction l with
  | nil => intro k Z i _; rw [if_neg (by simp only [List.length_nil]; omega)]; rfl
  | cons x l ih =>
    intro k Z i h
    simp only [List.length_cons] at h
    rw [List.zipIdx_cons, List.foldl_cons, ih (k + 1) _ i (by rw [Array.size_setIfInBounds]; omega)]
    simp only [List.length_cons]
    by_cases h1 : k + 1 ≤ i ∧ i < k + 1 + l.length
    · rw [if_pos h1, if_pos (by omega), show i - k = (i - (k + 1)) + 1 from by omega, List.getElem?_cons_succ]
    · rw [if_neg h1]
      by_cases h2 : i = k
      · subst h2
        rw [if_pos (by omega), Nat.sub_self, List.getElem?_cons_zero, Array.getElem?_setIfInBounds_self_of_lt (by omega)]
      · rw [if_neg (by omega), Array.getElem?_setIfInBounds_ne (by omega)]
theorem fold_same (Z cs : Array Value) (h : cs.size = 188) (hZ : Z.size = 188) : Array.foldl (fun cs x => cs.setIfInBounds x.snd x.fst) Z cs.zipIdx 0 188 = cs := by
  have e : Array.foldl (fun (cs : Array Value) (x : Value × Nat) => cs.setIfInBounds x.snd x.fst) Z cs.zipIdx 0 188 = (cs.toList.zipIdx 0).foldl (fun (acc : Array Value) (x : Value × Nat) => acc.setIfInBounds x.snd x.fst) Z := by
    rw [← Array.toList_zipIdx, Array.foldl_toList, Array.size_zipIdx, h]
  rw [e]
  refine Array.ext_getElem? fun i => ?_
  rw [fold_set cs.toList 0 Z i (by rw [Array.length_toList]; omega), Array.length_toList, Nat.zero_add, Nat.sub_zero]
  by_cases hi : i < cs.size
  · rw [if_pos ⟨Nat.zero_le _, hi⟩, Array.getElem?_toList]
  · rw [if_neg (fun q => hi q.2), Array.getElem?_eq_none (by omega), Array.getElem?_eq_none (by omega)]
theorem Tryz.zeroDesk162 : Tryz.zeroCells148[162]? = some (.int .i64 0) := by kernel_rfl
theorem Tryz.zeroDesk187 : Tryz.zeroCells148[187]? = some (.int .i64 0) := by kernel_rfl
theorem Tryz.zeroPlain : Tryz.zeroCells150.size = 188 := by kernel_rfl
/-- A new desk's cells are a desk with an empty book. -/
theorem newDesk_at {W : World} {b : Nat} {Z : Array Value} {skew : Int} {dv : Value} {dp : Option Pl} {bs : List UInt8} (hZ : Z.size = 188) (h1 : Z[162]? = some (.int .i64 0)) (h2 : Z[187]? = some (.int .i64 0)) (hb : Blk W b (newCells Z.toList skew dv).toArray) (ho : Out W dv dp bs) : DeskAt W b 0 dp ⟨skew, [], [], bs⟩ := by
  have hl : Z.toList.length = 188 := by rw [Array.length_toList, hZ]
  have hlen : (newCells Z.toList skew dv).length = 188 := by rw [newCells, List.length_set, List.length_set, hl]
  have hcell : ∀ j, W.cell? ⟨b, j, none⟩ = (newCells Z.toList skew dv)[j]? := fun j => by rw [hb.cell j, List.getElem?_toArray]
  have live : Live W b 188 := by
    obtain ⟨e, he⟩ := hb
    exact ⟨_, e, he, by rw [List.size_toArray, hlen]; exact Nat.le_refl _⟩
  have hfar : ∀ j, 1 < j → (newCells Z.toList skew dv)[j]? = Z[j]? := fun j hj => by
    rw [newCells, List.getElem?_set_ne (by omega), List.getElem?_set_ne (by omega), Array.getElem?_toList]
  refine ⟨live, ?_, ⟨dv, ?_, ho⟩, ⟨live.mono (by omega), fun j u hu => by simp [beCells] at hu, ?_, by simp⟩, fun j u hu => by simp [pfCells] at hu, ?_, by simp⟩
  · rw [hcell, newCells, List.getElem?_set_ne (by omega), List.getElem?_set_self (by omega)]
  · rw [hcell, newCells, List.getElem?_set_self (by rw [List.length_set]; omega)]
  · rw [hcell, hfar _ (by omega)]; exact h1
  · rw [hcell, hfar _ (by omega)]; exact h2
set_option maxHeartbeats 1000000 in
theorem newPlain_ok (skew : Int) (v : Value) (n : Nat) (bs : List UInt8) (w : World) (h0 : 0 ≤ skew) (h1 : skew ≤ 300) (C : ∀ w1, w.grownBy w1 none → Calls Tryz.prog 128 #[v] w1 fun e w' => ∃ ao c, e = .returned (.agg #[.slice ao n c]) ∧ w'.ownsRow w1.heap.size 5 1 (.slice ao n c) n (bs.map U8) ∧ w1.grownBy w' none) :
    Calls Tryz.prog 55 #[.int .i64 skew, v] w fun e w' => ∃ b dp, e = .returned (.tuple #[.pointer (some ⟨b, 0, none⟩), .int .i64 0]) ∧ DeskAt w' b 0 dp ⟨skew, [], [], bs⟩ ∧ w.heap.size ≤ b ∧ Pl.fresh w.heap.size dp ∧ (∀ q, dp = some q → q.g ≠ b) ∧ w.grownBy w' none := by
  have HN := hid (deskNew_ok skew v n (bs.map U8) w h0 h1 C)
  clear C
  go_enter Tryz.func55, Tryz.ntmps55
  go_wp2_with fail
  refine HN.out.mono ?_
  rintro e w1 ⟨ao, c, rfl, own, hg1⟩
  obtain ⟨cs, HCs⟩ : ∃ cs : Array Value, Hid (cs = (newCells Tryz.zeroCells148.toList skew (.slice ao n c)).toArray) := ⟨_, hid rfl⟩
  rw [← HCs.out]
  have L1 := Live.new w1 Tryz.zeroCells148 148
  rw [Tryz.zeroDesk] at L1
  have hcs : cs.size = 188 := by rw [HCs.out, List.size_toArray, newDesk_length]
  have hst := run_store_live (P := Tryz.prog) cs.toList L1 (by rw [Array.length_toList, hcs]; exact Nat.le_refl _) (fun v hv => newDesk_one _ _ rfl v (by rw [HCs.out] at hv; exact hv))
  have RA := World.rangeAt_setCells_same (w1.alloc (.cells Tryz.zeroCells148 148)) w1.heap.size 0 cs.toList (L1.there 0 _ (by rw [Array.length_toList, hcs]; omega))
  have SZ : (Tryz.prog.info? 148).map (·.size) = some cs.toList.length := by rw [Tryz.sizeDesk, Array.length_toList, hcs]
  have GW := hid (gb_setCells w1.heap.size (Nat.le_refl _) cs.toList 0 _ (World.grownBy_alloc w1 (.cells Tryz.zeroCells148 148) none))
  have HX := hid hcs
  have HR := hid (And.intro RA SZ)
  have HOw := hid own
  have HG1 := hid hg1
  clear L1 hcs own hg1 RA SZ HN
  go_wp2_with (refine wpList_load_mid rfl 148 _ rfl w1.heap.size 0 rfl cs.toList _ HR.out.1 Tryz.underlying148 rfl HR.out.2 ?_)
  have GF1 := gb_trans GW.out (World.grownBy_alloc ((w1.alloc (.cells Tryz.zeroCells148 148)).setCells w1.heap.size 0 cs.toList) (.cells (Array.foldl (fun cs x => cs.setIfInBounds x.snd x.fst) Tryz.zeroCells150 cs.zipIdx 0 188) 150) none)
  have BF := Blk.new ((w1.alloc (.cells Tryz.zeroCells148 148)).setCells w1.heap.size 0 cs.toList) (Array.foldl (fun cs x => cs.setIfInBounds x.snd x.fst) Tryz.zeroCells150 cs.zipIdx 0 188) 150
  obtain ⟨dp, HO, hfr⟩ := Out.own HOw.out
  have hq : ∀ q, dp = some q → q.g < w1.heap.size := by
    intro q e
    rcases HO with ⟨h, _⟩ | ⟨q', h, _, _, _, hl, _⟩
    · rw [h] at e; cases e
    · rw [h] at e; cases e; exact hl.lt
  have hsz := GW.out.size
  have hs1 := HG1.out.size
  go_ret2
  refine ⟨_, dp, rfl, newDesk_at Tryz.zeroDesk Tryz.zeroDesk162 Tryz.zeroDesk187 ?_ (HO.cf (CF.of_gb GF1 (fun _ _ => False)) (fun _ _ _ _ e => e)), by omega, fun q e => by have := hfr q e; omega, fun q e => by have := hq q e; omega, gb_trans HG1.out GF1⟩
  have e := fold_same _ _ HX.out Tryz.zeroPlain
  rw [← HCs.out, e]
  rw [e] at BF
  exact BF
set_option maxHeartbeats 1000000 in
theorem newPlain_bad (skew : Int) (v : Value) (w : World) (h : skew < 0 ∨ 300 < skew) :
    Calls Tryz.prog 55 #[.int .i64 skew, v] w fun e w' => e = .returned (.tuple #[.pointer none, .int .i64 1]) ∧ w.grownBy w' none := by
  have HN := hid (deskNew_bad skew v w h)
  clear h
  go_enter Tryz.func55, Tryz.ntmps55
  go_wp2_with fail
  refine HN.out.mono ?_
  rintro e w1 ⟨cs, hcs, h1, rfl, hg1⟩
  have L1 := Live.new w1 Tryz.zeroCells148 148
  rw [Tryz.zeroDesk] at L1
  have hst := run_store_live (P := Tryz.prog) cs.toList L1 (by rw [Array.length_toList, hcs]; exact Nat.le_refl _) h1
  have GW := hid (gb_trans hg1 (gb_setCells w1.heap.size (Nat.le_refl _) cs.toList 0 _ (World.grownBy_alloc w1 (.cells Tryz.zeroCells148 148) none)))
  clear L1 hg1 h1 HN
  go_wp2
  go_ret2
  exact ⟨rfl, GW.out⟩
end Go.Proofs.YtbanfbpfapjfcaaGreatDoor
namespace Go.Proofs.YtbanfbpfapjfcaaGreatDoor
open Go.RowKit
set_option maxRecDepth 100000

set_option maxHeartbeats 1000000 in
theorem of_nil (n c : Nat) (w : World) : Calls Tryz.prog 128 #[.slice none n c] w fun e w' => e = .returned (.agg #[.slice none 0 0]) ∧ w.grownBy w' none := by
  have G0 := hid (World.grownBy_alloc w (.cells #[.slice none 0 0] 134) none)
  have L : Live (w.alloc (.cells #[.slice none 0 0] 134)) w.heap.size 1 := Live.new w _ _
  have f0 := L.frozen 0
  clear L
  go_enter Tryz.func128, Tryz.ntmps128
  go_wp2_with fail
  refine (Tryz.bytes_Clone_nil n c _).mono ?_
  rintro e w1 ⟨rfl, rfl⟩
  go_wp2
  refine bodyPost_ret (results_onecell Tryz.results128 _ _ _ w.heap.size rfl _ (load_of (cs := [.slice none 0 0]) (fun j u hu => ?_) 134 _ Tryz.underlying134 rfl Tryz.sizeDraws)) rfl ⟨rfl, ?_⟩
  · match j, hu with
    | 0, hu => injection hu with hu; subst hu; rw [World.cell?_alloc_at (hn := rfl)]; rfl
    | j + 1, hu => simp at hu
  · exact G0.out
theorem newPlain_lent (skew : Int) (zs : List UInt8) (n : Nat) (a : Option Addr) (cap : Nat) (gB : Option Nat) (w0 w : World) (h0 : 0 ≤ skew) (h1 : skew ≤ 300) (hn : Hid (zs.length = n)) (hl : n ≤ 140737488355328) (h : Lent w0 w a cap zs gB) :
    Calls Tryz.prog 55 #[.int .i64 skew, .slice a n cap] w fun e w' => ∃ b dp, e = .returned (.tuple #[.pointer (some ⟨b, 0, none⟩), .int .i64 0]) ∧ DeskAt w' b 0 dp ⟨skew, [], [], zs⟩ ∧ w.heap.size ≤ b ∧ Pl.fresh w.heap.size dp ∧ (∀ q, dp = some q → q.g ≠ b) ∧ w.grownBy w' none := by
  refine newPlain_ok skew _ n zs w h0 h1 (fun w1 k => ?_)
  have hat := (h.grown k).at
  rcases h with ⟨rfl, rfl, rfl, _⟩ | ⟨g, rfl, _⟩
  · obtain rfl : 0 = n := hn.out
    refine (of_nil 0 0 w1).mono ?_
    rintro e w' ⟨rfl, g⟩
    exact ⟨none, 0, rfl, World.ownsRow_nil _ _ _ _, g⟩
  · refine (of_at ⟨g, 0, none⟩ n cap zs w1 hn hl (fun i hi => ?_)).mono ?_
    · have hi' : i < zs.length := by rw [hn.out]; exact hi
      have := hat.cells i hi'
      have e : (zs.map fun z => (z.toNat : Int)).getD i 0 = (zs[i].toNat : Int) := by
        rw [List.getD_eq_getElem?_getD, List.getElem?_map, List.getElem?_eq_getElem hi']; rfl
      rw [e, Addr.add_lit]
      exact this
    · rintro e w' ⟨v, rfl, own, g⟩
      obtain ⟨ao, c, rfl⟩ := own_shape own
      exact ⟨ao, c, rfl, own, g⟩
end Go.Proofs.YtbanfbpfapjfcaaGreatDoor
