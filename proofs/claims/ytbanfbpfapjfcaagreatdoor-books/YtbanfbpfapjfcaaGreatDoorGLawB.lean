/-
  Contract of a list of bytes more: it gets a mark of its own, and so do three others begun at it, in its spare room as far as there is any. Conditions: nothing else lies in its memory.
-/
import Derived.Test.YtbanfbpfapjfcaaGreatDoorGSep
import Derived.Test.YtbanfbpfapjfcaaGreatDoorGOpen
namespace Go.Proofs.YtbanfbpfapjfcaaGreatDoor
open Go.RowKit
set_option maxRecDepth 100000

theorem Tryz.lEntB : (Tryz.prog.info? 117).map (fun i => (i.zero, i.size, i.bytes)) = some (some (.agg #[.slice none 0 0, .slice none 0 0, .slice none 0 0, .slice none 0 0, .int .u8 0]), 5, 104) := by kernel_rfl

theorem Out.set {w : World} {ao : Option Addr} {n cap : Nat} {p : Option Pl} {bs : List UInt8} (h : Out w (.slice ao n cap) p bs) (k : Nat) (y : UInt8) (hk : k < bs.length) : ∃ b off, ao = some ⟨b, off, none⟩ ∧ w.cell? ⟨b, off + k, none⟩ = some (U8 bs[k]) ∧ w.frozen? ⟨b, off + k, none⟩ = false ∧ Out (w.setCell ⟨b, off + k, none⟩ (U8 y)) (.slice ao n cap) p (bs.set k y) ∧ CF w (w.setCell ⟨b, off + k, none⟩ (U8 y)) (Pl.has p) := by
  rcases h with ⟨_, _, h⟩ | ⟨q, hp, hv, h1, h2, h3, h4⟩
  · subst h; simp at hk
  · injection hv with e1 e2 e3
    subst e1 e3
    have F : CF w (w.setCell ⟨q.g, q.off + k, none⟩ (U8 y)) (Pl.has p) := (CF.refl _ _).setCell _ _ _ (fun _ => ⟨q, hp, rfl, by omega, by omega⟩)
    refine ⟨q.g, q.off, rfl, h4 k _ (by simp [hk]), h3.frozen _, .inr ⟨q, hp, by rw [List.length_set, e2], by rw [List.length_set]; exact h1, h2, h3.cf F, ?_⟩, F⟩
    rw [List.map_set]
    exact range_set h4 k _
theorem Out.marked {w : World} {v : Value} {p : Option Pl} {m : UInt8} {n : Nat} (h : Out w v p (List.replicate n m)) (hn : n ≤ 9223372036854775807) : ∃ s : Sl, v = s.val ∧ s.2.1 = n ∧ MarkedV w (U8 m) s ∧ ∀ b, s.on b → ∃ q, p = some q ∧ q.g = b := by
  rcases h with ⟨hp, rfl, h⟩ | ⟨q, hp, rfl, h1, h2, h3, h4⟩
  · refine ⟨(none, 0, 0), rfl, ?_, ⟨Nat.zero_le _, fun j u hu => by simp at hu⟩, ?_⟩
    · have := congrArg List.length h; simpa using this.symm
    · rintro b ⟨off, e, _⟩; cases e
  · refine ⟨(some ⟨q.g, q.off, none⟩, (List.replicate n m).length, q.cap), rfl, List.length_replicate, ⟨by show (List.replicate n m).length ≤ _; simpa using hn, fun j u hu => ⟨q.g, q.off, rfl, ?_⟩⟩, ?_⟩
    · have hu' : (List.replicate n (U8 m))[j]? = some u := by simpa using hu
      exact h4 j u (by rw [List.map_replicate]; exact hu')
    · rintro b ⟨off, e, _⟩
      injection e with e
      injection e with e _ _
      exact ⟨q, hp, e⟩
theorem MarkedV.km {w w' : World} {u : Value} {s : Sl} (h : MarkedV w u s) (k : KM w w' u) : MarkedV w' u s := by
  refine ⟨h.1, fun j x hx => ?_⟩
  obtain ⟨b, off, e1, e2⟩ := h.2 j x hx
  have : x = u := (List.mem_replicate.1 (List.mem_of_getElem? hx)).2
  subst this
  exact ⟨b, off, e1, k b _ e2⟩
theorem KM.refl (w : World) (u : Value) : KM w w u := fun _ _ h => h
theorem KM.trans {a b c : World} {u : Value} (h : KM a b u) (k : KM b c u) : KM a c u := fun x y e => k x y (h x y e)
theorem KM.of_gb {a b : World} {u : Value} (h : a.grownBy b none) : KM a b u := fun _ _ e => h.cell e (by simp)
theorem Out.km {w w' : World} {ex : Nat → Nat → Prop} {v : Value} {p : Option Pl} {m : UInt8} {n : Nat} (h : Out w v p (List.replicate n m)) (k : KM w w' (U8 m)) (f : CF w w' ex) : Out w' v p (List.replicate n m) := by
  rcases h with h | ⟨q, hp, hv, h1, h2, h3, h4⟩
  · exact .inl h
  · refine .inr ⟨q, hp, hv, h1, h2, h3.cf f, fun j u hu => ?_⟩
    have := h4 j u hu
    rw [List.map_replicate] at hu
    have e : u = U8 m := (List.mem_replicate.1 (List.mem_of_getElem? hu)).2
    subst e
    exact k _ _ this

/-- The block of a place. -/
def Pl.blk (p : Option Pl) : Option Nat := p.map (·.g)
theorem cf_frm {w w' : World} {p : Option Pl} (h : CF w w' (Pl.has p)) : Frm w w' (fun b => Pl.blk p = some b) :=
  ⟨h.os, h.tape, h.output, h.size, fun b hb hx => h.block b hb (fun o e => by obtain ⟨q, hq, e1, _⟩ := e; exact hx (by rw [hq, e1]; rfl))⟩

set_option maxHeartbeats 2000000 in
theorem lbyte_O (base wb n : Nat) (v : Value) (p : Option Pl) (bs : List UInt8) (ents : List EntV) (vb : Value) (cs : Array Value) (w : World)
    (hW : Blk w wb cs) (hcs : cs[2]? = some vb) (hrow : w.ownsRow base 117 5 vb ents.length (evCells ents)) (hne : vb.ownBlock ≠ some wb) (hbase : base ≤ w.heap.size) (hn : Hid (bs.length = n)) (hnl : n ≤ 100000)
    (hO : Out w v p bs) (hB : ∀ g, Pl.blk p = some g → g ≠ wb ∧ vb.ownBlock ≠ some g) (hll : (ents.length + 1) * 112 ≤ 140737488355328) :
    Calls Tryz.prog 72 #[.pointer (some ⟨wb, 2, none⟩), v] w fun e w' => e = .returned (.tuple #[]) ∧ LMore base wb 2 117 isMB (Pl.blk p) vb cs ents w w' := by
  obtain ⟨i0, hif, hz0, hz1, hz2⟩ := info_parts Tryz.info5
  obtain ⟨ie, hie, he0, he1, he2⟩ := info_parts Tryz.lEntB
  obtain ⟨ab, cb, hvb⟩ := own_shape hrow
  subst hvb
  obtain ⟨a, cap, hvv, hcap, hcapm, _, _⟩ := hO.open hn
  subst hvv
  have hc2 : w.cell? ⟨wb, 2, none⟩ = some (.slice ab ents.length cb) := (hW.cell 2).trans hcs
  have hlb : ents.length ≤ 140737488355328 := by omega
  obtain ⟨m, hm⟩ : ∃ m : UInt8, m = UInt8.ofNat (ents.length % 251) := ⟨_, rfl⟩
  have HM : Hid ((ents.length : Int) % 251 = (m.toNat : Int)) := by show _ = _; rw [hm]; exact mark_int _
  clear hm
  have HB := hid hB
  clear hB
  go_enter Tryz.func72, Tryz.ntmps72
  go_wp2
  rw [HM.out]
  go_loopw [5] (fun i wr => ∃ k : Nat, k ≤ n ∧ i = .int .i64 k ∧ Out wr (.slice a n cap) p (List.replicate k m ++ bs.drop k) ∧ CF w wr (Pl.has p)) (fun i _ => n - (intOf i).toNat)
  case atStart => exact ⟨0, Nat.zero_le _, rfl, by simpa using hO, CF.refl _ _⟩
  case round =>
    obtain ⟨k, hk, rfl, hor, hfr⟩ := hrel
    by_cases hlt : k < n
    · have hkI : (k : Int) < (n : Int) := by omega
      have hk0 : (0 : Int) ≤ (k : Int) := by omega
      have hkl : k < (List.replicate k m ++ bs.drop k).length := by have h := hn.out; simp; omega
      obtain ⟨b, off, hab, hck, hfk, hor2, hf2⟩ := hor.set k m hkl
      have hset := replicate_set bs m k (by rw [hn.out]; exact hlt)
      rw [hset] at hor2
      subst hab
      have F2 := hfr.trans hf2 (fun _ _ _ e => e)
      have HO2 := hid hor2
      have HF2 := hid F2
      clear hor hfr hset hor2 F2 hf2 hO
      go_wp2
      go_roundw
      case rel => exact ⟨k + 1, by omega, by go_num, HO2.out, HF2.out⟩
      case measure => simp [intOf]; omega
    · have hkn : k = n := by omega
      subst hkn
      rw [List.drop_of_length_le (by rw [hn.out]; exact Nat.le_refl _), List.append_nil] at hor
      have hs1 : ∀ W : World, Src Tryz.prog 1 32 (.slice (some ⟨W.heap.size, 0, none⟩) 1 1) 1 ((List.replicate 1 m).map U8) (W.alloc (.cells #[.int .u8 (m.toNat : Int)] 5)) :=
        fun W => src_at (P := Tryz.prog) Tryz.underlying32 _ 1 1 (List.replicate 1 m) rfl (bytes_new _ _ _ _ rfl)
      have hs2 : ∀ W : World, Src Tryz.prog 1 32 (.slice (some ⟨W.heap.size, 0, none⟩) 2 2) 2 ((List.replicate 2 m).map U8) (W.alloc (.cells #[.int .u8 (m.toNat : Int), .int .u8 (m.toNat : Int)] 5)) :=
        fun W => src_at (P := Tryz.prog) Tryz.underlying32 _ 2 2 (List.replicate 2 m) rfl (bytes_new _ _ _ _ rfl)
      have HL1 : Hid ((List.replicate k m).length + 1 ≤ 140737488355328) := by show _ ≤ _; simp; omega
      have HL2 : Hid ((List.replicate k m).length + 2 ≤ 140737488355328) := by show _ ≤ _; simp; omega
      have HRep : ∀ j, Hid (List.replicate k m ++ List.replicate j m = List.replicate (k + j) m) := fun j => List.replicate_append_replicate
      clear hc2 hO
      go_wp2_with (first | (at_builtin; refine wpList_append_mark _ rfl (.tmp 27) (.tmp 29) 32 32 rfl 5 i0 Tryz.underlying32 hif hz0 hz1 hz2 _ _ p m (List.replicate k m) 1 rfl rfl (hor.grown (World.grownBy_alloc wr _ none)) 1 (hs1 _) HL1.out ?_; intro v1 w1 R1 K1; have hor1 : Out w1 (.slice a k cap) p (List.replicate k m) := (hor.grown (World.grownBy_alloc wr _ none)).km K1 R1.cf) | (at_builtin; refine wpList_append_mark _ rfl (.tmp 31) (.tmp 34) 32 32 rfl 5 i0 Tryz.underlying32 hif hz0 hz1 hz2 _ _ p m (List.replicate k m) 2 rfl rfl (hor1.grown (World.grownBy_alloc w1 _ none)) 2 (hs2 _) HL2.out ?_; intro v2 w2 R2 K2; have hor2 : Out w2 (.slice a k cap) p (List.replicate k m) := (hor1.grown (World.grownBy_alloc w1 _ none)).km K2 R2.cf))
      rw [(HRep 1).out] at R1
      rw [(HRep 2).out] at R2
      have R1' := R1.before (World.grownBy_alloc wr _ none)
      have R2' := R2.before (World.grownBy_alloc w1 _ none)
      have K1' : KM wr w1 (U8 m) := (KM.of_gb (World.grownBy_alloc wr _ none)).trans K1
      have K2' : KM w1 w2 (U8 m) := (KM.of_gb (World.grownBy_alloc w1 _ none)).trans K2
      clear R1 R2 K1 K2 hor1
      obtain ⟨wo, hwo⟩ : ∃ wo, wo = wr := ⟨wr, rfl⟩
      subst hwo
      go_loopw [8, 9] (fun o i w3 => ∃ j : Nat, j ≤ 64 ∧ i = .int .i64 j ∧ OutMore w2 w3 o p (List.replicate (k + j) m) ∧ KM w2 w3 (U8 m)) (fun _ i _ => 64 - (intOf i).toNat)
      case atStart => exact ⟨0, by omega, rfl, OutMore.refl hor2, KM.refl _ _⟩
      case round =>
        obtain ⟨j, hj, rfl, R3, K3⟩ := hrel
        by_cases hlt64 : j < 64
        · obtain ⟨p3, ho3, hc3⟩ := R3
          have HC3 := hid hc3
          have HL3 : Hid ((List.replicate (k + j) m).length + 1 ≤ 140737488355328) := by show _ ≤ _; simp; omega
          clear hc3
          go_wp2_with (at_builtin; refine wpList_append_mark _ rfl _ _ 32 32 rfl 5 i0 Tryz.underlying32 hif hz0 hz1 hz2 _ _ p3 m (List.replicate (k + j) m) 1 rfl rfl (ho3.grown (World.grownBy_alloc wr _ none)) 1 (hs1 _) HL3.out ?_; intro v4 w4 R4 K4)
          have R : OutMore w2 w4 v4 p (List.replicate (k + (j + 1)) m) := by
            have := OutMore.comp HC3.out (R4.before (World.grownBy_alloc wr _ none)) (by simp)
            rw [List.replicate_append_replicate] at this
            exact this
          have K := K3.trans ((KM.of_gb (World.grownBy_alloc wr _ none)).trans K4)
          clear R4 K4 ho3 HC3 K3
          go_wp2
          go_roundw
          case rel => exact ⟨j + 1, by omega, by go_num, R, K⟩
          case measure => simp [intOf]; omega
        · have hj64 : j = 64 := by omega
          subst hj64
          clear hlt64 hj hs1 hs2 HL1 HL2 HRep
          have F1 := R1'.cf
          have F2 := R2'.cf
          have F3 := R3.cf
          have FF : CF w wr (Pl.has p) := ((hfr.trans F1 (fun _ _ _ e => e)).trans F2 (fun _ _ _ e => e)).trans F3 (fun _ _ _ e => e)
          have sA := hfr.size
          have sB := F1.size
          have sC := F2.size
          have sD := F3.size
          have Fr : Frm w wr (fun b => Pl.blk p = some b) := cf_frm FF
          have hwbw := hW.lt
          have hWr : Blk wr wb cs := hW.kept (Fr.block wb hwbw (fun e => (HB.out _ e).1 rfl))
          have hrowr : wr.ownsRow base 117 5 (.slice ab ents.length cb) ents.length (evCells ents) := own_keep hrow (fun b hb => Fr.block b (hrow.lt b hb).2 (fun e => (HB.out _ e).2 hb))
          have hor3 := hor2.km K3 F3
          obtain ⟨p1, o1, _, q1, _⟩ := R1'
          obtain ⟨p2, o2, _, q2, _⟩ := R2'
          obtain ⟨p3, o3, _, q3, _⟩ := R3
          obtain ⟨⟨z0, n0, c0⟩, hv0, hn0, hm0, hb0'⟩ := hor3.marked (by omega)
          obtain ⟨⟨z1, n1, c1⟩, hv1, hn1, hm1, hb1'⟩ := o1.marked (by omega)
          obtain ⟨⟨z2, n2, c2⟩, hv2, hn2, hm2, hb2'⟩ := o2.marked (by omega)
          obtain ⟨⟨z3, n3, c3⟩, hv3, hn3, hm3, hb3'⟩ := o3.marked (by omega)
          have hm1x := hm1.km (K2'.trans K3)
          have hm2x := hm2.km K3
          change Value.slice a k cap = .slice z0 n0 c0 at hv0
          change v1 = .slice z1 n1 c1 at hv1
          change v2 = .slice z2 n2 c2 at hv2
          change u8 = .slice z3 n3 c3 at hv3
          injection hv0 with y1 y2 y3
          subst y1 y2 y3 hv1 hv2 hv3
          obtain ⟨x, hx⟩ : ∃ x : EntV, x = ⟨(a, k, cap), (z1, n1, c1), (z2, n2, c2), (z3, n3, c3), .int .u8 (m.toNat : Int)⟩ := ⟨_, rfl⟩
          have hxok : x.ok wr := by subst hx; exact ⟨hm0, hm1x, hm2x, hm3⟩
          have HX : Hid (x.cells = [.slice a k cap, .slice z1 n1 c1, .slice z2 n2 c2, .slice z3 n3 c3, .int .u8 (m.toNat : Int)]) := by subst hx; rfl
          have HMK : Hid (isMB x.mark) := by subst hx; exact ⟨_, rfl⟩
          have HXO : XOn x (Pl.blk p) w.heap.size := by
            have hgo : ∀ (pp : Option Pl) (B b : Nat), (pp = p ∨ Pl.fresh B pp) → w.heap.size ≤ B → (∃ q, pp = some q ∧ q.g = b) → Pl.blk p = some b ∨ w.heap.size ≤ b := by
              rintro pp B b h hB ⟨q, hq, e⟩
              rcases h with h | h
              · left; rw [← h, hq, ← e]; rfl
              · right; have := h q hq; omega
            intro b hb
            rw [hx] at hb
            rcases hb with h | h | h | h
            · exact hgo p w.heap.size b (.inl rfl) (Nat.le_refl _) (hb0' b h)
            · exact hgo p1 _ b q1 (by omega) (hb1' b h)
            · exact hgo p2 _ b q2 (by omega) (hb2' b h)
            · exact hgo p3 _ b q3 (by omega) (hb3' b h)
          have hll1 : ents.length + 1 ≤ maxLen := by unfold maxLen; omega
          have hll2 : (ents.length + 1) * 104 ≤ 140737488355328 := by omega
          have hbr : base ≤ wr.heap.size := by omega
          have hcr : wr.cell? ⟨wb, 2, none⟩ = some (.slice ab ents.length cb) := (hWr.cell 2).trans hcs
          clear hx hm0 hm1 hm2 hm3 hm1x hm2x hb0' hb1' hb2' hb3' o1 o2 o3 q1 q2 q3 hor hor2 hor3 hn0 hn1 hn2 hn3 F1 F2 F3 FF hfr K1' K2' K3
          go_wp2_with (at_builtin; refine wpList_append_blk _ rfl _ _ 67 rfl base 117 ie _ 5 104 Tryz.underlying67 hie he0 he1 he2 rfl (by decide) _ _ _ rfl (hrowr.alloc _) ⟨wr.heap.size, 0, none⟩ 1 1 [.slice a k cap, .slice z1 n1 c1, .slice z2 n2 c2, .slice z3 n3 c3, .int .u8 (m.toNat : Int)] rfl rfl (cells_new wr _ _) (by intro u hu; simp at hu; rcases hu with rfl | rfl | rfl | rfl | rfl <;> rfl) (by omega) hll1 hll2 (by simp; omega) ?_; intro vb' w5 hown5 hg5 hblk; obtain ⟨ab', cb', hvb'⟩ := own_shape hown5; subst hvb'; have h5w := (hWr.alloc (.cells #[.slice a k cap, .slice z1 n1 c1, .slice z2 n2 c2, .slice z3 n3 c3, .int .u8 (m.toNat : Int)] 117)).grown hg5 (fun e => hne e.symm); have hc5 : w5.cell? ⟨wb, 2, none⟩ = some (.slice ab ents.length cb) := ((h5w.cell 2).trans hcs); have hf5 := h5w.frozen 2)
          have R : LMore base wb 2 117 isMB (Pl.blk p) (.slice ab ents.length cb) cs ents w (w5.setCell ⟨wb, 2, none⟩ (.slice ab' (ents.length + 1) cb')) := LMore.push hrow.lt hne hwbw Fr hxok HX.out HXO HB.out (World.grownBy_alloc wr _ _) hg5 h5w hown5 hblk.out HMK.out
          clear hblk hown5 hg5 h5w
          go_end0
          exact ⟨rfl, R⟩
end Go.Proofs.YtbanfbpfapjfcaaGreatDoor
