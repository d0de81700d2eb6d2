/-
  A plain desk of the program's and the document's desk beside it: where they lie; one pair more, and one that is turned. Conditions: in each statement.
  Contract of World.plain at a step that does something to the book. Conditions: in each statement.
-/
import Derived.Test.YtbanfbpfapjfcaaGreatDoorGDeskK
import Derived.Test.YtbanfbpfapjfcaaGreatDoorGPPlainA
import Derived.Test.YtbanfbpfapjfcaaGreatDoorGLooks
import Derived.Test.YtbanfbpfapjfcaaGreatDoorGLaw6
import Derived.Deep.RegionHeld3
namespace Go.Proofs.YtbanfbpfapjfcaaGreatDoor
open Go.RowKit
set_option maxRecDepth 100000

theorem DeskAt.keep {w w' : World} {g o : Nat} {dp : Option Pl} {d : DM} (h : DeskAt w g o dp d) (k : ∀ b, b = g ∨ Pl.blk dp = some b → w'.heap[b]? = w.heap[b]?) : DeskAt w' g o dp d := by
  have kg : w'.heap[g]? = w.heap[g]? := k g (.inl rfl)
  have kc : ∀ j, w'.cell? ⟨g, j, none⟩ = w.cell? ⟨g, j, none⟩ := fun j => World.cell?_of_block (a := ⟨g, j, none⟩) kg
  have kl : ∀ {b n}, w'.heap[b]? = w.heap[b]? → Live w b n → Live w' b n := fun e ⟨cur, t, h1, h2⟩ => ⟨cur, t, e.trans h1, h2⟩
  obtain ⟨v, hv, ho⟩ := h.draws
  refine ⟨kl kg h.live, (kc _).trans h.skew, ⟨v, (kc _).trans hv, ?_⟩, ⟨kl kg h.book.live, fun j u hu => (kc _).trans (h.book.room j u hu), (kc _).trans h.book.count, h.book.len⟩, fun j u hu => (kc _).trans (h.proofs j u hu), (kc _).trans h.count, h.few⟩
  rcases ho with ho | ⟨q, hp, hv, h1, h2, h3, h4⟩
  · exact .inl ho
  · have kq : w'.heap[q.g]? = w.heap[q.g]? := k q.g (.inr (by rw [hp]; rfl))
    exact .inr ⟨q, hp, hv, h1, h2, kl kq h3, fun j u hu => (World.cell?_of_block (a := ⟨q.g, q.off + j, none⟩) kq).trans (h4 j u hu)⟩
theorem DeskAt.lt {w : World} {g o : Nat} {dp : Option Pl} {d : DM} (h : DeskAt w g o dp d) {b : Nat} (hb : b = g ∨ Pl.blk dp = some b) : b < w.heap.size := by
  rcases hb with rfl | hb
  · exact h.live.lt
  · obtain ⟨v, _, ho⟩ := h.draws
    rcases ho with ⟨hp, _⟩ | ⟨q, hp, _, _, _, h3, _⟩
    · rw [hp] at hb; cases hb
    · rw [hp] at hb; injection hb with hb; rw [← hb]; exact h3.lt

/-- A pair: where its parts lie, and what both desks are. -/
structure PD where
  pb : Nat
  xb : Nat
  dp : Option Pl
  yb : Nat
  rg : RG
  M : DM
def PD.xf (p : PD) (b : Nat) : Prop := b = p.xb ∨ Pl.blk p.dp = some b
def PD.foot (p : PD) (b : Nat) : Prop := b = p.pb ∨ p.xf b ∨ p.rg.foot p.yb b
structure PD.ok (p : PD) (w : World) : Prop where
  blk : Blk w p.pb #[ptrTo p.xb, ptrTo p.yb, .slice none 0 0]
  x : DeskAt w p.xb 0 p.dp p.M
  y : RD w 0 p.yb p.M p.rg
  dx : Pl.blk p.dp ≠ some p.xb
  px : ¬ p.xf p.pb
  py : ¬ p.rg.foot p.yb p.pb
  xy : ∀ b, p.xf b → ¬ p.rg.foot p.yb b
theorem PD.ok.keep {p : PD} {w w' : World} (h : p.ok w) (k : ∀ b, p.foot b → w'.heap[b]? = w.heap[b]?) : p.ok w' :=
  ⟨h.blk.kept (k _ (.inl rfl)), h.x.keep (fun b hb => k b (.inr (.inl hb))), h.y.keep (fun b hb => k b (.inr (.inr hb))), h.dx, h.px, h.py, h.xy⟩
theorem PD.ok.lt {p : PD} {w : World} (h : p.ok w) {b : Nat} (hb : p.foot b) : b < w.heap.size := by
  rcases hb with rfl | hb | hb
  · exact h.blk.lt
  · exact h.x.lt hb
  · exact (h.y.lt b hb).2
def PD.as (p : PD) : Asrt := ⟨p.ok, p.foot, fun _ _ h k => h.keep k⟩
/-- The plain desks, beside whatever quick ones. -/
def plainD {QP : Type} (qas : QP → Asrt) (qb : QP → Nat) : Desks PD QP := ⟨PD.as, PD.pb, qas, qb⟩

variable {QP : Type} {qas : QP → Asrt} {qb : QP → Nat} {base wb : Nat}
theorem even_part (k : Nat) : (2 * k) % 2 = 0 ∧ (2 * k) / 2 = k := by omega
theorem SepW.part {d : WD PD QP} {w : World} (h : SepW (plainD qas qb) base wb d w) {k : Nat} {p : PD} (hk : d.ps[k]? = some p) : p.ok w := by
  have := h.here (2 * k + 11)
  simp only [WD.C, (even_part k).1, (even_part k).2, if_true] at this
  exact this p hk
theorem WD.foot_part {d : WD PD QP} {k : Nat} {p : PD} (hk : d.ps[k]? = some p) {b : Nat} (hb : p.foot b) : WD.F (plainD qas qb) wb d (2 * k + 11) b := by
  simp only [WD.F, (even_part k).1, (even_part k).2, if_true]
  exact ⟨p, hk, hb⟩
/-- One pair more. -/
theorem SepW.pair {d : WD PD QP} {w w' : World} {p : PD} {pv' : Value} (h : SepW (plainD qas qb) base wb d w) (f : Frm w w' (fun b => b = wb ∨ d.pv.ownBlock = some b))
    (h0 : Blk w' wb (WD.cells { d with pv := pv' })) (h1 : w'.ownsRow base 112 1 pv' (d.ps.length + 1) ((d.ps.map fun p => ptrTo p.pb) ++ [ptrTo p.pb])) (hv : ∀ b, pv'.ownBlock = some b → d.pv.ownBlock = some b ∨ w.heap.size ≤ b)
    (hp : p.ok w') (hpf : ∀ b, p.foot b → w.heap.size ≤ b) (hpv : ∀ b, p.foot b → pv'.ownBlock ≠ some b) : SepW (plainD qas qb) base wb { d with pv := pv', ps := d.ps ++ [p] } w' ∧ Below base w w' := by
  have z := f.size
  have hroom := h.room
  have hwb : WD.F (plainD qas qb) wb d 0 wb := rfl
  have hnew : ∀ b, w.heap.size ≤ b → ∀ j, ¬ WD.F (plainD qas qb) wb d j b := fun b hb j hj => by have := h.lt j b hj; omega
  have hwl := h.lt 0 wb hwb
  have hlast : (d.ps ++ [p])[d.ps.length]? = some p := by simp
  have hF : ∀ b, WD.F (plainD qas qb) wb { d with pv := pv', ps := d.ps ++ [p] } (2 * d.ps.length + 11) b → p.foot b := by
    intro b hb
    simp only [WD.F, (even_part d.ps.length).1, (even_part d.ps.length).2, if_true] at hb
    obtain ⟨p', hp', hb⟩ := hb
    rw [hlast] at hp'
    cases hp'
    exact hb
  have h01 : pv'.ownBlock ≠ some wb := fun e => by
    rcases hv wb e with e | e
    · have := h.one 0 1 wb hwb e; omega
    · omega
  refine ⟨Sep.acts (WD.loc _ base wb) h (fun k => k = 0 ∨ k = 1 ∨ k = 2 * d.ps.length + 11) _ f ?_ ?_ ?_ ?_ ?_, f.below hroom ?_⟩
  · rintro b (e | e)
    · exact .inl ⟨0, .inl rfl, e⟩
    · exact .inl ⟨1, .inr (.inl rfl), e⟩
  · rintro k (rfl | rfl | rfl)
    · exact h0
    · show w'.ownsRow base 112 1 pv' (d.ps ++ [p]).length ((d.ps ++ [p]).map fun p => ptrTo p.pb)
      rw [List.length_append, List.map_append]
      exact h1
    · simp only [WD.C, (even_part d.ps.length).1, (even_part d.ps.length).2, if_true]
      intro p' hp'
      rw [hlast] at hp'
      cases hp'
      exact hp
  · rintro k b (rfl | rfl | rfl) hb
    · have e : b = wb := hb
      subst e
      exact ⟨h.base 0 b hwb, h0.lt, .inl ⟨0, .inl rfl, hwb⟩⟩
    · have e : pv'.ownBlock = some b := hb
      refine ⟨(h1.lt b e).1, (h1.lt b e).2, ?_⟩
      rcases hv b e with e2 | e2
      · exact .inl ⟨1, .inr (.inl rfl), e2⟩
      · exact .inr (hnew b e2)
    · have q := hpf b (hF b hb)
      exact ⟨by omega, hp.lt (hF b hb), .inr (hnew b q)⟩
  · rintro i j b (rfl | rfl | rfl) (rfl | rfl | rfl) hi hj
    · rfl
    · have e : b = wb := hi; subst e; exact absurd hj h01
    · have e : b = wb := hi; subst e; have := hpf b (hF b hj); omega
    · have e : b = wb := hj; subst e; exact absurd hi h01
    · rfl
    · exact absurd hi (hpv b (hF b hj))
    · have e : b = wb := hj; subst e; have := hpf b (hF b hi); omega
    · exact absurd hj (hpv b (hF b hi))
    · rfl
  · intro j hj
    have n0 : j ≠ 0 := fun e => hj (.inl e)
    have n1 : j ≠ 1 := fun e => hj (.inr (.inl e))
    have n2 : j ≠ 2 * d.ps.length + 11 := fun e => hj (.inr (.inr e))
    match j, n0, n1, n2 with
    | 2, _, _, _ => exact ⟨fun q => q, fun _ q => q⟩
    | 3, _, _, _ => exact ⟨fun q => q, fun _ q => q⟩
    | 4, _, _, _ => exact ⟨fun q => q, fun _ q => q⟩
    | 5, _, _, _ => exact ⟨fun q => q, fun _ q => q⟩
    | 6, _, _, _ => exact ⟨fun q => q, fun _ q => q⟩
    | 7, _, _, _ => exact ⟨fun q => q, fun _ q => q⟩
    | 8, _, _, _ => exact ⟨fun q => q, fun _ q => q⟩
    | 9, _, _, _ => exact ⟨fun q => q, fun _ q => q⟩
    | 10, _, _, _ => exact ⟨fun q => q, fun _ q => q⟩
    | k + 11, _, _, n2 =>
      by_cases e : k % 2 = 0
      · have hne : k / 2 ≠ d.ps.length := fun q => n2 (by omega)
        have hget : ∀ p', (d.ps ++ [p])[k / 2]? = some p' → d.ps[k / 2]? = some p' := by
          intro p' hp'
          by_cases hl : k / 2 < d.ps.length
          · rw [List.getElem?_append_left hl] at hp'; exact hp'
          · rw [List.getElem?_eq_none (by rw [List.length_append, List.length_singleton]; omega)] at hp'; cases hp'
        simp only [WD.C, WD.F, e, if_true]
        exact ⟨fun q p' hp' => q p' (hget p' hp'), fun b ⟨p', hp', hb⟩ => ⟨p', hget p' hp', hb⟩⟩
      · simp only [WD.C, WD.F, e, if_false]
        exact ⟨fun q => q, fun _ q => q⟩
  · rintro b (e | e)
    · rw [e]; exact h.base 0 wb hwb
    · exact h.base 1 b e
/-- A pair is turned into another that lies in the same block. -/
theorem SepW.put {d : WD PD QP} {w w' : World} {k : Nat} {p p' : PD} (h : SepW (plainD qas qb) base wb d w) (hk : d.ps[k]? = some p) (f : Frm w w' p.foot) (hp : p'.ok w') (hpb : p'.pb = p.pb) (hpf : ∀ b, p'.foot b → p.foot b ∨ w.heap.size ≤ b) :
    SepW (plainD qas qb) base wb { d with ps := d.ps.set k p' } w' ∧ Below base w w' := by
  have z := f.size
  have hroom := h.room
  have hkl : k < d.ps.length := (List.getElem?_eq_some_iff.1 hk).1
  have hset : (d.ps.set k p')[k]? = some p' := List.getElem?_set_self hkl
  have hnew : ∀ b, w.heap.size ≤ b → ∀ j, ¬ WD.F (plainD qas qb) wb d j b := fun b hb j hj => by have := h.lt j b hj; omega
  have hF : ∀ b, WD.F (plainD qas qb) wb { d with ps := d.ps.set k p' } (2 * k + 11) b → p'.foot b := by
    intro b hb
    simp only [WD.F, (even_part k).1, (even_part k).2, if_true] at hb
    obtain ⟨q, hq, hb⟩ := hb
    rw [hset] at hq
    cases hq
    exact hb
  have hF0 : ∀ b, p.foot b → WD.F (plainD qas qb) wb d (2 * k + 11) b := fun b hb => WD.foot_part hk hb
  refine ⟨Sep.acts (WD.loc _ base wb) h (fun j => j = 2 * k + 11) _ f ?_ ?_ ?_ ?_ ?_, f.below hroom (fun b hb => h.base _ b (hF0 b hb))⟩
  · intro b hb
    exact .inl ⟨_, rfl, hF0 b hb⟩
  · rintro j rfl
    simp only [WD.C, (even_part k).1, (even_part k).2, if_true]
    intro q hq
    rw [hset] at hq
    cases hq
    exact hp
  · rintro j b rfl hb
    have hb := hF b hb
    rcases hpf b hb with e | e
    · exact ⟨h.base _ b (hF0 b e), hp.lt hb, .inl ⟨_, rfl, hF0 b e⟩⟩
    · exact ⟨by omega, hp.lt hb, .inr (hnew b e)⟩
  · rintro i j b rfl rfl _ _
    rfl
  · intro j hj
    match j, hj with
    | 0, _ => exact ⟨fun q => q, fun _ q => q⟩
    | 1, _ =>
      refine ⟨fun q => ?_, fun _ q => q⟩
      show w'.ownsRow base 112 1 d.pv (d.ps.set k p').length ((d.ps.set k p').map fun p => ptrTo p.pb)
      have e : (d.ps.set k p').map (fun p => ptrTo p.pb) = d.ps.map fun p => ptrTo p.pb := by
        rw [List.map_set, hpb]
        refine List.ext_getElem? fun i => ?_
        by_cases hi : i = k
        · subst hi
          rw [List.getElem?_set_self (by rw [List.length_map]; exact hkl), List.getElem?_map, hk]; rfl
        · rw [List.getElem?_set_ne (fun e => hi e.symm)]
      rw [e, List.length_set]
      exact q
    | 2, _ => exact ⟨fun q => q, fun _ q => q⟩
    | 3, _ => exact ⟨fun q => q, fun _ q => q⟩
    | 4, _ => exact ⟨fun q => q, fun _ q => q⟩
    | 5, _ => exact ⟨fun q => q, fun _ q => q⟩
    | 6, _ => exact ⟨fun q => q, fun _ q => q⟩
    | 7, _ => exact ⟨fun q => q, fun _ q => q⟩
    | 8, _ => exact ⟨fun q => q, fun _ q => q⟩
    | 9, _ => exact ⟨fun q => q, fun _ q => q⟩
    | 10, _ => exact ⟨fun q => q, fun _ q => q⟩
    | i + 11, hj =>
      by_cases e : i % 2 = 0
      · have hne : i / 2 ≠ k := fun q => hj (by omega)
        have hget : (d.ps.set k p')[i / 2]? = d.ps[i / 2]? := List.getElem?_set_ne (fun e => hne e.symm)
        simp only [WD.C, WD.F, e, if_true, hget]
        exact ⟨fun q => q, fun _ q => q⟩
      · simp only [WD.C, WD.F, e, if_false]
        exact ⟨fun q => q, fun _ q => q⟩
end Go.Proofs.YtbanfbpfapjfcaaGreatDoor
namespace Go.Proofs.YtbanfbpfapjfcaaGreatDoor
open Go.RowKit
set_option maxRecDepth 100000
variable {QP : Type} {qas : QP → Asrt} {qb : QP → Nat} {base wb : Nat}

theorem DeskAt.booked {w w' : World} {g : Nat} {dp : Option Pl} {d : DM} {es : List BE} (h : DeskAt w g 0 dp d) (k : CF w w' (exB g 2)) (hb : BookAt w' g 2 es) (hd : Pl.blk dp ≠ some g) : DeskAt w' g 0 dp { d with book := es } := by
  obtain ⟨v, hv, ho⟩ := h.draws
  refine ⟨h.live.cf k, k.cell h.skew (fun e => by have := e.2.1; omega), ⟨v, k.cell hv (fun e => by have := e.2.1; omega), ho.cf k (fun q hq j _ e => hd (by rw [hq]; exact congrArg some e.1))⟩, hb, k.range h.proofs (fun j _ e => by have := e.2.2; omega), k.cell h.count (fun e => by have := e.2.2; omega), h.few⟩
/-- What is done to the book lies in the step's cells. -/
def OpAdm (w : World) (b : Nat) (a : Adm) : Prop :=
  w.cell? ⟨b, 8, none⟩ = some (.int .i64 a.kind) ∧ w.cell? ⟨b, 9, none⟩ = some (.string ⟨a.name.toArray⟩) ∧ w.cell? ⟨b, 10, none⟩ = some (.int .u64 (a.key.toNat : Int)) ∧ w.cell? ⟨b, 11, none⟩ = some (.int .i64 a.life) ∧ w.cell? ⟨b, 12, none⟩ = some (.int .i64 a.renew) ∧ w.cell? ⟨b, 13, none⟩ = some (.int .i64 a.expire) ∧ w.cell? ⟨b, 14, none⟩ = some (.int .i64 a.flags)
/-- A pair whose book is another one. -/
def Booked (qas : QP → Asrt) (qb : QP → Nat) (base wb : Nat) (d : WD PD QP) (k : Nat) (M : DM) (w w' : World) : Prop :=
  (∃ p, SepW (plainD qas qb) base wb { d with ps := d.ps.set k p } w' ∧ p.M = M) ∧ Below base w w' ∧ KeptP (plainD qas qb) wb d w w'
theorem Booked.of {d : WD PD QP} {k : Nat} {p : PD} {a : Adm} {w w0 w1 w2 : World} (hI : SepW (plainD qas qb) base wb d w) (hk : d.ps[k]? = some p) (g0 : w.grownBy w0 none) (hb : BookAt w1 p.xb 2 (admB p.M.book a).1) (c : CF w0 w1 (exB p.xb 2)) (hr : RDAfter 0 p.yb p.M p.rg a w1 w2) : Booked qas qb base wb d k { p.M with book := (admB p.M.book a).1 } w w2 := by
  obtain ⟨g', hrd, fr, hn⟩ := hr
  have hp := hI.part hk
  have hp0 : p.ok w0 := hp.keep (fun b hb => g0.block b (hp.lt hb) (by simp))
  have s0 := g0.size
  have s1 := c.size
  have s2 := fr.size
  have hx1 : DeskAt w1 p.xb 0 p.dp { p.M with book := (admB p.M.book a).1 } := hp0.x.booked c hb hp.dx
  have hx2 : DeskAt w2 p.xb 0 p.dp { p.M with book := (admB p.M.book a).1 } := hx1.keep (fun b hb => fr.block b (hx1.lt hb) (fun e => hp.xy b hb e))
  have hpx : p.pb ≠ p.xb := fun e => hp.px (.inl e)
  have hblk : Blk w2 p.pb #[ptrTo p.xb, ptrTo p.yb, .slice none 0 0] := (hp0.blk.kept (c.block p.pb hp0.blk.lt (fun o e => hpx e.1))).kept (fr.block p.pb (by have := hp0.blk.lt; omega) hp.py)
  have hblks : ∀ b, b < w.heap.size → ¬ p.foot b → w2.heap[b]? = w.heap[b]? := fun b hb hx => by
    rw [fr.block b (by omega) (fun e => hx (.inr (.inr e))), c.block b (by omega) (fun o e => hx (.inr (.inl (.inl e.1)))), g0.block b hb (by simp)]
  have R := hI.put hk (p' := { p with rg := g', M := { p.M with book := (admB p.M.book a).1 } }) (w' := w2) ⟨(fr.os.trans c.os).trans g0.os, (fr.tape.trans c.tape).trans g0.tape, (fr.output.trans c.output).trans g0.output, by omega, fun b hb hx => ?_⟩ ⟨hblk, hx2, hrd, hp.dx, hp.px, fun e => ?_, fun b hb e => ?_⟩ rfl (fun b hb => ?_)
  · refine ⟨⟨_, R.1, rfl⟩, R.2, ⟨?_, fun b hb hx => hblks b hb (fun e => hx ⟨2 * k + 11, by omega, WD.foot_part hk e⟩)⟩⟩
    have hb2 : Blk w2 wb d.cells := R.1.here 0
    exact hb2.cell 0
  · exact hblks b hb hx
  · have e : g'.foot p.yb p.pb := e
    rcases hn p.pb e with e | e
    · exact hp.py e
    · have := hp0.blk.lt; omega
  · rcases hn b e with e | e
    · exact hp.xy b hb e
    · have := hp0.x.lt hb; omega
  · rcases hb with e | e | e
    · exact .inl (.inl e)
    · exact .inl (.inr (.inl e))
    · rcases hn b e with e | e
      · exact .inl (.inr (.inr e))
      · exact .inr (by omega)
theorem RDAfter.undrew {base yb : Nat} {M : DM} {g : RG} {a : Adm} {w w' : World} (h : RDAfter base yb M g a (w.drewN 1) w') : RDAfter base yb M g a w w' := by
  obtain ⟨g', h1, h2, h3⟩ := h
  exact ⟨g', h1, ⟨h2.os, h2.tape, h2.output, h2.size, h2.block⟩, h3⟩
theorem RDAfter.cell {base yb : Nat} {M : DM} {g : RG} {a : Adm} {w w' : World} {b o : Nat} {v : Value} (h : RDAfter base yb M g a w w') (hc : w.cell? ⟨b, o, none⟩ = some v) (hb : ¬ g.foot yb b) : w'.cell? ⟨b, o, none⟩ = some v := by
  obtain ⟨g', h1, h2, h3⟩ := h
  rw [World.cell?_of_block (w := w) (w' := w') (a := ⟨b, o, none⟩) (h2.block b (World.block_lt_of_cell? w _ hc) hb)]
  exact hc
set_option maxHeartbeats 2000000 in
theorem plain_admin (d : WD PD QP) (n k : Nat) (p : PD) (a : Adm) (kind B C : Int) (K DD : UInt64) (zs : List UInt8) (c1 c6 c8 c9 c10 c11 c12 c13 c14 c15 c16 c17 c18 c19 c20 c21 c22 c23 c24 c25 c26 c27 c28 c29 c30 c31 c32 c33 c34 c35 c36 c37 c38 c39 c40 : Value) (w : World) (hk : d.ps[k]? = some p) (hk6 : (kind == 6) = true)
    (ha : OpAdm (w.alloc (.cells #[.int .i64 kind, c1, .int .i64 B, .int .i64 C, .int .u64 (K.toNat : Int), .int .u64 (DD.toNat : Int), c6, .string ⟨zs.toArray⟩, c8, c9, c10, c11, c12, c13, c14, c15, c16, c17, c18, c19, c20, c21, c22, c23, c24, c25, c26, c27, c28, c29, c30, c31, c32, c33, c34, c35, c36, c37, c38, c39, c40] 82)) w.heap.size a) (hok : BookOk n p.M.book) (hn : n < 4611686018427387904) (hf0 : -9223372036854775808 ≤ a.flags) (hf1 : a.flags ≤ 9223372036854775807) (hl : a.name.length ≤ 9223372036854775807)
    (hI : SepW (plainD qas qb) base wb d w) :
    Calls Tryz.prog 47 #[.pointer (some ⟨wb, 0, none⟩), .agg #[.int .i64 kind, c1, .int .i64 B, .int .i64 C, .int .u64 (K.toNat : Int), .int .u64 (DD.toNat : Int), c6, .string ⟨zs.toArray⟩, c8, c9, c10, c11, c12, c13, c14, c15, c16, c17, c18, c19, c20, c21, c22, c23, c24, c25, c26, c27, c28, c29, c30, c31, c32, c33, c34, c35, c36, c37, c38, c39, c40], .pointer (some ⟨p.pb, 0, none⟩)] w fun e w' => e = .returned (.bool true) ∧ Booked qas qb base wb d k { p.M with book := (admB p.M.book a).1 } w w' := by
  have hp := hI.part hk
  have G0 := World.grownBy_alloc w (.cells #[.int .i64 kind, c1, .int .i64 B, .int .i64 C, .int .u64 (K.toNat : Int), .int .u64 (DD.toNat : Int), c6, .string ⟨zs.toArray⟩, c8, c9, c10, c11, c12, c13, c14, c15, c16, c17, c18, c19, c20, c21, c22, c23, c24, c25, c26, c27, c28, c29, c30, c31, c32, c33, c34, c35, c36, c37, c38, c39, c40] 82) none
  have hp0 : p.ok (w.alloc (.cells #[.int .i64 kind, c1, .int .i64 B, .int .i64 C, .int .u64 (K.toNat : Int), .int .u64 (DD.toNat : Int), c6, .string ⟨zs.toArray⟩, c8, c9, c10, c11, c12, c13, c14, c15, c16, c17, c18, c19, c20, c21, c22, c23, c24, c25, c26, c27, c28, c29, c30, c31, c32, c33, c34, c35, c36, c37, c38, c39, c40] 82)) := hp.keep (fun b hb => G0.block b (hp.lt hb) (by simp))
  have k0 : (w.alloc (.cells #[.int .i64 kind, c1, .int .i64 B, .int .i64 C, .int .u64 (K.toNat : Int), .int .u64 (DD.toNat : Int), c6, .string ⟨zs.toArray⟩, c8, c9, c10, c11, c12, c13, c14, c15, c16, c17, c18, c19, c20, c21, c22, c23, c24, c25, c26, c27, c28, c29, c30, c31, c32, c33, c34, c35, c36, c37, c38, c39, c40] 82)).cell? ⟨w.heap.size, 0, none⟩ = some (.int .i64 kind) := by rw [World.cell?_alloc_at (hn := rfl)]; rfl
  have HCx := hid (fun w' (h : BookAt w' p.xb 2 p.M.book) => plainAdmin_any p.xb p.M.book a w' h hok.sorted (fun e he => by have := hok.num e he; omega) hf0 hf1 hl)
  have HCy := hid (fun w' (h : RD w' 0 p.yb p.M p.rg) => rAdmin_any n 0 p.yb p.M p.rg a w' h hok hn hl (Nat.zero_le _))
  obtain ⟨e8, e9, e10, e11, e12, e13, e14⟩ := ha
  have q0 : (w.alloc (.cells #[.int .i64 kind, c1, .int .i64 B, .int .i64 C, .int .u64 (K.toNat : Int), .int .u64 (DD.toNat : Int), c6, .string ⟨zs.toArray⟩, c8, c9, c10, c11, c12, c13, c14, c15, c16, c17, c18, c19, c20, c21, c22, c23, c24, c25, c26, c27, c28, c29, c30, c31, c32, c33, c34, c35, c36, c37, c38, c39, c40] 82)).cell? ⟨p.pb, 0, none⟩ = some (.pointer (some ⟨p.xb, 0, none⟩)) := hp0.blk.cell 0
  have q1 : (w.alloc (.cells #[.int .i64 kind, c1, .int .i64 B, .int .i64 C, .int .u64 (K.toNat : Int), .int .u64 (DD.toNat : Int), c6, .string ⟨zs.toArray⟩, c8, c9, c10, c11, c12, c13, c14, c15, c16, c17, c18, c19, c20, c21, c22, c23, c24, c25, c26, c27, c28, c29, c30, c31, c32, c33, c34, c35, c36, c37, c38, c39, c40] 82)).cell? ⟨p.pb, 1, none⟩ = some (.pointer (some ⟨p.yb, 0, none⟩)) := hp0.blk.cell 1
  have hne : w.heap.size ≠ p.xb := fun e => by have := hp.lt (.inr (.inl (.inl e))); omega
  have hnp : p.pb ≠ p.xb := fun e => hp.px (.inl e)
  have hno : ¬ p.rg.foot p.yb w.heap.size := fun e => by have := hp.lt (.inr (.inr e)); omega
  have hnb := hp.py
  have HP0 := hid hp0
  have HI := hid (And.intro hI hk)
  have HG := hid G0
  obtain ⟨er, HE⟩ : ∃ er, Hid ((admB p.M.book a).2 = er) := ⟨_, hid rfl⟩
  rw [HE.out] at HCx HCy
  clear hp hp0 G0 hok hf0 hf1 hl hI hk
  go_enter Tryz.func47, Tryz.ntmps47
  go_wp2_with fail
  go_region_held3 (fun w' => w'.cell? ⟨p.pb, 0, none⟩ = some (.pointer (some ⟨p.xb, 0, none⟩)) ∧ w'.cell? ⟨w.heap.size, 8, none⟩ = some (.int .i64 a.kind) ∧ w'.cell? ⟨w.heap.size, 9, none⟩ = some (.string ⟨a.name.toArray⟩) ∧ w'.cell? ⟨w.heap.size, 10, none⟩ = some (.int .u64 (a.key.toNat : Int)) ∧ w'.cell? ⟨w.heap.size, 11, none⟩ = some (.int .i64 a.life) ∧ w'.cell? ⟨w.heap.size, 12, none⟩ = some (.int .i64 a.renew) ∧ w'.cell? ⟨w.heap.size, 13, none⟩ = some (.int .i64 a.expire) ∧ w'.cell? ⟨w.heap.size, 14, none⟩ = some (.int .i64 a.flags)) (go_keep) (first | (go_at_call 45; refine (HCx.out _ (HP0.out.x.book.drewN 1)).mono ?_; rintro e w1 ⟨rfl, b1, C1⟩; have u0 := C1.undrew.cell q0 (fun q => hnp q.1); have u8 := C1.undrew.cell e8 (fun q => hne q.1); have u9 := C1.undrew.cell e9 (fun q => hne q.1); have u10 := C1.undrew.cell e10 (fun q => hne q.1); have u11 := C1.undrew.cell e11 (fun q => hne q.1); have u12 := C1.undrew.cell e12 (fun q => hne q.1); have u13 := C1.undrew.cell e13 (fun q => hne q.1); have u14 := C1.undrew.cell e14 (fun q => hne q.1)))
  have u1 := C1.undrew.cell q1 (fun q => hnp q.1)
  have HR1 : Hid (RD w1 0 p.yb p.M p.rg) := HP0.out.y.keep (fun b hb => C1.undrew.block b (HP0.out.lt (.inr (.inr hb))) (fun o e => HP0.out.xy b (.inl e.1) hb))
  have HC1 := hid C1.undrew
  have HB1 := hid b1
  clear e8 e9 e10 e11 e12 e13 e14 q0 q1 k0 u0 C1 b1
  go_wp2_with fail
  go_region_held3 (fun w' => w'.cell? ⟨p.pb, 1, none⟩ = some (.pointer (some ⟨p.yb, 0, none⟩)) ∧ w'.cell? ⟨w.heap.size, 8, none⟩ = some (.int .i64 a.kind) ∧ w'.cell? ⟨w.heap.size, 9, none⟩ = some (.string ⟨a.name.toArray⟩) ∧ w'.cell? ⟨w.heap.size, 10, none⟩ = some (.int .u64 (a.key.toNat : Int)) ∧ w'.cell? ⟨w.heap.size, 11, none⟩ = some (.int .i64 a.life) ∧ w'.cell? ⟨w.heap.size, 12, none⟩ = some (.int .i64 a.renew) ∧ w'.cell? ⟨w.heap.size, 13, none⟩ = some (.int .i64 a.expire) ∧ w'.cell? ⟨w.heap.size, 14, none⟩ = some (.int .i64 a.flags)) (go_keep) (first | (go_at_call 76; refine (HCy.out _ (HR1.out.keep (w' := w1.drewN 1) (fun _ _ => rfl))).mono ?_; rintro e w2 ⟨rfl, A2'⟩; have A2 := A2'.undrew; have v1 := A2.cell u1 hnb; have v8 := A2.cell u8 hno; have v9 := A2.cell u9 hno; have v10 := A2.cell u10 hno; have v11 := A2.cell u11 hno; have v12 := A2.cell u12 hno; have v13 := A2.cell u13 hno; have v14 := A2.cell u14 hno))
  go_wp2
  go_ret
  exact ⟨rfl, Booked.of HI.out.1 HI.out.2 HG.out HB1.out HC1.out A2⟩
end Go.Proofs.YtbanfbpfapjfcaaGreatDoor
