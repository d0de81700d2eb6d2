/-
  Contracts of lent and back in one form, and of World.free at a step that hashes. Conditions: in each statement.
-/
import Derived.Test.YtbanfbpfapjfcaaGreatDoorGLaw2
namespace Go.Proofs.YtbanfbpfapjfcaaGreatDoor
open Go.RowKit
set_option maxRecDepth 100000

/-- What was lent: nil, or a new block with the bytes and one more, 77. -/
def Lent (w0 w : World) (a : Option Addr) (cap : Nat) (zs : List UInt8) (gB : Option Nat) : Prop :=
  (a = none ∧ cap = 0 ∧ zs = [] ∧ gB = none) ∨ ∃ g, a = some ⟨g, 0, none⟩ ∧ gB = some g ∧ w0.heap.size ≤ g ∧ Buf w g cap (zs ++ [77])

theorem Lent.at {w0 w : World} {a : Option Addr} {cap : Nat} {zs : List UInt8} {gB : Option Nat} (h : Lent w0 w a cap zs gB) : At w a zs := by
  rcases h with ⟨_, _, rfl, _⟩ | ⟨g, rfl, _, _, h⟩
  · exact At.nil _ _
  · exact h.prefix.at
theorem Lent.grown {w0 w w' : World} {a : Option Addr} {cap : Nat} {zs : List UInt8} {gB : Option Nat} (h : Lent w0 w a cap zs gB) (k : w.grownBy w' none) : Lent w0 w' a cap zs gB := by
  rcases h with h | ⟨g, h1, h2, h3, h4⟩
  · exact .inl h
  · exact .inr ⟨g, h1, h2, h3, h4.grown k (by simp)⟩
theorem Lent.none {w0 w : World} {a : Option Addr} {cap : Nat} {zs : List UInt8} {gB : Option Nat} (h : Lent w0 w a cap zs gB) : a = .none → cap = 0 := by
  rcases h with ⟨_, h, _⟩ | ⟨g, h, _⟩
  · exact fun _ => h
  · intro e; rw [h] at e; cases e
theorem Lent.old {w0 w : World} {a : Option Addr} {cap : Nat} {zs : List UInt8} {gB : Option Nat} (h : Lent w0 w a cap zs gB) (k : Nat) (hk : some k = gB) : w0.heap.size ≤ k := by
  rcases h with ⟨_, _, _, h⟩ | ⟨g, _, h2, h3, _⟩
  · rw [h] at hk; cases hk
  · rw [h2] at hk; cases hk; exact h3
theorem Lent.cap {w0 w : World} {a : Option Addr} {cap : Nat} {zs : List UInt8} {gB : Option Nat} (h : Lent w0 w a cap zs gB) : zs.length ≤ cap ∧ cap ≤ 9223372036854775807 := by
  rcases h with ⟨_, rfl, rfl, _⟩ | ⟨g, _, _, _, h4⟩
  · simp
  · have h1 := h4.room
    have h2 := h4.maxLen
    unfold maxLen at h2
    simp at h1
    omega

theorem lent_all (zs : List UInt8) (nb : Bool) (w : World) (hl : zs.length ≤ 140737488351232) :
    Calls Tryz.prog 67 #[.string ⟨zs.toArray⟩, .bool nb] w fun e w' => ∃ a cap gB, e = .returned (.slice a zs.length cap) ∧ Lent w w' a cap zs gB ∧ w.grownBy w' none := by
  by_cases h : zs.isEmpty = false ∨ nb = false
  · refine (lent_any zs nb w hl h).mono ?_
    rintro e w' ⟨g, cap, rfl, h1, h2, h3⟩
    exact ⟨_, cap, some g, rfl, .inr ⟨g, rfl, rfl, h1, h2⟩, h3⟩
  · have h1 : zs = [] := by simp at h; exact h.1
    have h2 : nb = true := by simp at h; exact h.2
    subst h1 h2
    refine (lent_nil w).mono ?_
    rintro e w' ⟨rfl, rfl⟩
    exact ⟨none, 0, none, rfl, .inl ⟨rfl, rfl, rfl, rfl⟩, World.grownBy.refl _ _⟩

theorem back_all (zs : List UInt8) (n : Nat) (a : Option Addr) (cap : Nat) (gB : Option Nat) (w0 w : World) (hn : Hid (zs.length = n)) (hl : n ≤ 140737488351232) (h : Lent w0 w a cap zs gB) :
    Calls Tryz.prog 69 #[.slice a n cap, .string ⟨zs.toArray⟩] w fun e w' => e = .returned (.bool true) ∧ w.grownBy w' gB := by
  rcases h with ⟨rfl, rfl, rfl, rfl⟩ | ⟨g, rfl, rfl, h3, h4⟩
  · obtain rfl := hn.out
    refine (back_nil [] w (hid rfl)).mono ?_
    rintro e w' ⟨rfl, rfl⟩
    exact ⟨rfl, World.grownBy.refl _ _⟩
  · exact back_any zs n g cap w hn hl h4

/-- New memory, and writing into memory that is newer than w0: nothing of w0 is written. -/
theorem gb_newer {w0 w w' : World} {gB : Option Nat} (h : w0.grownBy w none) (k : w.grownBy w' gB) (hg : ∀ j, some j = gB → w0.heap.size ≤ j) : w0.grownBy w' none :=
  gb_row h k (fun i hi => hg i hi.symm)

set_option maxHeartbeats 400000 in
theorem whash_any (zs : List UInt8) (n : Nat) (ao : Option Addr) (cap : Nat) (w : World) (hn : Hid (zs.length = n)) (hl : n ≤ 140737488355328) (hc : At w ao zs) :
    Calls Tryz.prog 68 #[.slice ao n cap] w fun e w' => e = .returned (.int .u64 ((Pure.hashL 0 zs).toNat : Int)) ∧ w = w' := by
  obtain rfl := hn.out
  go_enter Tryz.func68, Tryz.ntmps68
  go_wp2_with (go_at_call 103; refine (hash_any zs ao cap _ hl hc).mono ?_; rintro e w' ⟨rfl, rfl⟩)
  go_ret
  exact ⟨rfl, rfl⟩

/-- The step's fields that are read lie in the block b. -/
def OpAt (w : World) (b : Nat) (kind B C : Int) (K D : UInt64) (zs : List UInt8) : Prop :=
  w.cell? ⟨b, 0, none⟩ = some (.int .i64 kind) ∧ w.cell? ⟨b, 2, none⟩ = some (.int .i64 B) ∧ w.cell? ⟨b, 3, none⟩ = some (.int .i64 C) ∧ w.cell? ⟨b, 4, none⟩ = some (.int .u64 (K.toNat : Int)) ∧ w.cell? ⟨b, 5, none⟩ = some (.int .u64 (D.toNat : Int)) ∧ w.cell? ⟨b, 7, none⟩ = some (.string ⟨zs.toArray⟩)
theorem OpAt.grown {w w' : World} {b : Nat} {kind B C : Int} {K D : UInt64} {zs : List UInt8} {row : Option Nat} (h : OpAt w b kind B C K D zs) (k : w.grownBy w' row) (hr : row ≠ some b) : OpAt w' b kind B C K D zs := by
  obtain ⟨h0, h2, h3, h4, h5, h7⟩ := h
  have hr' : some b ≠ row := fun e => hr e.symm
  exact ⟨k.cell h0 hr', k.cell h2 hr', k.cell h3 hr', k.cell h4 hr', k.cell h5 hr', k.cell h7 hr'⟩
theorem OpAt.new (w : World) (kind B C : Int) (K D : UInt64) (zs : List UInt8) (c1 c6 c8 c9 c10 c11 c12 c13 c14 c15 c16 c17 c18 c19 c20 c21 c22 c23 c24 c25 c26 c27 c28 c29 c30 c31 c32 c33 c34 c35 c36 c37 c38 c39 c40 : Value) :
    OpAt (w.alloc (.cells #[.int .i64 kind, c1, .int .i64 B, .int .i64 C, .int .u64 (K.toNat : Int), .int .u64 (D.toNat : Int), c6, .string ⟨zs.toArray⟩, c8, c9, c10, c11, c12, c13, c14, c15, c16, c17, c18, c19, c20, c21, c22, c23, c24, c25, c26, c27, c28, c29, c30, c31, c32, c33, c34, c35, c36, c37, c38, c39, c40] 82)) w.heap.size kind B C K D zs := by
  refine ⟨?_, ?_, ?_, ?_, ?_, ?_⟩ <;> (rw [World.cell?_alloc_at (hn := rfl)]; rfl)

set_option maxHeartbeats 1000000 in
theorem free_hash (wb : Nat) (kind B C : Int) (K D : UInt64) (zs : List UInt8) (c1 c6 c8 c9 c10 c11 c12 c13 c14 c15 c16 c17 c18 c19 c20 c21 c22 c23 c24 c25 c26 c27 c28 c29 c30 c31 c32 c33 c34 c35 c36 c37 c38 c39 c40 : Value) (w : World) (hk : (kind == 1) = true) (hl : zs.length ≤ 140737488351232) :
    Calls Tryz.prog 46 #[.pointer (some ⟨wb, 0, none⟩), .agg #[.int .i64 kind, c1, .int .i64 B, .int .i64 C, .int .u64 (K.toNat : Int), .int .u64 (D.toNat : Int), c6, .string ⟨zs.toArray⟩, c8, c9, c10, c11, c12, c13, c14, c15, c16, c17, c18, c19, c20, c21, c22, c23, c24, c25, c26, c27, c28, c29, c30, c31, c32, c33, c34, c35, c36, c37, c38, c39, c40]] w fun e w' => e = .returned (.bool true) ∧ w.grownBy w' none := by
  have hl2 : zs.length ≤ 140737488355328 := by omega
  have hO := OpAt.new w kind B C K D zs c1 c6 c8 c9 c10 c11 c12 c13 c14 c15 c16 c17 c18 c19 c20 c21 c22 c23 c24 c25 c26 c27 c28 c29 c30 c31 c32 c33 c34 c35 c36 c37 c38 c39 c40
  go_enter Tryz.func46, Tryz.ntmps46
  go_wp2_with fail
  refine (lent_all zs _ _ hl).mono ?_
  rintro e w1 ⟨a, cap, gB, rfl, hL, hg1⟩
  have hO1 := hO.grown hg1 (by simp)
  have G1 := gb_trans (World.grownBy_alloc w _ none) hg1
  have hold : ∀ j, some j = gB → w.heap.size + 1 ≤ j := fun j hj => by have := hL.old j hj; simpa using this
  have hgb : gB ≠ some w.heap.size := fun e => by have := hold _ e.symm; omega
  obtain ⟨k0, k2, k3, k4, k5, k7⟩ := hO1
  go_wp2_with fail
  refine (whash_any zs zs.length a cap _ (hid rfl) hl2 hL.at).mono ?_
  rintro e w' ⟨rfl, rfl⟩
  go_wp2_with fail
  refine (back_all zs zs.length a cap gB _ _ (hid rfl) hl hL).mono ?_
  rintro e w2 ⟨rfl, hg2⟩
  have hO2 : OpAt w2 w.heap.size kind B C K D zs := OpAt.grown ⟨k0, k2, k3, k4, k5, k7⟩ hg2 hgb
  have G2 : w.grownBy w2 none := gb_newer G1 hg2 (fun j hj => by have := hold j hj; omega)
  clear k0 k2 k3 k4 k5 k7 hg1 hg2 hL G1 hO
  obtain ⟨k0, k2, k3, k4, k5, k7⟩ := hO2
  go_wp2_with (first | (refine wpList_bytes_of _ rfl _ 9 32 rfl 5 Tryz.underlying9 Tryz.underlying32 Tryz.underlying5 zs rfl hl2 ?_; intro b3 cap3 w3 hc3 hc3m hat3 hg3) | (go_at_call 70; refine (rhash_any zs zs.length _ _ _ (hid rfl) hl2 hat3).mono ?_; rintro e w' ⟨rfl, rfl⟩))
  go_ret
  exact ⟨rfl, gb_trans G2 hg3⟩

end Go.Proofs.YtbanfbpfapjfcaaGreatDoor
