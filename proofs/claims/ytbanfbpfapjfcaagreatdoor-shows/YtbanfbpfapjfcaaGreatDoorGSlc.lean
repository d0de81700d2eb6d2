/-
  Laws of parts of a slice of bytes: where they lie, in every world. Conditions: in each statement.
-/
import Derived.Test.YtbanfbpfapjfcaaGreatDoorGBase
namespace Go.Proofs.YtbanfbpfapjfcaaGreatDoor
open Go.RowKit
set_option maxRecDepth 100000

/-- Where a part of a slice lies. -/
def sl (ao : Option Addr) (cap l : Nat) : Option Addr := if cap = l then ao else ao.map (·.add l)
theorem At.part {w : World} {ao : Option Addr} {zs : List UInt8} (h : At w ao zs) (cap l : Nat) (hc : zs.length ≤ cap) : At w (sl ao cap l) (zs.drop l) := by
  intro j hj
  rw [List.length_drop] at hj
  obtain ⟨b, off, rfl, hcell⟩ := h (l + j) (by omega)
  refine ⟨b, off + l, ?_, ?_⟩
  · rw [sl, if_neg (by omega)]
    simp [Addr.add_lit]
  · rw [Nat.add_assoc, hcell, List.getElem_drop]
theorem At.sub {w : World} {ao : Option Addr} {zs : List UInt8} (h : At w ao zs) (cap l k : Nat) (hc : zs.length ≤ cap) : At w (sl ao cap l) ((zs.drop l).take k) := (h.part cap l hc).take k

theorem slice_from_sl {P : Program} (t e : TypeId) (i : TypeInfo) (ht : P.underlying t = some (.slice e)) (hi : P.info? e = some i) (hs : i.size = 1) (ao : Option Addr) (n cap l : Nat) (hl : l ≤ n) (w : World) : (Instr.sliceAt t (.slice ao n cap) (some (.int .i64 (l : Int))) none none).run P w = .ok (.slice (sl ao cap l) (n - l) (cap - l)) w := by
  have he : P.elem t = e := by simp [Program.elem, ht]
  have ht' : P.underlying t = some (.slice (P.elem t)) := by rw [he]; exact ht
  rw [run_sliceAt_slice w t _ _ _ _ ht', run_slice_l w t _ n cap ht' .i64 (l : Int) (by omega) (by omega), he]
  simp [sizeOf, typeInfo, hi, hs, sliced, sl]
theorem slice_head {P : Program} (t e : TypeId) (i : TypeInfo) (ht : P.underlying t = some (.slice e)) (hi : P.info? e = some i) (hs : i.size = 1) (ao : Option Addr) (n cap h : Nat) (hc : h ≤ cap) (w : World) : (Instr.sliceAt t (.slice ao n cap) none (some (.int .i64 (h : Int))) none).run P w = .ok (.slice ao h cap) w := by
  have he : P.elem t = e := by simp [Program.elem, ht]
  have ht' : P.underlying t = some (.slice (P.elem t)) := by rw [he]; exact ht
  rw [run_sliceAt_slice w t _ _ _ _ ht', run_slice_h w t _ n cap ht' .i64 (h : Int) (by omega) (by omega), he]
  cases ao with
  | none => simp [sizeOf, typeInfo, hi, hs, sliced]
  | some ad => simp [sizeOf, typeInfo, hi, hs, sliced, Addr.add]
theorem slice_from {P : Program} (t e : TypeId) (i : TypeInfo) (ht : P.underlying t = some (.slice e)) (hi : P.info? e = some i) (hs : i.size = 1) (ao : Option Addr) (n cap : Nat) {zs : List UInt8} (hz : Hid (zs.length = n)) (hc : n ≤ cap) (l : Nat) (x : Int) (hx : x = (l : Int)) (hl : l ≤ n) : ∃ a', (∀ w, (Instr.sliceAt t (.slice ao n cap) (some (.int .i64 x)) none none).run P w = .ok (.slice a' (n - l) (cap - l)) w) ∧ ∀ w, At w ao zs → At w a' (zs.drop l) := by
  subst hx
  refine ⟨sl ao cap l, fun w => ?_, fun w hat => hat.part cap l (by rw [hz.out]; exact hc)⟩
  have he : P.elem t = e := by simp [Program.elem, ht]
  have ht' : P.underlying t = some (.slice (P.elem t)) := by rw [he]; exact ht
  rw [run_sliceAt_slice w t _ _ _ _ ht', run_slice_l w t _ n cap ht' .i64 (l : Int) (by omega) (by omega), he]
  simp [sizeOf, typeInfo, hi, hs, sliced, sl]
theorem slice_to {P : Program} (t e : TypeId) (i : TypeInfo) (ht : P.underlying t = some (.slice e)) (hi : P.info? e = some i) (hs : i.size = 1) (ao : Option Addr) (n cap : Nat) {zs : List UInt8} (hz : Hid (zs.length = n)) (hc : n ≤ cap) (h : Nat) (x : Int) (hx : x = (h : Int)) (hh : h ≤ n) : ∃ a', (∀ w, (Instr.sliceAt t (.slice ao n cap) none (some (.int .i64 x)) none).run P w = .ok (.slice a' h cap) w) ∧ ∀ w, At w ao zs → At w a' (zs.take h) := by
  subst hx
  refine ⟨sl ao cap 0, fun w => ?_, fun w hat => by simpa using hat.sub cap 0 h (by rw [hz.out]; exact hc)⟩
  have he : P.elem t = e := by simp [Program.elem, ht]
  have ht' : P.underlying t = some (.slice (P.elem t)) := by rw [he]; exact ht
  rw [run_sliceAt_slice w t _ _ _ _ ht', run_slice_h w t _ n cap ht' .i64 (h : Int) (by omega) (by omega), he]
  simp [sizeOf, typeInfo, hi, hs, sliced, sl]
theorem slice_lh {P : Program} (t e : TypeId) (i : TypeInfo) (ht : P.underlying t = some (.slice e)) (hi : P.info? e = some i) (hs : i.size = 1) (ao : Option Addr) (n cap : Nat) {zs : List UInt8} (hz : Hid (zs.length = n)) (hc : n ≤ cap) (l h : Nat) (x y : Int) (hx : x = (l : Int)) (hy : y = (h : Int)) (hl : l ≤ h) (hh : h ≤ n) : ∃ a', (∀ w, (Instr.sliceAt t (.slice ao n cap) (some (.int .i64 x)) (some (.int .i64 y)) none).run P w = .ok (.slice a' (h - l) (cap - l)) w) ∧ ∀ w, At w ao zs → At w a' ((zs.drop l).take (h - l)) := by
  subst hx hy
  refine ⟨sl ao cap l, fun w => ?_, fun w hat => hat.sub cap l _ (by rw [hz.out]; exact hc)⟩
  have he : P.elem t = e := by simp [Program.elem, ht]
  have ht' : P.underlying t = some (.slice (P.elem t)) := by rw [he]; exact ht
  rw [run_sliceAt_slice w t _ _ _ _ ht', run_slice_lh w t _ n cap ht' .i64 .i64 (l : Int) (h : Int) (by omega) (by omega) (by omega), he]
  simp [sizeOf, typeInfo, hi, hs, sliced, sl]
end Go.Proofs.YtbanfbpfapjfcaaGreatDoor
