/-
  
  
-/
import Derived.Test.YtpijkgbafjccaaaGreatDoorGTBlk
import Derived.Test.YtpijkgbafjccaaaGreatDoorGTBoxM
import Derived.Test.YtpijkgbafjccaaaGreatDoorGTLaw1
import Derived.Test.YtpijkgbafjccaaaGreatDoorGTSeal
namespace Go.Proofs.YtpijkgbafjccaaaGreatDoor
open Go.RowKit
theorem own_keep {w w' : World} {base : Nat} {e : TypeId} {size : Nat} {v : Value} {n : Nat} {xs : List Value} (h : w.ownsRow base e size v n xs) (hk : ∀ b,v.ownBlock = some b → w'.heap[b]? = w.heap[b]?) : w'.ownsRow base e size v n xs := by
 refine ⟨h.1,?_⟩
 rcases h.2 with hn | ⟨g,cap,cur,rfl,hb,hgg,rest⟩
 ·exact .inl hn
 ·exact .inr ⟨g,cap,cur,rfl,hb,(hk g rfl).trans hgg,rest⟩
theorem Frm.refl (w : World) (ex : Nat → Prop) : Frm w w ex := ⟨rfl,rfl,rfl,Nat.le_refl _,fun _ _ _ => rfl⟩
theorem Frm.trans {a b c : World} {ex : Nat → Prop} (h : Frm a b ex) (k : Frm b c fun i => ex i ∨ a.heap.size ≤ i) : Frm a c ex := by
 have s := h.size
 refine ⟨k.os.trans h.os,k.tape.trans h.tape,k.output.trans h.output,Nat.le_trans h.size k.size,fun i hi hx => ?_⟩
 rw [k.block i (by omega) (by rintro (e | e); exact hx e; omega),h.block i hi hx]
theorem Frm.setCell {a w : World} {ex : Nat → Prop} (h : Frm a w ex) (p : Addr) (u : Value) (hp : ex p.block ∨ a.heap.size ≤ p.block) : Frm a (w.setCell p u) ex :=
 h.trans ⟨rfl,rfl,rfl,by simp [World.setCell],fun k _ hx => Below.heap_setCell _ _ _ _ (fun e => hx (by rw [e]; exact hp))⟩
theorem Frm.set {a w : World} {ex : Nat → Prop} {g : Nat} (h : Frm a w ex) (hg : ex g) (j : Nat) (u : Value) : Frm a (w.setCell ⟨g,j,none⟩ u) ex := h.setCell ⟨g,j,none⟩ u (.inl hg)
section
variable {S : Type} {C : S → Nat → World → Prop} {Foot : S → Nat → Nat → Prop}
end
end Go.Proofs.YtpijkgbafjccaaaGreatDoor
namespace Go.Proofs.YtpijkgbafjccaaaGreatDoor
open Go.RowKit
set_option maxRecDepth 100000
def Pl.blk (p : Option Pl) : Option Nat := p.map (·.g)
end Go.Proofs.YtpijkgbafjccaaaGreatDoor
