/-
  
  
-/
import Derived.Test.YtpibgolaaaemnaaGreatDoorGUBlk
import Derived.Test.YtpibgolaaaemnaaGreatDoorGUBoxM
import Derived.Test.YtpibgolaaaemnaaGreatDoorGULaw1
import Derived.Test.YtpibgolaaaemnaaGreatDoorGUSeal
namespace Go.Proofs.YtpibgolaaaemnaaGreatDoor
open Go.RowKit
theorem pM {w w':World} {base:Nat} {e:TypeId} {size:Nat} {v:Value} {n:Nat} {xs:List Value} (h:w.ownsRow base e size v n xs) (hk:∀ b,v.ownBlock=some b→w'.heap[b]?=w.heap[b]?):w'.ownsRow base e size v n xs:=by
 refine ⟨h.1,?_⟩
 rcases h.2 with hn | ⟨g,cap,cur,rfl,hb,hgg,rest⟩
 ·exact .inl hn
 ·exact .inr ⟨g,cap,cur,rfl,hb,(hk g rfl).trans hgg,rest⟩
theorem uW.refl (w:World) (ex:Nat→Prop):uW w w ex:=⟨rfl,rfl,rfl,Nat.le_refl _,fun _ _ _=>rfl⟩
theorem uW.trans {a b c:World} {ex:Nat→Prop} (h:uW a b ex) (k:uW b c fun i=>ex i∨a.heap.size≤i):uW a c ex:=by
 have s:=h.size
 refine ⟨k.os.trans h.os,k.tape.trans h.tape,k.output.trans h.output,Nat.le_trans h.size k.size,fun i hi hx=>?_⟩
 rw[k.block i (by omega) (by rintro (e | e);exact hx e;omega),h.block i hi hx]
theorem uW.setCell {a w:World} {ex:Nat→Prop} (h:uW a w ex) (p:Addr) (u:Value) (hp:ex p.block∨a.heap.size≤p.block):uW a (w.setCell p u) ex:=
 h.trans ⟨rfl,rfl,rfl,by simp[World.setCell],fun k _ hx=>Below.heap_setCell _ _ _ _ (fun e=>hx (by rw[e];exact hp))⟩
theorem uW.set {a w:World} {ex:Nat→Prop} {g:Nat} (h:uW a w ex) (hg:ex g) (j:Nat) (u:Value):uW a (w.setCell ⟨g,j,none⟩ u) ex:=h.setCell ⟨g,j,none⟩ u (.inl hg)
section
variable {S:Type} {C:S→Nat→World→Prop} {amm:S→Nat→Nat→Prop}
end
end Go.Proofs.YtpibgolaaaemnaaGreatDoor
namespace Go.Proofs.YtpibgolaaaemnaaGreatDoor
open Go.RowKit
set_option maxRecDepth 100000
def Pl.blk (p:Option Pl):Option Nat:=p.map (·.g)
end Go.Proofs.YtpibgolaaaemnaaGreatDoor
