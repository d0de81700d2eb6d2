/-
  
  
-/
import Derived.Test.YtpibgolaaaemnaaGreatDoorGUSeal
import Derived.Test.YtpibgolaaaemnaaGreatDoorGUBase
import Derived.Deep.RegionLaw
import Derived.Deep.DeepCutAuto
import Derived.Lib.SliceRun
namespace Go.Proofs.YtpibgolaaaemnaaGreatDoor
open Go.RowKit
set_option maxRecDepth 100000
theorem ze {P:Program} (w:World) {ops:Array Oper} {rest:List Oper} {o:Oper} {a:Act} {Q:Exit→Act→World→Prop}
  (hg:o.guard=none) (x:Operand) (src dst:TypeId) (hop:o.op=Op.convert src dst x)
  (e:TypeId) (hs:P.underlying src=some .string) (hd:P.underlying dst=some (.slice e)) (he:P.underlying e=some (.int .u8)) (zs:List UInt8) (hx:a.eval x = .string ⟨zs.toArray⟩) (hb:zs.length≤140737488355328)
  (hK:∀ b cap w',zs.length≤cap→cap≤maxLen→At w' (some ⟨b,0,none⟩) zs→w.grownBy w' none→wpList P ops Q rest (a.put o.dst (.slice (some ⟨b,0,none⟩) zs.length cap)) w') :
  wpList P ops Q (o::rest) a w:=by
 refine wpList_plain hg fun K hK'=>?_
 have hsz:(⟨zs.toArray⟩:ByteArray).size=zs.length:=by simp[ByteArray.size]
 have hr:=run_bytes_of_string (P:=P) w src dst e ⟨zs.toArray⟩ hs hd he
 rw[hsz] at hr
 have hge:=grownCap_ge w zs.length 0 e
 have hcm:=grownCap_le_maxLen w zs.length 0 e (by unfold maxLen;omega)
 unfold Oper.wp
 simp[execOp,hop,hx,hr,Result.andThen]
 refine hK' _ _ (hK _ _ _ hge hcm ?_ ⟨rfl,rfl,rfl,by simp,fun k hk _=>Below.heap_alloc w.drew _ k hk⟩)
 refine At.some fun j hj=>?_
 have hh:∀ (C:Array Value) (fr:Nat×Nat),(w.drew.alloc (.cells C e fr)).heap[w.heap.size]?=some (.cells C e fr):=fun C fr=>heap_alloc_new w.drew _
 rw[Nat.zero_add,cell_of_row _ _ j _ e _ (hh _ _)]
 unfold bytesRow
 rw[Array.getElem?_append_left (by simpa using hj)]
 simp[hj]
end Go.Proofs.YtpibgolaaaemnaaGreatDoor
namespace Go.Proofs.YtpibgolaaaemnaaGreatDoor
open Go.RowKit
set_option maxRecDepth 100000
structure uW (w w':World) (ex:Nat→Prop):Prop where
 os:w'.os=w.os
 tape:w'.tape=w.tape
 output:w'.output=w.output
 size:w.heap.size≤w'.heap.size
 block:∀ k,k<w.heap.size→¬ ex k→w'.heap[k]?=w.heap[k]?
theorem bZ {w:World} {base base':Nat} {e:TypeId} {size:Nat} {v:Value} {n:Nat} {xs:List Value} (h:w.ownsRow base e size v n xs) (hb:base'≤base):w.ownsRow base' e size v n xs:=by
 refine ⟨h.1,?_⟩
 rcases h.2 with h | ⟨g,cap,cur,h1,h2,h3⟩
 ·exact .inl h
 ·exact .inr ⟨g,cap,cur,h1,Nat.le_trans hb h2,h3⟩
end Go.Proofs.YtpibgolaaaemnaaGreatDoor
