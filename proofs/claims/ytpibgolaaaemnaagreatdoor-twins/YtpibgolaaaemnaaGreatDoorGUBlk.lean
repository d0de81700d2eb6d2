/-
  
-/
import Derived.Test.YtpibgolaaaemnaaGreatDoorGULaws
import Derived.Deep.MidRow
namespace Go.Proofs.YtpibgolaaaemnaaGreatDoor
open Go.RowKit
def bI (w:World) (g:Nat) (cs:Array Value):Prop:=∃ e,w.heap[g]?=some (.cells cs e (0,0))
theorem bI.kept {w w':World} {g:Nat} {cs:Array Value} (h:bI w g cs) (he:w'.heap[g]?=w.heap[g]?):bI w' g cs:=by
 obtain ⟨e,h1⟩:=h
 exact ⟨e,he.trans h1⟩
theorem bI.lt {w:World} {g:Nat} {cs:Array Value} (h:bI w g cs):g<w.heap.size:=by
 obtain ⟨e,h1⟩:=h
 exact (Array.getElem?_eq_some_iff.1 h1).1
theorem bI.new (w:World) (cs:Array Value) (e:TypeId):bI (w.alloc (.cells cs e)) w.heap.size cs:=⟨e,heap_alloc_new w _⟩
theorem bI.alloc {w:World} {g:Nat} {cs:Array Value} (h:bI w g cs) (o:Obj):bI (w.alloc o) g cs:=h.kept (Below.heap_alloc w o g h.lt)
theorem bI.grown {w w':World} {g:Nat} {cs:Array Value} {row:Option Nat} (h:bI w g cs) (k:w.grownBy w' row) (hr:some g≠row):bI w' g cs:=h.kept (k.block g h.lt hr)
theorem bI.drew {w:World} {g:Nat} {cs:Array Value} (h:bI w g cs):bI w.drew g cs:=h.kept rfl
theorem bI.drewN {w:World} {g:Nat} {cs:Array Value} (h:bI w g cs) (n:Nat):bI (w.drewN n) g cs:=h.kept rfl
theorem bI.cell {w:World} {g:Nat} {cs:Array Value} (h:bI w g cs) (j:Nat):w.cell? ⟨g,j,none⟩=cs[j]?:=by
 obtain ⟨e,h1⟩:=h
 rw[cell_of_row w g j cs e (0,0) h1]
theorem bI.frozen {w:World} {g:Nat} {cs:Array Value} (h:bI w g cs) (j:Nat):w.frozen? ⟨g,j,none⟩=false:=by
 obtain ⟨e,h1⟩:=h
 simp[World.frozen?,h1]
theorem bI.set {w:World} {g:Nat} {cs:Array Value} (h:bI w g cs) (j:Nat) (v:Value):bI (w.setCell ⟨g,j,none⟩ v) g (cs.setIfInBounds j v):=by
 obtain ⟨e,h1⟩:=h
 refine ⟨e,?_⟩
 simp[World.setCell,Array.getElem?_modify,h1]
theorem bI.other {w:World} {g:Nat} {cs:Array Value} (h:bI w g cs) (a:Addr) (v:Value) (hne:g≠a.block):bI (w.setCell a v) g cs:=h.kept (Below.heap_setCell w a v g hne)
theorem bI.range {w:World} {g:Nat} {cs:Array Value} (h:bI w g cs):w.rangeAt g 0 cs.toList:=fun j v hv=>by
 rw[Nat.zero_add,h.cell,←hv]
 simp
theorem aK {a b:World} {g j:Nat} {u:Value} (h:a.grownBy b none) (hg:a.heap.size≤g):a.grownBy (b.setCell ⟨g,j,none⟩ u) none:=
 ⟨h.os,h.tape,h.output,by rw[World.size_setCell];exact h.size,fun k hk hr=>(Below.heap_setCell b _ u k (by show k≠g;omega)).trans (h.block k hk hr)⟩
theorem bI.load {P:Program} {w:World} {g:Nat} {cs:Array Value} (h:bI w g cs) (ty:TypeId) (d:TypeDesc) (hu:P.underlying ty=some d) (hd:d.isRow=true) (hi:(P.info? ty).map (·.size)=some cs.size) :
  (loadVar ty ⟨g,0,none⟩).run P w = .ok (.agg cs) w:=by
 have:=run_loadVar_mid (P:=P) w g 0 ty cs.toList d h.range hu hd (by simpa using hi)
 simpa using this
end Go.Proofs.YtpibgolaaaemnaaGreatDoor
