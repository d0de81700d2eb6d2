import Derived.Test.YteknelimjfgmaaaGreatDoorGJLaws
import Derived.Deep.MidRow
namespace Go.Proofs.YteknelimjfgmaaaGreatDoor
open Go.RowKit
variable {cs:Array Value} {g:Nat} {w:World}
def dX (w:World) (g:Nat) (cs:Array Value):Prop:=∃ e,w.heap[g]?=some (.cells cs e (0,0))
theorem dX.kept {w':World} (h:dX w g cs) (he:w'.heap[g]?=w.heap[g]?):dX w' g cs:=by
 obtain ⟨e,h1⟩:=h;exact ⟨e,he.trans h1⟩
theorem dX.lt (h:dX w g cs):g<w.heap.size:=by
 obtain ⟨e,h1⟩:=h;exact (eA.1 h1).1
theorem dX.new (w:World) (cs:Array Value) (e:TypeId):dX (w.alloc (.cells cs e)) w.heap.size cs:=⟨e,heap_alloc_new w _⟩
theorem dX.alloc (h:dX w g cs) (o:Obj):dX (w.alloc o) g cs:=h.kept (Below.heap_alloc w o g h.lt)
theorem dX.grown {w':World} {row:Option Nat} (h:dX w g cs) (k:w.grownBy w' row) (hr:some g≠row):dX w' g cs:=h.kept (k.block g h.lt hr)
theorem dX.drew (h:dX w g cs):dX w.drew g cs:=h.kept rfl
theorem dX.drewN (h:dX w g cs) (n:Nat):dX (w.drewN n) g cs:=h.kept rfl
theorem dX.cell (h:dX w g cs) (j:Nat):w.cell? ⟨g,j,none⟩=cs[j]?:=by
 obtain ⟨e,h1⟩:=h;rw[cell_of_row w g j cs e (0,0) h1]
theorem dX.frozen (h:dX w g cs) (j:Nat):w.frozen? ⟨g,j,none⟩=false:=by
 obtain ⟨e,h1⟩:=h;simp[World.frozen?,h1]
theorem dX.set (h:dX w g cs) (j:Nat) (v:Value):dX (w.setCell ⟨g,j,none⟩ v) g (cs.setIfInBounds j v):=by
 obtain ⟨e,h1⟩:=h;refine ⟨e,?_⟩;simp[World.setCell,Array.getElem?_modify,h1]
theorem dX.other (h:dX w g cs) (a:Addr) (v:Value) (hne:g≠a.block):dX (w.setCell a v) g cs:=h.kept (Below.heap_setCell w a v g hne)
theorem dX.range (h:dX w g cs):w.rangeAt g 0 cs.toList:=fun j v hv=>by
 rw[cC,h.cell,<-hv]
 simp
theorem az {a b:World} {j:Nat} {u:Value} (h:a.grownBy b none) (hg:a.heap.size<=g):a.grownBy (b.setCell ⟨g,j,none⟩ u) none:=
 ⟨h.os,h.tape,h.output,by rw[World.size_setCell];exact h.size,fun k hk hr=>(Below.heap_setCell b _ u k (by show k≠g;omega)).trans (h.block k hk hr)⟩
theorem dX.load {P:Program} (h:dX w g cs) (ty:TypeId) (d:TypeDesc) (hu:P.underlying ty=some d) (hd:d.isRow=true) (hi:(P.info? ty).map (·.size)=some cs.size) :
  (loadVar ty ⟨g,0,none⟩).run P w = .ok (.agg cs) w:=by
 have:=run_loadVar_mid (P:=P) w g 0 ty cs.toList d h.range hu hd (by simpa using hi)
 simpa using this
theorem ac1 {p:Prop} (h:p:=by
 simp[results,h,hp',hl,asAddr]):p:=h
theorem nV {fn:Func} {a u v:Tmp} {ty:TypeId} (h:fn.results=#[.cell a ty,.tmp u,.tmp v]) (tmps:Array Value) (P:Program) (w:World) (b:Nat) (hp:tmps.getD a undef = .pointer (some ⟨b,0,none⟩)) (x:Value) (hl:(loadVar ty ⟨b,0,none⟩).run P w = .ok x w) :
  (results fn tmps).run P w = .ok (.tuple #[x,tmps.getD u undef,tmps.getD v undef]) w:=by
 have hp':tmps[a]?.getD undef = .pointer (some ⟨b,0,none⟩):=by simpa using hp
 exact ac1
end Go.Proofs.YteknelimjfgmaaaGreatDoor
