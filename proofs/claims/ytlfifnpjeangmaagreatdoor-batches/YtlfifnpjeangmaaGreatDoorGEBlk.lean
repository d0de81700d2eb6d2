import Derived.Test.YtlfifnpjeangmaaGreatDoorGELaws
import Derived.Deep.MidRow
namespace Go.Proofs.YtlfifnpjeangmaaGreatDoor
open Go.RowKit
variable {cs:Array Value}{g:Nat}{w w':World}
def dB(w:World)(g:Nat)(cs:Array Value):Prop:=∃e,w.heap[g]?=some (.cells cs e (0,0))
theorem dB.kept(h:dB w g cs)(b:w'.heap[g]?=w.heap[g]?):dB w' g cs:=by
 obtain⟨e,a⟩:=h;exact⟨e,b.trans a⟩
theorem dB.lt(h:dB w g cs):g<w.heap.size:=by
 obtain⟨e,a⟩:=h;grind
theorem dB.new(w:World)(cs)(e):dB (w.alloc (.cells cs e)) w.heap.size cs:=⟨e,heap_alloc_new w _⟩
theorem dB.alloc(h:dB w g cs)(o):dB (w.alloc o) g cs:=h.kept (Below.heap_alloc w o g h.lt)
theorem dB.grown{row:Option Nat}(h:dB w g cs)(k:w.grownBy w' row)(a:some g≠row):dB w' g cs:=h.kept (k.block g h.lt a)
theorem dB.below{B:Nat}(h:dB w g cs)(k:Below B w w')(a:g<B):dB w' g cs:=h.kept (k.block g a)
theorem dB.drew(h:dB w g cs):dB w.drew g cs:=h.kept rfl
theorem dB.drewN(h:dB w g cs)(n):dB (w.drewN n) g cs:=h.kept rfl
theorem dB.cell(h:dB w g cs)(j:Nat):w.cell? (g,j)=cs[j]?:=by
 obtain⟨e,a⟩:=h;rw[cell_of_row w g j cs e (0,0) a]
theorem dB.frozen(h:dB w g cs)(j:Nat):w.frozen? (g,j)=false:=by
 obtain⟨e,a⟩:=h;simp[World.frozen?,a]
theorem dB.set(h:dB w g cs)(j:Nat)(v):dB (w.setCell (g,j) v) g (cs.setIfInBounds j v):=by
 obtain⟨e,a⟩:=h;refine⟨e,?_⟩;simp[World.setCell,Array.getElem?_modify,a]
theorem dB.other(h:dB w g cs)(a)(v)(b:g≠a.block):dB (w.setCell a v) g cs:=h.kept (Below.heap_setCell w a v g b)
theorem dB.range(h:dB w g cs):w.rangeAt g 0 cs.toList:=λj v a=>by
 rw[cN,h.cell,<-a]
 simp
theorem az{a b:World}{j:Nat}{u:Value}(h:a.grownBy b none)(c:a.heap.size<=g):a.grownBy (b.setCell (g,j) u) none:=
 ⟨h.os,h.tape,h.output,by rw[World.size_setCell];exact h.size,(by grind [RowKit.Below.heap_setCell,World.grownBy.block])⟩
theorem dB.load{P:Program}(h:dB w g cs)(a)(d)(c:P.underlying a=some d)(b:d.isRow=true)(e:(P.info? a).map (·.size)=some cs.size):
  (loadVar a ⟨g,0,none⟩).run P w=.ok (.agg cs) w:=by
 have:=run_loadVar_mid (P:=P) w g 0 a cs.toList d h.range c b (by simpa using e)
 simpa using this
theorem aek{p:Prop}(h:p:=by
 simp[results,h,hp',hl,asAddr]):p:=h
theorem oV{e:Func}{a u v:Tmp}{d:TypeId}(h:e.results=#[.cell a d,.tmp u,.tmp v])(c)(P)(w)(b:Nat)(f:c.getD a undef=.pointer (some (b,0)))(x)(hl:(loadVar d ⟨b,0,none⟩).run P w=.ok x w):
  (results e c).run P w=.ok (.tuple #[x,c.getD u undef,c.getD v undef]) w:=by
 have hp':c[a]?.getD undef=.pointer (some (b,0)):=by simpa using f
 exact aek
end Go.Proofs.YtlfifnpjeangmaaGreatDoor
