import Derived.Test.YtlfifnpjeangmaaGreatDoorGELaws
import Derived.Deep.MidRow
namespace Go.Proofs.YtlfifnpjeangmaaGreatDoor
open Go.RowKit
variable {cs:Array Value}{g:Nat}{w w':World}
def dz(w:World)(g:Nat)(cs:Array Value):Prop:=∃e,w.1[g]?=some (.cells cs e (0,0))
theorem dz.kept(h:dz w g cs)(b:w'.1[g]?=w.1[g]?):dz w' g cs:=by
 obtain⟨e,a⟩:=h;exact⟨e,b.trans a⟩
theorem dz.lt(h:dz w g cs):g<w.1.size:=by
 obtain⟨e,a⟩:=h;grind
theorem dz.new(w:World)(cs)(e):dz (w.alloc (.cells cs e)) w.1.size cs:=⟨e,heap_alloc_new w _⟩
theorem dz.alloc(h:dz w g cs)(o):dz (w.alloc o) g cs:=h.kept (Below.heap_alloc w o g h.lt)
theorem dz.grown{a:Option Nat}(h:dz w g cs)(k:w.grownBy w' a)(b:some g≠a):dz w' g cs:=h.kept (k.block g h.lt b)
theorem dz.below{B:Nat}(h:dz w g cs)(k:Below B w w')(a:g<B):dz w' g cs:=h.kept (k.block g a)
theorem dz.drew(h:dz w g cs):dz w.drew g cs:=h.kept rfl
theorem dz.drewN(h:dz w g cs)(n):dz (w.drewN n) g cs:=h.kept rfl
theorem dz.cell(h:dz w g cs)(j):w.cell? (F g j)=cs[j]?:=by
 obtain⟨e,a⟩:=h;rw[cell_of_row w g j cs e (0,0) a]
theorem dz.frozen(h:dz w g cs)(j):w.frozen? (F g j)=false:=by
 obtain⟨e,a⟩:=h;simp[World.frozen?,a]
theorem dz.set(h:dz w g cs)(j)(v):dz (w.setCell (F g j) v) g (cs.setIfInBounds j v):=by
 obtain⟨e,a⟩:=h;refine⟨e,?_⟩;simp[World.setCell,Array.getElem?_modify,a]
theorem dz.other(h:dz w g cs)(a)(v)(b:g≠a.block):dz (w.setCell a v) g cs:=h.kept (Below.heap_setCell w a v g b)
theorem dz.range(h:dz w g cs):w.rangeAt g 0 cs.toList:=λj v a=>by
 rw[cN,h.cell,<-a]
 simp
theorem az{a b:World}{j:Nat}{u:Value}(h:a.grownBy b none)(d:a.1.size<=g):a.grownBy (b.setCell (F g j) u) none:=
 ⟨h.os,h.tape,h.output,by rw[World.size_setCell];exact h.size,(by grind [RowKit.Below.heap_setCell,World.grownBy.block])⟩
theorem dz.load{P:Program}(h:dz w g cs)(a)(d)(f:P.underlying a=some d)(b:d.isRow=true)(e:(P.info? a).map (·.size)=some cs.size):
  (loadVar a ⟨g,0,none⟩).run P w=.ok (.agg cs) w:=by
 have:=run_loadVar_mid (P:=P) w g 0 a cs.toList d h.range f b (by simpa using e)
 simpa using this
theorem rm{p:Prop}(h:p:=by
 simp[results,h,hp',hl,asAddr]):p:=h
theorem oZ{e:Func}{a u v:Tmp}{f:TypeId}(h:e.results=#[.cell a f,.tmp u,.tmp v])(d)(P)(w)(b)(g:d.getD a undef = π b 0)(x)(hl:(loadVar f ⟨b,0,none⟩).run P w=.ok x w):
  (results e d).run P w=.ok (.tuple #[x,d.getD u undef,d.getD v undef]) w:=by
 have hp':d[a]?.getD undef = π b 0:=by simpa using g
 exact rm
