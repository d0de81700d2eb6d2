import Derived.Test.YticfhckmhcaigaaGreatDoorGELaws
import Derived.Deep.MidRow
namespace Go.Proofs.YticfhckmhcaigaaGreatDoor
open Go.RowKit
variable {cs:Array Value}{g:Nat}{w w':World}
def dm(w:World)(g:Nat)(cs:Array Value):Prop:=∃e,w.1[g]?=some (.cells cs e (0,0))
theorem dm.kept(h:dm w g cs)(b:w'.1[g]?=w.1[g]?):dm w' g cs:=by
 obtain⟨e,a⟩:=h;exact⟨e,b.trans a⟩
theorem dm.lt(h:dm w g cs):g<w.1.size:=by
 obtain⟨e,a⟩:=h;grind
theorem dm.new(w:World)(cs)(e):dm (w.alloc (.cells cs e)) w.1.size cs:=⟨e,heap_alloc_new w _⟩
theorem dm.alloc(h:dm w g cs)(o):dm (w.alloc o) g cs:=h.kept (Below.heap_alloc w o g h.lt)
theorem dm.grown{a:Option Nat}(h:dm w g cs)(k:w.grownBy w' a)(b:some g≠a):dm w' g cs:=h.kept (k.block g h.lt b)
theorem dm.below{B:Nat}(h:dm w g cs)(k:Below B w w')(a:g<B):dm w' g cs:=h.kept (k.block g a)
theorem dm.drew(h:dm w g cs):dm w.drew g cs:=h.kept rfl
theorem dm.drewN(h:dm w g cs)(n):dm (w.drewN n) g cs:=h.kept rfl
theorem dm.cell(h:dm w g cs)(j):w.cell? (F g j)=cs[j]?:=by
 obtain⟨e,a⟩:=h;rw[cell_of_row w g j cs e (0,0) a]
theorem dm.frozen(h:dm w g cs)(j):w.frozen? (F g j)=false:=by
 obtain⟨e,a⟩:=h;simp[World.frozen?,a]
theorem dm.set(h:dm w g cs)(j)(v):dm (w.setCell (F g j) v) g (cs.setIfInBounds j v):=by
 obtain⟨e,a⟩:=h;refine⟨e,?_⟩;simp[World.setCell,Array.getElem?_modify,a]
theorem dm.other(h:dm w g cs)(a)(v)(b:g≠a.block):dm (w.setCell a v) g cs:=h.kept (Below.heap_setCell w a v g b)
theorem dm.range(h:dm w g cs):w.rangeAt g 0 cs.toList:=λj v a=>by
 rw[cR,h.cell,<-a]
 simp
theorem aB{a b:World}{j:Nat}{u:Value}(h:a.grownBy b none)(d:a.1.size<=g):a.grownBy (b.setCell (F g j) u) none:=
 ⟨h.os,h.tape,h.output,by rw[World.size_setCell];exact h.size,(by grind [RowKit.Below.heap_setCell,World.grownBy.block])⟩
theorem dm.load{P:Program}(h:dm w g cs)(a)(d)(f:P.underlying a=some d)(b:d.isRow=true)(e:(P.info? a).map (·.size)=some cs.size):
  (loadVar a ⟨g,0,none⟩).run P w=.ok (.agg cs) w:=by
 have:=run_loadVar_mid (P:=P) w g 0 a cs.toList d h.range f b (by simpa using e)
 simpa using this
theorem rL{p:Prop}(h:p:=by
 simp[results,h,hp',hl,asAddr]):p:=h
theorem pW{e:Func}{a u v:Tmp}{f:TypeId}(h:e.results=#[.cell a f,.tmp u,.tmp v])(d)(P)(w)(b)(g:d.getD a undef = N b 0)(x)(hl:(loadVar f ⟨b,0,none⟩).run P w=.ok x w):
  (results e d).run P w=.ok (.tuple #[x,d.getD u undef,d.getD v undef]) w:=by
 have hp':d[a]?.getD undef = N b 0:=by simpa using g
 exact rL
