import Derived.Test.YtlfifnpjeangmaaGreatDoorGEBlk
import Derived.Test.YtlfifnpjeangmaaGreatDoorGEBoxM
namespace Go.Proofs.YtlfifnpjeangmaaGreatDoor
open Go.RowKit
set_option maxRecDepth 100000
variable {cs:List Value}{ao:Option Addr}{P:Program}{w:World}
def qj(w:World)(ao:Option Addr)(cs:List Value):Prop:=∀j u,cs[j]?=some u->∃b off,ao=some ⟨b,off,none⟩/\w.cell? ⟨b,off+j,none⟩=some u
theorem qj.below{w':World}(h:qj w ao cs)(k:w.grownBy w' none):qj w' ao cs:=λj u a=>by
 obtain⟨b,off,c,d⟩:=h j u a
 grind [World.grownBy.cell]
theorem qj.keep{w':World}(h:qj w ao cs)(c:∀b off,ao=some ⟨b,off,none⟩->w'.heap[b]?=w.heap[b]?):qj w' ao cs:=λj u e=>by
 obtain⟨b,off,a,d⟩:=h j u e
 refine⟨b,off,a,?_⟩
 have:w'.cell? (b,off+j)=w.cell? (b,off+j):=by simp[World.cell?,c b off a]
 rw[this]
 exact d
theorem nA{base:Nat}{e:TypeId}{size:Nat}{n c:Nat}{a:List Value}(h:w.ownsRow base e size (.slice ao n c) n a):qj w ao a:=by
 intro j u k;have b:j<a.length:=agM;rw[h.1]at b;rcases h.2 with⟨i,f⟩|⟨g,cap,d,i,_⟩
 ·subst f;simp at b
 grind [World.ownsRow.cellAt]
theorem Jf{base:Nat}{e:TypeId}{size:Nat}{n c:Nat}{b:List Value}(h:w.ownsRow base e size (.slice ao n c) n b):n<=c/\(ao=none->c=0):=by
 rcases h.2 with⟨d,j⟩|⟨g,cap,a,d,i,k,f,_⟩
 ·grind
 grind
theorem RZ(t e)(i)(size)(b:P.underlying t=some (.slice e))(d:P.info? e=some i)(f:i.size=size)(ao)(n cap h:Nat)(x)(g:x=(h:Int))(k:h<=cap)(w):
  (Instr.sliceAt t (.slice ao n cap) none (some (ι x)) none).run P w=.ok (.slice ao h cap) w:=by
 subst g
 have c:P.elem t=e:=by simp[Program.elem,b]
 have a:P.underlying t=some (.slice (P.elem t)):=by rw[c];exact b
 rw[run_sliceAt_slice w t _ _ _ _ a,run_slice_h w t _ n cap a .i64 (h:Int) agE agE,c]
 cases ao with
 |none=>simp[sizeOf,typeInfo,d,f,sliced]
 |some j=>simp[sizeOf,typeInfo,d,f,sliced,Addr.add]
theorem Hr(t e)(i)(size)(d:P.underlying t=some (.slice e))(p:P.info? e=some i)(q:i.size=size)(ao)(n cap l:Nat)(x)(o:x=(l:Int))(s:l<=n)(z:n<=cap)(g:cs.length=n*size):
  ∃c,(∀w,(Instr.sliceAt t (.slice ao n cap) (some (ι x)) none none).run P w=.ok (.slice c (n-l) (cap-l)) w)/\(∀w,qj w ao cs->qj w c (cs.drop (l*size)))/\((ao=none->cap=0)->c=none->cap-l=0):=by
 subst o
 have f:P.elem t=e:=by simp[Program.elem,d]
 have a:P.underlying t=some (.slice (P.elem t)):=by rw[f];exact d
 refine⟨if cap=l then ao else ao.map (·.add (l*size)),λw=>?_,λw h j u k=>?_,λh m=>?_⟩
 ·rw[run_sliceAt_slice w t _ _ _ _ a,run_slice_l w t _ n cap a .i64 (l:Int) agE agE,f];simp[sizeOf,typeInfo,p,q,sliced]
 ·rw[List.getElem?_drop]at k;obtain⟨b,off,y,v⟩:=h _ u k;grind [Addr.add_lit]
 ·split at m
  ·omega
  ·cases ao with
   |none=>have:=h rfl;omega
   |some r=>simp at m
theorem fF(w){r:Array Oper}{k:List Oper}{o:Oper}{a:Act}{Q:Exit->Act->World->Prop}(X:o.guard=none)(s x)(t)(C:o.op=Op.call {callee:=Callee.builtin Builtin.append,args:=#[s,x],argTypes:=#[t,t]})(base)(e)(i)(z)(size bytes)(R:P.underlying t=some (.slice e))(T:P.info? e=some i)(N:i.zero=some z)(p:i.size=size)(D:i.bytes=bytes)(F:z.cells.size=size)(E:0<size)(v)(n)(A)(U:a.eval s=v)(y:w.ownsRow base e size v n A)(ao)(m c)(d)(W:a.eval x=.slice ao m c)(M:d.length=m*size)(l:qj w ao d)(B:ao=none->c=0/\m=0)(V:∀u∈d,u.oneCell'=true)(H:n+m<=maxLen)(f:(n+m)*bytes<=140737488355328)(q:base<=w.heap.size)(O:∀g w',w'.ownsRow base e size g (n+m) (A++d)->w.grownBy w' v.ownBlock->wpList P r Q k (a.put o.dst g) w'):
  wpList P r Q (o::k) a w:=by
 refine wpList_plain X λK G=>?_
 have key:∃g w',(Builtin.append_ #[t,t] o.type #[v,.slice ao m c]).run P w=.ok g w'/\w'.ownsRow base e size g (n+m) (A++d)/\w.grownBy w' v.ownBlock:=by
  cases ao with
  |none=>
   obtain⟨rfl,rfl⟩:=B rfl;grind [run_append_owned_none,cC]
  |some L=>
   obtain⟨g,w',h,I,J,_⟩:=run_append_own (P:=P) w base t o.type e i z size bytes R T N p D F E v n A y L m c d M (λj u S=>by
    obtain⟨b,off,Z,Y⟩:=l j u S
    grind [Addr.add_lit]) V H f q
   grind
 obtain⟨g,w',h,I,J⟩:=key
 unfold Oper.wp
 simp[execOp,C,resolve,invoke,builtin,U,W,h,Result.andThen]
 exact G _ _ (O g w' I J)
theorem mG{w:World}{base:Nat}{e:TypeId}{size g n c:Nat}{l:List Value}(h:w.ownsRow base e size (.slice (some (g,0)) n c) n l)(j:Nat)(v):
  (w.setCell (g,j) v).ownsRow base e size (.slice (some (g,0)) n c) n (l.set j v):=by
 refine⟨by rw[eL];exact h.1,?_⟩
 rcases h.2 with⟨i,_⟩|⟨p,cap,a,i,m,o,k,b,f,d⟩
 ·cases i
 ·injection i with e1 _ e3;injection e1 with e1;injection e1 with e1 _ _;subst e1 e3;refine .inr ⟨g,c,a.setIfInBounds j v,rfl,m,?_,k,b,by simpa using f,?_⟩
  ·simp[World.setCell,Array.getElem?_modify,o]
  ·rw[Array.toList_setIfInBounds,List.take_set,d]
theorem oh{w:World}{base:Nat}{e:TypeId}{size g n c:Nat}{d:List Value}(h:w.ownsRow base e size (.slice (some (g,0)) n c) n d)(j:Nat):w.frozen? (g,j)=false:=by
 rcases h.2 with⟨a,_⟩|⟨i,cap,b,a,k,f,_⟩
 ·cases a
 ·injection a with e1 _ e3;injection e1 with e1;injection e1 with e1 _ _;subst e1;simp[World.frozen?,f]
end Go.Proofs.YtlfifnpjeangmaaGreatDoor
