import Derived.Test.YtlfifnpjeangmaaGreatDoorGEBlk
import Derived.Test.YtlfifnpjeangmaaGreatDoorGEBoxM
namespace Go.Proofs.YtlfifnpjeangmaaGreatDoor
open Go.RowKit
set_option maxRecDepth 100000
variable {cs:List Value}{ao:Option Addr}{P:Program}{w:World}
def ql(w:World)(ao:Option Addr)(cs:List Value):Prop:=∀j u,cs[j]?=some u->∃b off,ao=some ⟨b,off,none⟩/\w.cell? (F b (off+j))=some u
theorem ql.below{a:World}(h:ql w ao cs)(k:w.grownBy a none):ql a ao cs:=λj u d=>by
 obtain⟨b,e,f,g⟩:=h j u d
 grind [World.grownBy.cell]
theorem ql.keep{w':World}(h:ql w ao cs)(f:∀b a,ao=some ⟨b,a,none⟩->w'.1[b]?=w.1[b]?):ql w' ao cs:=λj u g=>by
 obtain⟨b,a,d,e⟩:=h j u g
 refine⟨b,a,d,?_⟩
 have:w'.cell? (F b (a+j))=w.cell? (F b (a+j)):=by simp[World.cell?,f b a d]
 rw[this]
 exact e
theorem nC{a:Nat}{e:TypeId}{size:Nat}{n c:Nat}{b:List Value}(h:w.ownsRow a e size (.slice ao n c) n b):ql w ao b:=by
 intro j u m;have d:j<b.length:=fA;rw[h.1]at d;rcases h.2 with⟨l,k⟩|⟨g,f,i,l,_⟩
 .subst k;simp at d
 grind [World.ownsRow.cellAt]
theorem Jj{a:Nat}{e:TypeId}{size:Nat}{n c:Nat}{j:List Value}(h:w.ownsRow a e size (.slice ao n c) n j):n<=c/\(ao=none->c=0):=by
 rcases h.2 with⟨i,k⟩|⟨g,b,d,i,l,m,f,_⟩
 .grind
 grind
theorem Sj(t e)(i)(size)(j:P.underlying t=some (.slice e))(f:P.info? e=some i)(g:i.size=size)(ao)(n a h:Nat)(x)(k:x=(h:Int))(m:h<=a)(w):
  (Instr.sliceAt t (.slice ao n a) none (some (Y x)) none).run P w=.ok (.slice ao h a) w:=by
 subst k
 have d:P.elem t=e:=by simp[Program.elem,j]
 have b:P.underlying t=some (.slice (P.elem t)):=by rw[d];exact j
 rw[run_sliceAt_slice w t _ _ _ _ b,run_slice_h w t _ n a b .i64 (h:Int) G G,d]
 cases ao with
 |none=>simp[sizeOf,typeInfo,f,g,sliced]
 |some l=>simp[sizeOf,typeInfo,f,g,sliced,Addr.add]
theorem Hy(t e)(i)(size)(m:P.underlying t=some (.slice e))(p:P.info? e=some i)(q:i.size=size)(ao)(n a l:Nat)(x)(r:x=(l:Int))(B:l<=n)(A:n<=a)(k:cs.length=n*size):
  ∃b,(∀w,(Instr.sliceAt t (.slice ao n a) (some (Y x)) none none).run P w=.ok (.slice b (n-l) (a-l)) w)/\(∀w,ql w ao cs->ql w b (cs.drop (l*size)))/\((ao=none->a=0)->b=none->a-l=0):=by
 subst r
 have g:P.elem t=e:=by simp[Program.elem,m]
 have d:P.underlying t=some (.slice (P.elem t)):=by rw[g];exact m
 refine⟨if a=l then ao else ao.map (·.add (l*size)),λw=>?_,λw h j u o=>?_,λh f=>?_⟩
 .rw[run_sliceAt_slice w t _ _ _ _ d,run_slice_l w t _ n a d .i64 (l:Int) G G,g];simp[sizeOf,typeInfo,p,q,sliced]
 .rw[List.getElem?_drop]at o;obtain⟨b,j,v,y⟩:=h _ u o;grind [Addr.add_lit]
 .split at f
  .omega
  .cases ao with
   |none=>have:=h rfl;omega
   |some b=>simp at f
theorem fH(w){C:Array Oper}{p:List Oper}{o:Oper}{a:Act}{Q:Exit->Act->World->Prop}(hg:o.guard=none)(s x)(t)(S:o.op=Op.call {callee:=Callee.builtin Builtin.append,args:=#[s,x],argTypes:=#[t,t]})(f)(e)(i)(z)(size g)(ht:P.underlying t=some (.slice e))(hi:P.info? e=some i)(hz:i.zero=some z)(A:i.size=size)(M:i.bytes=g)(U:z.cells.size=size)(T:0<size)(v)(n)(D)(hs:a.eval s=v)(B:w.ownsRow f e size v n D)(ao)(m c)(d)(hx:a.eval x=.slice ao m c)(hl:d.length=m*size)(y:ql w ao d)(R:ao=none->c=0/\m=0)(h1:∀u∈d,u.oneCell'=true)(J:n+m<=maxLen)(k:(n+m)*g<=140737488355328)(r:f<=w.1.size)(hK:∀q h,h.ownsRow f e size q (n+m) (D++d)->w.grownBy h v.ownBlock->wpList P C Q p (a.put o.dst q) h):
  wpList P C Q (o::p) a w:=by
 refine wpList_plain hg λK L=>?_
 have K:∃q h,(Builtin.append_ #[t,t] o.type #[v,.slice ao m c]).run P w=.ok q h/\h.ownsRow f e size q (n+m) (D++d)/\w.grownBy h v.ownBlock:=by
  cases ao with
  |none=>
   obtain⟨rfl,rfl⟩:=R rfl;grind [run_append_owned_none,cC]
  |some X=>
   obtain⟨q,h,l,V,W,_⟩:=run_append_own (P:=P) w f t o.type e i z size g ht hi hz A M U T v n D B X m c d hl (λj u hu=>by
    obtain⟨b,ab,e1,e2⟩:=y j u hu
    grind [Addr.add_lit]) h1 J k r
   grind
 obtain⟨q,h,l,V,W⟩:=K
 unfold Oper.wp
 simp[execOp,S,resolve,invoke,builtin,hs,hx,l,Result.andThen]
 exact L _ _ (hK q h V W)
theorem mH{w:World}{a:Nat}{e:TypeId}{size g n c:Nat}{m:List Value}(h:w.ownsRow a e size (ς g 0 n c) n m)(j)(v):
  (w.setCell (F g j) v).ownsRow a e size (ς g 0 n c) n (m.set j v):=by
 refine⟨by rw[eL];exact h.1,?_⟩
 rcases h.2 with⟨l,_⟩|⟨r,o,b,l,p,q,i,d,f,k⟩
 .cases l
 .injection l with e1 _ e3;injection e1 with e1;injection e1 with e1 _ _;subst e1 e3;refine .inr ⟨g,c,b.setIfInBounds j v,rfl,p,?_,i,d,by simpa using f,?_⟩
  .simp[World.setCell,Array.getElem?_modify,q]
  .rw[Array.toList_setIfInBounds,List.take_set,k]
theorem ou{w:World}{a:Nat}{e:TypeId}{size g n c:Nat}{k:List Value}(h:w.ownsRow a e size (ς g 0 n c) n k)(j):w.frozen? (F g j)=false:=by
 rcases h.2 with⟨b,_⟩|⟨l,d,f,b,m,i,_⟩
 .cases b
 .injection b with e1 _ e3;injection e1 with e1;injection e1 with e1 _ _;subst e1;simp[World.frozen?,i]
