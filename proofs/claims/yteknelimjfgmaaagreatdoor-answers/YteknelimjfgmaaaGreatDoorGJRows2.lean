import Derived.Test.YteknelimjfgmaaaGreatDoorGJBlk
import Derived.Test.YteknelimjfgmaaaGreatDoorGJBoxM
namespace Go.Proofs.YteknelimjfgmaaaGreatDoor
open Go.RowKit
set_option maxRecDepth 100000
variable {cs:List Value} {ao:Option Addr} {P:Program} {w:World}
def D5 (w:World) (ao:Option Addr) (cs:List Value):Prop:=∀ j u,cs[j]?=some u->∃ b off,ao=some ⟨b,off,none⟩/\w.cell? ⟨b,off+j,none⟩=some u
theorem D5.below {w':World} (h:D5 w ao cs) (k:w.grownBy w' none):D5 w' ao cs:=fun j u hu=>by
 obtain ⟨b,off,e1,e2⟩:=h j u hu
 exact ⟨b,off,e1,k.cell e2 aft⟩
theorem D5.keep {w':World} (h:D5 w ao cs) (hk:∀ b off,ao=some ⟨b,off,none⟩->w'.heap[b]?=w.heap[b]?):D5 w' ao cs:=fun j u hu=>by
 obtain ⟨b,off,e1,e2⟩:=h j u hu
 refine ⟨b,off,e1,?_⟩
 have:w'.cell? ⟨b,off+j,none⟩=w.cell? ⟨b,off+j,none⟩:=by simp[World.cell?,hk b off e1]
 rw[this]
 exact e2
theorem xZ {base:Nat} {e:TypeId} {size:Nat} {n c:Nat} {xs:List Value} (h:w.ownsRow base e size (.slice ao n c) n xs):D5 w ao xs:=by
 intro j u hu;have hj:j<xs.length:=(cq.1 hu).1;rw[h.1] at hj;rcases h.2 with ⟨hv,h2⟩ | ⟨g,cap,cur,hv,_⟩
 ·subst h2;simp at hj
 ·injection hv with e1 _ e3;subst e1 e3;exact ⟨g,0,rfl,by rw[cC,h.cellAt j hj];exact hu⟩
theorem OA {base:Nat} {e:TypeId} {size:Nat} {n c:Nat} {xs:List Value} (h:w.ownsRow base e size (.slice ao n c) n xs):n<=c/\(ao=none->c=0):=by
 rcases h.2 with ⟨hv,h2⟩ | ⟨g,cap,cur,hv,hb,hg,hnc,_⟩
 ·injection hv with e1 _ e3;subst e1 e3 h2;exact ⟨bd _,fun _=>rfl⟩
 ·injection hv with e1 _ e3;subst e1 e3;exact ⟨hnc,fun h=>by cases h⟩
theorem OB (t e:TypeId) (i:TypeInfo) (size:Nat) (ht:P.underlying t=some (.slice e)) (hi:P.info? e=some i) (hs:i.size=size) (ao:Option Addr) (n cap h:Nat) (x:Int) (hx:x=(h:Int)) (hc:h<=cap) (w:World) :
  (Instr.sliceAt t (.slice ao n cap) none (some (.int .i64 x)) none).run P w = .ok (.slice ao h cap) w:=by
 subst hx
 have he:P.elem t=e:=by simp[Program.elem,ht]
 have ht':P.underlying t=some (.slice (P.elem t)):=by rw[he];exact ht
 rw[run_sliceAt_slice w t _ _ _ _ ht',run_slice_h w t _ n cap ht' .i64 (h:Int) afp afp,he]
 cases ao with
 | none=>simp[sizeOf,typeInfo,hi,hs,sliced]
 | some ad=>simp[sizeOf,typeInfo,hi,hs,sliced,Addr.add]
theorem ET (t e:TypeId) (i:TypeInfo) (size:Nat) (ht:P.underlying t=some (.slice e)) (hi:P.info? e=some i) (hs:i.size=size) (ao:Option Addr) (n cap l:Nat) (x:Int) (hx:x=(l:Int)) (hl:l<=n) (hc:n<=cap) (hlen:cs.length=n*size) :
  ∃ a',(∀ w,(Instr.sliceAt t (.slice ao n cap) (some (.int .i64 x)) none none).run P w = .ok (.slice a' (n-l) (cap-l)) w)/\(∀ w,D5 w ao cs->D5 w a' (cs.drop (l*size)))/\((ao=none->cap=0)->a'=none->cap-l=0):=by
 subst hx
 have he:P.elem t=e:=by simp[Program.elem,ht]
 have ht':P.underlying t=some (.slice (P.elem t)):=by rw[he];exact ht
 refine ⟨if cap=l then ao else ao.map (·.add (l*size)),fun w=>?_,fun w h j u hu=>?_,fun h h'=>?_⟩
 ·rw[run_sliceAt_slice w t _ _ _ _ ht',run_slice_l w t _ n cap ht' .i64 (l:Int) afp afp,he];simp[sizeOf,typeInfo,hi,hs,sliced]
 ·rw[List.getElem?_drop] at hu;obtain ⟨b,off,e1,e2⟩:=h _ u hu;have hj:=(cq.1 hu).1;rw[hlen] at hj;have hne:¬ cap=l:=by
   intro e;have:n<=l:=by omega
   have:=Nat.mul_le_mul_right size this;omega
  rw[if_neg hne];subst e1;refine ⟨b,off+l*size,by simp[Addr.add_lit],?_⟩;rw[fN];exact e2
 ·split at h'
  ·omega
  ·cases ao with
   | none=>have:=h rfl;omega
   | some ad=>simp at h'
theorem iT (w:World) {ops:Array Oper} {rest:List Oper} {o:Oper} {a:Act} {Q:Exit->Act->World->Prop}
  (hg:o.guard=none) (s x:Operand) (t:TypeId) (hop:o.op=Op.call {callee:=Callee.builtin Builtin.append,args:=#[s,x],argTypes:=#[t,t]})
  (base:Nat) (e:TypeId) (i:TypeInfo) (z:Value) (size bytes:Nat) (ht:P.underlying t=some (.slice e)) (hi:P.info? e=some i) (hz:i.zero=some z) (hsize:i.size=size) (hby:i.bytes=bytes) (hzs:z.cells.size=size) (hsz:0<size)
  (v:Value) (n:Nat) (xs:List Value) (hs:a.eval s=v) (hown:w.ownsRow base e size v n xs) (ao:Option Addr) (m c:Nat) (news:List Value) (hx:a.eval x = .slice ao m c) (hl:news.length=m*size) (hnews:D5 w ao news) (hnc:ao=none->c=0/\m=0) (h1:∀ u∈news,u.oneCell'=true)
  (h63:n+m<=maxLen) (hbytes:(n+m)*bytes<=140737488355328) (hbase:base<=w.heap.size)
  (hK:∀ v' w',w'.ownsRow base e size v' (n+m) (xs++news)->w.grownBy w' v.ownBlock->wpList P ops Q rest (a.put o.dst v') w') :
  wpList P ops Q (o::rest) a w:=by
 refine wpList_plain hg fun K hK'=>?_
 have key:∃ v' w',(Builtin.append_ #[t,t] o.type #[v,.slice ao m c]).run P w = .ok v' w'/\w'.ownsRow base e size v' (n+m) (xs++news)/\w.grownBy w' v.ownBlock:=by
  cases ao with
  | none=>
   obtain ⟨rfl,rfl⟩:=hnc rfl;have:news=[]:=ep (by simpa using hl);subst this;exact ⟨_,_,run_append_owned_none (P:=P) w base t o.type e i size ht hi v n _ hown,by simpa using hown,bh _ _⟩
  | some ad=>
   obtain ⟨v',w',hrun,r1,r2,_⟩:=run_append_own (P:=P) w base t o.type e i z size bytes ht hi hz hsize hby hzs hsz v n xs hown ad m c news hl (fun j u hu=>by
    obtain ⟨b,off,e1,e2⟩:=hnews j u hu;injection e1 with e1;subst e1;rw[Addr.add_lit]
    exact e2) h1 h63 hbytes hbase
   exact ⟨v',w',hrun,r1,r2⟩
 obtain ⟨v',w',hrun,r1,r2⟩:=key
 unfold Oper.wp
 simp[execOp,hop,resolve,invoke,builtin,hs,hx,hrun,Result.andThen]
 exact hK' _ _ (hK v' w' r1 r2)
theorem nX {w:World} {base:Nat} {e:TypeId} {size g n c:Nat} {xs:List Value} (h:w.ownsRow base e size (.slice (some ⟨g,0,none⟩) n c) n xs) (j:Nat) (v:Value) :
  (w.setCell ⟨g,j,none⟩ v).ownsRow base e size (.slice (some ⟨g,0,none⟩) n c) n (xs.set j v):=by
 refine ⟨by rw[cU];exact h.1,?_⟩
 rcases h.2 with ⟨hv,_⟩ | ⟨g',cap,cur,hv,hb,hg,hnc,hcm,hcs,htk⟩
 ·cases hv
 ·injection hv with e1 _ e3;injection e1 with e1;injection e1 with e1 _ _;subst e1 e3;refine .inr ⟨g,c,cur.setIfInBounds j v,rfl,hb,?_,hnc,hcm,by simpa using hcs,?_⟩
  ·simp[World.setCell,Array.getElem?_modify,hg]
  ·rw[Array.toList_setIfInBounds,List.take_set,htk]
theorem tF {w:World} {base:Nat} {e:TypeId} {size g n c:Nat} {xs:List Value} (h:w.ownsRow base e size (.slice (some ⟨g,0,none⟩) n c) n xs) (j:Nat):w.frozen? ⟨g,j,none⟩=false:=by
 rcases h.2 with ⟨hv,_⟩ | ⟨g',cap,cur,hv,hb,hg,_⟩
 ·cases hv
 ·injection hv with e1 _ e3;injection e1 with e1;injection e1 with e1 _ _;subst e1;simp[World.frozen?,hg]
end Go.Proofs.YteknelimjfgmaaaGreatDoor
