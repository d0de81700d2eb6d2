/-
  It is proved that All returns true for every input of bulk at most 1048576 and leaves its argument as it read before: each step of a script, of the kinds that it plays, answers as the document's answer does.
  Conditions: that bulk, and the card's own (the listed package-level variables start as the program's text lays them). The frame of the proof is after the guide's toy; the walk and all that it rests on are in the texts that this one imports.
-/
import Derived.Test.YticfhckmhcaigaaGreatDoorCards
import Derived.Test.YticfhckmhcaigaaGreatDoorTie
import Derived.Test.YticfhckmhcaigaaGreatDoorGEBScr
import Derived.ProofKit
namespace Go.Proofs.YticfhckmhcaigaaGreatDoor.facts
set_option maxRecDepth 100000
theorem laidOut:laidOutB Tryz.prog=true:=by kernel_rfl
theorem aoo:mapsRowed Tryz.prog=true:=by kernel_rfl
theorem stops:Tryz.prog.stops=[]:=by kernel_rfl
theorem knobs:Tryz.prog.stopKnobs=[]:=by kernel_rfl
theorem plainKeys:Tryz.prog.plainKeys=true:=by kernel_rfl
theorem heard:Tryz.prog.stopsHeard=true:=by kernel_rfl
theorem mayEnter:Tryz.prog.mayEnter=true:=by kernel_rfl
theorem lifts:Tryz.prog.liftsFinal=false:=by kernel_rfl
theorem make:Tryz.prog.make=some Rows.allRow.make:=by kernel_rfl
end Go.Proofs.YticfhckmhcaigaaGreatDoor.facts
namespace Go.Proofs.YticfhckmhcaigaaGreatDoor.all
set_option maxHeartbeats 400000
open Go.ChangeShapes Go.WideShapes Go.ChangeAt Go.RowKit
set_option linter.unusedVariables false
set_option maxRecDepth 100000
theorem N6{W:World}(h:laidMetH Tryz.prog Rows.allUptoRow.laid W):lZ W:=by
 have b:laidMet Tryz.prog Rows.allUptoRow.laid W:=by
  rw[<-Go.MakeChecks.laidMetH_plain Tryz.prog Rows.allUptoRow.laid W f'];exact h
 have a:=b.filter (λx=>x.1==tL);have e:Rows.allUptoRow.laid.filter (λx=>x.1==tL)=[(tL,Lib.tabData .u64 Lib.pow10Tab)]:=f';rw[e]at a;exact Lib.tabIs_of_head (g:=0) (t:=351) (e:=39) (n:=20) f' f' Tryz.underlying351 Tryz.underlying39 f' f' a
theorem any(a)(n l)(w)(p:ru (VK w) w a n)(hn:n<=1048576)(m:lZ w):Calls Tryz.prog 3 #[.slice a n l] w λe r=>e=.returned (.bool true)/\Below w.1.size w r:=by
 have G:=cy w (.cells #[Y 5,Y 1,Y 2,Y 3,Y 4,Y 6,Y 7,Y 8,Y 9,Y 10,Y 11,Y 12] 3) none
 obtain⟨k,b⟩:=aw (w.alloc (.cells #[Y 5,Y 1,Y 2,Y 3,Y 4,Y 6,Y 7,Y 8,Y 9,Y 10,Y 11,Y 12] 3))
 have f:Lib.TabBelow Tryz.prog k.1.size k tL .u64 Lib.pow10Tab:=by rw[b];exact Lib.tabBelow_of_tabIs (nI m G)
 have o:=Ws (VK w) (λi wr=>∃d,Iu k i wr d) [5,1,2,3,4,6,7,8,9,10,11,12] 5 12 (I rfl) aZ aZ rfl a n l w.1.size k (by rw[b];exact p.grown G) aZ (by rw[b];simp)
  (λj g=>by
   have:j=0\/j=1\/j=2\/j=3\/j=4\/j=5\/j=6\/j=7\/j=8\/j=9\/j=10\/j=11:=by omega
   rw[b,World.cell?_alloc_at (hn:=rfl)]
   rcases this with rfl|rfl|rfl|rfl|rfl|rfl|rfl|rfl|rfl|rfl|rfl|rfl<;>rfl)
  (λwr j=>⟨_,Iu.start j⟩)
  (λh g=>YR w 5 H h g)
  (λi wr q t v ⟨d,g⟩ x _ _ h=>(by have u:scr.Ir k t:=(by rw[b];exact h.2.2.grown G);exact g.step aZ (f.on g.below).here x h.1 h.2.1 u))
  (λi wr v ⟨d,g⟩=>(g.looks aZ).mono λe r ⟨h,j⟩=>⟨h,d,j⟩)
  (λi wr q ⟨d,g⟩=>⟨d,g.grown (aN (cC wr none) q)⟩) (λi wr ⟨d,g⟩=>⟨d,g.mono ⟩) (λi wr ⟨d,g⟩=>g.below)
 rw[b]at o
 clear p f b
 go_enter Tryz.func3,Tryz.ntmps3
 go_wp2_with fail
 refine o.mono ?_
 rintro e k ⟨rfl,B⟩
 clear o
 go_wp2
 go_ret
 exact⟨rfl,(uB G).trans (B.mono Z)⟩
theorem ON(H)(l:TypeId×Value->H)(W)(g)(a)(u w)(b)(f:∀(j:Nat)t v,Tryz.f3.params[j]?=some t->a[j]?=some v->Value.okWide Tryz.prog W .any g t v)(Q:DataW.Whole l Tryz.prog Tryz.f3.params.toList Rows.allSpec.vars false W a.toList u w b)(o:(DataW.weightsEach Tryz.prog (Tryz.f3.params.toList++Rows.allSpec.plain.varTypes Tryz.prog) (u++w)).all (·<=reachBytes)=true)(hL:laidMetH Tryz.prog Rows.allUptoRow.laid W)(C:Rows.uptoBulkAll (u++w)<=1048576):Calls Tryz.prog 3 a W λe L=>∃v,e=.returned v/\Rows.allSpec.post l Tryz.prog Tryz.f3 false true false false W a v L:=by
 have y:=Q
 obtain⟨p,q,i,hV,rfl,ab,ad⟩:=Q
 have P:=i
 rw[Tryz.params3]at P f o
 obtain⟨U,ae,M,X,p0,q0,A,rfl,rfl,v,r0⟩:=trodAll_cons P
 obtain⟨rfl,rfl,rfl⟩:=trodAll_nil r0
 obtain rfl:a=#[U]:=by cases a;simp_all
 obtain⟨rfl,rfl⟩:=trodVars_none hV
 obtain⟨V,r,k,rfl⟩:=okWide_slice Tryz.underlying22 (f 0 22 U rfl rfl)
 have K:∀x∈p0,x.block<W.1.size:=by obtain⟨m,D⟩:=v;exact DataW.trod_lt m _ _ _ D
 have hw:=λm D=>by
  have:=List.all_eq_true.1 o _ (DataW.weights_mem_each (j:=0) (t:=22) (d:=M) rfl rfl m D);have this:=of_decide_eq_true this;simp only[reachBytes]at this;omega
 have B:Rows.uptoBulk M<=1048576:=by
  simp only[gf,Rows.uptoBulkAll]at C;omega
 obtain⟨hs,hn⟩:=scr.UJ (VK W) v hw B (λn cs x T S h hw R J=>⟨J,scr.adi S h R,scr.adj S h R⟩)
 clear i
 refine(any V r k W hs hn (N6 hL)).mono λe L ⟨he,i⟩=>?_
 subst he
 exact⟨_,rfl,_,_,_,[],_,[],y,trodAll_mk1 (shut_bool Tryz.underlying4 _),trodAll_cons_mk (Below.trod scr.laidOut f' (of_decide_eq_true f') v i K) trodAll_mk0,rfl,i.frame _,λh=>by cases h⟩
def qq(cs:Array Value):Obj->Obj
 |.cells _ t frozen=>.cells cs t frozen
 |o=>o
def Cs:Array Value:=#[O 1,O 10,O 100,O 1000,O 10000,O 100000,O 1000000,O 10000000,O 100000000,O 1000000000,O 10000000000,O 100000000000,O 1000000000000,O 10000000000000,O 100000000000000,O 1000000000000000,O 10000000000000000,O 100000000000000000,O 1000000000000000000,O 10000000000000000000]
def Nb:Array Value:=#[.int .u8 0,.int .u8 1,.int .u8 28,.int .u8 2,.int .u8 29,.int .u8 14,.int .u8 24,.int .u8 3,.int .u8 30,.int .u8 22,.int .u8 20,.int .u8 15,.int .u8 25,.int .u8 17,.int .u8 4,.int .u8 8,.int .u8 31,.int .u8 27,.int .u8 13,.int .u8 23,.int .u8 21,.int .u8 19,.int .u8 16,.int .u8 7,.int .u8 26,.int .u8 12,.int .u8 18,.int .u8 6,.int .u8 11,.int .u8 5,.int .u8 10,.int .u8 9]
def Nc:Array Value:=#[.int .u8 0,.int .u8 1,.int .u8 56,.int .u8 2,.int .u8 57,.int .u8 49,.int .u8 28,.int .u8 3,.int .u8 61,.int .u8 58,.int .u8 42,.int .u8 50,.int .u8 38,.int .u8 29,.int .u8 17,.int .u8 4,.int .u8 62,.int .u8 47,.int .u8 59,.int .u8 36,.int .u8 45,.int .u8 43,.int .u8 51,.int .u8 22,.int .u8 53,.int .u8 39,.int .u8 33,.int .u8 30,.int .u8 24,.int .u8 18,.int .u8 12,.int .u8 5,.int .u8 63,.int .u8 55,.int .u8 48,.int .u8 27,.int .u8 60,.int .u8 41,.int .u8 37,.int .u8 16,.int .u8 46,.int .u8 35,.int .u8 44,.int .u8 21,.int .u8 52,.int .u8 32,.int .u8 23,.int .u8 11,.int .u8 54,.int .u8 26,.int .u8 40,.int .u8 15,.int .u8 34,.int .u8 20,.int .u8 31,.int .u8 10,.int .u8 25,.int .u8 14,.int .u8 19,.int .u8 9,.int .u8 13,.int .u8 8,.int .u8 7,.int .u8 6]
theorem ZU(a):laidMet Tryz.prog Rows.allUptoRow.laid (({World.holding Tryz.prog a ⟨#[],#[],[]⟩with heap:=(((World.holding Tryz.prog a ⟨#[],#[],[]⟩).heap.modify 0 (qq Cs)).modify 1 (qq Nb)).modify 2 (qq Nc)}:World).forCall (λ_ _=>0) ⟨#[],#[σ],[]⟩).memory:=
 laidMet_of_run' 8 f' f'
theorem Of(d){H:Type}(b:TypeId×Value->H):∃a,DataW.whole b Tryz.prog (({World.holding Tryz.prog d ⟨#[],#[],[]⟩with heap:=(((World.holding Tryz.prog d ⟨#[],#[],[]⟩).heap.modify 0 (qq Cs)).modify 1 (qq Nb)).modify 2 (qq Nc)}:World).forCall (λ_ _=>0) ⟨#[],#[σ],[]⟩).memory Tryz.f3.params.toList Rows.allSpec.vars false #[Value.slice none 0 0].toList 8=some ([.nil],[],a):=
 ⟨[],by kernel_rfl⟩
theorem OF(e)(a:e.Started)(H)(enc:TypeId×Value->H)(F):
  ReturnsInHanded {} Tryz.checked e 3 .any ((Rows.OpenSpec.upto Rows.allSpec).preRow enc Tryz.prog Tryz.f3 Rows.allUptoRow.domain false Rows.allUptoRow.laid) (((Rows.OpenSpec.upto Rows.allSpec).at F).post enc Tryz.prog Tryz.f3 false true false false):=by
 obtain⟨i,p⟩:=Of e enc
 refine returnsInHanded_of_row (C:=Tryz.checked) (s:=Rows.OpenSpec.upto Rows.allSpec) scr.own a f' Tryz.func3
  (witness_row_at (enc:=enc) (C:=Tryz.checked) false ({World.holding Tryz.prog e ⟨#[],#[],[]⟩with heap:=(((World.holding Tryz.prog e ⟨#[],#[],[]⟩).heap.modify 0 (qq Cs)).modify 1 (qq Nb)).modify 2 (qq Nc)}:World) #[σ] rfl f' f' f'
   (OpenSpec.preRow_of_cond 8 p f' (λk o=>by cases o;kernel_rfl) f' (ZU e))) ?_
 intro W g f k l b h n _ d j m _ _
 exact ON H enc W g f k l b h n j m (of_decide_eq_true (d _ rfl))
theorem inPlace:Tryz.prog.inPlace 3=Rows.allUptoRow.inPlace:=by kernel_rfl
theorem unfollowed:Tryz.prog.unfollowed 3=Rows.allUptoRow.unfollowed:=by kernel_rfl
theorem recurses:Tryz.prog.recurses 3=Rows.allUptoRow.recurses:=by kernel_rfl
theorem varsNamed:Tryz.prog.varsNamed 3=Rows.allUptoRow.named:=by kernel_rfl
theorem Ol:Tryz.f3.params.all (λt=>Tryz.prog.readableRec t)=true:=by kernel_rfl
theorem varReadable:(Rows.OpenSpec.upto Rows.allSpec).bare.vars.all (λn=>Tryz.prog.varReadable n)=true:=by kernel_rfl
theorem OR:joinedFacts Tryz.prog 3 Tryz.f3 (Rows.OpenSpec.upto Rows.allSpec).bare Rows.allUptoRow=true:=by
 unfold joinedFacts;rw[inPlace,unfollowed,recurses,varsNamed,Ol,varReadable,facts.laidOut,facts.aoo,facts.stops,facts.knobs,facts.plainKeys,facts.heard,facts.mayEnter,facts.lifts,facts.make];kernel_rfl
theorem said:Rows.AllUptoSaid:=
 OpenClaim.holds_of_cond 3 Tryz.f3 rfl rfl rfl rfl rfl rfl rfl ⟨rfl,rfl,rfl,rfl,rfl⟩ rfl rfl rfl rfl rfl f' Tryz.func3 OR
  (of_decide_eq_true f') (by unfold Func.isWrapper;first|(rw[dQ (by decide +kernel)];kernel_rfl)|(rw[b' (by decide +kernel)];exact⟨rfl,rfl⟩))
  (λd a H b _ F=>by rw[OpenClaim.pre_eq_preRow];exact OF d a H b F)
theorem plain(f)(a)(e:Tryz.pinned.checked.prog.funcNamed Rows.allUptoRow.func=some f)(b:Tryz.pinned.checked.prog.funcs[f]?=some a):
  false=Tryz.pinned.checked.prog.looks []/\∀(j:Nat)t,a.params[j]?=some t->Tryz.pinned.checked.prog.wantsStandIn t=false:=by
 obtain rfl:f=3:=Option.some.inj ((show Tryz.prog.funcNamed Rows.allUptoRow.func=some 3 by kernel_rfl).symm.trans e) |>.symm
 obtain rfl:a=Tryz.f3:=(Option.some.inj (Tryz.func3.symm.trans b)).symm
 refine⟨by kernel_rfl,λj t d=>?_⟩
 rw[Tryz.params3]at d
 obtain rfl:t=22:=by simpa using Array.mem_of_getElem? d
 exact(show Tryz.prog.wantsStandIn 22=false by kernel_rfl)
theorem card:Rows.AllUptoCardSaid:=
 Claim7.holds_tied_plain_at .later [] _ _ _ _ said (λ_ h=>by cases h) f' (λ_ h=>by cases h) allUpto_row_tie rfl ⟨rfl,rfl⟩ f' rfl plain f'
end Go.Proofs.YticfhckmhcaigaaGreatDoor.all
namespace Go.Proofs.YticfhckmhcaigaaGreatDoor
theorem all_holds:Rows.AllUptoCardSaid:=all.card
#print axioms all_holds
