/-
  It is proved that Batches returns true for every input of bulk at most 1048576 and leaves its argument as it read before: each step of a script, of the kinds that it plays, answers as the document's answer does.
  Conditions: that bulk, and the card's own (the listed package-level variables start as the program's text lays them). The frame of the proof is after the guide's toy; the walk and all that it rests on are in the texts that this one imports.
-/
import Derived.Test.YtlfifnpjeangmaaGreatDoorCards
import Derived.Test.YtlfifnpjeangmaaGreatDoorTie
import Derived.Test.YtlfifnpjeangmaaGreatDoorGEBScr
import Derived.ProofKit
namespace Go.Proofs.YtlfifnpjeangmaaGreatDoor.facts
set_option maxRecDepth 100000
theorem laidOut:laidOutB Tryz.prog=true:=by kernel_rfl
theorem alg:mapsRowed Tryz.prog=true:=by kernel_rfl
theorem stops:Tryz.prog.stops=[]:=by kernel_rfl
theorem knobs:Tryz.prog.stopKnobs=[]:=by kernel_rfl
theorem plainKeys:Tryz.prog.plainKeys=true:=by kernel_rfl
theorem heard:Tryz.prog.stopsHeard=true:=by kernel_rfl
theorem mayEnter:Tryz.prog.mayEnter=true:=by kernel_rfl
theorem lifts:Tryz.prog.liftsFinal=false:=by kernel_rfl
theorem make:Tryz.prog.make=some Rows.batchesRow.make:=by kernel_rfl
end Go.Proofs.YtlfifnpjeangmaaGreatDoor.facts
namespace Go.Proofs.YtlfifnpjeangmaaGreatDoor.batches
set_option maxHeartbeats 400000
open Go.ChangeShapes Go.WideShapes Go.ChangeAt Go.RowKit
set_option linter.unusedVariables false
set_option maxRecDepth 100000
theorem Lw{W:World}(h:laidMetH Tryz.prog Rows.batchesUptoRow.laid W):Cj W:=by
 have b:laidMet Tryz.prog Rows.batchesUptoRow.laid W:=by
  rw[<-Go.MakeChecks.laidMetH_plain Tryz.prog Rows.batchesUptoRow.laid W gJ];exact h
 have a:=b.filter (λx=>x.1==zi);have e:Rows.batchesUptoRow.laid.filter (λx=>x.1==zi)=[(zi,Lib.tabData .u64 Lib.pow10Tab)]:=gJ;rw[e]at a;exact Lib.tabIs_of_head (g:=0) (t:=351) (e:=39) (n:=20) gJ gJ Tryz.underlying351 Tryz.underlying39 gJ gJ a
def amm:Hz Unit Unit:=⟨λ_=>TN.emp,λ_=>0,λ_=>TN.emp,λ_=>0⟩
theorem any(a:Option Addr)(n k:Nat)(w:World)(p:qD (TA w) w a n)(hn:n<=1048576)(l:Cj w):Calls Tryz.prog 3 #[.slice a n k] w λe r=>e=.returned (.bool true)/\Below w.1.size w r:=by
 have G:=cx w (.cells #[Y 9,Y 10,Y 11,Y 12] 3) none
 obtain⟨h,b⟩:=aw (w.alloc (.cells #[Y 9,Y 10,Y 11,Y 12] 3))
 have g:Lib.TabBelow Tryz.prog h.1.size h zi .u64 Lib.pow10Tab:=by rw[b];exact Lib.tabBelow_of_tabIs (TY l G)
 have m:=TZ (TA w) (λi wr=>∃d,FU h i wr d) [9,10,11,12] 9 4 (I rfl) aZ aZ rfl a n k w.1.size h (by rw[b];exact p.grown G) aZ (by rw[b];simp)
  (λj f=>by
   have:j=0\/j=1\/j=2\/j=3:=by omega
   rw[b,World.cell?_alloc_at (hn:=rfl)]
   rcases this with rfl|rfl|rfl|rfl<;>rfl)
  (λwr o=>⟨_,FU.start o⟩)
  (λj f=>Wd w 9 O j f)
  (λi wr q t v ⟨d,f⟩ hk _ _ j=>(by have u:scr.FH h t:=(by rw[b];exact j.2.grown G);exact f.step aZ rl j.1 u))
  (λi wr v ⟨d,f⟩=>(f.looks aZ).mono λe r ⟨j,o⟩=>⟨j,d,o⟩)
  (λi wr q ⟨d,f⟩=>⟨d,f.grown (aR (cC wr none) q)⟩) (λi wr ⟨d,f⟩=>⟨d,f.mono ⟩) (λi wr ⟨d,f⟩=>f.below)
 rw[b]at m
 clear p g b
 go_enter Tryz.func3,Tryz.ntmps3
 go_wp2_with fail
 refine m.mono ?_
 rintro e h ⟨rfl,B⟩
 clear m
 go_wp2
 go_ret
 exact⟨rfl,(tK G).trans (B.mono Z)⟩
theorem L0(H:Type)(g:TypeId×Value->H)(W:World)(i:Nat)(a:Array Value)(r w:List (DataW H))(b:List MemPlace)(f:∀(j:Nat)t v,Tryz.f3.params[j]?=some t->a[j]?=some v->Value.okWide Tryz.prog W .any i t v)(Q:DataW.Whole g Tryz.prog Tryz.f3.params.toList Rows.batchesSpec.vars false W a.toList r w b)(o:(DataW.weightsEach Tryz.prog (Tryz.f3.params.toList++Rows.batchesSpec.plain.varTypes Tryz.prog) (r++w)).all (·<=reachBytes)=true)(V:laidMetH Tryz.prog Rows.batchesUptoRow.laid W)(D:Rows.uptoBulkAll (r++w)<=1048576):Calls Tryz.prog 3 a W λe M=>∃v,e=.returned v/\Rows.batchesSpec.post g Tryz.prog Tryz.f3 false true false false W a v M:=by
 have A:=Q
 obtain⟨p,q,k,X,rfl,ab,ad⟩:=Q
 have P:DataW.TrodAll g Tryz.prog W 0 (λ_=>true) true Tryz.f3.params.toList a.toList r p:=k
 rw[Tryz.params3]at P f o
 obtain⟨S,ae,v,U,p0,q0,B,rfl,rfl,y,r0⟩:=trodAll_cons P
 obtain⟨rfl,rfl,rfl⟩:=trodAll_nil r0
 obtain rfl:a=#[S]:=by cases a;simp_all
 obtain⟨rfl,rfl⟩:=trodVars_none X
 obtain⟨T,u,l,rfl⟩:=okWide_slice Tryz.underlying22 (f 0 22 S rfl rfl)
 have L:∀x∈p0,x.block<W.1.size:=by obtain⟨m,J⟩:=y;exact DataW.trod_lt m _ _ _ J
 have hw:∀m∈v.weights Tryz.prog 22,m<=140737488351232:=λm J=>by
  have:=List.all_eq_true.1 o _ (DataW.weights_mem_each (j:=0) (t:=22) (d:=v) rfl rfl m J);have this:=of_decide_eq_true this;simp only[reachBytes]at this;omega
 have C:Rows.uptoBulk v<=1048576:=by
  simp only[fS,Rows.uptoBulkAll]at D;omega
 obtain⟨hs,hn⟩:=scr.R9 (TA W) y hw C (λn cs x R hl h hw hb K=>⟨K,scr.aaT hl h hb⟩)
 clear k
 refine(any T u l W hs hn (Lw V)).mono λe M ⟨he,k⟩=>?_
 subst he
 exact⟨_,rfl,_,_,_,[],_,[],A,trodAll_mk1 (shut_bool Tryz.underlying4 _),trodAll_cons_mk (Below.trod scr.laidOut gJ (of_decide_eq_true gJ) y k L) trodAll_mk0,rfl,k.frame _,λh=>by cases h⟩
def pH(cs:Array Value):Obj->Obj
 |.cells _ t frozen=>.cells cs t frozen
 |o=>o
def Bg:Array Value:=#[H 1,H 10,H 100,H 1000,H 10000,H 100000,H 1000000,H 10000000,H 100000000,H 1000000000,H 10000000000,H 100000000000,H 1000000000000,H 10000000000000,H 100000000000000,H 1000000000000000,H 10000000000000000,H 100000000000000000,H 1000000000000000000,H 10000000000000000000]
def KP:Array Value:=#[.int .u8 0,.int .u8 1,.int .u8 28,.int .u8 2,.int .u8 29,.int .u8 14,.int .u8 24,.int .u8 3,.int .u8 30,.int .u8 22,.int .u8 20,.int .u8 15,.int .u8 25,.int .u8 17,.int .u8 4,.int .u8 8,.int .u8 31,.int .u8 27,.int .u8 13,.int .u8 23,.int .u8 21,.int .u8 19,.int .u8 16,.int .u8 7,.int .u8 26,.int .u8 12,.int .u8 18,.int .u8 6,.int .u8 11,.int .u8 5,.int .u8 10,.int .u8 9]
def KQ:Array Value:=#[.int .u8 0,.int .u8 1,.int .u8 56,.int .u8 2,.int .u8 57,.int .u8 49,.int .u8 28,.int .u8 3,.int .u8 61,.int .u8 58,.int .u8 42,.int .u8 50,.int .u8 38,.int .u8 29,.int .u8 17,.int .u8 4,.int .u8 62,.int .u8 47,.int .u8 59,.int .u8 36,.int .u8 45,.int .u8 43,.int .u8 51,.int .u8 22,.int .u8 53,.int .u8 39,.int .u8 33,.int .u8 30,.int .u8 24,.int .u8 18,.int .u8 12,.int .u8 5,.int .u8 63,.int .u8 55,.int .u8 48,.int .u8 27,.int .u8 60,.int .u8 41,.int .u8 37,.int .u8 16,.int .u8 46,.int .u8 35,.int .u8 44,.int .u8 21,.int .u8 52,.int .u8 32,.int .u8 23,.int .u8 11,.int .u8 54,.int .u8 26,.int .u8 40,.int .u8 15,.int .u8 34,.int .u8 20,.int .u8 31,.int .u8 10,.int .u8 25,.int .u8 14,.int .u8 19,.int .u8 9,.int .u8 13,.int .u8 8,.int .u8 7,.int .u8 6]
theorem Wa(a:Os):laidMet Tryz.prog Rows.batchesUptoRow.laid (({World.holding Tryz.prog a ⟨#[],#[],[]⟩with heap:=(((World.holding Tryz.prog a ⟨#[],#[],[]⟩).heap.modify 0 (pH Bg)).modify 1 (pH KP)).modify 2 (pH KQ)}:World).forCall (λ_ _=>0) ⟨#[],#[σ],[]⟩).memory:=
 laidMet_of_run' 8 gJ gJ
theorem LA(d:Os){H:Type}(b:TypeId×Value->H):∃a,DataW.whole b Tryz.prog (({World.holding Tryz.prog d ⟨#[],#[],[]⟩with heap:=(((World.holding Tryz.prog d ⟨#[],#[],[]⟩).heap.modify 0 (pH Bg)).modify 1 (pH KP)).modify 2 (pH KQ)}:World).forCall (λ_ _=>0) ⟨#[],#[σ],[]⟩).memory Tryz.f3.params.toList Rows.batchesSpec.vars false #[Value.slice none 0 0].toList 8=some ([.nil],[],a):=
 ⟨[],by kernel_rfl⟩
theorem LO(e:Os)(a:e.Started)(H:Type)(enc:TypeId×Value->H)(F:Stop.Interp):
  ReturnsInHanded {} Tryz.checked e 3 .any ((Rows.OpenSpec.upto Rows.batchesSpec).preRow enc Tryz.prog Tryz.f3 Rows.batchesUptoRow.domain false Rows.batchesUptoRow.laid) (((Rows.OpenSpec.upto Rows.batchesSpec).at F).post enc Tryz.prog Tryz.f3 false true false false):=by
 obtain⟨i,p⟩:=LA e enc
 refine returnsInHanded_of_row (C:=Tryz.checked) (s:=Rows.OpenSpec.upto Rows.batchesSpec) scr.own a gJ Tryz.func3
  (witness_row_at (enc:=enc) (C:=Tryz.checked) false ({World.holding Tryz.prog e ⟨#[],#[],[]⟩with heap:=(((World.holding Tryz.prog e ⟨#[],#[],[]⟩).heap.modify 0 (pH Bg)).modify 1 (pH KP)).modify 2 (pH KQ)}:World) #[σ] rfl gJ gJ gJ
   (OpenSpec.preRow_of_cond 8 p gJ (λk o=>by cases o;kernel_rfl) gJ (Wa e))) ?_
 intro W g f k l b h n _ d j m _ _
 exact L0 H enc W g f k l b h n j m (of_decide_eq_true (d _ rfl))
theorem inPlace:Tryz.prog.inPlace 3=Rows.batchesUptoRow.inPlace:=by kernel_rfl
theorem unfollowed:Tryz.prog.unfollowed 3=Rows.batchesUptoRow.unfollowed:=by kernel_rfl
theorem recurses:Tryz.prog.recurses 3=Rows.batchesUptoRow.recurses:=by kernel_rfl
theorem varsNamed:Tryz.prog.varsNamed 3=Rows.batchesUptoRow.named:=by kernel_rfl
theorem LD:Tryz.f3.params.all (λt=>Tryz.prog.readableRec t)=true:=by kernel_rfl
theorem varReadable:(Rows.OpenSpec.upto Rows.batchesSpec).bare.vars.all (λn=>Tryz.prog.varReadable n)=true:=by kernel_rfl
theorem L4:joinedFacts Tryz.prog 3 Tryz.f3 (Rows.OpenSpec.upto Rows.batchesSpec).bare Rows.batchesUptoRow=true:=by
 unfold joinedFacts;rw[inPlace,unfollowed,recurses,varsNamed,LD,varReadable,facts.laidOut,facts.alg,facts.stops,facts.knobs,facts.plainKeys,facts.heard,facts.mayEnter,facts.lifts,facts.make];kernel_rfl
theorem said:Rows.BatchesUptoSaid:=
 OpenClaim.holds_of_cond 3 Tryz.f3 rfl rfl rfl rfl rfl rfl rfl ⟨rfl,rfl,rfl,rfl,rfl⟩ rfl rfl rfl rfl rfl gJ Tryz.func3 L4
  (of_decide_eq_true gJ) (by unfold Func.isWrapper;first|(rw[dT (by decide +kernel)];kernel_rfl)|(rw[cZ (by decide +kernel)];exact⟨rfl,rfl⟩))
  (λd a H b _ F=>by rw[OpenClaim.pre_eq_preRow];exact LO d a H b F)
theorem plain(f:FuncId)(a:Func)(e:Tryz.pinned.checked.prog.funcNamed Rows.batchesUptoRow.func=some f)(b:Tryz.pinned.checked.prog.funcs[f]?=some a):
  false=Tryz.pinned.checked.prog.looks []/\∀(j:Nat)t,a.params[j]?=some t->Tryz.pinned.checked.prog.wantsStandIn t=false:=by
 obtain rfl:f=3:=Option.some.inj ((show Tryz.prog.funcNamed Rows.batchesUptoRow.func=some 3 by kernel_rfl).symm.trans e) |>.symm
 obtain rfl:a=Tryz.f3:=(Option.some.inj (Tryz.func3.symm.trans b)).symm
 refine⟨by kernel_rfl,λj t d=>?_⟩
 rw[Tryz.params3]at d
 obtain rfl:t=22:=by simpa using Array.mem_of_getElem? d
 exact(show Tryz.prog.wantsStandIn 22=false by kernel_rfl)
theorem card:Rows.BatchesUptoCardSaid:=
 Claim7.holds_tied_plain_at .later [] _ _ _ _ said (λ_ h=>by cases h) gJ (λ_ h=>by cases h) batchesUpto_row_tie rfl ⟨rfl,rfl⟩ gJ rfl plain gJ
end Go.Proofs.YtlfifnpjeangmaaGreatDoor.batches
namespace Go.Proofs.YtlfifnpjeangmaaGreatDoor
theorem batches_holds:Rows.BatchesUptoCardSaid:=batches.card
#print axioms batches_holds
