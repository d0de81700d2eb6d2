/-
  It is proved that Batches returns true for every input of bulk at most 1048576 and leaves its argument as it read before: each step of a script, of the kinds that it plays, answers as the document's answer does.
  Conditions: that bulk, and the card's own (the listed package-level variables start as the program's text lays them). The frame of the proof is after the guide's toy; the walk and all that it rests on are in the texts that this one imports.
-/
import Derived.Test.YtlfifnpjeangmaaGreatDoorCards
import Derived.Test.YtlfifnpjeangmaaGreatDoorTie
import Derived.Test.YtlfifnpjeangmaaGreatDoorGEBScr
import Derived.Test.YtlfifnpjeangmaaGreatDoorGEFacts
namespace Go.Proofs.YtlfifnpjeangmaaGreatDoor.batches
set_option maxHeartbeats 400000
open Go.ChangeShapes Go.WideShapes Go.ChangeAt Go.RowKit
set_option linter.unusedVariables false
set_option maxRecDepth 100000
theorem table{W:World}(h:laidMetH Tryz.prog Rows.batchesUptoRow.laid W):Cf W:=by
 have b:laidMet Tryz.prog Rows.batchesUptoRow.laid W:=by
  rw[<-Go.MakeChecks.laidMetH_plain Tryz.prog Rows.batchesUptoRow.laid W agP];exact h
 have a:=b.filter (λx=>x.1==zg);have e:Rows.batchesUptoRow.laid.filter (λx=>x.1==zg)=[(zg,Lib.tabData .u64 Lib.pow10Tab)]:=agP;rw[e]at a;exact Lib.tabIs_of_head (g:=0) (t:=351) (e:=39) (n:=20) agP agP Tryz.underlying351 Tryz.underlying39 agP agP a
def amc:Ht Unit Unit:=⟨λ_=>Tz.emp,λ_=>0,λ_=>Tz.emp,λ_=>0⟩
theorem any(a:Option Addr)(n cap:Nat)(w:World)(o:qy (Tm w) w a n)(hn:n<=1048576)(h:Cf w):
  Calls Tryz.prog 3 #[.slice a n cap] w λe w'=>e=.returned (.bool true)/\Below w.heap.size w w':=by
 have G:=cx w (.cells #[ι 9,ι 10,ι 11,ι 12] 3) none
 obtain⟨g,b⟩:=aw (w.alloc (.cells #[ι 9,ι 10,ι 11,ι 12] 3))
 have f:Lib.TabBelow Tryz.prog g.heap.size g zg .u64 Lib.pow10Tab:=by rw[b];exact Lib.tabBelow_of_tabIs (TL h G)
 have l:=TM (Tm w) (λi wr=>∃d,FO g i wr d) [9,10,11,12] 9 4 (hid rfl) agE agE rfl a n cap w.heap.size g (by rw[b];exact o.grown G) agE (by rw[b];simp)
  (λj v=>by
   have:j=0\/j=1\/j=2\/j=3:=by omega
   rw[b,World.cell?_alloc_at (hn:=rfl)]
   rcases this with rfl|rfl|rfl|rfl<;>rfl)
  (λwr m=>⟨_,FO.start m⟩)
  (λzs u=>VX w 9 agF zs u)
  (λi wr p cs s ⟨d,c⟩ hk _ _ k=>(by have t:scr.FD g cs:=(by rw[b];exact k.2.grown G);exact c.step agE ahA k.1 t))
  (λi wr s ⟨d,c⟩=>(c.looks agE).mono λe w' ⟨r,m⟩=>⟨r,d,m⟩)
  (λi wr q ⟨d,c⟩=>⟨d,c.grown (aR (cC wr none) q)⟩) (λi wr ⟨d,c⟩=>⟨d,c.mono ⟩) (λi wr ⟨d,c⟩=>c.below)
 rw[b]at l
 clear o f b
 go_enter Tryz.func3,Tryz.ntmps3
 go_wp2_with fail
 refine l.mono ?_
 rintro e g ⟨rfl,B⟩
 clear l
 go_wp2
 go_ret
 exact⟨rfl,(tH G).trans (B.mono agI)⟩
theorem contract(H:Type)(enc:TypeId×Value->H)(W:World)(base:Nat)(args:Array Value)(ds y:List (DataW H))(before:List MemPlace)(a:∀(j:Nat)t v,Tryz.f3.params[j]?=some t->args[j]?=some v->Value.okWide Tryz.prog W .any base t v)(C:DataW.Whole enc Tryz.prog Tryz.f3.params.toList Rows.batchesSpec.vars false W args.toList ds y before)(c:(DataW.weightsEach Tryz.prog (Tryz.f3.params.toList++Rows.batchesSpec.plain.varTypes Tryz.prog) (ds++y)).all (·<=reachBytes)=true)(F:laidMetH Tryz.prog Rows.batchesUptoRow.laid W)(A:Rows.uptoBulkAll (ds++y)<=1048576):
  Calls Tryz.prog 3 args W λe W'=>∃v,e=.returned v/\Rows.batchesSpec.post enc Tryz.prog Tryz.f3 false true false false W args v W':=by
 have o:=C
 obtain⟨p,q,f,J,rfl,I,R⟩:=C
 have D:DataW.TrodAll enc Tryz.prog W 0 (λ_=>true) true Tryz.f3.params.toList args.toList ds p:=f
 rw[Tryz.params3]at D a c
 obtain⟨v0,O,l,P,L,S,s,rfl,rfl,r,E⟩:=trodAll_cons D
 obtain⟨rfl,rfl,rfl⟩:=trodAll_nil E
 obtain rfl:args=#[v0]:=by cases args;simp_all
 obtain⟨rfl,rfl⟩:=trodVars_none J
 obtain⟨K,u,g,rfl⟩:=okWide_slice Tryz.underlying22 (a 0 22 v0 rfl rfl)
 have w:∀x∈L,x.block<W.heap.size:=by obtain⟨m,i⟩:=r;exact DataW.trod_lt m _ _ _ i
 have hw:∀m∈l.weights Tryz.prog 22,m<=140737488351232:=λm i=>by
  have:=List.all_eq_true.1 c _ (DataW.weights_mem_each (j:=0) (t:=22) (d:=l) rfl rfl m i);have this:=of_decide_eq_true this;simp only[reachBytes]at this;omega
 have z:Rows.uptoBulk l<=1048576:=by
  simp only[fS,Rows.uptoBulkAll]at A;omega
 obtain⟨M,hn⟩:=scr.RI (Tm W) r hw z (λn cs x B G h hw Q k=>⟨k,scr.aaz G h Q⟩)
 clear f
 refine(any K u g W M hn (table F)).mono λe W' ⟨N,b⟩=>?_
 subst N
 exact⟨_,rfl,_,_,_,[],_,[],o,trodAll_mk1 (shut_bool Tryz.underlying4 _),trodAll_cons_mk (Below.trod scr.laidOut agP (of_decide_eq_true agP) r b w) trodAll_mk0,rfl,b.frame _,λh=>by cases h⟩
def lay(cs:Array Value):Obj->Obj
 |.cells _ t frozen=>.cells cs t frozen
 |o=>o
def Bc:Array Value:=#[υ 1,υ 10,υ 100,υ 1000,υ 10000,υ 100000,υ 1000000,υ 10000000,υ 100000000,υ 1000000000,υ 10000000000,υ 100000000000,υ 1000000000000,υ 10000000000000,υ 100000000000000,υ 1000000000000000,υ 10000000000000000,υ 100000000000000000,υ 1000000000000000000,υ 10000000000000000000]
def KH:Array Value:=#[.int .u8 0,.int .u8 1,.int .u8 28,.int .u8 2,.int .u8 29,.int .u8 14,.int .u8 24,.int .u8 3,.int .u8 30,.int .u8 22,.int .u8 20,.int .u8 15,.int .u8 25,.int .u8 17,.int .u8 4,.int .u8 8,.int .u8 31,.int .u8 27,.int .u8 13,.int .u8 23,.int .u8 21,.int .u8 19,.int .u8 16,.int .u8 7,.int .u8 26,.int .u8 12,.int .u8 18,.int .u8 6,.int .u8 11,.int .u8 5,.int .u8 10,.int .u8 9]
def KI:Array Value:=#[.int .u8 0,.int .u8 1,.int .u8 56,.int .u8 2,.int .u8 57,.int .u8 49,.int .u8 28,.int .u8 3,.int .u8 61,.int .u8 58,.int .u8 42,.int .u8 50,.int .u8 38,.int .u8 29,.int .u8 17,.int .u8 4,.int .u8 62,.int .u8 47,.int .u8 59,.int .u8 36,.int .u8 45,.int .u8 43,.int .u8 51,.int .u8 22,.int .u8 53,.int .u8 39,.int .u8 33,.int .u8 30,.int .u8 24,.int .u8 18,.int .u8 12,.int .u8 5,.int .u8 63,.int .u8 55,.int .u8 48,.int .u8 27,.int .u8 60,.int .u8 41,.int .u8 37,.int .u8 16,.int .u8 46,.int .u8 35,.int .u8 44,.int .u8 21,.int .u8 52,.int .u8 32,.int .u8 23,.int .u8 11,.int .u8 54,.int .u8 26,.int .u8 40,.int .u8 15,.int .u8 34,.int .u8 20,.int .u8 31,.int .u8 10,.int .u8 25,.int .u8 14,.int .u8 19,.int .u8 9,.int .u8 13,.int .u8 8,.int .u8 7,.int .u8 6]
theorem aaA(a:Os):laidMet Tryz.prog Rows.batchesUptoRow.laid (({World.holding Tryz.prog a ⟨#[],#[],[]⟩with heap:=(((World.holding Tryz.prog a ⟨#[],#[],[]⟩).heap.modify 0 (lay Bc)).modify 1 (lay KH)).modify 2 (lay KI)}:World).forCall (λ_ _=>0) ⟨#[],#[.slice none 0 0],[]⟩).memory:=
 laidMet_of_run' 8 agP agP
theorem reads(a:Os){H:Type}(enc:TypeId×Value->H):∃places,DataW.whole enc Tryz.prog (({World.holding Tryz.prog a ⟨#[],#[],[]⟩with heap:=(((World.holding Tryz.prog a ⟨#[],#[],[]⟩).heap.modify 0 (lay Bc)).modify 1 (lay KH)).modify 2 (lay KI)}:World).forCall (λ_ _=>0) ⟨#[],#[.slice none 0 0],[]⟩).memory Tryz.f3.params.toList Rows.batchesSpec.vars false #[Value.slice none 0 0].toList 8=some ([.nil],[],places):=
 ⟨[],by kernel_rfl⟩
theorem lifted(c:Os)(a:c.Started)(H:Type)(enc:TypeId×Value->H)(F:Stop.Interp):
  ReturnsInHanded {} Tryz.checked c 3 .any ((Rows.OpenSpec.upto Rows.batchesSpec).preRow enc Tryz.prog Tryz.f3 Rows.batchesUptoRow.domain false Rows.batchesUptoRow.laid) (((Rows.OpenSpec.upto Rows.batchesSpec).at F).post enc Tryz.prog Tryz.f3 false true false false):=by
 obtain⟨places,f⟩:=reads c enc
 refine returnsInHanded_of_row (C:=Tryz.checked) (s:=Rows.OpenSpec.upto Rows.batchesSpec) scr.own a agP Tryz.func3
  (witness_row_at (enc:=enc) (C:=Tryz.checked) false ({World.holding Tryz.prog c ⟨#[],#[],[]⟩with heap:=(((World.holding Tryz.prog c ⟨#[],#[],[]⟩).heap.modify 0 (lay Bc)).modify 1 (lay KH)).modify 2 (lay KI)}:World) #[.slice none 0 0] rfl agP agP agP
   (OpenSpec.preRow_of_cond 8 f agP (λk g=>by cases g;kernel_rfl) agP (aaA c))) ?_
 intro W base args ds i before d j _ b e h _ _
 exact contract H enc W base args ds i before d j e h (of_decide_eq_true (b _ rfl))
theorem inPlace:Tryz.prog.inPlace 3=Rows.batchesUptoRow.inPlace:=by kernel_rfl
theorem unfollowed:Tryz.prog.unfollowed 3=Rows.batchesUptoRow.unfollowed:=by kernel_rfl
theorem recurses:Tryz.prog.recurses 3=Rows.batchesUptoRow.recurses:=by kernel_rfl
theorem varsNamed:Tryz.prog.varsNamed 3=Rows.batchesUptoRow.named:=by kernel_rfl
theorem readable:Tryz.f3.params.all (λt=>Tryz.prog.readableRec t)=true:=by kernel_rfl
theorem varReadable:(Rows.OpenSpec.upto Rows.batchesSpec).bare.vars.all (λn=>Tryz.prog.varReadable n)=true:=by kernel_rfl
theorem closed:joinedFacts Tryz.prog 3 Tryz.f3 (Rows.OpenSpec.upto Rows.batchesSpec).bare Rows.batchesUptoRow=true:=by
 unfold joinedFacts;rw[inPlace,unfollowed,recurses,varsNamed,readable,varReadable,facts.laidOut,facts.ak6,facts.stops,facts.knobs,facts.plainKeys,facts.heard,facts.mayEnter,facts.lifts,facts.make];kernel_rfl
theorem said:Rows.BatchesUptoSaid:=
 OpenClaim.holds_of_cond 3 Tryz.f3 rfl rfl rfl rfl rfl rfl rfl ⟨rfl,rfl,rfl,rfl,rfl⟩ rfl rfl rfl rfl rfl agP Tryz.func3 closed
  (of_decide_eq_true agP) (by unfold Func.isWrapper;first|(rw[if_pos (by decide +kernel)];kernel_rfl)|(rw[if_neg (by decide +kernel)];exact⟨rfl,rfl⟩))
  (λb a H enc _ F=>by rw[OpenClaim.pre_eq_preRow];exact lifted b a H enc F)
theorem plain(f:FuncId)(b:Func)(d:Tryz.pinned.checked.prog.funcNamed Rows.batchesUptoRow.func=some f)(a:Tryz.pinned.checked.prog.funcs[f]?=some b):
  false=Tryz.pinned.checked.prog.looks []/\∀(j:Nat)t,b.params[j]?=some t->Tryz.pinned.checked.prog.wantsStandIn t=false:=by
 obtain rfl:f=3:=Option.some.inj ((show Tryz.prog.funcNamed Rows.batchesUptoRow.func=some 3 by kernel_rfl).symm.trans d) |>.symm
 obtain rfl:b=Tryz.f3:=(Option.some.inj (Tryz.func3.symm.trans a)).symm
 refine⟨by kernel_rfl,λj t c=>?_⟩
 rw[Tryz.params3]at c
 obtain rfl:t=22:=by simpa using Array.mem_of_getElem? c
 exact(show Tryz.prog.wantsStandIn 22=false by kernel_rfl)
theorem card:Rows.BatchesUptoCardSaid:=
 Claim7.holds_tied_plain_at .later [] _ _ _ _ said (λ_ h=>by cases h) agP (λ_ h=>by cases h) batchesUpto_row_tie rfl ⟨rfl,rfl⟩ agP rfl plain agP
end Go.Proofs.YtlfifnpjeangmaaGreatDoor.batches
namespace Go.Proofs.YtlfifnpjeangmaaGreatDoor
theorem batches_holds:Rows.BatchesUptoCardSaid:=batches.card
#print axioms batches_holds
end Go.Proofs.YtlfifnpjeangmaaGreatDoor
