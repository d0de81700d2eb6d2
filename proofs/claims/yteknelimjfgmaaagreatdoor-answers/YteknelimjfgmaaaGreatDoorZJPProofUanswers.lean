/-
  It is proved that Answers returns true for every input of bulk at most 1048576 and leaves its argument as it read before: each step of a script, of the kinds that it plays, answers as the document's answer does.
  Conditions: that bulk, and the card's own (the listed package-level variables start as the program's text lays them). The frame of the proof is after the guide's toy; the walk and all that it rests on are in the texts that this one imports.
-/
import Derived.Test.YteknelimjfgmaaaGreatDoorCards
import Derived.Test.YteknelimjfgmaaaGreatDoorTie
import Derived.Test.YteknelimjfgmaaaGreatDoorGJPairG
import Derived.Test.YteknelimjfgmaaaGreatDoorGJFacts
namespace Go.Proofs.YteknelimjfgmaaaGreatDoor.answers
set_option maxHeartbeats 400000
open Go.ChangeShapes Go.WideShapes Go.ChangeAt Go.RowKit
set_option linter.unusedVariables false
set_option maxRecDepth 100000
theorem table {W:World} (h:laidMetH Tryz.prog Rows.answersUptoRow.laid W):A9 W:=by
 have h1:laidMet Tryz.prog Rows.answersUptoRow.laid W:=by
  rw[<-Go.MakeChecks.laidMetH_plain Tryz.prog Rows.answersUptoRow.laid W afv];exact h
 have h2:=h1.filter (fun x=>x.1==yj);have e:Rows.answersUptoRow.laid.filter (fun x=>x.1==yj)=[(yj,Lib.tabData .u64 Lib.pow10Tab)]:=by kernel_rfl
 rw[e] at h2;exact Lib.tabIs_of_head (g:=0) (t:=351) (e:=39) (n:=20) afv afv Tryz.underlying351 Tryz.underlying39 afv afv h2
theorem any (a:Option Addr) (n cap:Nat) (w:World) (hs:pE Py w a n) (hn:n<=1048576) (htab:A9 w) :
  Calls Tryz.prog 3 #[.slice a n cap] w fun e w'=>e = .returned (.bool true)/\Below w.heap.size w w':=by
 have G:=aE w (.cells #[.int .i64 5,.int .i64 6,.int .i64 7] 3) none
 obtain ⟨w1,hw1⟩:=ar (w.alloc (.cells #[.int .i64 5,.int .i64 6,.int .i64 7] 3))
 have CC:=Qc Py (fun i wr=>∃ d,LI (dA (QP:=Unit) (fun _=>uF.emp) (fun _=>0)) WQ (fun _ _=>True) w1 i wr d) [5,6,7] 5 3 (hid rfl) afp afp rfl a n cap w.heap.size w1 (by rw[hw1];exact hs.grown G) afp (by rw[hw1];simp)
  (fun j hj=>by
   have:j=0\/j=1\/j=2:=by omega
   rw[hw1,World.cell?_alloc_at (hn:=rfl)]
   rcases this with rfl | rfl | rfl <;> rfl)
  (fun wr hg=>⟨_,LI.start hg⟩)
  (fun zs hz=>R9 5 afq zs hz)
  (fun i wr kind cs hi ⟨d,hI⟩ hk _ _ hgo=>(by have hk3:kind=5\/kind=6\/kind=7:=afD;rcases hk3 with hk5 | hk5 | hk5;exact hI.new zl (fun _ _ h=>h) afp hk5 hgo.1;exact hI.afx zl (fun _ _ h=>h) afp hk5 hgo.1;exact hI.answer (fun _ _ h=>h) afp hk5 hgo.1 hgo.2))
  (fun i wr hi ⟨d,hI⟩=>(hI.looks afp).mono fun e w' ⟨he,hg⟩=>⟨he,d,hg⟩)
  (fun i wr q ⟨d,hI⟩=>⟨d,hI.grown (aY (bh wr none) q)⟩) (fun i wr ⟨d,hI⟩=>⟨d,hI.mono zl.mono (fun _ _ h=>h)⟩) (fun i wr ⟨d,hI⟩=>hI.below)
 rw[hw1] at CC
 clear hs hw1
 go_enter Tryz.func3,Tryz.ntmps3
 go_wp2_with fail
 refine CC.mono ?_
 rintro e w1 ⟨rfl,B⟩
 clear CC
 go_wp2
 go_ret
 exact ⟨rfl,(Bz G).trans (B.mono aft)⟩
theorem contract (H:Type) (enc:TypeId×Value->H) (W:World) (base:Nat) (args:Array Value) (ds gs:List (DataW H)) (before:List MemPlace)
  (hval:∀ (j:Nat) t v,Tryz.f3.params[j]?=some t->args[j]?=some v->Value.okWide Tryz.prog W .any base t v)
  (hW:DataW.Whole enc Tryz.prog Tryz.f3.params.toList Rows.answersSpec.vars false W args.toList ds gs before)
  (hsz:(DataW.weightsEach Tryz.prog (Tryz.f3.params.toList++Rows.answersSpec.plain.varTypes Tryz.prog) (ds++gs)).all (·<=reachBytes)=true) (hL:laidMetH Tryz.prog Rows.answersUptoRow.laid W) (hbk:Rows.uptoBulkAll (ds++gs)<=1048576) :
  Calls Tryz.prog 3 args W fun e W'=>∃ v,e = .returned v/\Rows.answersSpec.post enc Tryz.prog Tryz.f3 false true false false W args v W':=by
 have hW':=hW
 obtain ⟨p,q,ZT,hV,rfl,hfz,hnd⟩:=hW
 have hA:DataW.TrodAll enc Tryz.prog W 0 (fun _=>true) true Tryz.f3.params.toList args.toList ds p:=ZT
 rw[Tryz.params3] at hA hval hsz
 obtain ⟨v0,vs0,d0,ds0,p0,q0,hargs,rfl,rfl,h0,r0⟩:=trodAll_cons hA
 obtain ⟨rfl,rfl,rfl⟩:=trodAll_nil r0
 obtain rfl:args=#[v0]:=by cases args;simp_all
 obtain ⟨rfl,rfl⟩:=trodVars_none hV
 obtain ⟨a0,akb,cap0,rfl⟩:=okWide_slice Tryz.underlying22 (hval 0 22 v0 rfl rfl)
 have lt0:∀ x∈p0,x.block<W.heap.size:=by obtain ⟨m,hm⟩:=h0;exact DataW.trod_lt m _ _ _ hm
 have hw:∀ m∈d0.weights Tryz.prog 22,m<=140737488351232:=fun m hm=>by
  have:=List.all_eq_true.1 hsz _ (DataW.weights_mem_each (j:=0) (t:=22) (d:=d0) rfl rfl m hm);have this:=of_decide_eq_true this;simp only[reachBytes] at this;omega
 have hb0:Rows.uptoBulk d0<=1048576:=by
  simp only[fg,Rows.uptoBulkAll] at hbk;omega
 obtain ⟨hs,hn⟩:=scr.Ov Py h0 hw hb0 (fun n cs x kind hl h hw hb hok=>⟨hok,scr.WN hl h hb⟩)
 clear ZT
 refine (any a0 akb cap0 W hs hn (table hL)).mono fun e W' ⟨he,bel⟩=>?_
 subst he
 exact ⟨_,rfl,_,_,_,[],_,[],hW',trodAll_mk1 (shut_bool Tryz.underlying4 _),trodAll_cons_mk (Below.trod scr.laidOut afv (of_decide_eq_true afv) h0 bel lt0) trodAll_mk0,rfl,bel.frame _,fun h=>by cases h⟩
def lay (cs:Array Value):Obj->Obj
 | .cells _ t frozen=>.cells cs t frozen
 | o=>o
def zW:Array Value:=#[.int .u64 1,.int .u64 10,.int .u64 100,.int .u64 1000,.int .u64 10000,.int .u64 100000,.int .u64 1000000,.int .u64 10000000,.int .u64 100000000,.int .u64 1000000000,.int .u64 10000000000,.int .u64 100000000000,.int .u64 1000000000000,.int .u64 10000000000000,.int .u64 100000000000000,.int .u64 1000000000000000,.int .u64 10000000000000000,.int .u64 100000000000000000,.int .u64 1000000000000000000,.int .u64 10000000000000000000]
def IE:Array Value:=#[.int .u8 0,.int .u8 1,.int .u8 28,.int .u8 2,.int .u8 29,.int .u8 14,.int .u8 24,.int .u8 3,.int .u8 30,.int .u8 22,.int .u8 20,.int .u8 15,.int .u8 25,.int .u8 17,.int .u8 4,.int .u8 8,.int .u8 31,.int .u8 27,.int .u8 13,.int .u8 23,.int .u8 21,.int .u8 19,.int .u8 16,.int .u8 7,.int .u8 26,.int .u8 12,.int .u8 18,.int .u8 6,.int .u8 11,.int .u8 5,.int .u8 10,.int .u8 9]
def IG:Array Value:=#[.int .u8 0,.int .u8 1,.int .u8 56,.int .u8 2,.int .u8 57,.int .u8 49,.int .u8 28,.int .u8 3,.int .u8 61,.int .u8 58,.int .u8 42,.int .u8 50,.int .u8 38,.int .u8 29,.int .u8 17,.int .u8 4,.int .u8 62,.int .u8 47,.int .u8 59,.int .u8 36,.int .u8 45,.int .u8 43,.int .u8 51,.int .u8 22,.int .u8 53,.int .u8 39,.int .u8 33,.int .u8 30,.int .u8 24,.int .u8 18,.int .u8 12,.int .u8 5,.int .u8 63,.int .u8 55,.int .u8 48,.int .u8 27,.int .u8 60,.int .u8 41,.int .u8 37,.int .u8 16,.int .u8 46,.int .u8 35,.int .u8 44,.int .u8 21,.int .u8 52,.int .u8 32,.int .u8 23,.int .u8 11,.int .u8 54,.int .u8 26,.int .u8 40,.int .u8 15,.int .u8 34,.int .u8 20,.int .u8 31,.int .u8 10,.int .u8 25,.int .u8 14,.int .u8 19,.int .u8 9,.int .u8 13,.int .u8 8,.int .u8 7,.int .u8 6]
theorem WR (os:Os):laidMet Tryz.prog Rows.answersUptoRow.laid (({World.holding Tryz.prog os ⟨#[],#[],[]⟩ with heap:=(((World.holding Tryz.prog os ⟨#[],#[],[]⟩).heap.modify 0 (lay zW)).modify 1 (lay IE)).modify 2 (lay IG)}:World).forCall (fun _ _=>0) ⟨#[],#[.slice none 0 0],[]⟩).memory:=
 laidMet_of_run' 8 afv afv
theorem reads (os:Os) {H:Type} (enc:TypeId×Value->H):∃ places,DataW.whole enc Tryz.prog (({World.holding Tryz.prog os ⟨#[],#[],[]⟩ with heap:=(((World.holding Tryz.prog os ⟨#[],#[],[]⟩).heap.modify 0 (lay zW)).modify 1 (lay IE)).modify 2 (lay IG)}:World).forCall (fun _ _=>0) ⟨#[],#[.slice none 0 0],[]⟩).memory Tryz.f3.params.toList Rows.answersSpec.vars false #[Value.slice none 0 0].toList 8=some ([.nil],[],places):=
 ⟨[],by kernel_rfl⟩
theorem lifted (os:Os) (started:os.Started) (H:Type) (enc:TypeId×Value->H) (F:Stop.Interp) :
  ReturnsInHanded {} Tryz.checked os 3 .any ((Rows.OpenSpec.upto Rows.answersSpec).preRow enc Tryz.prog Tryz.f3 Rows.answersUptoRow.domain false Rows.answersUptoRow.laid) (((Rows.OpenSpec.upto Rows.answersSpec).at F).post enc Tryz.prog Tryz.f3 false true false false):=by
 obtain ⟨places,hx⟩:=reads os enc
 refine returnsInHanded_of_row (C:=Tryz.checked) (s:=Rows.OpenSpec.upto Rows.answersSpec) scr.own started afv Tryz.func3
  (witness_row_at (enc:=enc) (C:=Tryz.checked) false ({World.holding Tryz.prog os ⟨#[],#[],[]⟩ with heap:=(((World.holding Tryz.prog os ⟨#[],#[],[]⟩).heap.modify 0 (lay zW)).modify 1 (lay IE)).modify 2 (lay IG)}:World) #[.slice none 0 0] rfl afv afv afv
   (OpenSpec.preRow_of_cond 8 hx afv (fun k hk=>by cases hk;kernel_rfl) afv (WR os))) ?_
 intro W base args ds gs before hval hW _ hcond hsz hL _ _
 exact contract H enc W base args ds gs before hval hW hsz hL (of_decide_eq_true (hcond _ rfl))
theorem inPlace:Tryz.prog.inPlace 3=Rows.answersUptoRow.inPlace:=by kernel_rfl
theorem unfollowed:Tryz.prog.unfollowed 3=Rows.answersUptoRow.unfollowed:=by kernel_rfl
theorem recurses:Tryz.prog.recurses 3=Rows.answersUptoRow.recurses:=by kernel_rfl
theorem varsNamed:Tryz.prog.varsNamed 3=Rows.answersUptoRow.named:=by kernel_rfl
theorem readable:Tryz.f3.params.all (fun t=>Tryz.prog.readableRec t)=true:=by kernel_rfl
theorem varReadable:(Rows.OpenSpec.upto Rows.answersSpec).bare.vars.all (fun n=>Tryz.prog.varReadable n)=true:=by kernel_rfl
theorem closed:joinedFacts Tryz.prog 3 Tryz.f3 (Rows.OpenSpec.upto Rows.answersSpec).bare Rows.answersUptoRow=true:=by
 unfold joinedFacts;rw[inPlace,unfollowed,recurses,varsNamed,readable,varReadable,facts.laidOut,facts.agv,facts.stops,facts.knobs,facts.plainKeys,facts.heard,facts.mayEnter,facts.lifts,facts.make];kernel_rfl
theorem said:Rows.AnswersUptoSaid:=
 OpenClaim.holds_of_cond 3 Tryz.f3 rfl rfl rfl rfl rfl rfl rfl ⟨rfl,rfl,rfl,rfl,rfl⟩ rfl rfl rfl rfl rfl afv Tryz.func3 closed
  (of_decide_eq_true afv) (by unfold Func.isWrapper;first|(rw[if_pos (by decide +kernel)];kernel_rfl)|(rw[if_neg (by decide +kernel)];exact ⟨rfl,rfl⟩))
  (fun os started H enc _ F=>by rw[OpenClaim.pre_eq_preRow];exact lifted os started H enc F)
theorem plain (f:FuncId) (fn:Func) (hf:Tryz.pinned.checked.prog.funcNamed Rows.answersUptoRow.func=some f) (hfn:Tryz.pinned.checked.prog.funcs[f]?=some fn) :
  false=Tryz.pinned.checked.prog.looks []/\∀ (j:Nat) t,fn.params[j]?=some t->Tryz.pinned.checked.prog.wantsStandIn t=false:=by
 obtain rfl:f=3:=Option.some.inj ((show Tryz.prog.funcNamed Rows.answersUptoRow.func=some 3 by kernel_rfl).symm.trans hf) |>.symm
 obtain rfl:fn=Tryz.f3:=(Option.some.inj (Tryz.func3.symm.trans hfn)).symm
 refine ⟨by kernel_rfl,fun j t ht=>?_⟩
 rw[Tryz.params3] at ht
 obtain rfl:t=22:=by simpa using Array.mem_of_getElem? ht
 exact (show Tryz.prog.wantsStandIn 22=false by kernel_rfl)
theorem card:Rows.AnswersUptoCardSaid:=
 Claim7.holds_tied_plain_at .later [] _ _ _ _ said (fun _ h=>by cases h) afv (fun _ h=>by cases h) answersUpto_row_tie rfl ⟨rfl,rfl⟩ afv rfl plain afv
end Go.Proofs.YteknelimjfgmaaaGreatDoor.answers
namespace Go.Proofs.YteknelimjfgmaaaGreatDoor
theorem answers_holds:Rows.AnswersUptoCardSaid:=answers.card
#print axioms answers_holds
end Go.Proofs.YteknelimjfgmaaaGreatDoor
