/-
  It is proved that Answers returns true for every input of bulk at most 1048576 and leaves its argument as it read before: each step of a script, of the kinds that it plays, answers as the document's answer does.
  Conditions: that bulk, and the card's own (the listed package-level variables start as the program's text lays them).
-/
import Derived.Test.YteknelimjfgmaaaGreatDoorCards
import Derived.Test.YteknelimjfgmaaaGreatDoorTie
import Derived.Test.YteknelimjfgmaaaGreatDoorGJPairG
import Derived.Test.YteknelimjfgmaaaGreatDoorGJFacts
namespace Go.Proofs.YteknelimjfgmaaaGreatDoor.answers
set_option maxHeartbeats 400000
open Go.ChangeShapes Go.WideShapes Go.ChangeAt Go.RowKit Proofs.Tryz
set_option linter.unusedVariables false
set_option maxRecDepth 100000
abbrev R:=Rows.answersUptoRow
abbrev Sp:=Rows.OpenSpec.upto Rows.answersSpec
theorem table {W:World} (h:laidMetH prog R.laid W):A9 W:=by
 have h1:laidMet prog R.laid W:=by
  rw[<-Go.MakeChecks.laidMetH_plain prog R.laid W afv];exact h
 have h2:=h1.filter (fun x=>x.1==yj);have e:R.laid.filter (fun x=>x.1==yj)=[(yj,Lib.tabData .u64 Lib.pow10Tab)]:=by kernel_rfl
 rw[e] at h2;exact Lib.tabIs_of_head (g:=0) (t:=351) (e:=39) (n:=20) afv afv underlying351 underlying39 afv afv h2
theorem any (a:Option Addr) (n cap:Nat) (w:World) (hs:pE Py w a n) (hn:n<=1048576) (htab:A9 w) :
  Calls prog 3 #[.slice a n cap] w fun e w'=>e = .returned (.bool true)/\Below w.heap.size w w':=by
 have G:=aE w (.cells #[.int .i64 5,.int .i64 6,.int .i64 7] 3) none
 obtain ⟨w1,hw1⟩:=ar (w.alloc (.cells #[.int .i64 5,.int .i64 6,.int .i64 7] 3))
 have CC:=Qc Py (fun i wr=>∃ d,LI (dA (QP:=Unit) (fun _=>uF.emp) (fun _=>0)) WQ (fun _ _=>True) w1 i wr d) [5,6,7] 5 3 (hid rfl) afp afp rfl a n cap w.heap.size w1 (by rw[hw1];exact hs.grown G) afp (by rw[hw1];simp)
  (fun j hj=>by
   have:j=0\/j=1\/j=2:=by omega
   rw[hw1,World.cell?_alloc_at (hn:=rfl)]
   rcases this with rfl | rfl | rfl <;> rfl)
  (fun wr hg=>⟨_,LI.start hg⟩)
  (fun zs hz=>R9 5 afq zs hz)
  (fun i wr kind cs hi ⟨d,hI⟩ hk _ _ hgo=>(by have hk3:kind=5\/kind=6\/kind=7:=afD;rcases hk3 with hk5 | hk5 | hk5;exact hI.new zl (fun _ _ h=>h) afp hk5 hgo.1;exact hI.afx zl (fun _ _ h=>h) afp hk5 hgo.1;exact hI.answer (fun _ _ h=>h) afp hk5 hgo.1 hgo.2))
  (fun i wr hi ⟨d,hI⟩=>(hI.looks afp).mono fun e w' ⟨he,hg⟩=>⟨he,d,hg⟩)
  (fun i wr q ⟨d,hI⟩=>⟨d,hI.grown (aY (bh wr none) q)⟩) (fun i wr ⟨d,hI⟩=>⟨d,hI.mono zl.mono (fun _ _ h=>h)⟩) (fun i wr ⟨d,hI⟩=>hI.below)
 rw[hw1] at CC
 clear hs hw1
 go_enter func3,ntmps3
 go_wp2_with fail
 refine CC.mono ?_
 rintro e w1 ⟨rfl,B⟩
 clear CC
 go_wp2
 go_ret
 exact ⟨rfl,(Bz G).trans (B.mono aft)⟩
theorem ct (H:Type) (enc:TypeId×Value->H) (W:World) (base:Nat) (args:Array Value) (ds gs:List (DataW H)) (bf:List MemPlace)
  (hval:∀ (j:Nat) t v,f3.params[j]?=some t->args[j]?=some v->Value.okWide prog W .any base t v)
  (hW:DataW.Whole enc prog f3.params.toList Rows.answersSpec.vars false W args.toList ds gs bf)
  (hsz:(DataW.weightsEach prog (f3.params.toList++Rows.answersSpec.plain.varTypes prog) (ds++gs)).all (·<=reachBytes)=true) (hL:laidMetH prog R.laid W) (hbk:Rows.uptoBulkAll (ds++gs)<=1048576) :
  Calls prog 3 args W fun e W'=>∃ v,e = .returned v/\Rows.answersSpec.post enc prog f3 false true false false W args v W':=by
 have hW':=hW
 obtain ⟨p,q,ZT,hV,rfl,hfz,hnd⟩:=hW
 have hA:DataW.TrodAll enc prog W 0 (fun _=>true) true f3.params.toList args.toList ds p:=ZT
 rw[params3] at hA hval hsz
 obtain ⟨v0,vs0,d0,ds0,p0,q0,hargs,rfl,rfl,h0,r0⟩:=trodAll_cons hA
 obtain ⟨rfl,rfl,rfl⟩:=trodAll_nil r0
 obtain rfl:args=#[v0]:=by cases args;simp_all
 obtain ⟨rfl,rfl⟩:=trodVars_none hV
 obtain ⟨a0,akb,cap0,rfl⟩:=okWide_slice underlying22 (hval 0 22 v0 rfl rfl)
 have lt0:∀ x∈p0,x.block<W.heap.size:=by obtain ⟨m,hm⟩:=h0;exact DataW.trod_lt m _ _ _ hm
 have hw:∀ m∈d0.weights prog 22,m<=140737488351232:=fun m hm=>by
  have:=List.all_eq_true.1 hsz _ (DataW.weights_mem_each (j:=0) (t:=22) (d:=d0) rfl rfl m hm);have this:=of_decide_eq_true this;simp only[reachBytes] at this;omega
 have hb0:Rows.uptoBulk d0<=1048576:=by
  simp only[fg,Rows.uptoBulkAll] at hbk;omega
 obtain ⟨hs,hn⟩:=scr.Ov Py h0 hw hb0 (fun n cs x kind hl h hw hb hok=>⟨hok,scr.WN hl h hb⟩)
 clear ZT
 refine (any a0 akb cap0 W hs hn (table hL)).mono fun e W' ⟨he,bel⟩=>?_
 subst he
 exact ⟨_,rfl,_,_,_,[],_,[],hW',trodAll_mk1 (shut_bool underlying4 _),trodAll_cons_mk (Below.trod scr.laidOut afv (of_decide_eq_true afv) h0 bel lt0) trodAll_mk0,rfl,bel.frame _,fun h=>by cases h⟩
def lay (cs:Array Value):Obj->Obj
 | .cells _ t frozen=>.cells cs t frozen
 | o=>o
def zW:Array Value:=⟨[1,10,100,1000,10000,100000,1000000,10000000,100000000,1000000000,10000000000,100000000000,1000000000000,10000000000000,100000000000000,1000000000000000,10000000000000000,100000000000000000,1000000000000000000,10000000000000000000].map (.int .u64)⟩
def IE:Array Value:=⟨[0,1,28,2,29,14,24,3,30,22,20,15,25,17,4,8,31,27,13,23,21,19,16,7,26,12,18,6,11,5,10,9].map (.int .u8)⟩
def IG:Array Value:=⟨[0,1,56,2,57,49,28,3,61,58,42,50,38,29,17,4,62,47,59,36,45,43,51,22,53,39,33,30,24,18,12,5,63,55,48,27,60,41,37,16,46,35,44,21,52,32,23,11,54,26,40,15,34,20,31,10,25,14,19,9,13,8,7,6].map (.int .u8)⟩
theorem WR (os:Os):laidMet prog R.laid (({World.holding prog os ⟨#[],#[],[]⟩ with heap:=(((World.holding prog os ⟨#[],#[],[]⟩).heap.modify 0 (lay zW)).modify 1 (lay IE)).modify 2 (lay IG)}:World).forCall (fun _ _=>0) ⟨#[],#[.slice none 0 0],[]⟩).memory:=
 laidMet_of_run' 8 afv afv
theorem rd (os:Os) {H:Type} (enc:TypeId×Value->H):∃ pl,DataW.whole enc prog (({World.holding prog os ⟨#[],#[],[]⟩ with heap:=(((World.holding prog os ⟨#[],#[],[]⟩).heap.modify 0 (lay zW)).modify 1 (lay IE)).modify 2 (lay IG)}:World).forCall (fun _ _=>0) ⟨#[],#[.slice none 0 0],[]⟩).memory f3.params.toList Rows.answersSpec.vars false #[Value.slice none 0 0].toList 8=some ([.nil],[],pl):=
 ⟨[],by kernel_rfl⟩
theorem lf (os:Os) (sd:os.Started) (H:Type) (enc:TypeId×Value->H) (F:Stop.Interp) :
  ReturnsInHanded {} checked os 3 .any (Sp.preRow enc prog f3 R.domain false R.laid) ((Sp.at F).post enc prog f3 false true false false):=by
 obtain ⟨pl,hx⟩:=rd os enc
 refine returnsInHanded_of_row (C:=checked) (s:=Sp) scr.own sd afv func3
  (witness_row_at (enc:=enc) (C:=checked) false ({World.holding prog os ⟨#[],#[],[]⟩ with heap:=(((World.holding prog os ⟨#[],#[],[]⟩).heap.modify 0 (lay zW)).modify 1 (lay IE)).modify 2 (lay IG)}:World) #[.slice none 0 0] rfl afv afv afv
   (OpenSpec.preRow_of_cond 8 hx afv (fun k hk=>by cases hk;kernel_rfl) afv (WR os))) ?_
 intro W base args ds gs bf hval hW _ hcond hsz hL _ _
 exact ct H enc W base args ds gs bf hval hW hsz hL (of_decide_eq_true (hcond _ rfl))
theorem i1:prog.inPlace 3=R.inPlace:=by kernel_rfl
theorem i2:prog.unfollowed 3=R.unfollowed:=by kernel_rfl
theorem i3:prog.recurses 3=R.recurses:=by kernel_rfl
theorem i4:prog.varsNamed 3=R.named:=by kernel_rfl
theorem i5:f3.params.all (fun t=>prog.readableRec t)=true:=by kernel_rfl
theorem i6:Sp.bare.vars.all (fun n=>prog.varReadable n)=true:=by kernel_rfl
theorem closed:joinedFacts prog 3 f3 Sp.bare R=true:=by
 unfold joinedFacts;rw[i1,i2,i3,i4,i5,i6,facts.laidOut,facts.agv,facts.stops,facts.knobs,facts.plainKeys,facts.heard,facts.mayEnter,facts.lifts,facts.make];kernel_rfl
theorem said:Rows.AnswersUptoSaid:=
 OpenClaim.holds_of_cond 3 f3 rfl rfl rfl rfl rfl rfl rfl ⟨rfl,rfl,rfl,rfl,rfl⟩ rfl rfl rfl rfl rfl afv func3 closed
  (of_decide_eq_true afv) (by unfold Func.isWrapper;first|(rw[if_pos (by decide +kernel)];kernel_rfl)|(rw[if_neg (by decide +kernel)];exact ⟨rfl,rfl⟩))
  (fun os sd H enc _ F=>by rw[OpenClaim.pre_eq_preRow];exact lf os sd H enc F)
theorem plain (f:FuncId) (fn:Func) (hf:Tryz.pinned.checked.prog.funcNamed R.func=some f) (hfn:Tryz.pinned.checked.prog.funcs[f]?=some fn) :
  false=Tryz.pinned.checked.prog.looks []/\∀ (j:Nat) t,fn.params[j]?=some t->Tryz.pinned.checked.prog.wantsStandIn t=false:=by
 obtain rfl:f=3:=Option.some.inj ((show prog.funcNamed R.func=some 3 by kernel_rfl).symm.trans hf) |>.symm
 obtain rfl:fn=f3:=(Option.some.inj (func3.symm.trans hfn)).symm
 refine ⟨by kernel_rfl,fun j t ht=>?_⟩
 rw[params3] at ht
 obtain rfl:t=22:=by simpa using Array.mem_of_getElem? ht
 exact (show prog.wantsStandIn 22=false by kernel_rfl)
theorem card:Rows.AnswersUptoCardSaid:=
 Claim7.holds_tied_plain_at .later [] _ _ _ _ said (fun _ h=>by cases h) afv (fun _ h=>by cases h) answersUpto_row_tie rfl ⟨rfl,rfl⟩ afv rfl plain afv
end Go.Proofs.YteknelimjfgmaaaGreatDoor.answers
namespace Go.Proofs.YteknelimjfgmaaaGreatDoor
theorem answers_holds:Rows.AnswersUptoCardSaid:=answers.card
#print axioms answers_holds
end Go.Proofs.YteknelimjfgmaaaGreatDoor
