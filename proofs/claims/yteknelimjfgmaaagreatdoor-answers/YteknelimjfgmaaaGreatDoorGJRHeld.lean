import Derived.Deep.RegionHeld3
namespace Go.Proofs.YteknelimjfgmaaaGreatDoor
open Go
theorem af9 {p:Prop} (h:p:=by rw[h] at hr;cases hr):p:=h
section
variable {P:Program} {ops:Array Oper} {Q:Exit->Act->World->Prop} {md:Region.Mode} {S:World->Prop} {z:Nat}
def aF (P:Program) (md:Region.Mode) (ops:Array Oper) (Q:Exit->Act->World->Prop) (S:World->Prop) (z:Nat):Nat->Array Bool->Act->World->Prop
 | 0,listed,a,w=>Region.ready md ops listed=[]/\Q .normal a w
 | fuel+1,listed,a,w=>
  (Region.ready md ops listed=[]->Q .normal a w)/\
  ∀ i∈Region.ready md ops listed,wpOp P ops Q i (fun a' w'=>((listed.setIfInBounds i true).getD z true=true\/S w')/\aF P md ops Q S z fuel (listed.setIfInBounds i true) a' w') a w
theorem aF.any:∀ (fuel:Nat) (listed:Array Bool) (a:Act) (w:World),aF P md ops Q S z fuel listed a w->wpAny P md ops Q fuel listed a w
 | 0,_,_,_,h=>h
 | fuel+1,_,_,_,h=>⟨h.1,fun i hi=>wpOp_mono (fun a' w' h'=>aF.any fuel _ a' w' h'.2) (h.2 i hi)⟩
def chainB (md:Region.Mode) (ops:Array Oper) (listed:Array Bool) (i:Nat):List Nat->Bool
 | []=>false
 | [a]=>a==i
 | a::b::r=>((ops[a]?).map fun o=>o.after.any fun e=>Region.binds md e && e.on==b).getD false && !listed.getD b true && chainB md ops listed i (b::r)
theorem Dv {listed:Array Bool} {i:Nat}:∀ {c:List Nat},chainB md ops listed i c=true->∀ j∈Region.ready md ops listed,j≠i->j∉c/\chainB md ops (listed.setIfInBounds j true) i c=true
 | [],h,_,_,_=>by cases h
 | [a],h,j,hj,hji=>by
  have:a=i:=by simpa[chainB] using h
  subst this
  exact ⟨by simpa using hji,by simp[chainB]⟩
 | a::b::r,h,j,hj,hji=>by
  simp only[chainB,Bool.and_eq_true] at h
  obtain ⟨⟨h1,h2⟩,h3⟩:=h
  obtain ⟨n,hc⟩:=Dv h3 j hj hji
  have h2':listed.getD b true=false:=by simpa using h2
  have hbj:j≠b:=fun e=>n (by rw[e];exact List.mem_cons_self ..)
  have hja:j≠a:=by
   rintro rfl
   obtain ⟨hjun,oj,hoj,hall⟩:=mem_ready.1 hj
   rw[hoj] at h1
   simp only[Option.map_some,Option.getD_some,Array.any_eq_true'] at h1
   obtain ⟨e,he,hh⟩:=h1
   simp only[Bool.and_eq_true,beq_iff_eq] at hh
   have h5:=hall e he hh.1
   rw[hh.2] at h5
   rcases Nat.lt_or_ge b listed.size with h' | h'
   ·simp[h'] at h2' h5;rw[h2'] at h5;cases h5
   ·simp[Array.getElem?_eq_none h'] at h5
  refine ⟨fun hm=>?_,?_⟩
  ·rcases List.mem_cons.1 hm with e | hm
   ·exact hja e
   ·exact n hm
  ·simp only[chainB,Bool.and_eq_true]
   refine ⟨⟨h1,?_⟩,hc⟩
   rw[getD_set_ne true hbj,h2']
   rfl
theorem acA {p:Prop} (h:p:=by
 have h1:=hall e he hb
 have h0:=(mem_ready.1 hr).1
 rw[heq] at h1
 rcases Nat.lt_or_ge i listed.size with h' | h'
 ·simp[h'] at h0 h1;rw[h0] at h1;cases h1
 ·simp[Array.getElem?_eq_none h'] at h1):p:=h
theorem aeU {p:Prop} (h:p:=by
 by_cases hjk:j=k
 ·subst hjk;exact hjun
 ·rw[getD_set_ne true hjk] at hun;exact hun):p:=h
theorem aF.first {i:Nat} {oi:Oper} {v:Value} {r:List Nat} (hi:ops[i]?=some oi) (hsel:∀ (j:Nat) (o:Oper) cs b,ops[j]?=some o->o.op≠.select cs b)
  (hQ:∀ c a w,Q (.panic c) (a.put oi.dst v) w->Q (.panic c) a w) :
  ∀ (fuel:Nat) (listed:Array Bool) (a:Act) (w:World),i≠z->listed.getD z true=false->chainB md ops listed i (z::r)=true->
   (∀ j oj,ops[j]?=some oj->j≠i->listed.getD j true=false->(∀ e∈oj.after,Region.binds md e=true->e.on≠i)->oi.apart ops oj=true)->
   i∈Region.ready md ops listed->YieldsIf P ops S oi v a->S w->
   aF P md ops Q S z fuel (listed.setIfInBounds i true) (a.put oi.dst v) w->aF P md ops Q S z (fuel+1) listed a w:=by
 intro fuel
 induction fuel with
 | zero=>
  intro listed a w _ _ _ _ hr hy hS H;refine ⟨fun h=>af9,fun j hj=>?_⟩;by_cases hji:j=i
  ·subst hji;exact hy.wpOp hi hS ⟨.inr hS,H⟩
  ·have:=ready_mono hj hji;rw[H.1] at this;cases this
 | succ fuel ih=>
  intro listed a w hiz hz hch hfree hr hy hS H;refine ⟨fun h=>af9,fun j hj=>?_⟩;by_cases hji:j=i
  ·subst hji;exact hy.wpOp hi hS ⟨.inr hS,H⟩
  ·have h1:=H.2 j (ready_mono hj hji);obtain ⟨hjun,oj,hoj,hall⟩:=mem_ready.1 hj;obtain ⟨hjc,hch'⟩:=Dv hch j hj hji;have hnot:∀ e∈oj.after,Region.binds md e=true->e.on≠i:=fun e he hb heq=>by
    exact acA
   have h2:=wpOp_putIf hoj (hfree j oj hoj hji hjun hnot) (fun cs b=>hsel i oi cs b hi) (fun cs b=>hsel j oj cs b hoj) hQ hy h1
   have hfree':∀ k ok,ops[k]?=some ok->k≠i->(listed.setIfInBounds j true).getD k true=false->
     (∀ e∈ok.after,Region.binds md e=true->e.on≠i)->oi.apart ops ok=true:=fun k ok hk hki hun hno=>by
    refine hfree k ok hk hki ?_ hno
    exact aeU
   refine wpOp_mono (fun a' w' h3=>?_) h2;obtain ⟨h31,h32,h33⟩:=h3;have hjz:j≠z:=fun e=>hjc (by rw[e];exact List.mem_cons_self ..);have hz':(listed.setIfInBounds j true).getD z true=false:=(by rw[getD_set_ne true hjz];exact hz);have hSw:S w':=h32.resolve_left (fun e=>by rw[getD_set_ne true hjz,getD_set_ne true hiz,hz] at e;cases e);refine ⟨.inr hSw,ih (listed.setIfInBounds j true) a' w' hiz hz' hch' hfree' (ready_mono hr (Ne.symm hji)) h31 hSw ?_⟩;rw[Array.setIfInBounds_comm _ _ hji];exact h33
theorem aF.take {i:Nat} (r:List Nat) {oi:Oper} {v:Value} {fuel:Nat} {listed:Array Bool} {a:Act} {w:World} (hi:ops[i]?=some oi)
  (hs:Region.noSelect ops=true) (hf:Region.free md ops listed i=true) (hr:(Region.ready md ops listed).contains i=true) (hc:(chainB md ops listed i (z::r) && !(listed.getD z true) && i != z)=true)
  (hQ:∀ c a w,Q (.panic c) (a.put oi.dst v) w->Q (.panic c) a w) (hw:Region.wanted oi (yielded ops a.tmps)=true) (hy:∀ w,S w->(execOp a.eval oi).run P w = .ok (.value v) w) (hS:S w)
  (h:aF P md ops Q S z fuel (listed.setIfInBounds i true) (a.put oi.dst v) w):aF P md ops Q S z (fuel+1) listed a w:=
 aF.first hi (Region.noSelect_spec hs) hQ fuel listed a w (by simp at hc;exact hc.2) (by simp at hc;simpa using hc.1.2) (by simp at hc;exact hc.1.1) (Region.free_spec hi hf) (by simpa using hr) (.inl ⟨hw,hy⟩) hS h
theorem aej {p:Prop} (h:p:=by
 refine wpOp_step ho (fun K' hK=>?_)
 rw[if_pos hw]
 exact h K' (fun a w h1 h2=>hK a w ⟨h1,h2⟩)):p:=h
theorem aF.only {i:Nat} {o:Oper} {fuel:Nat} {listed:Array Bool} {a:Act} {w:World} (hr:Region.ready md ops listed=[i]) (ho:ops[i]?=some o) (hw:Region.wanted o (yielded ops a.tmps)=true)
  (h:∀ K':Act->World->Prop,Shut (∀ a w,((listed.setIfInBounds i true).getD z true=true\/S w)->aF P md ops Q S z fuel (listed.setIfInBounds i true) a w->K' a w)->Oper.wp P o a w K' Q):aF P md ops Q S z (fuel+1) listed a w:=by
 refine ⟨fun h0=>(by rw[hr] at h0;cases h0),fun j hj=>?_⟩
 rw[hr,List.mem_singleton] at hj
 subst hj
 exact aej
theorem aF.two {i j:Nat} {o o':Oper} {fuel:Nat} {listed:Array Bool} {a:Act} {w:World} (hr:Region.ready md ops listed=[i,j]) (ho:ops[i]?=some o) (ho':ops[j]?=some o') (hw:Region.wanted o (yielded ops a.tmps)=true) (hw':Region.wanted o' (yielded ops a.tmps)=true)
  (h:∀ K':Act->World->Prop,Shut (∀ a w,((listed.setIfInBounds i true).getD z true=true\/S w)->aF P md ops Q S z fuel (listed.setIfInBounds i true) a w->K' a w)->Oper.wp P o a w K' Q)
  (h':∀ K':Act->World->Prop,Shut (∀ a w,((listed.setIfInBounds j true).getD z true=true\/S w)->aF P md ops Q S z fuel (listed.setIfInBounds j true) a w->K' a w)->Oper.wp P o' a w K' Q):aF P md ops Q S z (fuel+1) listed a w:=by
 refine ⟨fun h0=>(by rw[hr] at h0;cases h0),fun k hk=>?_⟩
 rw[hr] at hk
 have:k=i\/k=j:=by simpa using hk
 rcases this with rfl | rfl
 ·exact aej
 ·refine wpOp_step ho' (fun K' hK=>?_);rw[if_pos hw'];exact h' K' (fun a w h1 h2=>hK a w ⟨h1,h2⟩)
theorem aF.done {fuel:Nat} {listed:Array Bool} {a:Act} {w:World} (hr:Region.ready md ops listed=[]) (h:Q .normal a w):aF P md ops Q S z fuel listed a w:=by
 cases fuel with
 | zero=>exact ⟨hr,h⟩
 | succ n=>exact ⟨fun _=>h,by rw[hr];simp⟩
theorem aF.Dw {fuel:Nat} {listed:Array Bool} {a:Act} {w:World} (X:World->Prop) (hr:Region.ready md ops listed=[]) (hX:X w) (h:∀ V,X V->Q .normal a V):aF P md ops Q S z fuel listed a w:=aF.done hr (h w hX)
theorem ad4 {p:Prop} (h:p:=by
 subst hji;exact hy.wpOp hi trivial ⟨hS.imp (fun e=>by rw[getD_set_ne true hiz];exact e) id,H⟩):p:=h
theorem aF.free {i:Nat} {oi:Oper} {v:Value} (hi:ops[i]?=some oi) (hsel:∀ (j:Nat) (o:Oper) cs b,ops[j]?=some o->o.op≠.select cs b)
  (hQ:∀ c a w,Q (.panic c) (a.put oi.dst v) w->Q (.panic c) a w) :
  ∀ (fuel:Nat) (listed:Array Bool) (a:Act) (w:World),
   (∀ j oj,ops[j]?=some oj->j≠i->listed.getD j true=false->(∀ e∈oj.after,Region.binds md e=true->e.on≠i)->oi.apart ops oj=true)->
   i∈Region.ready md ops listed->YieldsIf P ops (fun _=>True) oi v a->i≠z->(listed.getD z true=true\/S w)->
   aF P md ops Q S z fuel (listed.setIfInBounds i true) (a.put oi.dst v) w->aF P md ops Q S z (fuel+1) listed a w:=by
 intro fuel
 induction fuel with
 | zero=>
  intro listed a w _ hr hy hiz hS H;refine ⟨fun h=>af9,fun j hj=>?_⟩;by_cases hji:j=i
  ·exact ad4
  ·have:=ready_mono hj hji;rw[H.1] at this;cases this
 | succ fuel ih=>
  intro listed a w hfree hr hy hiz hS H;refine ⟨fun h=>af9,fun j hj=>?_⟩;by_cases hji:j=i
  ·exact ad4
  ·have h1:=H.2 j (ready_mono hj hji);obtain ⟨hjun,oj,hoj,hall⟩:=mem_ready.1 hj;have hnot:∀ e∈oj.after,Region.binds md e=true->e.on≠i:=fun e he hb heq=>by
    exact acA
   have h2:=wpOp_putIf hoj (hfree j oj hoj hji hjun hnot) (fun cs b=>hsel i oi cs b hi) (fun cs b=>hsel j oj cs b hoj) hQ hy h1
   have hfree':∀ k ok,ops[k]?=some ok->k≠i->(listed.setIfInBounds j true).getD k true=false->
     (∀ e∈ok.after,Region.binds md e=true->e.on≠i)->oi.apart ops ok=true:=fun k ok hk hki hun hno=>by
    refine hfree k ok hk hki ?_ hno
    exact aeU
   refine wpOp_mono (fun a' w' h3=>?_) h2;obtain ⟨h31,h32,h33⟩:=h3;have afc:(listed.setIfInBounds j true).getD z true=true\/S w':=h32.imp (fun e=>by rw[Array.setIfInBounds_comm _ _ (Ne.symm hji),getD_set_ne true hiz] at e;exact e) id;refine ⟨afc,ih (listed.setIfInBounds j true) a' w' hfree' (ready_mono hr (Ne.symm hji)) h31 hiz afc ?_⟩;rw[Array.setIfInBounds_comm _ _ hji];exact h33
theorem aF.VG {i:Nat} {oi:Oper} {v:Value} {fuel:Nat} {listed:Array Bool} {a:Act} {w:World} (hi:ops[i]?=some oi)
  (hs:Region.noSelect ops=true) (hf:Region.free md ops listed i=true) (hr:(Region.ready md ops listed).contains i=true) (hc:(i != z)=true)
  (hQ:∀ c a w,Q (.panic c) (a.put oi.dst v) w->Q (.panic c) a w) (hw:Region.wanted oi (yielded ops a.tmps)=true) (hy:∀ w,(execOp a.eval oi).run P w = .ok (.value v) w) (hS:listed.getD z true=true\/S w)
  (h:aF P md ops Q S z fuel (listed.setIfInBounds i true) (a.put oi.dst v) w):aF P md ops Q S z (fuel+1) listed a w:=
 aF.free hi (Region.noSelect_spec hs) hQ fuel listed a w (Region.free_spec hi hf) (by simpa using hr) (.inl ⟨hw,fun w _=>hy w⟩) (by simpa using hc) hS h
theorem aF.start {id:Nat} {a:Act} {w:World} (z:Nat) (hm:P.follows .mixedOrders=true)
  (h:aF P .any ops Q S z ops.size (Array.replicate ops.size false) a w.drew):(Code.region id ops true).wp P Q a w:=
 wp_region_any hm (aF.any _ _ _ _ h)
end
end Go.Proofs.YteknelimjfgmaaaGreatDoor
namespace Go.Proofs.YteknelimjfgmaaaGreatDoor
open Go
section
variable {P:Program} {ops:Array Oper} {Q:Exit->Act->World->Prop} {md:Region.Mode} {S:World->Prop} {z fuel:Nat} {listed:Array Bool} {a:Act} {w:World} {oi:Oper} {v:Value} {q:Prop}
theorem jS {p:Prop} (h:p:=by (try clear hW);(try simp only[List.getElem_toArray,List.getElem_cons_zero,List.getElem_cons_succ]);go_simp;(try with_reducible rfl)):p:=h
theorem tkp {p:Prop} (k:q) (h:q->p:=by intro hq;(try simp only[Act.put,List.getElem_toArray,List.getElem_cons_zero,List.getElem_cons_succ,List.setIfInBounds_toArray,List.set_cons_zero,List.set_cons_succ]);exact hq):p:=h k
theorem aF.tk (i:Nat) (r:List Nat) (k:q) (hi:ops[i]?=some oi:=by exact rfl) (hs:Region.noSelect ops=true:=by kernel_rfl) (hf:Region.free md ops listed i=true:=by kernel_rfl) (hr:(Region.ready md ops listed).contains i=true:=by kernel_rfl) (hc:(chainB md ops listed i (z::r) && !(listed.getD z true) && i != z)=true:=by kernel_rfl)
  (hQ:∀ c a w,Q (.panic c) (a.put oi.dst v) w->Q (.panic c) a w:=by exact fun _ _ _ h=>h) (hw:Region.wanted oi (yielded ops a.tmps)=true:=by rfl) (hy:∀ w,S w->(execOp a.eval oi).run P w = .ok (.value v) w:=by intro W hW;exact jS) (hS:S w:=by exact eD.out)
  (h:q->aF P md ops Q S z fuel (listed.setIfInBounds i true) (a.put oi.dst v) w:=by intro hq;exact tkp hq):aF P md ops Q S z (fuel+1) listed a w:=
 aF.take r hi hs hf hr hc hQ hw hy hS (h k)
theorem aF.fr (i:Nat) (k:q) (hi:ops[i]?=some oi:=by exact rfl) (hs:Region.noSelect ops=true:=by kernel_rfl) (hf:Region.free md ops listed i=true:=by kernel_rfl) (hr:(Region.ready md ops listed).contains i=true:=by kernel_rfl) (hc:(i != z)=true:=by kernel_rfl)
  (hQ:∀ c a w,Q (.panic c) (a.put oi.dst v) w->Q (.panic c) a w:=by exact fun _ _ _ h=>h) (hw:Region.wanted oi (yielded ops a.tmps)=true:=by rfl) (hy:∀ w,(execOp a.eval oi).run P w = .ok (.value v) w:=by intro W;exact jS) (hS:listed.getD z true=true\/S w:=by first | exact .inl (by kernel_rfl) | exact .inr eD.out)
  (h:q->aF P md ops Q S z fuel (listed.setIfInBounds i true) (a.put oi.dst v) w:=by intro hq;exact tkp hq):aF P md ops Q S z (fuel+1) listed a w:=
 aF.VG hi hs hf hr hc hQ hw hy hS (h k)
theorem aF.on (i:Nat) (k:q) (hr:Region.ready md ops listed=[i]:=by kernel_rfl) (ho:ops[i]?=some oi:=by exact rfl) (hw:Region.wanted oi (yielded ops a.tmps)=true:=by rfl)
  (h:q->∀ K':Act->World->Prop,Shut (∀ a w,((listed.setIfInBounds i true).getD z true=true\/S w)->aF P md ops Q S z fuel (listed.setIfInBounds i true) a w->K' a w)->Oper.wp P oi a w K' Q:=by intro hq K hK;(try simp only[List.getElem_toArray,List.getElem_cons_zero,List.getElem_cons_succ]);go_simp;revert K;exact hq):aF P md ops Q S z (fuel+1) listed a w:=
 aF.only hr ho hw (h k)
theorem aF.on0 (i:Nat) (k:q) (hr:Region.ready md ops listed=[i]:=by kernel_rfl) (ho:ops[i]?=some oi:=by exact rfl) (hw:Region.wanted oi (yielded ops a.tmps)=true:=by rfl)
  (h:q->∀ K':Act->World->Prop,Shut (∀ a w,((listed.setIfInBounds i true).getD z true=true\/S w)->aF P md ops Q S z fuel (listed.setIfInBounds i true) a w->K' a w)->Oper.wp P oi a w K' Q:=by intro hq K hK;(try simp only[List.getElem_toArray,List.getElem_cons_zero,List.getElem_cons_succ]);revert K;exact hq):aF P md ops Q S z (fuel+1) listed a w:=
 aF.only hr ho hw (h k)
theorem hkl {p:Prop} (k:q) (h:q->p:=by intro hq;refine hK.out _ _ (.inl (by kernel_rfl)) ?_;exact tkp hq):p:=h k
theorem hkr {p:Prop} (k:q) (h:q->p:=by intro hq;refine hK.out _ _ (.inr eD.out) ?_;exact tkp hq):p:=h k
theorem hkx {p r:Prop} (X:r) (k:q) (h:r->q->p:=by intro hX hq;refine hK.out _ _ (.inr hX) ?_;exact tkp hq):p:=h X k
end
end Go.Proofs.YteknelimjfgmaaaGreatDoor
