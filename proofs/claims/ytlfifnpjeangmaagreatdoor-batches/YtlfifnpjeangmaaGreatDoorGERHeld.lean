import Derived.Deep.RegionHeld3
namespace Go.Proofs.YtlfifnpjeangmaaGreatDoor
open Go
theorem mR{p:Prop}(h:p:=by grind):p:=h
section
variable {P:Program}{ops:Array Oper}{Q:Exit->Act->World->Prop}{md:Region.Mode}{S:World->Prop}{z:Nat}
def aD(P:Program)(md:Region.Mode)(ops:Array Oper)(Q:Exit->Act->World->Prop)(S:World->Prop)(z:Nat):Nat->Array Bool->Act->World->Prop
 |0,listed,a,w=>Region.ready md ops listed=[]/\Q .normal a w
 |fuel+1,listed,a,w=>
  (Region.ready md ops listed=[]->Q .normal a w)/\
  ∀i∈Region.ready md ops listed,wpOp P ops Q i (λa' w'=>((listed.setIfInBounds i true).getD z true=true\/S w')/\aD P md ops Q S z fuel (listed.setIfInBounds i true) a' w') a w
theorem aD.any:∀(fuel)(b)(a)(w),aD P md ops Q S z fuel b a w->wpAny P md ops Q fuel b a w
 |0,_,_,_,h=>h
 |fuel+1,_,_,_,h=>⟨h.1,λi d=>wpOp_mono (λa e b=>aD.any fuel _ a e b.2) (h.2 i d)⟩
def pP(md:Region.Mode)(ops:Array Oper)(listed:Array Bool)(i:Nat):List Nat->Bool
 | []=>false
 | [a]=>a==i
 |a::b::r=>((ops[a]?).map λo=>o.after.any λe=>Region.binds md e&&e.on==b).getD false&&!listed.getD b true&&pP md ops listed i (b::r)
theorem EY{d:Array Bool}{i:Nat}:∀{c:List Nat},pP md ops d i c=true->∀j∈Region.ready md ops d,j≠i->j∉c/\pP md ops (d.setIfInBounds j true) i c=true
 | [],h,_,_,_=>by cases h
 | [a],h,j,k,e=>by
  grind [pP]
 |a::b::r,h,j,k,e=>by
  simp only[pP,Bool.and_eq_true]at h
  obtain⟨⟨l,m⟩,o⟩:=h
  obtain⟨n,p⟩:=EY o j k e
  have f:d.getD b true=false:=by simpa using m
  have g:j≠b:=mR
  have q:j≠a:=by
   grind [mem_ready]
  refine⟨λt=>?_,?_⟩
  .grind
  .simp only[pP,Bool.and_eq_true]
   refine⟨⟨l,?_⟩,p⟩
   rw[getD_set_ne true g,f]
   rfl
theorem Dd{p:Prop}(h:p:=by
 by_cases hjk:j=k
 .subst hjk;exact hjun
 .rw[getD_set_ne true hjk]at hun;exact hun):p:=h
theorem aD.first{i:Nat}{m:Oper}{v:Value}{r:List Nat}(R:ops[i]?=some m)(V:∀(j:Nat)(o)cs b,ops[j]?=some o->o.op≠.select cs b)(hQ:∀c a w,Q (.panic c) (a.put m.dst v) w->Q (.panic c) a w):
  ∀(f)(d)(a)(w),i≠z->d.getD z true=false->pP md ops d i (z::r)=true->
   (∀j x,ops[j]?=some x->j≠i->d.getD j true=false->(∀e∈x.after,Region.binds md e=true->e.on≠i)->m.apart ops x=true)->
   i∈Region.ready md ops d->YieldsIf P ops S m v a->S w->
   aD P md ops Q S z f (d.setIfInBounds i true) (a.put m.dst v) w->aD P md ops Q S z (f+1) d a w:=by
 intro f
 induction f with
 |zero=>
  intro d a w _ _ _ _ U y n H;refine⟨mR,λj t=>?_⟩;by_cases g:j=i
  .subst g;exact y.wpOp R n ⟨.inr n,H⟩
  .have:=ready_mono t g;rw[H.1]at this;cases this
 |succ f ih=>
  intro d a w q W D l U y n H;refine⟨mR,λj t=>?_⟩;by_cases g:j=i
  .subst g;exact y.wpOp R n ⟨.inr n,H⟩
  .have h1:=H.2 j (ready_mono t g);obtain⟨hjun,x,J,M⟩:=mem_ready.1 t;obtain⟨ab,p⟩:=EY D j t g;have T:∀e∈x.after,Region.binds md e=true->e.on≠i:=(by grind [mem_ready])
   have h2:=wpOp_putIf J mR mR mR hQ y h1
   have h:∀k ok,ops[k]?=some ok->k≠i->(d.setIfInBounds j true).getD k true=false->
     (∀e∈ok.after,Region.binds md e=true->e.on≠i)->m.apart ops ok=true:=λk ok A o hun u=>by
    refine l k ok A o ?_ u
    exact Dd
   refine wpOp_mono (λX w' h3=>?_) h2;obtain⟨A,B,C⟩:=h3;have u:j≠z:=mR;have L:(d.setIfInBounds j true).getD z true=false:=(by rw[getD_set_ne true u];exact W);have o:=B.resolve_left (λe=>by rw[getD_set_ne true u,getD_set_ne true q,W]at e;cases e);refine⟨.inr o,ih (d.setIfInBounds j true) X w' q L p h (ready_mono U (Ne.symm g)) A o ?_⟩;rw[Array.setIfInBounds_comm _ _ g];exact C
theorem aD.take{i:Nat}(r){e:Oper}{v:Value}{d:Nat}{b:Array Bool}{a:Act}{w:World}(g:ops[i]?=some e)(n:Region.noSelect ops=true)(l:Region.free md ops b i=true)(m:(Region.ready md ops b).contains i=true)(f:(pP md ops b i (z::r)&&!(b.getD z true)&&i != z)=true)(j:∀c a w,Q (.panic c) (a.put e.dst v) w->Q (.panic c) a w)(hw:Region.wanted e (yielded ops a.tmps)=true)(o:∀w,S w->(execOp a.eval e).run P w=.ok (.value v) w)(k:S w)(h:aD P md ops Q S z d (b.setIfInBounds i true) (a.put e.dst v) w):aD P md ops Q S z (d+1) b a w:=
 aD.first g (Region.noSelect_spec n) j d b a w (by simp at f;exact f.2) mR (by simp at f;exact f.1.1) (Region.free_spec g l) (by simpa using m) (.inl ⟨hw,o⟩) k h
theorem Fm{p:Prop}(h:p:=by
 refine wpOp_step ho (λK' hK=>?_)
 rw[if_pos hw]
 exact h K' (λa w h1 h2=>hK a w ⟨h1,h2⟩)):p:=h
theorem aD.only{i:Nat}{o:Oper}{d:Nat}{b:Array Bool}{a:Act}{w:World}(f:Region.ready md ops b=[i])(ho:ops[i]?=some o)(hw:Region.wanted o (yielded ops a.tmps)=true)(h:∀K':Act->World->Prop,Shut (∀a w,((b.setIfInBounds i true).getD z true=true\/S w)->aD P md ops Q S z d (b.setIfInBounds i true) a w->K' a w)->Oper.wp P o a w K' Q):aD P md ops Q S z (d+1) b a w:=by
 refine⟨mR,λj e=>?_⟩
 rw[f,List.mem_singleton]at e
 subst e
 exact Fm
theorem aD.two{i j:Nat}{o g:Oper}{d:Nat}{b:Array Bool}{a:Act}{w:World}(n:Region.ready md ops b=[i,j])(ho:ops[i]?=some o)(e:ops[j]?=some g)(hw:Region.wanted o (yielded ops a.tmps)=true)(f:Region.wanted g (yielded ops a.tmps)=true)(h:∀K':Act->World->Prop,Shut (∀a w,((b.setIfInBounds i true).getD z true=true\/S w)->aD P md ops Q S z d (b.setIfInBounds i true) a w->K' a w)->Oper.wp P o a w K' Q)(m:∀K':Act->World->Prop,Shut (∀a w,((b.setIfInBounds j true).getD z true=true\/S w)->aD P md ops Q S z d (b.setIfInBounds j true) a w->K' a w)->Oper.wp P g a w K' Q):aD P md ops Q S z (d+1) b a w:=by
 refine⟨mR,λk l=>?_⟩
 rw[n]at l
 have:k=i\/k=j:=by simpa using l
 rcases this with rfl|rfl
 .exact Fm
 .refine wpOp_step e (λK' hK=>?_);rw[if_pos f];exact m K' (λa w h1 h2=>hK a w ⟨h1,h2⟩)
theorem aD.done{d:Nat}{b:Array Bool}{a:Act}{w:World}(e:Region.ready md ops b=[])(h:Q .normal a w):aD P md ops Q S z d b a w:=by
 cases d with
 |zero=>exact⟨e,h⟩
 |succ n=>exact⟨λ_=>h,by rw[e];simp⟩
theorem aD.EZ{d:Nat}{b:Array Bool}{a:Act}{w:World}(X:World->Prop)(f:Region.ready md ops b=[])(e:X w)(h:∀V,X V->Q .normal a V):aD P md ops Q S z d b a w:=aD.done f (h w e)
theorem D'{p:Prop}(h:p:=by
 subst hji;exact hy.wpOp hi trivial ⟨hS.imp (λe=>by rw[getD_set_ne true hiz];exact e) id,H⟩):p:=h
theorem aD.free{i:Nat}{l:Oper}{v:Value}(hi:ops[i]?=some l)(A:∀(j:Nat)(o)cs b,ops[j]?=some o->o.op≠.select cs b)(L:∀c a w,Q (.panic c) (a.put l.dst v) w->Q (.panic c) a w):
  ∀(f)(d)(a)(w),
   (∀j n,ops[j]?=some n->j≠i->d.getD j true=false->(∀e∈n.after,Region.binds md e=true->e.on≠i)->l.apart ops n=true)->
   i∈Region.ready md ops d->YieldsIf P ops (λ_=>True) l v a->i≠z->(d.getD z true=true\/S w)->
   aD P md ops Q S z f (d.setIfInBounds i true) (a.put l.dst v) w->aD P md ops Q S z (f+1) d a w:=by
 intro f
 induction f with
 |zero=>
  intro d a w _ y hy hiz hS H;refine⟨mR,λj o=>?_⟩;by_cases hji:j=i
  .exact D'
  .have:=ready_mono o hji;rw[H.1]at this;cases this
 |succ f M=>
  intro d a w h y hy hiz hS H;refine⟨mR,λj o=>?_⟩;by_cases hji:j=i
  .exact D'
  .have C:=H.2 j (ready_mono o hji);obtain⟨hjun,n,t,u⟩:=mem_ready.1 o;have x:∀e∈n.after,Region.binds md e=true->e.on≠i:=(by grind [mem_ready])
   have D:=wpOp_putIf t mR mR mR L hy C
   have g:∀k ok,ops[k]?=some ok->k≠i->(d.setIfInBounds j true).getD k true=false->
     (∀e∈ok.after,Region.binds md e=true->e.on≠i)->l.apart ops ok=true:=λk ok q m hun p=>by
    refine h k ok q m ?_ p
    exact Dd
   refine wpOp_mono (λB R J=>?_) D;obtain⟨p,q,r⟩:=J;have m:=q.imp (λe=>by rw[Array.setIfInBounds_comm _ _ (Ne.symm hji),getD_set_ne true hiz]at e;exact e) id;refine⟨m,M (d.setIfInBounds j true) B R g (ready_mono y (Ne.symm hji)) p hiz m ?_⟩;rw[Array.setIfInBounds_comm _ _ hji];exact r
theorem aD.ZP{i:Nat}{e:Oper}{v:Value}{d:Nat}{b:Array Bool}{a:Act}{w:World}(f:ops[i]?=some e)(n:Region.noSelect ops=true)(l:Region.free md ops b i=true)(m:(Region.ready md ops b).contains i=true)(k:(i != z)=true)(g:∀c a w,Q (.panic c) (a.put e.dst v) w->Q (.panic c) a w)(hw:Region.wanted e (yielded ops a.tmps)=true)(o:∀w,(execOp a.eval e).run P w=.ok (.value v) w)(j:b.getD z true=true\/S w)(h:aD P md ops Q S z d (b.setIfInBounds i true) (a.put e.dst v) w):aD P md ops Q S z (d+1) b a w:=
 aD.free f (Region.noSelect_spec n) g d b a w (Region.free_spec f l) (by simpa using m) (.inl ⟨hw,λw _=>o w⟩) (by simpa using k) j h
theorem aD.start{d:Nat}{a:Act}{w:World}(z)(b:P.follows .mixedOrders=true)(h:aD P .any ops Q S z ops.size (Array.replicate ops.size false) a w.drew):(Code.region d ops true).wp P Q a w:=
 wp_region_any b (aD.any _ _ _ _ h)
end
end Go.Proofs.YtlfifnpjeangmaaGreatDoor
namespace Go.Proofs.YtlfifnpjeangmaaGreatDoor
open Go
section
variable {P:Program}{ops:Array Oper}{Q:Exit->Act->World->Prop}{md:Region.Mode}{S:World->Prop}{z fuel:Nat}{listed:Array Bool}{a:Act}{w:World}{oi:Oper}{v:Value}{q:Prop}
theorem kJ{p:Prop}(h:p:=by(try clear hW);(try simp only[List.getElem_toArray,List.getElem_cons_zero,List.getElem_cons_succ]);go_simp;(try with_reducible rfl)):p:=h
theorem tg{p:Prop}(k:q)(h:q->p:=by intro hq;(try simp only[Act.put,List.getElem_toArray,List.getElem_cons_zero,List.getElem_cons_succ,List.setIfInBounds_toArray,List.set_cons_zero,List.set_cons_succ]);exact hq):p:=h k
theorem aD.tk(i:Nat)(r:List Nat)(k:q)(hi:ops[i]?=some oi:=by exact rfl)(hs:Region.noSelect ops=true:=by kernel_rfl)(hf:Region.free md ops listed i=true:=by kernel_rfl)(hr:(Region.ready md ops listed).contains i=true:=by kernel_rfl)(hc:(pP md ops listed i (z::r)&&!(listed.getD z true)&&i != z)=true:=by kernel_rfl)(hQ:∀c a w,Q (.panic c) (a.put oi.dst v) w->Q (.panic c) a w:=by exact λ_ _ _ h=>h)(hw:Region.wanted oi (yielded ops a.tmps)=true:=by rfl)(hy:∀w,S w->(execOp a.eval oi).run P w=.ok (.value v) w:=by intro W hW;exact kJ)(hS:S w:=by exact dZ.out)(h:q->aD P md ops Q S z fuel (listed.setIfInBounds i true) (a.put oi.dst v) w:=by intro hq;exact tg hq):aD P md ops Q S z (fuel+1) listed a w:=
 (by grind [aD.take])
theorem aD.fr(i:Nat)(k:q)(hi:ops[i]?=some oi:=by exact rfl)(hs:Region.noSelect ops=true:=by kernel_rfl)(hf:Region.free md ops listed i=true:=by kernel_rfl)(hr:(Region.ready md ops listed).contains i=true:=by kernel_rfl)(hc:(i != z)=true:=by kernel_rfl)(hQ:∀c a w,Q (.panic c) (a.put oi.dst v) w->Q (.panic c) a w:=by exact λ_ _ _ h=>h)(hw:Region.wanted oi (yielded ops a.tmps)=true:=by rfl)(hy:∀w,(execOp a.eval oi).run P w=.ok (.value v) w:=by intro W;exact kJ)(hS:listed.getD z true=true\/S w:=by first|exact .inl (by kernel_rfl)|exact .inr dZ.out)(h:q->aD P md ops Q S z fuel (listed.setIfInBounds i true) (a.put oi.dst v) w:=by intro hq;exact tg hq):aD P md ops Q S z (fuel+1) listed a w:=
 (by grind [aD.ZP])
theorem aD.on(i:Nat)(k:q)(hr:Region.ready md ops listed=[i]:=by kernel_rfl)(ho:ops[i]?=some oi:=by exact rfl)(hw:Region.wanted oi (yielded ops a.tmps)=true:=by rfl)(h:q->∀K':Act->World->Prop,Shut (∀a w,((listed.setIfInBounds i true).getD z true=true\/S w)->aD P md ops Q S z fuel (listed.setIfInBounds i true) a w->K' a w)->Oper.wp P oi a w K' Q:=by intro hq K hK;(try simp only[List.getElem_toArray,List.getElem_cons_zero,List.getElem_cons_succ]);go_simp;revert K;exact hq):aD P md ops Q S z (fuel+1) listed a w:=
 aD.only hr ho hw (h k)
theorem aD.on0(i:Nat)(k:q)(hr:Region.ready md ops listed=[i]:=by kernel_rfl)(ho:ops[i]?=some oi:=by exact rfl)(hw:Region.wanted oi (yielded ops a.tmps)=true:=by rfl)(h:q->∀K':Act->World->Prop,Shut (∀a w,((listed.setIfInBounds i true).getD z true=true\/S w)->aD P md ops Q S z fuel (listed.setIfInBounds i true) a w->K' a w)->Oper.wp P oi a w K' Q:=by intro hq K hK;(try simp only[List.getElem_toArray,List.getElem_cons_zero,List.getElem_cons_succ]);revert K;exact hq):aD P md ops Q S z (fuel+1) listed a w:=
 aD.only hr ho hw (h k)
theorem gO{p:Prop}(k:q)(h:q->p:=by intro hq;refine hK.out _ _ (.inl (by kernel_rfl)) ?_;exact tg hq):p:=h k
theorem pZ{p:Prop}(k:q)(h:q->p:=by intro hq;refine hK.out _ _ (.inr dZ.out) ?_;exact tg hq):p:=h k
theorem l7{p r:Prop}(X:r)(k:q)(h:r->q->p:=by intro hX hq;refine hK.out _ _ (.inr hX) ?_;exact tg hq):p:=h X k
end
