import Derived.Deep.RegionHeld3
namespace Go.Proofs.YtlfifnpjeangmaaGreatDoor
open Go
theorem agN{p:Prop}(h:p:=by grind):p:=h
section
variable {P:Program}{ops:Array Oper}{Q:Exit->Act->World->Prop}{md:Region.Mode}{S:World->Prop}{z:Nat}
def aD(P:Program)(md:Region.Mode)(ops:Array Oper)(Q:Exit->Act->World->Prop)(S:World->Prop)(z:Nat):Nat->Array Bool->Act->World->Prop
 |0,listed,a,w=>Region.ready md ops listed=[]/\Q .normal a w
 |fuel+1,listed,a,w=>
  (Region.ready md ops listed=[]->Q .normal a w)/\
  ∀i∈Region.ready md ops listed,wpOp P ops Q i (λa' w'=>((listed.setIfInBounds i true).getD z true=true\/S w')/\aD P md ops Q S z fuel (listed.setIfInBounds i true) a' w') a w
theorem aD.any:∀(b:Nat)(c:Array Bool)(a:Act)(w:World),aD P md ops Q S z b c a w->wpAny P md ops Q b c a w
 |0,_,_,_,h=>h
 |b+1,_,_,_,h=>⟨h.1,λi e=>wpOp_mono (λd w' f=>aD.any b _ d w' f.2) (h.2 i e)⟩
def chainB(md:Region.Mode)(ops:Array Oper)(listed:Array Bool)(i:Nat):List Nat->Bool
 | []=>false
 | [a]=>a==i
 |a::b::r=>((ops[a]?).map λo=>o.after.any λe=>Region.binds md e&&e.on==b).getD false&&!listed.getD b true&&chainB md ops listed i (b::r)
theorem EW{d:Array Bool}{i:Nat}:∀{c:List Nat},chainB md ops d i c=true->∀j∈Region.ready md ops d,j≠i->j∉c/\chainB md ops (d.setIfInBounds j true) i c=true
 | [],h,_,_,_=>by cases h
 | [a],h,j,k,e=>by
  grind [chainB]
 |a::b::r,h,j,k,e=>by
  simp only[chainB,Bool.and_eq_true]at h
  obtain⟨⟨l,m⟩,q⟩:=h
  obtain⟨n,o⟩:=EW q j k e
  have f:d.getD b true=false:=by simpa using m
  have g:j≠b:=agN
  have p:j≠a:=by
   grind [mem_ready]
  refine⟨λs=>?_,?_⟩
  ·grind
  ·simp only[chainB,Bool.and_eq_true]
   refine⟨⟨l,?_⟩,o⟩
   rw[getD_set_ne true g,f]
   rfl
theorem af3{p:Prop}(h:p:=by
 by_cases hjk:j=k
 ·subst hjk;exact hjun
 ·rw[getD_set_ne true hjk]at hun;exact hun):p:=h
theorem aD.first{i:Nat}{m:Oper}{v:Value}{r:List Nat}(M:ops[i]?=some m)(J:∀(j:Nat)(o:Oper)cs b,ops[j]?=some o->o.op≠.select cs b)(W:∀c a w,Q (.panic c) (a.put m.dst v) w->Q (.panic c) a w):
  ∀(f:Nat)(d:Array Bool)(a:Act)(w:World),i≠z->d.getD z true=false->chainB md ops d i (z::r)=true->
   (∀j s,ops[j]?=some s->j≠i->d.getD j true=false->(∀e∈s.after,Region.binds md e=true->e.on≠i)->m.apart ops s=true)->
   i∈Region.ready md ops d->YieldsIf P ops S m v a->S w->
   aD P md ops Q S z f (d.setIfInBounds i true) (a.put m.dst v) w->aD P md ops Q S z (f+1) d a w:=by
 intro f
 induction f with
 |zero=>
  intro d a w _ _ _ _ G hy hS H;refine⟨agN,λj n=>?_⟩;by_cases g:j=i
  ·subst g;exact hy.wpOp M hS ⟨.inr hS,H⟩
  ·have:=ready_mono n g;rw[H.1]at this;cases this
 |succ f T=>
  intro d a w q L A l G hy hS H;refine⟨agN,λj n=>?_⟩;by_cases g:j=i
  ·subst g;exact hy.wpOp M hS ⟨.inr hS,H⟩
  ·have X:=H.2 j (ready_mono n g);obtain⟨hjun,s,x,I⟩:=mem_ready.1 n;obtain⟨U,u⟩:=EW A j n g;have N:∀e∈s.after,Region.binds md e=true->e.on≠i:=(by grind [mem_ready])
   have R:=wpOp_putIf x agN agN agN W hy X
   have h:∀k ok,ops[k]?=some ok->k≠i->(d.setIfInBounds j true).getD k true=false->
     (∀e∈ok.after,Region.binds md e=true->e.on≠i)->m.apart ops ok=true:=λk ok O y hun F=>by
    refine l k ok O y ?_ F
    exact af3
   refine wpOp_mono (λV w' Y=>?_) R;obtain⟨D,C,B⟩:=Y;have t:j≠z:=agN;have E:(d.setIfInBounds j true).getD z true=false:=(by rw[getD_set_ne true t];exact L);have p:S w':=C.resolve_left (λe=>by rw[getD_set_ne true t,getD_set_ne true q,L]at e;cases e);refine⟨.inr p,T (d.setIfInBounds j true) V w' q E u h (ready_mono G (Ne.symm g)) D p ?_⟩;rw[Array.setIfInBounds_comm _ _ g];exact B
theorem aD.take{i:Nat}(r:List Nat){e:Oper}{v:Value}{d:Nat}{b:Array Bool}{a:Act}{w:World}(g:ops[i]?=some e)(l:Region.noSelect ops=true)(j:Region.free md ops b i=true)(k:(Region.ready md ops b).contains i=true)(f:(chainB md ops b i (z::r)&&!(b.getD z true)&&i != z)=true)(m:∀c a w,Q (.panic c) (a.put e.dst v) w->Q (.panic c) a w)(hw:Region.wanted e (yielded ops a.tmps)=true)(hy:∀w,S w->(execOp a.eval e).run P w=.ok (.value v) w)(hS:S w)(h:aD P md ops Q S z d (b.setIfInBounds i true) (a.put e.dst v) w):aD P md ops Q S z (d+1) b a w:=
 aD.first g (Region.noSelect_spec l) m d b a w (by simp at f;exact f.2) agN (by simp at f;exact f.1.1) (Region.free_spec g j) (by simpa using k) (.inl ⟨hw,hy⟩) hS h
theorem afg{p:Prop}(h:p:=by
 refine wpOp_step ho (λK' hK=>?_)
 rw[if_pos hw]
 exact h K' (λa w h1 h2=>hK a w ⟨h1,h2⟩)):p:=h
theorem aD.only{i:Nat}{o:Oper}{c:Nat}{b:Array Bool}{a:Act}{w:World}(e:Region.ready md ops b=[i])(ho:ops[i]?=some o)(hw:Region.wanted o (yielded ops a.tmps)=true)(h:∀K':Act->World->Prop,Shut (∀a w,((b.setIfInBounds i true).getD z true=true\/S w)->aD P md ops Q S z c (b.setIfInBounds i true) a w->K' a w)->Oper.wp P o a w K' Q):aD P md ops Q S z (c+1) b a w:=by
 refine⟨agN,λj d=>?_⟩
 rw[e,List.mem_singleton]at d
 subst d
 exact afg
theorem aD.two{i j:Nat}{o f:Oper}{c:Nat}{b:Array Bool}{a:Act}{w:World}(l:Region.ready md ops b=[i,j])(ho:ops[i]?=some o)(e:ops[j]?=some f)(hw:Region.wanted o (yielded ops a.tmps)=true)(d:Region.wanted f (yielded ops a.tmps)=true)(h:∀K':Act->World->Prop,Shut (∀a w,((b.setIfInBounds i true).getD z true=true\/S w)->aD P md ops Q S z c (b.setIfInBounds i true) a w->K' a w)->Oper.wp P o a w K' Q)(m:∀K':Act->World->Prop,Shut (∀a w,((b.setIfInBounds j true).getD z true=true\/S w)->aD P md ops Q S z c (b.setIfInBounds j true) a w->K' a w)->Oper.wp P f a w K' Q):aD P md ops Q S z (c+1) b a w:=by
 refine⟨agN,λk g=>?_⟩
 rw[l]at g
 have:k=i\/k=j:=by simpa using g
 rcases this with rfl|rfl
 ·exact afg
 ·refine wpOp_step e (λK' hK=>?_);rw[if_pos d];exact m K' (λa w h1 h2=>hK a w ⟨h1,h2⟩)
theorem aD.done{c:Nat}{b:Array Bool}{a:Act}{w:World}(d:Region.ready md ops b=[])(h:Q .normal a w):aD P md ops Q S z c b a w:=by
 cases c with
 |zero=>exact⟨d,h⟩
 |succ n=>exact⟨λ_=>h,by rw[d];simp⟩
theorem aD.EX{c:Nat}{b:Array Bool}{a:Act}{w:World}(X:World->Prop)(d:Region.ready md ops b=[])(e:X w)(h:∀V,X V->Q .normal a V):aD P md ops Q S z c b a w:=aD.done d (h w e)
theorem afa{p:Prop}(h:p:=by
 subst hji;exact hy.wpOp hi trivial ⟨hS.imp (λe=>by rw[getD_set_ne true hiz];exact e) id,H⟩):p:=h
theorem aD.free{i:Nat}{l:Oper}{v:Value}(hi:ops[i]?=some l)(B:∀(j:Nat)(o:Oper)cs b,ops[j]?=some o->o.op≠.select cs b)(I:∀c a w,Q (.panic c) (a.put l.dst v) w->Q (.panic c) a w):
  ∀(f:Nat)(d:Array Bool)(a:Act)(w:World),
   (∀j n,ops[j]?=some n->j≠i->d.getD j true=false->(∀e∈n.after,Region.binds md e=true->e.on≠i)->l.apart ops n=true)->
   i∈Region.ready md ops d->YieldsIf P ops (λ_=>True) l v a->i≠z->(d.getD z true=true\/S w)->
   aD P md ops Q S z f (d.setIfInBounds i true) (a.put l.dst v) w->aD P md ops Q S z (f+1) d a w:=by
 intro f
 induction f with
 |zero=>
  intro d a w _ y hy hiz hS H;refine⟨agN,λj p=>?_⟩;by_cases hji:j=i
  ·exact afa
  ·have:=ready_mono p hji;rw[H.1]at this;cases this
 |succ f F=>
  intro d a w h y hy hiz hS H;refine⟨agN,λj p=>?_⟩;by_cases hji:j=i
  ·exact afa
  ·have J:=H.2 j (ready_mono p hji);obtain⟨hjun,n,q,A⟩:=mem_ready.1 p;have C:∀e∈n.after,Region.binds md e=true->e.on≠i:=(by grind [mem_ready])
   have E:=wpOp_putIf q agN agN agN I hy J
   have g:∀k ok,ops[k]?=some ok->k≠i->(d.setIfInBounds j true).getD k true=false->
     (∀e∈ok.after,Region.binds md e=true->e.on≠i)->l.apart ops ok=true:=λk ok D r hun x=>by
    refine h k ok D r ?_ x
    exact af3
   refine wpOp_mono (λG w' L=>?_) E;obtain⟨u,t,s⟩:=L;have m:(d.setIfInBounds j true).getD z true=true\/S w':=t.imp (λe=>by rw[Array.setIfInBounds_comm _ _ (Ne.symm hji),getD_set_ne true hiz]at e;exact e) id;refine⟨m,F (d.setIfInBounds j true) G w' g (ready_mono y (Ne.symm hji)) u hiz m ?_⟩;rw[Array.setIfInBounds_comm _ _ hji];exact s
theorem aD.Zu{i:Nat}{e:Oper}{v:Value}{d:Nat}{b:Array Bool}{a:Act}{w:World}(f:ops[i]?=some e)(k:Region.noSelect ops=true)(g:Region.free md ops b i=true)(j:(Region.ready md ops b).contains i=true)(l:(i != z)=true)(m:∀c a w,Q (.panic c) (a.put e.dst v) w->Q (.panic c) a w)(hw:Region.wanted e (yielded ops a.tmps)=true)(hy:∀w,(execOp a.eval e).run P w=.ok (.value v) w)(hS:b.getD z true=true\/S w)(h:aD P md ops Q S z d (b.setIfInBounds i true) (a.put e.dst v) w):aD P md ops Q S z (d+1) b a w:=
 aD.free f (Region.noSelect_spec k) m d b a w (Region.free_spec f g) (by simpa using j) (.inl ⟨hw,λw _=>hy w⟩) (by simpa using l) hS h
theorem aD.start{b:Nat}{a:Act}{w:World}(z:Nat)(c:P.follows .mixedOrders=true)(h:aD P .any ops Q S z ops.size (Array.replicate ops.size false) a w.drew):(Code.region b ops true).wp P Q a w:=
 wp_region_any c (aD.any _ _ _ _ h)
end
end Go.Proofs.YtlfifnpjeangmaaGreatDoor
namespace Go.Proofs.YtlfifnpjeangmaaGreatDoor
open Go
section
variable {P:Program}{ops:Array Oper}{Q:Exit->Act->World->Prop}{md:Region.Mode}{S:World->Prop}{z fuel:Nat}{listed:Array Bool}{a:Act}{w:World}{oi:Oper}{v:Value}{q:Prop}
theorem kI{p:Prop}(h:p:=by(try clear hW);(try simp only[List.getElem_toArray,List.getElem_cons_zero,List.getElem_cons_succ]);go_simp;(try with_reducible rfl)):p:=h
theorem tkp{p:Prop}(k:q)(h:q->p:=by intro hq;(try simp only[Act.put,List.getElem_toArray,List.getElem_cons_zero,List.getElem_cons_succ,List.setIfInBounds_toArray,List.set_cons_zero,List.set_cons_succ]);exact hq):p:=h k
theorem aD.tk(i:Nat)(r:List Nat)(k:q)(hi:ops[i]?=some oi:=by exact rfl)(hs:Region.noSelect ops=true:=by kernel_rfl)(hf:Region.free md ops listed i=true:=by kernel_rfl)(hr:(Region.ready md ops listed).contains i=true:=by kernel_rfl)(hc:(chainB md ops listed i (z::r)&&!(listed.getD z true)&&i != z)=true:=by kernel_rfl)(hQ:∀c a w,Q (.panic c) (a.put oi.dst v) w->Q (.panic c) a w:=by exact λ_ _ _ h=>h)(hw:Region.wanted oi (yielded ops a.tmps)=true:=by rfl)(hy:∀w,S w->(execOp a.eval oi).run P w=.ok (.value v) w:=by intro W hW;exact kI)(hS:S w:=by exact dY.out)(h:q->aD P md ops Q S z fuel (listed.setIfInBounds i true) (a.put oi.dst v) w:=by intro hq;exact tkp hq):aD P md ops Q S z (fuel+1) listed a w:=
 (by grind [aD.take])
theorem aD.fr(i:Nat)(k:q)(hi:ops[i]?=some oi:=by exact rfl)(hs:Region.noSelect ops=true:=by kernel_rfl)(hf:Region.free md ops listed i=true:=by kernel_rfl)(hr:(Region.ready md ops listed).contains i=true:=by kernel_rfl)(hc:(i != z)=true:=by kernel_rfl)(hQ:∀c a w,Q (.panic c) (a.put oi.dst v) w->Q (.panic c) a w:=by exact λ_ _ _ h=>h)(hw:Region.wanted oi (yielded ops a.tmps)=true:=by rfl)(hy:∀w,(execOp a.eval oi).run P w=.ok (.value v) w:=by intro W;exact kI)(hS:listed.getD z true=true\/S w:=by first|exact .inl (by kernel_rfl)|exact .inr dY.out)(h:q->aD P md ops Q S z fuel (listed.setIfInBounds i true) (a.put oi.dst v) w:=by intro hq;exact tkp hq):aD P md ops Q S z (fuel+1) listed a w:=
 (by grind [aD.Zu])
theorem aD.on(i:Nat)(k:q)(hr:Region.ready md ops listed=[i]:=by kernel_rfl)(ho:ops[i]?=some oi:=by exact rfl)(hw:Region.wanted oi (yielded ops a.tmps)=true:=by rfl)(h:q->∀K':Act->World->Prop,Shut (∀a w,((listed.setIfInBounds i true).getD z true=true\/S w)->aD P md ops Q S z fuel (listed.setIfInBounds i true) a w->K' a w)->Oper.wp P oi a w K' Q:=by intro hq K hK;(try simp only[List.getElem_toArray,List.getElem_cons_zero,List.getElem_cons_succ]);go_simp;revert K;exact hq):aD P md ops Q S z (fuel+1) listed a w:=
 aD.only hr ho hw (h k)
theorem aD.on0(i:Nat)(k:q)(hr:Region.ready md ops listed=[i]:=by kernel_rfl)(ho:ops[i]?=some oi:=by exact rfl)(hw:Region.wanted oi (yielded ops a.tmps)=true:=by rfl)(h:q->∀K':Act->World->Prop,Shut (∀a w,((listed.setIfInBounds i true).getD z true=true\/S w)->aD P md ops Q S z fuel (listed.setIfInBounds i true) a w->K' a w)->Oper.wp P oi a w K' Q:=by intro hq K hK;(try simp only[List.getElem_toArray,List.getElem_cons_zero,List.getElem_cons_succ]);revert K;exact hq):aD P md ops Q S z (fuel+1) listed a w:=
 aD.only hr ho hw (h k)
theorem hkl{p:Prop}(k:q)(h:q->p:=by intro hq;refine hK.out _ _ (.inl (by kernel_rfl)) ?_;exact tkp hq):p:=h k
theorem hkr{p:Prop}(k:q)(h:q->p:=by intro hq;refine hK.out _ _ (.inr dY.out) ?_;exact tkp hq):p:=h k
theorem hkx{p r:Prop}(X:r)(k:q)(h:r->q->p:=by intro hX hq;refine hK.out _ _ (.inr hX) ?_;exact tkp hq):p:=h X k
end
end Go.Proofs.YtlfifnpjeangmaaGreatDoor
