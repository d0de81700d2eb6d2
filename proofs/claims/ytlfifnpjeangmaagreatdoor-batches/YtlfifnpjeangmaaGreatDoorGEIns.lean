import Derived.Test.YtlfifnpjeangmaaGreatDoorGEMem
import Derived.Test.YtlfifnpjeangmaaGreatDoorGEBase
import Derived.Lib.AppendZerosOnto
import Derived.Shelf.Spec.SlicesInsert
namespace Go.Proofs.YtlfifnpjeangmaaGreatDoor
set_option maxHeartbeats 1000000
open Proofs.Tryz Go.RowKit
set_option maxRecDepth 100000
variable {p:Prop}
theorem agP(h:p:=by kernel_rfl):p:=h
theorem agR(h:p:=by grind [RowKit.Hid.o]):p:=h
theorem ag6(h:p:=by rw[IntKind.wrap_i64];omega):p:=h
theorem ahd(h:p:=by rw[cJ];omega):p:=h
theorem aiJ(h:p:=by simp[Act.eval,Act.put]):p:=h
variable {cs ds:List Value}{b:Nat}{w:World}
theorem qx{o:Nat}(h:w.rangeAt b o cs)(k:w.rangeAt b (o+cs.length) ds):w.rangeAt b o (cs++ds):=by
 intro j u a;by_cases c:j<cs.length
 ·rw[cW c]at a;exact h j u a
 ·rw[cY agE]at a;have:=k (j-cs.length) u a;grind
theorem xW{o:Nat}(h:w.rangeAt b o (cs++ds)):w.rangeAt b o cs:=λj u a=>h j u agM
theorem rV{o:Nat}(h:w.rangeAt b o (cs++ds)):w.rangeAt b (o+cs.length) ds:=λj u a=>by
 have:=h (cs.length+j) u agM
 grind
theorem xX{P:Program}(w){d:Array Oper}{c:List Oper}{o:Oper}{a:Act}{Q:Exit->Act->World->Prop}(e:o.guard=none)(s x)(t f)(l:o.op=.call {callee:=.builtin .append,args:=#[s,x],argTypes:=#[t,f]})(v u)(k:a.eval s=v)(i:a.eval x=u){g:Value}{w':World}(j:(Builtin.append_ #[t,f] o.type #[v,u]).run P w=.ok g w')(h:wpList P d Q c (a.put o.dst g) w'):wpList P d Q (o::c) a w:=by
 refine wpList_plain e λK m=>?_
 unfold Oper.wp execOp
 simp only[l,resolve,invoke,builtin,Sem.run_bind,Sem.run_pure,Result.andThen_ok,List.map_toArray,eE,fy,k,i,j]
 exact m _ _ h
theorem O9(v)(p)(A d)(n)(i:Int)(j a m y:Nat)(w)(x:Out w v p A)(hn:Hid (A.length=n))(E:i=n)(t:Hid (d.length=m))(C:0<m)(h:w.rangeAt j a (d.map U8))(H:n+m<=1000000):
  Calls prog 123 #[v,ι i,.slice (some (j,a)) m y] w λe w'=>∃u,e=.returned u/\aU w w' u p (A++d):=by
 subst E
 obtain⟨F,r,q,s,l⟩:=info_parts Tryz.info5
 obtain⟨I,cap,f,G,B,k,g⟩:=x.open hn
 have c:=sK (P:=prog) (w:=w) underlying37 (some ⟨j,a,none⟩) m y d t.o (At.yR h)
 subst f
 have z:((m:Int)==0)=false:=agM
 have D:((n:Int)==(n:Int))=true:=agI
 clear k g
 go_enter func123,ntmps123
 go_wp2_with (at_builtin;refine dK _ rfl _ _ 37 37 rfl 5 F underlying37 r q s l _ _ p A d rfl rfl x m c (by rw[hn.o,t.o];omega) ?_;intro v1 J R)
 all_goals
  go_wp2
  go_ret
  exact⟨v1,rfl,R⟩
theorem KV(g off cap:Nat)(A B l:List UInt8)(i n)(ii:Int)(f a m F:Nat)(w)(D:cap<=maxLen)(p:Live w g (off+cap))(M:w.rangeAt g off ((A++B).map U8))(hi:Hid (A.length=i))(O:ii=i)(hn:Hid ((A++B).length=n))(av:i<n)(hm:Hid (l.length=m))(an:0<m)(N:Live w f (a+m))(Q:w.rangeAt f a (l.map U8))(aa:f≠g)(Y:n+m<=cap):
  Calls prog 123 #[.slice (some (g,off)) n cap,ι ii,.slice (some (f,a)) m F] w λe w'=>e=.returned (.slice (some (g,off)) (n+m) cap)/\w'.rangeAt g off ((A++l++B).map U8)/\CF w w' (λb o=>b=g/\off<=o/\o<off+cap):=by
 subst O
 have al:cap<=9223372036854775807:=by unfold maxLen at D;exact D
 have ai:((m:Int)==0)=false:=agM
 have ao:((i:Int)==(n:Int))=false:=agM
 have C:B.length=n-i:=agR
 have HB:=hid C
 obtain⟨P,tV,d,X⟩:=N
 obtain⟨y,tG,q,K⟩:=p
 obtain⟨i0,G,T,J,S⟩:=info_parts Tryz.info5
 have c:(prog.info? 5).map (·.size)=some 1:=by rw[G];simp[J]
 have af:IntKind.i64.wrap ((i:Int)+(m:Int))=(i:Int)+(m:Int):=ag6
 have au:(0:Int)<=(i:Int)+(m:Int):=agE
 have ab:i<=n:=agE
 have aj:((i:Int)+(m:Int)).toNat=i+m:=agE
 have ar:¬ (cap=i+m):=agE
 have ad:(i:Int)<=(n:Int)+(m:Int):=agE
 have ak:¬ (cap=i):=agE
 have p:Live w g (off+cap):=⟨y,tG,q,K⟩
 have Z:∀V R,(callFunc 151 #[.slice (some (f,a)) m F,.slice (some (g,off+(i+m))) V R]).run prog w=.ok (.value (.bool false)) w:=λV R=>by
  rw[run_callFunc_extern func151 agP agP agP (e:=Extern.SlicesOverlaps.overlaps #[37,37] #[4]) agP,
   Lib.run_overlaps_apart w 37 4 5 underlying37 1 sizeOf5 ⟨f,a,none⟩ ⟨g,off+(i+m),none⟩ m F V R aa tV tG P.size y.size (by simp[World.shape?,d]) (by simp[World.shape?,q]) agE (by simp[World.frozen?,d]) (by simp[World.frozen?,d])]
  rfl
 have k:∀s r sc,(Builtin.copy_ #[37,37] s #[.slice (some (g,off+(i+m))) (n+m-(i+m)) r,.slice (some (g,off+i)) (n+m-i) sc]).run prog w.drew=.ok (goInt (B.map U8).length) (w.drew.setCells g (off+(i+m)) (B.map U8)):=λs r sc=>
  run_copy_cells w.drew _ _ s 5 g (off+(i+m)) (n+m-(i+m)) r ⟨g,off+i,none⟩ (n+m-i) sc (B.map U8) underlying37 c (by rw[cR,HB.o];simp only[Nat.min_def];split<;>omega)
   (λj u L=>by
    rw[Addr.add_lit,gi]
    exact M (i+j) u (by rw[eg,cY (by rw[cR,hi.o];omega),cR,hi.o,show i+j-i=j from by omega];exact L))
   (λj hj=>by rw[gi];exact p.some _ (by rw[cR,HB.o]at hj;omega)) (λj _=>p.frozen _) (oQ B)
 obtain⟨t,h⟩:=aw (w.drew.setCells g (off+(i+m)) (B.map U8))
 have F1:CF w t (λb o=>b=g/\off<=o/\o<off+cap):=by
  grind [CF.setCells,CF.drew,CF.refl]
 have H:t.rangeAt g (off+(i+m)) (B.map U8):=by
  rw[h];exact World.rangeAt_setCells_same _ _ _ _ (p.drew.there _ _ agM)
 have z:t.rangeAt g off (A.map U8):=by
  rw[h];refine World.rangeAt_setCells_apart (λj u L=>?_) _ _ _ agR;exact M j u agM
 have I:t.rangeAt f a (l.map U8):=(by grind [CF.range])
 have v:=p.cf F1
 have E:∀(W),(∀x,W.cell? x=t.cell? x)->(∀x,W.frozen? x=t.frozen? x)->∀s r,(Builtin.copy_ #[37,37] s #[.slice (some (g,off+i)) (n+m-i) r,.slice (some (f,a)) m F]).run prog W=.ok (goInt (l.map U8).length) (W.setCells g (off+i) (l.map U8)):=λW U ae s r=>
  run_copy_cells W _ _ s 5 g (off+i) (n+m-i) r ⟨f,a,none⟩ m F (l.map U8) underlying37 c (by rw[cR,hm.o];simp only[Nat.min_def];split<;>omega)
   (λj u L=>by rw[Addr.add_lit,U];exact I j u L) (by grind [RowKit.Hid.o,Live.some]) (by grind [Live.frozen]) (oQ l)
 rw[<-h]at k
 have ag:=hid F1
 have aq:=hid z
 have ah:=hid H
 have Dc:=hid v
 clear h F1 H z I v M Q d X q K p C c G T J S
 go_enter func123,ntmps123
 go_wp2_with (simp only[Z])
 go_region_law (refine step_copy_runI rfl _ _ 37 37 rfl _ _ aiJ aiJ (k _ _ _) ?_)
 go_wp2_with (at_builtin;refine wpList_copy_runI _ rfl _ _ 37 37 rfl _ _ rfl rfl (E _ (λ_=>rfl) (λ_=>rfl) _ _) ?_)
 go_ret
 refine⟨rfl,?_,?_⟩
 ·grind [qx,World.rangeAt_setCells_apart,RowKit.Hid.o,Live.there,World.rangeAt_setCells_same]
 grind [RowKit.Hid.o,CF.setCells]
theorem KX(g off cap:Nat)(A B k:List UInt8)(i n)(ii:Int)(S a m vc:Nat)(w)(O:cap<=maxLen)(ao:n<=cap)(al:g<w.heap.size)(hr:w.rangeAt g off ((A++B).map U8))(y:Hid (A.length=i))(ae:ii=i)(hn:Hid ((A++B).length=n))(aD:i<n)(hm:Hid (k.length=m))(au:0<m)(ab:w.rangeAt S a (k.map U8))(af:cap<n+m)(hl:n+m<=1000000):
  Calls prog 123 #[.slice (some (g,off)) n cap,ι ii,.slice (some (S,a)) m vc] w λe w'=>∃c',e=.returned (.slice (some (w.heap.size,0)) (n+m) c')/\n+m<=c'/\c'<=maxLen/\Live w' w.heap.size c'/\w'.rangeAt w.heap.size 0 ((A++k++B).map U8)/\w.grownBy w' none:=by
 subst ae
 have az:cap<=9223372036854775807:=by unfold maxLen at O;exact O
 have ah:((m:Int)==0)=false:=ahd
 have aj:((i:Int)==(n:Int))=false:=ahd
 have ad:B.length=n-i:=by have h1:=y.o;have h2:=hn.o;rw[cD]at h2;omega
 have HB:=hid ad
 obtain⟨i0,K,Q,J,H⟩:=info_parts Tryz.info5
 have l:(prog.info? 5).map (·.size)=some 1:=by rw[K];simp[J]
 have Pb:=xW (by rw[<-eg];exact hr)
 have WC:w.rangeAt g (off+i) (B.map U8):=by
  have:=rV (cs:=A.map U8) (ds:=B.map U8) (by rw[<-eg];exact hr);rw[cR,y.o]at this;exact this
 have F:(Builtin.firstCells i0.size i (.slice (some (g,off)) i cap)).run prog w.drew=.ok (A.map U8).toArray w.drew:=
  run_firstCells_some w.drew _ i ⟨g,off,none⟩ i cap (A.map U8) (by rw[cR,y.o,J,fR]) (λj u f=>by rw[Addr.add_lit];exact Pb j u f)
 have d:=λt=>Lib.run_append_grow_zeros (P:=prog) w 37 3 t 5 i0 (.int .u8 0) .i64 .i64 underlying37 underlying3 K Q (some ⟨g,off,none⟩) i cap (A.map U8) F (n+m-i) agE agE agE agE (by rw[H];omega) (growslice_fits agE (by rw[H];omega))
 rw[show i+(n+m-i)=n+m from by omega]at d
 have W:=grownCap_ge w (n+m) cap 5
 have s:grownCap w (n+m) cap 5<=maxLen:=grownCap_le_maxLen w _ cap 5 ag1
 obtain⟨C,hC⟩:=aq (grownCap w (n+m) cap 5)
 rw[hC]at d W s
 obtain⟨v,FP⟩:=aw ((A.map U8).toArray++Builtin.zeroCells (Value.int .u8 0).cells (n+m-i)++Builtin.zeroCells (Value.int .u8 0).cells (C-(n+m)))
 rw[<-FP]at d
 have x:v.size=C:=by rw[FP];simp[size_zeroCells,Value.cells,y.o];omega
 obtain⟨r,q⟩:=aw (w.drew.alloc (.cells v 5))
 have G0:w.grownBy r none:=by rw[q];exact aM (bg (cC _ _)) _
 have Z:Live r w.heap.size C:=by rw[q,<-x];exact Live.new w.drew v 5
 have R0:r.rangeAt w.heap.size 0 (A.map U8):=by
  rw[q];intro j u f;refine aS w.drew v 5 j u ?_;rw[FP,Array.toList_append,Array.toList_append,du,cW (by simpa using(cM.1 f).1)];simpa using f
 rw[<-q]at d
 clear q FP x
 have U:r.rangeAt S a (k.map U8):=λj u f=>G0.cell (ab j u f) agI
 have aa:r.rangeAt g (off+i) (B.map U8):=λj u f=>G0.cell (WC j u f) agI
 have D:∀t L,(Builtin.copy_ #[37,37] t #[.slice (some (w,i)) (n+m-i) L,.slice (some (S,a)) m vc]).run prog r=.ok (goInt (k.map U8).length) (r.setCells w.heap.size i (k.map U8)):=λt L=>
  run_copy_cells r _ _ t 5 w.heap.size i (n+m-i) L ⟨S,a,none⟩ m vc (k.map U8) underlying37 l (by rw[cR,hm.o];simp only[Nat.min_def];split<;>omega)
   (λj u f=>by rw[Addr.add_lit];exact U j u f) (λj hj=>Z.some _ (by rw[cR,hm.o]at hj;omega)) (λj _=>Z.frozen _) (oQ k)
 obtain⟨z,p⟩:=aw (r.setCells w.heap.size i (k.map U8))
 rw[<-p]at D
 have F1:CF r z (λb _=>b=w.heap.size):=by rw[p];exact CF.setCells _ _ _ _ (CF.refl _ _) (λ_ _ _=>rfl)
 have X:z.rangeAt w.heap.size 0 (A.map U8):=by rw[p];exact World.rangeAt_setCells_apart R0 _ _ _ (.inr (.inl (by rw[cR,y.o];omega)))
 have N:z.rangeAt w.heap.size i (k.map U8):=by rw[p];exact World.rangeAt_setCells_same _ _ _ _ (Z.there _ _ (by rw[cR,hm.o];omega))
 have Y:=Z.cf F1
 have V:=F1.range aa (λj _ h=>by omega)
 clear p
 have G:∀t L sc,(Builtin.copy_ #[37,37] t #[.slice (some (w,i+m)) (n+m-(i+m)) L,.slice (some (g,off+i)) (n-i) sc]).run prog z.drew=.ok (goInt (B.map U8).length) (z.drew.setCells w.heap.size (i+m) (B.map U8)):=λt L sc=>
  run_copy_cells z.drew _ _ t 5 w.heap.size (i+m) (n+m-(i+m)) L ⟨g,off+i,none⟩ (n-i) sc (B.map U8) underlying37 l (by rw[cR,HB.o];simp only[Nat.min_def];split<;>omega)
   (λj u f=>by rw[Addr.add_lit];exact V j u f) (λj hj=>Y.some _ (by rw[cR,HB.o]at hj;omega)) (λj _=>Y.frozen _) (oQ B)
 obtain⟨I,c⟩:=aw (z.drew.setCells w.heap.size (i+m) (B.map U8))
 rw[<-c]at G
 have F2:CF z I (λb _=>b=w.heap.size):=by rw[c];exact CF.setCells _ _ _ _ (CF.refl _ _).drew (λ_ _ _=>rfl)
 have R:I.rangeAt w.heap.size 0 (A.map U8):=by rw[c];exact World.rangeAt_setCells_apart (by simpa using X) _ _ _ (.inr (.inl (by rw[cR,y.o];omega)))
 have M:I.rangeAt w.heap.size i (k.map U8):=by rw[c];exact World.rangeAt_setCells_apart (by simpa using N) _ _ _ (.inr (.inl (by rw[cR,hm.o];omega)))
 have T:I.rangeAt w.heap.size (i+m) (B.map U8):=by rw[c];exact World.rangeAt_setCells_same _ _ _ _ (Y.drew.there _ _ (by rw[cR,HB.o];omega))
 have L2:=Y.cf F2
 clear c
 have RR:Hid (Live I w.heap.size C/\I.rangeAt w.heap.size 0 ((A++k++B).map U8)/\w.grownBy I none):=by
  refine⟨L2,?_,?_⟩
  ·rw[eg,eg];refine qx (qx R ?_) ?_
   ·rw[cR,y.o,cN];exact M
   ·rw[cD,cR,cR,y.o,hm.o,cN];exact T
  ·exact(((CF.bF G0 (λ_ _=>False)).trans F1 (λb o hb e=>by omega)).trans F2 (λb o hb e=>by omega)).gb (λ_ _ _ e=>e)
 clear X N R M T F1 F2 Z Y L2 R0 G0 U aa V Pb WC hr ab F ad K Q J H l hC
 have aC:(0:Int)<=(i:Int)+(m:Int):=agE
 have ax:(0:Int)<=(n:Int)+(m:Int)-(i:Int):=agE
 have ar:((i:Int)+(m:Int)).toNat=i+m:=agE
 have ak:¬ (C=i+m):=agE
 have ay:¬ (cap=i):=agE
 have aA:¬ (C=i):=agE
 have ai:(cap:Int)<(n:Int)+(m:Int):=agE
 have E:(((n+m-i:Nat)):Int)=(n:Int)+(m:Int)-(i:Int):=agE
 rw[E]at d
 clear E
 go_enter func123,ntmps123
 go_wp2_with (first|(at_builtin;refine xX _ rfl _ _ 37 3 rfl _ _ rfl rfl (d _) ?_)|(at_builtin;refine wpList_copy_runI _ rfl _ _ 37 37 rfl _ _ rfl rfl (D _ _) ?_))
 have aB:C<=9223372036854775807:=by unfold maxLen at s;exact s
 have OD:(i:Int)<=(n:Int)+(m:Int):=agE
 have ag:i<=n:=agE
 have av:(i:Int)+(m:Int)<=(n:Int)+(m:Int):=agE
 have an:IntKind.i64.wrap ((i:Int)+(m:Int))=(i:Int)+(m:Int):=ag6
 go_region_law (refine step_copy_runI rfl _ _ 37 37 rfl _ _ aiJ aiJ (G _ _ _) ?_)
 go_wp2
 go_ret
 exact⟨C,rfl,W,s,RR.o.1,RR.o.2.1,RR.o.2.2⟩
theorem De(v)(p)(A B j)(i)(u:Int)(n a m C:Nat)(w)(J:Out w v p (A++B))(x:Hid (A.length=i))(k:u=i)(t:Hid (j.length=m))(r:0<m)(H:Live w n (a+m))(l:w.rangeAt n a (j.map U8))(L:∀q,p=some q->n≠q.g)(I:(A++B).length+m<=1000000):
  Calls prog 123 #[v,ι u,.slice (some (n,a)) m C] w λe w'=>∃M,e=.returned M/\aU w w' M p (A++j++B):=by
 by_cases N:B=[]
 ·subst N;rw[fS]at J I;refine(O9 v p A j i u n a m C w J x k t r l (by rw[<-x.o];exact I)).mono ?_;grind
 ·have P:=fX.2 N;have d:(A++B).length=A.length+B.length:=cD;rcases J with⟨_,_,h⟩|⟨q,z,rfl,S,G,K,O⟩
  ·rw[h]at d;simp at d;omega
  ·have y:i<(A++B).length:=(by have:=x.o;omega);by_cases c:(A++B).length+m<=q.cap
   ·refine(KV q.g q.off q.cap A B j i (A++B).length u n a m C w G K O x k (hid rfl) y t r H l (L q z) c).mono ?_;rintro e w' ⟨rfl,F,D⟩;have s:(A++j++B).length=(A++B).length+m:=(by simp only[cD];rw[t.o];omega);refine⟨_,rfl,p,.inr ⟨q,z,by rw[s],by rw[s];exact c,G,K.cf D,F⟩,D.mono (λb o _ e=>⟨q,z,e⟩),.inl rfl,λ_ _ _=>rfl⟩
   ·refine(KX q.g q.off q.cap A B j i (A++B).length u n a m C w G S K.lt O x k (hid rfl) y t r l agE I).mono ?_;rintro e w' ⟨T,rfl,F,D,U,V,R⟩;have s:(A++j++B).length=(A++B).length+m:=(by simp only[cD];rw[t.o];omega);refine⟨_,rfl,some ⟨w.heap.size,0,T⟩,.inr ⟨_,rfl,by rw[s],by rw[s];exact F,D,by simpa using U,V⟩,CF.bF R _,.inr (λQ f=>by injection f with f;subst f;exact cy _),λQ f E=>?_⟩;rw[z]at f;injection f with f;subst f;rw[s]at E;omega
end Go.Proofs.YtlfifnpjeangmaaGreatDoor
