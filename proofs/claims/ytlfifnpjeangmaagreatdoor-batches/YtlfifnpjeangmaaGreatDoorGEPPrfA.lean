import Derived.Test.YtlfifnpjeangmaaGreatDoorGEPFillA
namespace Go.Proofs.YtlfifnpjeangmaaGreatDoor
set_option maxHeartbeats 1000000
open Proofs.Tryz Go.RowKit
set_option maxRecDepth 100000
theorem ahn{p:Prop}(h:p:=by grind [aS]):p:=h
theorem ai0{p:Prop}(h:p:=by rw[hy];rfl):p:=h
theorem nK(a b):bY (a++b)=bY a++bY b:=by simp[bY]
theorem LY(l):∀(k j)(a:k<l.length),j<3->(bY l)[k*3+j]?=(l[k]).bE[j]?:=by
 induction l with
 |nil=>intro k j a;simp at a
 |cons x l c=>
  intro k j a b;have e:bY (x::l)=x.bE++bY l:=by simp[bY]
  rw[e];cases k with
  |zero=>rw[gf,cN,cW (by show j<3;exact b)];rfl
  |succ k=>
   grind [PF.bE]
theorem zF{w:World}{g o:Nat}{l:List PF}(h:w.rangeAt g o (bY l))(k)(a:k<l.length)(j)(b:j<3)(v)(c:(l[k]).bE[j]?=some v):w.cell? (g,o+k*3+j)=some v:=by
 have:=h (k*3+j) v (by grind [LY]);grind
theorem vQ(g o n:Nat)(w)(hn:n<=8)(h:w.cell? (g,o+24)=some (ι n)):
  Calls prog 256 #[(g,o)] w λe w'=>e=.returned (.slice (some (g,o)) n 8)/\∃m,w'=w.drewN m:=by
 have a:(n:Int)<=8:=agE
 go_enter func256,ntmps256
 go_wp2
 go_quiet (fail)
 exact aeb
theorem afn(x y:PF)(w):(binOp .eql 131 (.agg x.bE.toArray) (.agg y.bE.toArray)).run prog w=.ok (.bool (decide (x=y))) w:=by
 have n:prog.stoodInHeld 131=false:=agP;have c:=underlying131;have f:prog.underlying 131=some (.struct (prog.fieldsOf 131)):=by rw[Program.fieldsOf,c]
 rw[run_eql_struct,run_equalIn_struct w 9999 _ _ _ f n,Program.fieldsOf,c];have h:∀(a b)(w),(Op.equalIn 9999 9 (.string a) (.string b)).run prog w=.ok (a.toList==b.toList) w:=λa b w=>run_equalIn_string w 9998 9 a b underlying9;have g:∀(a b)(w),(Op.equalIn 9999 2 (ι a) (ι b)).run prog w=.ok (a==b) w:=λa b w=>run_equalIn_int w 9998 2 .i64 .i64 a b underlying2;obtain⟨k,l,j⟩:=x;obtain⟨e,o,i⟩:=y;simp[Op.eqFields,go_sem,PF.bE,h,g];by_cases d:k=e<;>by_cases m:l=o<;>by_cases p:j=i<;>simp[d,m,p]
theorem XQ(x y:PF)(c)(a b)(w):(eqGuard c 131 a b (.agg x.bE.toArray) (.agg y.bE.toArray)).run prog w=.ok () w:=
 run_eqGuard_agg w c _ a b _ _ agP
theorem PX(g o n c:Nat)(l)(x)(w)(hn:Hid (l.length=n))(W:n<=8)(R:n<=c)(h:w.rangeAt g o (bY l)):
  Calls prog 261 #[.slice (some (g,o)) n c,.agg x.bE.toArray] w λe w'=>∃i,e=.returned (ι i)/\((decide (0<=i))=decide (x∈l))/\-1<=i/\i<=8/\w.grownBy w' none:=by
 have K:=hid h
 clear h
 have F:=hid (λ(y:PF) (u:BinOp) (a b:Operand) (w:World)=>XQ x y u a b w)
 have B:=hid (λ(y:PF) (w:World)=>afn x y w)
 obtain⟨r,p⟩:=aw (w.alloc (.cells x.bE.toArray 131))
 have t:Hid (w.grownBy r none):=by show _;rw[p];exact cx w _ none
 have D:Hid (r.rangeAt w.heap.size 0 x.bE):=by show _;rw[p];exact aS w x.bE.toArray _
 have E:=hid p
 clear p
 go_enter func261,ntmps261
 go_wp2
 rw[<-E.o]
 go_loopw [5,8] (λ_ i wr=>∃k q:Nat,k<=n/\i = ι k/\wr=r.drewN q/\Hid (∀j(s:j<l.length),j<k->x≠l[j])) (λ_ i _=>n-(intOf i).toNat)
 case atStart=>exact⟨0,0,cS _,rfl,rfl,λj _ s=>by omega⟩
 case round=>
  obtain⟨k,q,M,rfl,rfl,I⟩:=hrel;by_cases hlt:k<n
  ·have S:(k:Int)<(n:Int):=agE;have f:k<l.length:=ag4;obtain⟨y,hy⟩:=aq (l[k]);have v:=K.o;have P:∀m,(r.drewN m).cell? (g,o+k*3)=some (.string y.ay):=λm=>t.o.cell (zF v k f 0 agE _ ai0) agI;have V:∀m,(r.drewN m).cell? (g,o+k*3+1)=some (ι y.time):=λm=>t.o.cell (zF v k f 1 agE _ ai0) agI;have O:∀m,(r.drewN m).cell? (g,o+k*3+2)=some (ι y.count):=λm=>t.o.cell (zF v k f 2 agE _ ai0) agI;have T:∀m,(r.drewN m).cell? (w.heap.size,0)=some (.string x.ay):=λm=>D.o 0 _ rfl;have X:∀m,(r.drewN m).cell? (w.heap.size,1)=some (ι x.time):=λm=>D.o 1 _ rfl;have Q:∀m,(r.drewN m).cell? (w.heap.size,2)=some (ι x.count):=λm=>D.o 2 _ rfl;obtain⟨d,z⟩:=aq (decide (x=y));have U:∀w,(binOp .eql 131 (.agg #[.string x.ay,ι x.time,ι x.count]) (.agg #[.string y.ay,ι y.time,ι y.count])).run prog w=.ok (.bool d) w:=λw=>by rw[<-z];exact B.o y w
   have N:∀(u)(a b)(w),(eqGuard u 131 a b (.agg #[.string x.ay,ι x.time,ι x.count]) (.agg #[.string y.ay,ι y.time,ι y.count])).run prog w=.ok () w:=λu a b w=>F.o y u a b w;have H:=hid hy;have G:=hid z;clear hy z v;cases d with
   |true=>
    go_wp2_with fail;go_quiet (fail)
    go_wp2;go_ret;refine⟨k,rfl,?_,by omega,by omega,aR (aR t.o _) _⟩;have C:=of_decide_eq_true G.o;have J:x∈l:=(by rw[C,<-H.o];exact ef f);rw[dk J,dk agE]
   |false=>
    go_wp2_with fail;go_quiet (fail)
    go_wp2;go_roundw
    case rel=>
     refine⟨k+1,_,by omega,by go_num,rfl,λj s L=>?_⟩;by_cases e:j=k
     ·subst e;rw[H.o];exact of_decide_eq_false G.o
     ·exact I.o j s agE
    case measure=>simp[intOf];omega
  ·have A:k=n:=agE;subst A;go_wp2;go_ret;refine⟨-1,rfl,?_,by omega,by omega,aR t.o _⟩;have:x∉l:=λe=>by
    obtain⟨j,s,e⟩:=List.getElem_of_mem e;exact I.o j s (by rw[<-hn.o];exact s) e.symm
   rw[cX this];rfl
theorem Gm(g o n c:Nat)(l)(x)(w)(hn:Hid (l.length=n))(t:n<=8)(u:n<=c)(h:w.rangeAt g o (bY l)):
  Calls prog 258 #[.slice (some (g,o)) n c,.agg x.bE.toArray] w λe w'=>e=.returned (.bool (decide (x∈l)))/\w.grownBy w' none:=by
 obtain⟨b,d⟩:=aw (w.alloc (.cells x.bE.toArray 131))
 have a:w.grownBy b none:=ahe
 have f:b.rangeAt w.heap.size 0 x.bE:=ahn
 have z:b.cell? (w,0)=some (.string x.ay):=f 0 _ rfl
 have B:b.cell? (w,1)=some (ι x.time):=f 1 _ rfl
 have y:b.cell? (w,2)=some (ι x.count):=f 2 _ rfl
 have p:=hid (PX g o n c l x b hn t u ((CF.bF a (λ_ _=>False)).range h (λ_ _ e=>e)))
 have s:=hid a
 have m:=hid d
 clear a f d h
 go_enter func258,ntmps258
 go_wp2_with (first|(rw[<-m.o];fail_if_success done)|fail)
 refine p.o.mono ?_
 rintro e w2 ⟨i,rfl,r,A,v,q⟩
 have k:=hid r
 have j:=hid (aa s.o q)
 clear r q p
 go_wp2
 go_ret
 exact⟨by rw[<-k.o];rfl,j.o⟩
theorem XR(g o:Nat)(l)(x)(w)(h:w.rangeAt g o (bY l))(q:w.cell? (g,o+24)=some (ι l.length))(D:l.length<=8):
  Calls prog 243 #[(g,o),.agg x.bE.toArray] w λe w'=>e=.returned (.bool (decide (x∈l)))/\w.grownBy w' none:=by
 obtain⟨a,c⟩:=aw (w.alloc (.cells x.bE.toArray 131))
 have b:w.grownBy a none:=ahe
 have d:a.rangeAt w.heap.size 0 x.bE:=ahn
 have z:a.cell? (w,0)=some (.string x.ay):=d 0 _ rfl
 have B:a.cell? (w,1)=some (ι x.time):=d 1 _ rfl
 have u:a.cell? (w,2)=some (ι x.count):=d 2 _ rfl
 obtain⟨n,hn⟩:=aq l.length
 have A:Hid (∀m,Calls prog 256 #[(g,o)] (a.drewN m) λe w'=>e=.returned (.slice (some (g,o)) n 8)/\∃v,w'=a.drewN v):=by
  intro m;refine(vQ g o n (a.drewN m) agE ((aR b m).cell (by rw[<-hn];exact q) agI)).mono ?_;grind [World.drewN_drewN]
 have s:Hid (∀m,Calls prog 258 #[.slice (some (g,o)) n 8,.agg x.bE.toArray] (a.drewN m) λe w'=>e=.returned (.bool (decide (x∈l)))/\a.grownBy w' none):=by
  intro m;refine(Gm g o n 8 l x (a.drewN m) hn agE agE ((CF.bF (aR b m) (λ_ _=>False)).range h (λ_ _ e=>e))).mono ?_;rintro e w' ⟨r,p⟩;exact⟨r,aa (aR (cC _ _) m) p⟩
 have y:Hid (∀W,a.grownBy W none->W.cell? (w,0)=some (.string x.ay)/\W.cell? (w,1)=some (ι x.time)/\W.cell? (w,2)=some (ι x.count)):=
  λW k=>⟨k.cell z agI,k.cell B agI,k.cell u agI⟩
 have t:=hid b
 have j:=hid c
 clear b d c h q hn
 go_enter func243,ntmps243
 go_wp2_with fail
 rw[<-j.o]
 go_region_held3 (λw'=>w'.cell? ⟨w.heap.size,0,none⟩=some (.string x.ay)/\w'.cell? ⟨w.heap.size,1,none⟩=some (ι x.time)/\w'.cell? ⟨w.heap.size,2,none⟩=some (ι x.count)) (go_keep) (first|(go_at_call 256;refine(A.o _).mono ?_;rintro e w' ⟨rfl,m,rfl⟩)|(go_at_call 258;refine(s.o _).mono ?_;rintro e w2 ⟨rfl,i⟩;obtain⟨C,r,p⟩:=y.o w2 i;have f:=hid (aa t.o i);clear i))
 all_goals
  go_wp2
  go_ret
  exact⟨rfl,f.o⟩
theorem ahE{p:Prop}(h:p:=by rw[hW0];exact cx w _ none):p:=h
theorem aiO{p:Prop}(h:p:=by injection e with _ e;exact e.symm):p:=h
theorem Ue(g o:Nat)(x:PF)(w)(c:w.cell? (g,o+24)=some (ι 8)):
  Calls prog 244 #[(g,o),.agg x.bE.toArray] w λe w'=>e=.returned (.bool false)/\w.grownBy w' none:=by
 have a:=cx w (.cells x.bE.toArray 131) none
 have d:=a.cell c agI
 have b:=hid a
 clear a
 go_enter func244,ntmps244
 go_wp2
 go_ret
 exact⟨rfl,b.o⟩
theorem ael{p:Prop}(h:p:=by
 exact World.cell?_setCell_same _ _ _ (by rw[World.cell?_setCell_other _ _ _ _ (λe=>by injection e with _ e;omega)];exact q1)):p:=h
theorem abT(g o n:Nat)(l)(x)(w)(v:Live w g (o+25))(h:w.rangeAt g o (bY l))(I:w.cell? (g,o+24)=some (ι n))(hn:Hid (l.length=n))(Hy:n<8):
  Calls prog 244 #[(g,o),.agg x.bE.toArray] w λe w'=>e=.returned (.bool true)/\w'.rangeAt g o (bY (l++[x]))/\w'.cell? (g,o+24)=some (ι ((n:Int)+1))/\CF w w' (λb y=>b=g/\o<=y/\y<o+25):=by
 obtain⟨p,hW0⟩:=aw (w.alloc (.cells x.bE.toArray 131))
 have k:w.grownBy p none:=ahE
 have A:p.rangeAt w.heap.size 0 x.bE:=by rw[hW0];exact aS w x.bE.toArray _
 have Y:p.cell? (w,0)=some (.string x.ay):=A 0 _ rfl
 have x1:p.cell? (w,1)=some (ι x.time):=A 1 _ rfl
 have Q:p.cell? (w,2)=some (ι x.count):=A 2 _ rfl
 have L:=k.cell I agI
 have q:w.heap.size≠g:=λe=>by have:=v.lt;omega
 have m:=v.grown k
 have f0:=m.frozen (o+n*3)
 have f1:=m.frozen (o+n*3+1)
 have f2:=m.frozen (o+n*3+2)
 have f3:=m.frozen (o+24)
 obtain⟨d0,q0⟩:=cA.1 (m.some (o+n*3) agE)
 obtain⟨d1,q1⟩:=cA.1 (m.some (o+n*3+1) agE)
 obtain⟨d2,R⟩:=cA.1 (m.some (o+n*3+2) agE)
 have O:(n:Int)<8:=agE
 have M:((n:Int)==8)=false:=ahd
 have H:=hid k
 have E:=hid hW0
 have W:=hid h
 have T:=hid v
 clear k A hW0 h I m v
 go_enter func244,ntmps244
 go_wp2_with (first|(rw[<-E.o];fail_if_success done)|fail)
 have U:o+n*3≠o+24:=agE
 have J:o+n*3+1≠o+24:=agE
 have P:o+n*3+2≠o+24:=agE
 obtain⟨d,a⟩:=aw (((p.setCell (g,o+n*3) (.string x.ay)).setCell (g,o+n*3+1) (ι x.time)).setCell (g,o+n*3+2) (ι x.count))
 have z:∀y,d.cell? ⟨w.heap.size,y,none⟩=p.cell? ⟨w.heap.size,y,none⟩:=λy=>by
  rw[a,World.cell?_setCell_far _ _ _ _ (λe=>q e.symm),World.cell?_setCell_far _ _ _ _ (λe=>q e.symm),World.cell?_setCell_far _ _ _ _ (λe=>q e.symm)]
 have f:∀y,y≠o+n*3->y≠o+n*3+1->y≠o+n*3+2->d.cell? ⟨g,y,none⟩=p.cell? ⟨g,y,none⟩:=λy Z X K=>by
  rw[a,World.cell?_setCell_other _ _ _ _ (λe=>K aiO),World.cell?_setCell_other _ _ _ _ (λe=>X aiO),World.cell?_setCell_other _ _ _ _ (λe=>Z aiO)]
 have V:Hid (d.cell? (g,o+24)=some (ι n)/\d.cell? (w,0)=some (.string x.ay)/\d.cell? (w,1)=some (ι x.time)/\d.cell? (w,2)=some (ι x.count)):=
  ⟨by rw[f _ U.symm J.symm P.symm];exact L,by rw[z];exact Y,by rw[z];exact x1,by rw[z];exact Q⟩
 have s:Hid (CF w d (λb y=>b=g/\o<=y/\y<o+25)):=by
  show CF _ _ _;rw[a];exact(((CF.bF H.o _).setCell g (o+n*3) _ (λ_=>⟨rfl,by omega,by omega⟩)).setCell g (o+n*3+1) _ (λ_=>⟨rfl,by omega,by omega⟩)).setCell g (o+n*3+2) _ (λ_=>⟨rfl,by omega,by omega⟩)
 have D:Hid (d.rangeAt g o (bY (l++[x]))):=by
  show World.rangeAt _ _ _ _;intro j u c;rw[nK]at c;have r:=iW l;rw[hn.o]at r;by_cases G:j<n*3
  ·rw[cW agE]at c;rw[f _ agE agE agE];exact H.o.cell (W.o j u c) agI
  ·rw[cY agE,r]at c;have t:j-n*3<3:=(by have:=(cM.1 c).1;simp[bY,PF.bE]at this;omega);have S:d.cell? (g,o+n*3)=some (.string x.ay):=by
    rw[a,World.cell?_setCell_other _ _ _ _ (λe=>by injection e with _ e;omega),World.cell?_setCell_other _ _ _ _ (λe=>by injection e with _ e;omega)];exact World.cell?_setCell_same _ _ _ q0
   have h1:d.cell? (g,o+n*3+1)=some (ι x.time):=by
    rw[a,World.cell?_setCell_other _ _ _ _ (λe=>by injection e with _ e;omega)];exact ael
   have N:d.cell? (g,o+n*3+2)=some (ι x.count):=by
    rw[a];exact World.cell?_setCell_same _ _ _ (by rw[World.cell?_setCell_other _ _ _ _ (λe=>by injection e with _ e;omega),World.cell?_setCell_other _ _ _ _ (λe=>by injection e with _ e;omega)];exact R)
   obtain⟨i,hi⟩:=aq (j-n*3);rw[hi]at c t;have F:j=n*3+i:=agE;subst F;match i,t with
   |0,_=>simp[bY,PF.bE]at c;rw[<-c];exact S
   |1,_=>simp[bY,PF.bE]at c;rw[<-c];exact h1
   |2,_=>simp[bY,PF.bE]at c;rw[<-c];exact N
 have C:Hid (d.frozen? (g,o+24)=false):=(T.o.cf s.o).frozen _
 have B:=hid a
 clear z f a
 have y1:d.drew.cell? (g,o+24)=some (ι n):=V.o.1
 have z0:d.drew.frozen? (g,o+24)=false:=C.o
 go_region
 all_goals
  rw[<-B.o]
  go_wp2
  go_ret
  refine⟨rfl,?_,World.cell?_setCell_same _ _ _ y1,s.o.drew.setCell g (o+24) _ (λ_=>⟨rfl,by omega,by omega⟩)⟩
  intro j u c
  have G:=(cM.1 c).1
  rw[iW,cD,hn.o,eC]at G
  show(d.setCell (g,o+24) (ι ((n:Int)+1))).cell? (g,o+j)=some u
  rw[World.cell?_setCell_other _ _ _ _ (λe=>by injection e with _ e;omega)]
  exact D.o j u c
theorem LZ(a b):dU a b=dU b a:=by
 grind [dU]
theorem abW(a b)(w:World)(nq)(d:In64 a)(f:In64 b):
  Calls prog 236 #[ι a,ι b] (w.drewN nq) λe c=>e=.returned (ι (dU a b))/\∃m,c=w.drewN m:=
 (Ug a b _ d.1 d.2 f.1 f.2).mono agM
theorem aiw(a b)(w:World)(nq)(d:In64 a)(f:In64 b):
  Calls prog 221 #[ι a,ι b] (w.drewN nq) λe c=>e=.returned (ι (aW a b))/\∃m,c=w.drewN m:=
 (Cm a b _ d.1 d.2 f.1 f.2).mono agM
theorem wV(b g:Nat)(now aA t)(w)(j:w.cell? (b,3)=some (.pointer (some (g,0))))(i:w.cell? (b,4)=some (ι now))(cs:w.cell? (g,0)=some (ι aA))(f:In64 now)(d:In64 t):
  Calls prog 210 #[(b,0),ι t] w λe w'=>e=.returned (.bool (decide (aA<dU t now)))/\∃m,w'=w.drewN m:=by
 have h:Hid (∀nq,Calls prog 236 #[ι now,ι t] (w.drewN nq) λe c=>e=.returned (ι (dU t now))/\∃m,c=w.drewN m):=λnq=>by rw[LZ];exact abW now t w nq f d
 clear f d
 generalize dU t now=a at *
 go_enter func210,ntmps210
 go_wp2_with fail
 go_quiet (first|(go_at_call 236;exact h.o _))
 exact aeb
theorem Bj(c g:Nat)(now aA t)(w)(j:w.cell? (c,3)=some (.pointer (some (g,0))))(i:w.cell? (c,4)=some (ι now))(cs:w.cell? (g,0)=some (ι aA))(f:In64 now)(b:In64 aA):
  Calls prog 184 #[(c,0),ι t] w λe w'=>e=.returned (.bool (decide (aW now aA<t)))/\∃m,w'=w.drewN m:=by
 have h:Hid (∀nq,Calls prog 221 #[ι now,ι aA] (w.drewN nq) λe d=>e=.returned (ι (aW now aA))/\∃m,d=w.drewN m):=λnq=>aiw now aA w nq f b
 clear f b
 generalize aW now aA=a at *
 go_enter func184,ntmps184
 go_wp2_with fail
 go_quiet (first|(go_at_call 221;exact h.o _))
 exact aeb
def PY(hb:Nat):Value:=.func (.func 210) #[(hb,0)] #[]
def L8(cb:Nat):Value:=.func (.func 257) #[] #[.pointer (some (cb,0))]
structure xM(w:World)(cb hb g:Nat)(now aA:Int):Prop where
 box:w.cell? (cb,0)=some (PY hb)
 bP:w.cell? (hb,3)=some (.pointer (some (g,0)))
 now:w.cell? (hb,4)=some (ι now)
 aA:w.cell? (g,0)=some (ι aA)
theorem xM.grown{w w':World}{b a g:Nat}{now aA:Int}(h:xM w b a g now aA)(k:w.grownBy w' none):xM w' b a g now aA:=
 ⟨k.cell h.box agI,k.cell h.bP agI,k.cell h.now agI,k.cell h.aA agI⟩
def qh(aA now:Int)(y:PF):Bool:=decide (aA<dU y.time now)
theorem Iq(n l g:Nat)(now aA)(y)(w)(h:xM w n l g now aA)(q:In64 now)(k:In64 y.time):
  Calls prog 257 #[.agg y.bE.toArray,(n,0)] w λe w'=>e=.returned (.bool (qh aA now y))/\w.grownBy w' none:=by
 obtain⟨d,c⟩:=aw (w.alloc (.cells y.bE.toArray 131))
 have a:w.grownBy d none:=ahe
 have p:d.rangeAt w.heap.size 0 y.bE:=ahn
 have t:d.cell? (w,1)=some (ι y.time):=p 1 _ rfl
 have b:=h.grown a
 have i:=b.box
 unfold PY at i
 have r:=hid (wV l g now aA y.time d b.bP b.now b.aA q k)
 have s:=hid a
 have j:=hid c
 clear a p c h b q k
 go_enter func257,ntmps257
 go_wp2_with (first|(rw[<-j.o];fail_if_success done)|fail)
 refine r.o.mono ?_
 rintro e w2 ⟨rfl,m,rfl⟩
 have f:=hid (aR s.o m)
 go_wp2
 go_ret
 exact⟨rfl,f.o⟩
theorem L9(u C z g o n c:Nat)(now aA)(l)(w)(B:xM w u C z now aA)(D:In64 now)(A:∀y∈l,In64 y.time)(hn:Hid (l.length=n))(Q:n<=8)(M:n<=c)(h:w.rangeAt g o (bY l)):
  Calls prog 260 #[.slice (some (g,o)) n c,L8 u] w λe w'=>(e=.returned (ι (-1))/\(∀j(p:j<l.length),qh aA now l[j]=false)\/∃k,∃E:k<l.length,e=.returned (ι (k:Int))/\qh aA now l[k]=true/\∀j(p:j<l.length),j<k->qh aA now l[j]=false)/\w.grownBy w' none:=by
 have H:=hid h
 have F:=hid B
 have N:=hid A
 have t:=hid D
 clear h B A D
 unfold L8
 go_enter func260,ntmps260
 go_wp2
 go_loopw [5,8] (λ_ i wr=>∃k:Nat,k<=n/\i = ι k/\Hid (w.grownBy wr none)/\Hid (∀j(p:j<l.length),j<k->qh aA now l[j]=false)) (λ_ i _=>n-(intOf i).toNat)
 case atStart=>exact⟨0,cS _,rfl,cC _ _,λj _ p=>by omega⟩
 case round=>
  obtain⟨k,E,rfl,f,J⟩:=hrel;by_cases hlt:k<n
  ·have O:(k:Int)<(n:Int):=agE;have a:k<l.length:=ag4;obtain⟨y,hy⟩:=aq (l[k]);have q:=H.o;have L:wr.cell? (g,o+k*3)=some (.string y.ay):=f.o.cell (zF q k a 0 agE _ ai0) agI;have P:=f.o.cell (zF q k a 1 agE _ ai0) agI;have K:=f.o.cell (zF q k a 2 agE _ ai0) agI;have r:=hid (Iq u C z now aA y wr (F.o.grown f.o) t.o agR);obtain⟨d,x⟩:=aq (qh aA now y);rw[x]at r;have G:=hid hy;have v:=hid x;clear hy x q;cases d with
   |true=>
    go_wp2_with (go_at_call 257;refine r.o.mono ?_;rintro e w2 ⟨rfl,m⟩;have b:=hid (aa f.o m);clear m)
    go_wp2;go_ret;exact⟨.inr ⟨k,a,rfl,by rw[G.o];exact v.o,J.o⟩,b.o⟩
   |false=>
    go_wp2_with (go_at_call 257;refine r.o.mono ?_;rintro e w2 ⟨rfl,m⟩;have b:=hid (aa f.o m);clear m)
    go_wp2;go_roundw
    case rel=>
     refine⟨k+1,by omega,by go_num,b.o,λj p I=>?_⟩;grind [RowKit.Hid.o]
    case measure=>simp[intOf];omega
  ·have s:k=n:=agE;subst s;go_wp2;go_ret;exact⟨.inl ⟨rfl,agR⟩,f.o⟩
variable {aA now:Int}{l:List PF}
def yo:Array Value:=#[.string ⟨#[]⟩,ι 0,ι 0]
theorem PZ(m):∀v∈(Builtin.zeroCells yo m).toList,v.oneCell'=true:=by
 intro v a;simp[Builtin.zeroCells]at a;obtain⟨i,_,e⟩:=a;have c:i % 3<3:=Nat.mod_lt _ agE;have b:yo.size=3:=rfl;rw[b]at e;rw[<-e];generalize i % 3=j at *;match j,c with
 |0,_=>rfl
 |1,_=>rfl
 |2,_=>rfl
theorem XV(w)(g o m c:Nat)(b)(e:0<m)(d:Live w g (o+m*3)):
  (Builtin.clear_ #[397] b #[.slice (some (g,o)) m c]).run Tryz.prog w=.ok (.tuple #[]) (w.setCells g o (Builtin.zeroCells yo m).toList):=by
 have f:(Builtin.zeroCells yo m).toList.length=m*3:=by simp[Builtin.zeroCells];rfl
 have a:=run_storeCells_cells (P:=Tryz.prog) g o (Builtin.zeroCells yo m).toList 0 w (by grind [Live.some]) (by grind [Live.frozen]) (PZ m)
 simp only[ft]at a
 obtain⟨k,rfl⟩:∃k,m=k+1:=⟨m-1,by omega⟩
 simp[Builtin.clear_,run_underlying Tryz.underlying397,Value.cells]
 show((Sem.run Tryz.prog (storeCells ⟨g,o,none⟩ (Builtin.zeroCells yo (k+1)).toList) w).andThen _)=_
 rw[a]
 rfl
def D6(g o:Nat)(b y:Nat):Prop:=b=g/\o<=y/\y<o+24
theorem xM.cf{w w':World}{b a c g o:Nat}(h:xM w b a c now aA)(k:CF w w' (D6 g o))(f:b≠g)(d:a≠g)(i:0<o):xM w' b a c now aA:=
 ⟨k.cell h.box (λe=>f e.1),k.cell h.bP (λe=>d e.1),k.cell h.now (λe=>d e.1),k.cell h.aA (λe=>by have:=e.2.1;omega)⟩
def Bl(aA now:Int)(y:PF):Bool:=!qh aA now y
def nL(aA now:Int)(l:List PF):List PF:=l.filter (Bl aA now)
theorem D7{k:Nat}(h:k<l.length):nL aA now (l.take (k+1))=nL aA now (l.take k)++(if Bl aA now l[k]=true then [l[k]] else []):=by
 unfold nL;rw[dy h,List.filter_append];cases a:Bl aA now l[k]<;>simp[a]
theorem Ap(h:∀j(a:j<l.length),qh aA now l[j]=false):nL aA now l=l:=by
 unfold nL;apply List.filter_eq_self.2;intro x b;obtain⟨j,a,rfl⟩:=List.getElem_of_mem b;simp[Bl,h j a]
theorem Ma{k:Nat}(a:k<l.length)(b:qh aA now l[k]=true)(h:∀j(c:j<l.length),j<k->qh aA now l[j]=false):nL aA now (l.take (k+1))=l.take k:=by
 rw[D7 a,Ap (l:=l.take k) (λj c=>?_)]
 ·simp[Bl,b]
 grind
theorem Mc(aA now)(l):(nL aA now l).length<=l.length:=List.length_filter_le _ _
set_option maxHeartbeats 2000000
def D8(w:World)(g o:Nat)(x:PF):World:=((w.setCell (g,o) (.string x.ay)).setCell (g,o+1) (ι x.time)).setCell (g,o+2) (ι x.count)
theorem Md(w)(g o:Nat)(x)(y:Nat)(a:y≠o)(b:y≠o+1)(c:y≠o+2):(D8 w g o x).cell? (g,y)=w.cell? (g,y):=by
 rw[D8,World.cell?_setCell_other _ _ _ _ agM,World.cell?_setCell_other _ _ _ _ agM,World.cell?_setCell_other _ _ _ _ agM]
theorem aea{p:Prop}(h:p:=by
 exact World.cell?_setCell_same _ _ _ (by rw[World.cell?_setCell_other _ _ _ _ agM,World.cell?_setCell_other _ _ _ _ agM];exact q2)):p:=h
theorem aeF{p:Prop}(h:p:=by
 grind [World.cell?_setCell_same,World.cell?_setCell_other]):p:=h
theorem agq{p:Prop}(h:p:=by
 grind [World.cell?_setCell_same]):p:=h
theorem P5(w)(g o i)(x)(l)(d:Live w g (o+i*3+3))(m:l.length=i)(h:w.rangeAt g o (bY l)):(D8 w g (o+i*3) x).rangeAt g o (bY (l++[x])):=by
 obtain⟨v,q⟩:=cA.1 (d.some (o+i*3) agE);obtain⟨t,z⟩:=cA.1 (d.some (o+i*3+1) agE);obtain⟨s,q2⟩:=cA.1 (d.some (o+i*3+2) agE);intro j u a;rw[nK]at a;have b:=iW l;rw[m]at b;by_cases r:j<i*3
 ·rw[cW agE]at a;rw[Md _ _ _ _ _ agE agE agE];exact h j u a
 ·rw[cY agE,b]at a;have c:j-i*3<3:=by grind [PF.bE,bY]
  have y:(D8 w g (o+i*3) x).cell? (g,o+i*3)=some (.string x.ay):=by
   rw[D8,World.cell?_setCell_other _ _ _ _ agM,World.cell?_setCell_other _ _ _ _ agM];exact agq
  have f:(D8 w g (o+i*3) x).cell? (g,o+i*3+1)=some (ι x.time):=by
   rw[D8,World.cell?_setCell_other _ _ _ _ agM];exact aeF
  have p:(D8 w g (o+i*3) x).cell? (g,o+i*3+2)=some (ι x.count):=by
   rw[D8];exact aea
  obtain⟨k,n⟩:=aq (j-i*3);rw[n]at a c;have e:j=i*3+k:=agE;subst e;match k,c with
  |0,_=>grind [PF.bE,bY]
  |1,_=>simp[bY,PF.bE]at a;rw[<-a];exact f
  |2,_=>simp[bY,PF.bE]at a;rw[<-a];exact p
theorem Me(R X dg g o n c:Nat)(now aA)(l)(w)(hf:xM w R X dg now aA)(h1:R≠g)(h2:X≠g)(h3:0<o)(dA:In64 now)(ht:∀y∈l,In64 y.time)(hn:Hid (l.length=n))(Hy:n<=8)(hc:n<=c)(ah:c<=8)(hl:Live w g (o+24))(h:w.rangeAt g o (bY l)):
  Calls Tryz.prog 255 #[.slice (some (g,o)) n c,L8 R] w λe w'=>e=.returned (.slice (some (g,o)) (nL aA now l).length c)/\w'.rangeAt g o (bY (nL aA now l))/\CF w w' (D6 g o):=by
 have HI:=hid (L9 R X dg g o n c now aA l w hf dA ht hn Hy hc h)
 have HH:=hid h
 have HF:=hid hf
 have HT:=hid ht
 have Z:=hid dA
 have HL:=hid hl
 clear h hf ht dA hl
 unfold L8 at HI
 unfold L8
 go_enter Tryz.func255,Tryz.ntmps255
 go_wp2_with fail
 refine HI.o.mono ?_
 clear HI
 rintro e w1 ⟨⟨rfl,A⟩|⟨k,hk,rfl,S,Q⟩,T⟩
 ·have HA:=hid A;have F:=hid T;clear A T;go_wp2;go_ret;refine⟨?_,?_,CF.bF F.o _⟩
  ·rw[Ap HA.o,hn.o];rfl
  ·rw[Ap HA.o];exact(CF.bF F.o (λ_ _=>False)).range HH.o (λ_ _ e=>e)
 ·have ak:k<n:=by rw[<-hn.o];exact hk
  have mU:((k:Int)==-1)=false:=ahd;have HK:=hid (Ma hk S Q);have F:=hid T;clear S Q T;go_wp2;go_loopw [5,6,7] (λai aj _ wr=>∃i j:Nat,i<j/\j<=n/\ai = ι i/\aj = ι j/\Hid ((nL aA now (l.take j)).length=i/\wr.rangeAt g o (bY (nL aA now (l.take j)))/\wr.rangeAt g (o+j*3) (bY (l.drop j))/\CF w wr (D6 g o))) (λ_ aj _ _=>n-(intOf aj).toNat)
  case atStart=>
   refine⟨k,k+1,by omega,by omega,rfl,by go_num,?_,?_,?_,CF.bF F.o _⟩
   ·rw[HK.o,ep];omega
   ·rw[HK.o];have I:=(CF.bF F.o (λ_ _=>False)).range HH.o (λ_ _ e=>e);rw[<-eN k l,nK]at I;exact xW I
   ·have I:=(CF.bF F.o (λ_ _=>False)).range HH.o (λ_ _ e=>e);rw[<-eN (k+1) l,nK]at I;have P:=rV I;rw[iW,ep,gh agE]at P;exact P
  case round=>
   obtain⟨i,j,an,ae,rfl,rfl,E⟩:=hrel;by_cases hlt:j<n
   ·have Ls:(j:Int)<(n:Int):=agE;have b:j<l.length:=ag4;obtain⟨y,hy⟩:=aq (l[j]);have v:=E.o.2.2.1;have C:(l.drop j)[0]?=some y:=(by rw[List.getElem?_drop,ft,cL b,hy]);have p:0<(l.drop j).length:=(by rw[dr];omega);have t:(l.drop j)[0]=y:=(by rw[cL p]at C;injection C);have y0:wr.cell? (g,o+j*3)=some (.string y.ay):=zF v 0 p 0 agE _ (by rw[t];rfl);have y1:wr.cell? (g,o+j*3+1)=some (ι y.time):=zF v 0 p 1 agE _ (by rw[t];rfl);have y2:wr.cell? (g,o+j*3+2)=some (ι y.count):=zF v 0 p 2 agE _ (by rw[t];rfl);obtain⟨U,x⟩:=aw (wr.alloc (.cells #[.string y.ay,ι y.time,ι y.count] 131));have D:wr.grownBy U none:=(by rw[x];exact cx wr _ none);have s:U.rangeAt wr.heap.size 0 y.bE:=(by rw[x];exact aS wr y.bE.toArray _);have HD:=hid (Iq R X dg now aA y U ((HF.o.cf E.o.2.2.2 h1 h2 h3).grown D) Z.o (HT.o y (by rw[<-hy];exact ef b)))
    have HX:Hid (∀W,U.grownBy W none->W.cell? (wr,0)=some (.string y.ay)/\W.cell? (wr,1)=some (ι y.time)/\W.cell? (wr,2)=some (ι y.count)):=
     λW q=>⟨q.cell (s 0 _ rfl) agI,q.cell (s 1 _ rfl) agI,q.cell (s 2 _ rfl) agI⟩
    obtain⟨d,hd⟩:=aq (qh aA now y);rw[hd]at HD;have a:=D7 (aA:=aA) (now:=now) b;rw[hy]at a;have N:(if Bl aA now y=true then [y] else [])=(if d=false then [y] else []):=(by unfold Bl;rw[hd];cases d<;>rfl);rw[N]at a;have O:=hid a;have Mf:=hid (HL.o.cf E.o.2.2.2);have K:=hid D;have J:=hid x;have af:i<8:=agE;have m:l.drop j=y::l.drop (j+1):=(by rw[<-hy];exact List.drop_eq_getElem_cons b);have L:Hid (∀W:World,W.rangeAt g (o+j*3) (bY (l.drop j))->W.rangeAt g (o+(j+1)*3) (bY (l.drop (j+1)))):=by
     intro W hW;rw[m]at hW;have e:bY (y::l.drop (j+1))=y.bE++bY (l.drop (j+1)):=(by simp[bY]);rw[e]at hW;have:=rV hW;rw[show o+(j+1)*3=o+j*3+y.bE.length from by show _=_+3;omega];exact this
    clear hy v C p t D s x hd a N m;cases d with
    |true=>
     go_wp2_with (go_at_call 257;rw[<-J.o];refine HD.o.mono ?_;rintro e w2 ⟨rfl,G⟩;have f:=hid (aa K.o G);clear G)
     go_wp2;go_roundw
     case rel=>
      refine⟨i,j+1,by omega,by omega,rfl,by go_num,?_⟩;have a:=O.o;rw[if_neg agF,fS]at a;obtain⟨B,H,a3,M⟩:=E.o;have r:CF wr w2 (λ_ _=>False):=CF.bF f.o _;rw[a];exact⟨B,r.range H (λ_ _ e=>e),L.o w2 (r.range a3 (λ_ _ e=>e)),M.grown f.o⟩
     case measure=>simp[intOf];omega
    |false=>
     go_wp2_with (go_at_call 257;rw[<-J.o];refine HD.o.mono ?_;rintro e w2 ⟨rfl,G⟩;obtain⟨e0,e1,e2⟩:=HX.o w2 G;have f:=hid (aa K.o G);clear G;have z:=Mf.o.grown f.o;have f0:=z.frozen (o+i*3);have f1:=z.frozen (o+i*3+1);have f2:=z.frozen (o+i*3+2);obtain⟨d0,q0⟩:=cA.1 (z.some (o+i*3) agE);obtain⟨d1,q1⟩:=cA.1 (z.some (o+i*3+1) agE);obtain⟨d2,q2⟩:=cA.1 (z.some (o+i*3+2) agE);have ab:=hid z;clear z)
     go_wp2;go_roundw
     case rel=>
      refine⟨i+1,j+1,by omega,by omega,by go_num,by go_num,?_⟩;have a:=O.o;rw[if_pos trivial]at a;obtain⟨B,H,a3,M⟩:=E.o;have r:CF wr w2 (λ_ _=>False):=CF.bF f.o _;rw[a];have r1:=P5 w2 g o i y _ (ab.o.mono agE) B (r.range H (λ_ _ e=>e));have r2:(D8 w2 g (o+i*3) y).rangeAt g (o+j*3) (bY (l.drop j)):=by
       intro q u V;rw[Md _ _ _ _ _ agE agE agE];exact(r.range a3 (λ_ _ e=>e)) q u V
      have r3:CF w (D8 w2 g (o+i*3) y) (D6 g o):=(((M.grown f.o).setCell g (o+i*3) _ (λ_=>⟨rfl,by omega,by omega⟩)).setCell g (o+i*3+1) _ (λ_=>⟨rfl,by omega,by omega⟩)).setCell g (o+i*3+2) _ (λ_=>⟨rfl,by omega,by omega⟩);exact⟨by rw[cD,B];rfl,r1,L.o _ r2,r3⟩
     case measure=>simp[intOf];omega
   ·have Y:j=n:=agE;subst Y
    have ag:=
     λty=>XV wr g (o+i*3) (j-i) (c-i) ty agE ((HL.o.cf E.o.2.2.2).mono agE)
    have al:c≠i:=agE;have ar:i≠c:=agE;have ao:(i:Int)<=(c:Int):=agE;go_wp2;go_ret;have ad:=cU (by rw[hn.o];exact cy _);have hz:(Builtin.zeroCells yo (j-i)).toList.length=(j-i)*3:=(by simp[Builtin.zeroCells];rfl);obtain⟨B,H,_,M⟩:=E.o;rw[ad]at B H;refine⟨by rw[B];rfl,?_,CF.setCells g _ _ wr M (λq hq _=>⟨rfl,by omega,by rw[hz]at hq;omega⟩)⟩;intro q u V;have hq:=(cM.1 V).1;rw[iW,B]at hq;rw[World.cell?_setCells_out g _ _ wr _ (λ_ _=>Or.inl (by show o+q<_;omega))];exact H q u V
theorem Mg(c r g o n:Nat)(now aA)(l:List PF)(w)(G:w.cell? (c,3)=some (.pointer (some (r,0))))(I:w.cell? (c,4)=some (ι now))(cs:w.cell? (r,0)=some (ι aA))(Q:c≠g)(X:0<o)(N:In64 now)(H:∀y∈l,In64 y.time)(hn:Hid (l.length=n))(D:n<=8)(s:Live w g (o+25))(h:w.rangeAt g o (bY l))(z:w.cell? (g,o+24)=some (ι n)):
  Calls prog 242 #[(g,o),PY c] w λe w'=>e=.returned (.tuple #[])/\w'.rangeAt g o (bY (nL aA now l))/\w'.cell? (g,o+24)=some (ι (nL aA now l).length)/\CF w w' (λb y=>b=g/\o<=y/\y<o+25):=by
 have k:∀(p)(first cap)(w),(Instr.makeFunc p first cap).run prog w=.ok (.func p first cap) w:=λ_ _ _ _=>rfl
 obtain⟨f,d⟩:=aw (w.alloc (.cells #[PY c] 281))
 have a:w.grownBy f none:=ahe
 have q:f.cell? (w,0)=some (PY c):=by rw[d];exact aS w #[PY c] _ 0 _ rfl
 have E:w.heap.size≠g:=λe=>by have:=s.lt;omega
 have L:=hid (vQ g o n f D (a.cell z agI))
 have i:∀m,xM (f.drewN m) w.heap.size c r now aA:=λm=>⟨q,(aR a m).cell G agI,(aR a m).cell I agI,(aR a m).cell cs agI⟩
 have F:Hid (∀m,Calls prog 255 #[.slice (some (g,o)) n 8,.func (.func 257) #[] #[.pointer (some (w,0))]] (f.drewN m) λe w'=>e=.returned (.slice (some (g,o)) (nL aA now l).length 8)/\w'.rangeAt g o (bY (nL aA now l))/\CF w w' (D6 g o)):=by
  intro m;refine(Me w.heap.size c r g o n 8 now aA l (f.drewN m) (i m) E Q X N H hn D D agE ((s.grown (aR a m)).mono agE) ((CF.bF (aR a m) (λ_ _=>False)).range h (λ_ _ e=>e))).mono ?_;rintro e w' ⟨T,P,W⟩;exact⟨T,P,W.before (aR a m)⟩
 have S:=hid s
 have B:=hid d
 have C:=hid (Mc aA now l)
 obtain⟨K,A⟩:=aq (nL aA now l)
 rw[A]at F C
 rw[A]
 have U:K.length<=8:=agR
 have R:=hid z
 clear k a q i d s h z G I cs A N H
 have k:∀(p)(first cap)(w),(Instr.makeFunc p first cap).run prog w=.ok (.func p first cap) w:=λ_ _ _ _=>rfl
 unfold PY at *
 go_enter func242,ntmps242
 go_wp2_with (first
  |(rw[<-B.o];fail_if_success done)
  |(go_at_call 256;refine L.o.mono ?_;clear L;rintro e Z ⟨rfl,m,rfl⟩)
  |(go_at_call 255;refine(F.o _).mono ?_;rintro e w2 ⟨rfl,M,t⟩;have v:=hid M;have x:=hid t;have V:=t.cell R.o (λe=>by have:=e.2.2;omega);have Y:=(S.o.cf t).frozen (o+24);clear M t))
 go_wp2
 go_end0
 refine⟨rfl,?_,World.cell?_setCell_same _ _ _ V,(x.o.mono (λb y _ e=>⟨e.1,e.2.1,by have:=e.2.2;omega⟩)).setCell g (o+24) _ agE⟩
 intro j u J
 have O:=(cM.1 J).1
 rw[iW]at O
 rw[World.cell?_setCell_other _ _ _ _ agM]
 exact v.o j u J
theorem P6(aA now)(l):nL aA now l=iQ aA now l:=by
 unfold nL iQ;congr 1;funext y;unfold Bl qh;grind
theorem D9(c g:Nat)(now aA)(x:PF)(w)(n:w.cell? (c,3)=some (.pointer (some (g,0))))(k:w.cell? (c,4)=some (ι now))(cs:w.cell? (g,0)=some (ι aA))(q:In64 now)(i:In64 x.time)(l:aA<dU x.time now):
  Calls prog 220 #[(c,0),.agg x.bE.toArray] w λe w'=>e=.returned (ι 37)/\w.grownBy w' none:=by
 obtain⟨d,b⟩:=aw (w.alloc (.cells x.bE.toArray 131))
 have a:w.grownBy d none:=ahe
 have p:d.rangeAt w.heap.size 0 x.bE:=ahn
 have t:d.cell? (w,1)=some (ι x.time):=p 1 _ rfl
 have h:=wV c g now aA x.time d (a.cell n agI) (a.cell k agI) (a.cell cs agI) q i
 rw[dk l]at h
 have j:=hid h
 have r:=hid a
 have f:=hid b
 clear a p b n k cs q i l h
 go_enter func220,ntmps220
 go_wp2_with (first
  |(rw[<-f.o];fail_if_success done)
  |(go_at_call 210;refine j.o.mono ?_;clear j;rintro e s ⟨rfl,m,rfl⟩))
 go_wp2
 go_ret
 exact⟨rfl,aR r.o m⟩
theorem BP(p d:Nat)(now aA)(l)(x)(w)(D:w.cell? (p,3)=some (.pointer (some (d,0))))(Q:w.cell? (p,4)=some (ι now))(cs:w.cell? (d,0)=some (ι aA))(h2:p≠d)(Y:In64 now)(hx:In64 x.time)(ht:∀y∈l,In64 y.time)(Hy:l.length<=8)(C:Live w d 188)(h:w.rangeAt d 163 (bY l))(hc:w.cell? (d,187)=some (ι l.length))(A:¬ aA<dU x.time now):
  Calls prog 220 #[(p,0),.agg x.bE.toArray] w λe w'=>e=.returned (ι (bL aA now l x))/\w'.rangeAt d 163 (bY (bJ aA now l x))/\w'.cell? (d,187)=some (ι (bJ aA now l x).length)/\CF w w' (λb y=>b=d/\163<=y/\y<188):=by
 obtain⟨i,z⟩:=aw (w.alloc (.cells x.bE.toArray 131))
 have f:w.grownBy i none:=ahe
 have G:i.rangeAt w.heap.size 0 x.bE:=ahn
 have x1:i.cell? (w,1)=some (ι x.time):=G 1 _ rfl
 have B:w.heap.size≠d:=λe=>by have:=C.lt;omega
 have X:=wV p d now aA x.time i (f.cell D agI) (f.cell Q agI) (f.cell cs agI) Y hx
 rw[cX A]at X
 have HI:=hid X
 obtain⟨K,E⟩:=aq (iQ aA now l)
 have u:nL aA now l=K:=by rw[P6,E]
 have HP:Hid (∀m,Calls prog 242 #[(d,163),.func (.func 210) #[.pointer (some (p,0))] #[]] (i.drewN m) λe w'=>e=.returned (.tuple #[])/\w'.rangeAt d 163 (bY K)/\w'.cell? (d,187)=some (ι K.length)/\CF i w' (λb y=>b=d/\163<=y/\y<188)):=by
  intro m;have r:=aR f m;have:=Mg p d d 163 l.length now aA l (i.drewN m) (r.cell D agI) (r.cell Q agI) (r.cell cs agI) h2 agE Y ht (hid rfl) Hy (C.grown r) ((CF.bF r (λ_ _=>False)).range h (λ_ _ e=>e)) (r.cell hc agI);rw[u]at this;refine this.mono ?_;grind [CF.jM]
 have R:K.length<=8:=by grind [Mc]
 have HX:Hid (∀W,CF i W (λb y=>b=d/\163<=y/\y<188)->W.cell? (w,0)=some (.string x.ay)/\W.cell? (w,1)=some (ι x.time)/\W.cell? (w,2)=some (ι x.count)):=
  λW q=>⟨q.cell (G 0 _ rfl) (λe=>B e.1),(by grind [CF.cell]),q.cell (G 2 _ rfl) (λe=>B e.1)⟩
 have a:bL aA now l x=if x∈K then 34 else if 8<=K.length then 60 else 0:=by rw[bL,E]
 have c:bJ aA now l x=if bL aA now l x=0 then K++[x] else K:=by rw[bJ,E]
 have V8:=f.cell D agI
 have yf:=hid V8
 have HG:=hid f
 have S:=hid z
 have HL:=hid (C.grown f)
 have t:=hid (And.intro a c)
 have ab:∀(fn)(first cap)(w),(Instr.makeFunc fn first cap).run prog w=.ok (.func fn first cap) w:=λ_ _ _ _=>rfl
 clear f G z D Q cs Y ht hx A X E u C h hc a c
 go_enter func220,ntmps220
 go_wp2_with (first
  |(rw[<-S.o];fail_if_success done)
  |(go_at_call 210;refine HI.o.mono ?_;clear HI;rintro e w1 ⟨rfl,m,rfl⟩)
  |(go_at_call 242;refine(HP.o _).mono ?_;clear HP;rintro e w2 ⟨rfl,U,M,N⟩;obtain⟨e0,e1,e2⟩:=HX.o w2 N;have k:=hid U;have I:=hid M;have L:=hid N;have F:=hid (XR d 163 K x w2 U M R);clear U M N))
 by_cases s:x∈K
 ·have n:=F;rw[dk s]at n;have H:=hid s;clear F s;refine n.o.mono ?_;rintro e w3 ⟨rfl,j⟩;have g:=hid j;clear j n;go_wp2;go_ret;have a:bL aA now l x=34:=by rw[t.o.1,if_pos H.o]
  have c:bJ aA now l x=K:=by rw[t.o.2,a,if_neg agF]
  rw[c,a];exact⟨rfl,(CF.bF g.o (λ_ _=>False)).range k.o (λ_ _ e=>e),g.o.cell I.o agI,(L.o.before HG.o).grown g.o⟩
 ·have n:=F;rw[cX s]at n;have H:=hid s;clear F s;refine n.o.mono ?_;rintro e w3 ⟨rfl,j⟩;have b0:=j.cell e0 agI;have b1:=j.cell e1 agI;have b2:=j.cell e2 agI;have g:=hid j;clear j n;by_cases v:K.length=8
  ·have T:=I.o;rw[v]at T;have J:=hid (Ue d 163 x w3 (g.o.cell T agI));have P:=hid v;clear T v;go_wp2_with (go_at_call 244;refine J.o.mono ?_;rintro e w4 ⟨rfl,g4⟩;have O:=hid (aa g.o g4);clear g4)
   go_wp2;go_ret;have a:bL aA now l x=60:=(by rw[t.o.1,if_neg H.o,if_pos (by have:=P.o;omega)]);have c:bJ aA now l x=K:=(by rw[t.o.2,a,if_neg agF]);rw[c,a];exact⟨rfl,(CF.bF O.o (λ_ _=>False)).range k.o (λ_ _ e=>e),O.o.cell I.o agI,(L.o.before HG.o).grown O.o⟩
  ·have J:=hid (abT d 163 K.length K x w3 ((HL.o.cf L.o).grown g.o) ((CF.bF g.o (λ_ _=>False)).range k.o (λ_ _ e=>e)) (g.o.cell I.o agI) (hid rfl) agE);have P:=hid v;clear v;go_wp2_with (go_at_call 244;refine J.o.mono ?_;rintro e w4 ⟨rfl,r4,k4,Z⟩;have V:=hid r4;have ae:=hid k4;have ad:=hid Z;clear r4 k4 Z)
   go_wp2;go_ret;have a:bL aA now l x=0:=(by rw[t.o.1,if_neg H.o,if_neg (by have:=P.o;omega)]);have c:bJ aA now l x=K++[x]:=(by rw[t.o.2,a,if_pos rfl]);rw[c,a];refine⟨rfl,V.o,?_,(by grind [RowKit.Hid.o,CF.grown,CF.before,CF.trans])⟩;grind [RowKit.Hid.o]
theorem fM{a b:Bool}(h:a=b):Ending.returned (.bool a)=.returned (.bool b):=by rw[h]
theorem Ea(b o:Nat)(e:BE)(now)(w)(h:w.cell? (b,o+2)=some (ι e.bB)):
  Calls prog 207 #[(b,o),ι now] w λr w'=>r=.returned (.bool (e.gone now))/\w'=w:=by
 unfold BE.gone
 obtain⟨x,a⟩:=aq e.bB
 rw[a]at h
 rw[a]
 clear a
 by_cases c:x=0
 ·subst c;go_enter func207,ntmps207;go_wp2;go_ret;exact⟨fM agI,rfl⟩
 ·go_enter func207,ntmps207;go_wp2;go_ret;exact⟨fM (by simp[c]),rfl⟩
theorem Uh(b o:Nat)(e:BE)(n)(w)(i:w.cell? (b,o+1)=some (ι e.aH))(k:w.cell? (b,o+2)=some (υ e.key.toNat))(l:w.cell? (b,o+3)=some (υ e.before.toNat))(c:1<=e.aH)(d:e.aH<=9223372036854775807):
  Calls prog 217 #[(b,o),ι n] w λr w'=>r=.returned (.tuple #[υ (((e.keyOf n).getD 0).toNat:Int),.bool (e.keyOf n).isSome])/\w'=w:=by
 unfold BE.keyOf
 obtain⟨x,a⟩:=aq e.aH
 rw[a]at i c d
 rw[a]
 clear a
 by_cases h:n=x
 ·subst h;rw[if_pos rfl];go_enter func217,ntmps217;go_wp2;exact adW
 ·rw[if_neg h];by_cases f:n=x-1
  ·subst f;by_cases g:1<x
   ·rw[if_pos ⟨rfl,g⟩];have j:0<x-1:=agE;go_enter func217,ntmps217;go_wp2;exact adW
   ·rw[if_neg (λq=>g q.2)];have j:¬ 0<x-1:=agE;go_enter func217,ntmps217;go_wp2;exact adW
  ·rw[if_neg (λq=>f q.1)];go_enter func217,ntmps217;go_wp2;exact adW
theorem abY(n)(k)(c:k<63):bits .and .i64 n (2 ^ k)=if aI n (2 ^ k)=true then 2 ^ k else 0:=by
 have f:(2:Int) ^ k<2 ^ 63:=by
  have h:=Nat.pow_lt_pow_right (a:=2) agF c;exact_mod_cast h
 have e:(0:Int)<2 ^ k:=by
  have h:=Nat.pow_pos (n:=k) (show 0<2 by decide);exact_mod_cast h
 have b:BitVec.ofInt 64 (2 ^ k)=BitVec.twoPow 64 k:=by
  apply BitVec.eq_of_toNat_eq;rw[wT,BitVec.toNat_twoPow];have:((2:Int) ^ k % 18446744073709551616)=2 ^ k:=Int.emod_eq_of_lt agE agE;rw[this];have d:((2:Int) ^ k).toNat=2 ^ k:=by
   have:(2:Int) ^ k=((2 ^ k:Nat):Int):=by simp
   rw[this,Int.toNat_natCast]
  rw[d,ez (Nat.pow_lt_pow_right agF agE)]
 rw[Jz,b,BitVec.and_twoPow,kU n k agE];split
 ·rw[<-b,BitVec.toInt_ofInt];exact Int.bmod_eq_of_le agE agE
 ·rfl
theorem rD(n f)(k)(a:f=2 ^ k)(c:k<63):(bits .and .i64 n f==f)=aI n f:=by
 subst a;have b:(0:Int)<2 ^ k:=by
  have h:=Nat.pow_pos (n:=k) (show 0<2 by decide);exact_mod_cast h
 grind [abY]
theorem zG(b o:Nat)(e:BE)(f)(k)(w)(c:f=2 ^ k)(a:k<63)(h:w.cell? (b,o+3)=some (ι e.ae)):
  Calls prog 208 #[(b,o),ι f] w λr w'=>r=.returned (.bool (e.has f))/\w'=w:=by
 have d:=hid (rD e.ae f k c a)
 clear c a
 go_enter func208,ntmps208
 go_wp2
 go_ret
 exact⟨fM d.o,rfl⟩
theorem aa7{p:Prop}(h:p:=by
 clear h1 h2 h3
 go_enter func212,ntmps212
 go_wp2_with (first
  |(go_at_call 221;refine HA.o.mono ?_;clear HA;rintro e w1 ⟨rfl,rfl⟩)
  |(go_at_call 221;refine HB.o.mono ?_;clear HB;rintro e w1 ⟨rfl,rfl⟩))
 all_goals
  go_ret
  refine⟨bD ?_,rfl⟩
  unfold lesser asked
  (repeat' split at *)<;>omega):p:=h
theorem JG(start c one other)(w)(h1:In64 start)(h2:In64 one)(h3:In64 other):
  Calls prog 212 #[ι start,ι c,ι one,ι other] w λr w'=>r=.returned (ι (lesser (asked c) (lesser (aW start one) (aW start other))))/\w'=w:=by
 have HA:=hid (Cm start one w h1.1 h1.2 h2.1 h2.2)
 have HB:=hid (Cm start other w h1.1 h1.2 h3.1 h3.2)
 generalize aW start one=a at *
 generalize aW start other=b at *
 by_cases f:c=0
 ·subst f;exact aa7
 ·have d:(c==0)=false:=agM;exact aa7
structure eZ(w:World)(b:Nat)(x s:BE):Prop where
 ay:w.rangeAt b 0 x.bE
 aV:w.rangeAt b 8 s.bE
theorem eZ.c{w:World}{b:Nat}{x s:BE}(h:eZ w b x s)(k:Nat)(v)(a:x.bE[k]?=some v):w.cell? (b,k)=some v:=by
 have:=h.ay k v a;rwa [cN]at this
theorem eZ.s{w:World}{b:Nat}{x s:BE}(h:eZ w b x s)(k)(v)(a:s.bE[k]?=some v):w.cell? (b,8+k)=some v:=h.aV k v a
theorem abD{p:Prop}(h:p:=by
 rw[hx]at HA
 clear hx
 go_enter func211,ntmps211
 go_wp2_with (first
  |(go_at_call 208;refine HA.o.mono ?_;clear HA;rintro e w1 ⟨rfl,rfl⟩)
  |(go_at_call 208;refine HB.o.mono ?_;clear HB;rintro e w1 ⟨rfl,rfl⟩))
 go_wp2
 go_ret
 exact⟨fM agI,rfl⟩):p:=h
theorem qH(b:Nat)(x s)(f)(k)(w)(d:f=2 ^ k)(a:k<63)(h:eZ w b x s):
  Calls prog 211 #[(b,0),ι f] w λr w'=>r=.returned (.bool (x.has f&&s.has f))/\w'=w:=by
 have HA:=hid (zG b 4 x f k w d a (h.c 7 _ rfl))
 have HB:=hid (zG b 12 s f k w d a (h.s 7 _ rfl))
 clear h d a
 cases hx:x.has f with
 |true=>
  exact abD
 |false=>
  exact abD
theorem Eb(start a one other)(w:World)(nq)(b:In64 start)(d:In64 one)(c:In64 other):
  Calls prog 212 #[ι start,ι a,ι one,ι other] (w.drewN nq) λr w'=>r=.returned (ι (lesser (asked a) (lesser (aW start one) (aW start other))))/\∃m,w'=w.drewN m:=
 (JG start a one other _ b d c).mono agM
theorem Mi(b:Nat)(x s)(start d)(w)(h:eZ w b x s)(e:In64 start)(f:In64 x.bI)(g:In64 s.bI):
  Calls prog 176 #[(b,0),ι start,ι d] w λr w'=>r=.returned (ι (lesser (asked d) (lesser (aW start x.bI) (aW start s.bI))))/\∃m,w'=w.drewN m:=by
 have i:=hid (λnq=>Eb start d x.bI s.bI w nq e f g)
 have k:=h.c 4 _ rfl
 have j:w.cell? (b,12)=some (ι s.bI):=h.s 4 _ rfl
 clear h e f g
 generalize lesser (asked d) (lesser (aW start x.bI) (aW start s.bI))=a at *
 go_enter func176,ntmps176
 go_wp2_with fail
 go_quiet (first|(go_at_call 212;exact i.o _))
 exact aeb
theorem Ec(b:Nat)(x s)(start d)(w)(h:eZ w b x s)(e:In64 start)(f:In64 x.aC)(g:In64 s.aC):
  Calls prog 179 #[(b,0),ι start,ι d] w λr w'=>r=.returned (ι (lesser (asked d) (lesser (aW start x.aC) (aW start s.aC))))/\∃m,w'=w.drewN m:=by
 have i:=hid (λnq=>Eb start d x.aC s.aC w nq e f g)
 have k:=h.c 5 _ rfl
 have j:w.cell? (b,13)=some (ι s.aC):=h.s 5 _ rfl
 clear h e f g
 generalize lesser (asked d) (lesser (aW start x.aC) (aW start s.aC))=a at *
 go_enter func179,ntmps179
 go_wp2_with fail
 go_quiet (first|(go_at_call 212;exact i.o _))
 exact aeb
theorem sQ{e:Func}{a:Tmp}{d:TypeId}(h:e.results=#[.cell a d])(c)(P)(w)(b:Nat)(hp:c.getD a undef=.pointer (some (b,0)))(x)(hl:(loadVar d ⟨b,0,none⟩).run P w=.ok x w):
  (results e c).run P w=.ok x w:=by
 have hp':c[a]?.getD undef=.pointer (some (b,0)):=ahr
 exact aek
theorem Tryz.abZ:(prog.info? 335).map (·.size)=some 2:=by kernel_rfl
theorem sS(b o:Nat)(e:BE)(w)(c:w.cell? (b,o+1)=some (ι e.aH))(d:w.cell? (b,o+2)=some (υ e.key.toNat)):
  Calls prog 177 #[(b,o)] w λr w'=>r=.returned (.agg #[ι e.aH,υ e.key.toNat])/\w.grownBy w' none:=by
 have a:=cx w (.cells #[ι 0,υ 0] 335) none
 have f:=a.cell c agI
 have g:=a.cell d agI
 clear a
 go_enter func177,ntmps177
 go_wp2_with fail
 go_region
 all_goals
  go_wp2
  exact bodyPost_ret (sQ results177 _ _ _ w.heap.size rfl _ ((dB.new w #[ι e.aH,υ e.key.toNat] 335).drew.load 335 _ underlying335 rfl Tryz.abZ)) rfl ⟨rfl,bg (cx w _ none)⟩
def Bn(way:Int):Int:=if way=16 then 4 else if way=32 then 16 else if way=64 then 1 else if way=128 then 2 else 0
theorem gq(a)(w):
  Calls prog 223 #[ι a] w λr w'=>r=.returned (ι (Bn a))/\w'=w:=by
 by_cases b:a=16
 ·subst b;go_enter func223,ntmps223;exact aaE
 by_cases c:a=32
 ·subst c;go_enter func223,ntmps223;exact aaE
 by_cases d:a=64
 ·subst d;go_enter func223,ntmps223;exact aaE
 by_cases f:a=128
 ·subst f;go_enter func223,ntmps223;exact aaE
 have e:Bn a=0:=by unfold Bn;rw[if_neg b,if_neg c,if_neg d,if_neg f]
 rw[e];clear e;go_enter func223,ntmps223;exact aaE
def jG(n:Int)(x s:BE):Int:=(if (aI n 1&&(x.has 4&&s.has 4))=true then 1 else 0)+(if (aI n 2&&(x.has 8&&s.has 8))=true then 2 else 0)+(if (aI n 4&&(x.has 2&&s.has 2))=true then 4 else 0)
def iN(n:Int)(x s:BE)(k:Nat):Int:=(if (aI n 1&&(x.has 4&&s.has 4))=true then(if 0<k then 1 else 0) else 0)+(if (aI n 2&&(x.has 8&&s.has 8))=true then(if 1<k then 2 else 0) else 0)+(if (aI n 4&&(x.has 2&&s.has 2))=true then(if 2<k then 4 else 0) else 0)
theorem eZ.grown{w w':World}{b:Nat}{x s:BE}(h:eZ w b x s)(k:w.grownBy w' none):eZ w' b x s:=
 ⟨λi v a=>k.cell (h.ay i v a) agI,λi v a=>k.cell (h.aV i v a) agI⟩
theorem aa3{p:Prop}(h:p:=by
 unfold iN
 generalize (aI n 1&&(x.has 4&&s.has 4))=b1
 generalize (aI n 2&&(x.has 8&&s.has 8))=b2
 generalize (aI n 4&&(x.has 2&&s.has 2))=b3
 revert b1 b2 b3
 decide):p:=h
theorem ab4(n)(x s):((aI n 1&&(x.has 4&&s.has 4))=false->iN n x s 1=iN n x s 0)/\((aI n 1&&(x.has 4&&s.has 4))=true->iN n x s 1=bits .or .i64 (iN n x s 0) 1):=by
 exact aa3
theorem ab5(n)(x s):((aI n 2&&(x.has 8&&s.has 8))=false->iN n x s 2=iN n x s 1)/\((aI n 2&&(x.has 8&&s.has 8))=true->iN n x s 2=bits .or .i64 (iN n x s 1) 2):=by
 exact aa3
theorem ab6(n)(x s):((aI n 4&&(x.has 2&&s.has 2))=false->iN n x s 3=iN n x s 2)/\((aI n 4&&(x.has 2&&s.has 2))=true->iN n x s 3=bits .or .i64 (iN n x s 2) 4):=by
 exact aa3
theorem ab7(n)(x s):iN n x s 3=jG n x s:=rfl
theorem aaG{p:Prop}(h:p:=by
 go_wp2_with (first|(go_at_call 211;refine(HB.o _ (aa hG.o (cx _ _ none))).mono ?_;clear HB;rintro e w1 ⟨rfl,rfl⟩))
 go_roundw
 case rel=>grind [RowKit.Hid.o,cx,aa]
 case measure=>simp[intOf]):p:=h
theorem aec{p:Prop}(h:p:=by
 go_roundw
 case rel=>grind [aa,RowKit.Hid.o,cx]
 case measure=>simp[intOf]):p:=h
theorem Bq(b:Nat)(x s)(n)(w)(h:eZ w b x s):
  Calls prog 213 #[(b,0),ι n] w λr w'=>r=.returned (ι (jG n x s))/\w.grownBy w' none:=by
 have l:=hid h
 clear h
 have z:∀w,(Instr.index 384 (.agg #[ι 1,ι 4,ι 2,ι 8,ι 4,ι 2]) (ι 0)).run prog w=.ok (.agg #[ι 1,ι 4]) w:=λ_=>by kernel_rfl
 have q:∀w,(Instr.index 384 (.agg #[ι 1,ι 4,ι 2,ι 8,ι 4,ι 2]) (ι 1)).run prog w=.ok (.agg #[ι 2,ι 8]) w:=λ_=>by kernel_rfl
 have u:∀w,(Instr.index 384 (.agg #[ι 1,ι 4,ι 2,ι 8,ι 4,ι 2]) (ι 2)).run prog w=.ok (.agg #[ι 4,ι 2]) w:=λ_=>by kernel_rfl
 go_enter func213,ntmps213
 go_wp2_with fail
 go_loopw [4,11] (λa i wr=>∃k:Nat,k<=3/\i = ι k/\a = ι (iN n x s k)/\Hid (w.grownBy wr none)) (λ_ i _=>3-(intOf i).toNat)
 case atStart=>exact⟨0,by omega,rfl,by unfold iN;simp,cC _ _⟩
 case round=>
  obtain⟨k,A,rfl,rfl,hG⟩:=hrel;by_cases v:k=0
  ·subst v;have HB:=hid (λW (g:w.grownBy W none)=>qH b x s 4 2 W agF agF (l.o.grown g));have f:=hid (ab4 n x s);have c:=kG n 1 0 agF agF;generalize aI n 1=b1 at *;generalize (x.has 4&&s.has 4)=b2 at *;obtain⟨m,d⟩:=aq (iN n x s 1);rw[d]at f;have p:=hid d;clear d;generalize iN n x s 0=a0 at *;cases b1 with
   |false=>
    rw[eM]at c;have j:=db.1 c;clear c;go_wp2_with fail;exact aec
   |true=>
    rw[eV]at c;have j:=cJ.1 c;clear c;cases b2 with
    |false=>
     go_wp2_with (first|(go_at_call 211;refine(HB.o _ (aa hG.o (cx _ _ none))).mono ?_;clear HB;rintro e w1 ⟨rfl,rfl⟩))
     exact aec
    |true=>
     exact aaG
  by_cases d:k=1
  ·subst d;have HB:=hid (λW (g:w.grownBy W none)=>qH b x s 8 3 W agF agF (l.o.grown g));have f:=hid (ab5 n x s);have c:=kG n 2 1 agF agF;generalize aI n 2=b1 at *;generalize (x.has 8&&s.has 8)=b2 at *;obtain⟨m,d⟩:=aq (iN n x s 2);rw[d]at f;have p:=hid d;clear d;generalize iN n x s 1=a0 at *;cases b1 with
   |false=>
    rw[eM]at c;have j:=db.1 c;clear c;go_wp2_with fail;exact aec
   |true=>
    rw[eV]at c;have j:=cJ.1 c;clear c;cases b2 with
    |false=>
     exact aaG
    |true=>
     exact aaG
  by_cases t:k=2
  ·subst t;have HB:=hid (λW (g:w.grownBy W none)=>qH b x s 2 1 W agF agF (l.o.grown g));have f:=hid (ab6 n x s);have c:=kG n 4 2 agF agF;generalize aI n 4=b1 at *;generalize (x.has 2&&s.has 2)=b2 at *;obtain⟨m,d⟩:=aq (iN n x s 3);rw[d]at f;have p:=hid d;clear d;generalize iN n x s 2=a0 at *;cases b1 with
   |false=>
    rw[eM]at c;have j:=db.1 c;clear c;go_wp2_with fail;go_roundw
    case rel=>grind [RowKit.Hid.o,cx,aa]
    case measure=>simp[intOf]
   |true=>
    rw[eV]at c;have j:=cJ.1 c;clear c;cases b2 with
    |false=>
     exact aaG
    |true=>
     exact aaG
  have y:k=3:=agE;subst y;have f:=hid (ab7 n x s);go_wp2_with fail;go_ret;exact⟨by rw[f.o];rfl,hG.o⟩
theorem mr(a b)(w)(j:In64 a)(n:In64 b):
  Calls prog 103 #[ι a,ι b] w λe w'=>e=.returned (ι (aW a b))/\w'=w:=by
 obtain⟨m,k⟩:=j
 obtain⟨s,r⟩:=n
 by_cases c:a+b < -9223372036854775808
 ·have h:a<0:=agE;have f:¬ 0<a:=agE;have p:b<0:=agE;have hw:wrap64 (a+b)=a+b+18446744073709551616:=ag9;have q:0<=a+b+18446744073709551616:=agE;have HR:Hid (aW a b=-9223372036854775808):=by show _=_;unfold aW sat;rw[if_pos c]
  clear c;go_enter func103,ntmps103;go_wp2;exact aaI
 ·by_cases d:9223372036854775807<a+b
  ·have h:0<a:=agE;have p:0<b:=agE;have hw:wrap64 (a+b)=a+b-18446744073709551616:=ag9;have q:a+b-18446744073709551616<0:=agE;have HR:Hid (aW a b=9223372036854775807):=(by show _=_;unfold aW sat;rw[if_neg c,if_pos d]);clear c d;go_enter func103,ntmps103;go_wp2;exact aaI
  ·obtain⟨g,hw⟩:=Io (a:=a) (b:=b) agE agE;have HR:=hid g;clear g c d;by_cases h:0<a
   ·have f:¬ a<0:=agE;by_cases l:0<b
    ·have i:¬ a+b<0:=agE;go_enter func103,ntmps103;go_wp2;exact aaI
    ·go_enter func103,ntmps103;go_wp2;exact aaI
   ·by_cases f:a<0
    ·by_cases l:b<0
     ·have i:¬ 0<=a+b:=agE;go_enter func103,ntmps103;go_wp2;exact aaI
     ·go_enter func103,ntmps103;go_wp2;exact aaI
    ·go_enter func103,ntmps103;go_wp2;exact aaI
theorem Q4(a b):aW a (-b)=fV a b:=by
 unfold aW fV;rw[show a + -b=a-b from by omega]
theorem AV(a b)(w)(d:In64 a)(f:In64 b):
  Calls prog 147 #[ι a,ι b] w λe w'=>e=.returned (ι (fV a b))/\w'=w:=by
 by_cases h:b=-9223372036854775808
 ·subst h;obtain⟨k,j⟩:=d;clear f;by_cases l:0<=a
  ·have HR:Hid (fV a (-9223372036854775808)=9223372036854775807):=(by show _=_;unfold fV sat;rw[if_neg agE,if_pos agE]);go_enter func147,ntmps147;go_wp2;exact aaI
  ·obtain⟨i,hw⟩:=Ip (a:=a) (b:=-9223372036854775808) agE agE;have HR:=hid i;clear i;go_enter func147,ntmps147;go_wp2;go_ret;exact⟨bD (by rw[HR.o];omega),rfl⟩
 ·have c:In64 (-b):=by unfold In64 at *;omega
  have hw:wrap64 (-b)=-b:=by unfold In64 at f;unfold wrap64;omega
  have g:=hid (mr a (-b) w d c);rw[Q4]at g;clear d f c;go_enter func147,ntmps147;go_wp2_with (go_at_call 103;refine g.o.mono ?_;rintro e w' ⟨rfl,rfl⟩)
  go_ret;exact⟨rfl,rfl⟩
theorem yF(a b)(w)(c:In64 a)(d:In64 b):
  Calls prog 143 #[ι a,ι b] w λe w'=>e=.returned (ι (dU a b))/\w'=w:=by
 by_cases h:a<b
 ·have HR:Hid (dU a b=fV b a):=by show _=_;unfold dU;rw[if_pos h]
  have hn:¬ b<=a:=agE;go_enter func143,ntmps143;go_wp2_with (go_at_call 147;refine(AV b a _ d c).mono ?_;rintro e w' ⟨rfl,rfl⟩)
  exact aaI
 ·have HR:Hid (dU a b=fV a b):=by show _=_;unfold dU;rw[if_neg h]
  have hn:b<=a:=agE;go_enter func143,ntmps143;go_wp2_with (go_at_call 147;refine(AV a b _ c d).mono ?_;rintro e w' ⟨rfl,rfl⟩)
  exact aaI
theorem ky(a b)(w):
  Calls prog 104 #[ι a,ι b] w λe w'=>e=.returned (ι (lesser a b))/\w'=w:=by
 by_cases h:a<b
 ·have HR:Hid (lesser a b=a):=by show _=_;unfold lesser;rw[if_pos h]
  go_enter func104,ntmps104;go_wp2;exact aaI
 ·have HR:Hid (lesser a b=b):=by show _=_;unfold lesser;rw[if_neg h]
  go_enter func104,ntmps104;go_wp2;exact aaI
theorem uN(a)(w):
  Calls prog 105 #[ι a] w λe w'=>e=.returned (ι (asked a))/\w'=w:=by
 by_cases h:a=0
 ·subst h;go_enter func105,ntmps105;exact aaE
 ·have HR:Hid (asked a=a):=by show _=_;unfold asked;rw[if_neg h]
  go_enter func105,ntmps105;go_wp2;exact aaI
theorem eO(n f)(k)(w)(a:f=2 ^ k)(b:k<63):
  Calls prog 102 #[ι n,ι f] w λe w'=>e=.returned (.bool (aI n f))/\w'=w:=by
 have c:=hid (kG n f k a b)
 clear a
 go_enter func102,ntmps102
 go_wp2
 go_ret
 exact⟨fM (by rw[bne,c.o,Bool.not_not]),rfl⟩
set_option maxHeartbeats 8000000
theorem aha{p:Prop}(h:p:=by cases b4<;>cases b5<;>cases b6<;>cases b7<;>rfl):p:=h
variable {p:Prop}
def agy(o:Int)(b3 b4 b5 b6 b7 f0 f1 f2 f4:Bool):Bool:=
 if o<0\/255<o\/b3=true then false
 else if 1<((if b4=true then 1 else 0)+(if b5=true then 1 else 0)+(if b6=true then 1 else 0)+(if b7=true then 1 else 0):Int)\/b5=true/\o≠32 then false
 else if b4=true/\f2=false\/b6=true/\f0=false\/b7=true/\f1=false then false
 else !b5||f4
theorem ada(o f):jZ o f=agy o (aI o 8) (aI o 16) (aI o 32) (aI o 64) (aI o 128) (aI f 1) (aI f 2) (aI f 4) (aI f 16):=rfl
def jU(b4 b5 b6 b7:Bool)(k:Nat):Int:=(if b4=true then(if 0<k then 1 else 0) else 0)+(if b5=true then(if 1<k then 1 else 0) else 0)+(if b6=true then(if 2<k then 1 else 0) else 0)+(if b7=true then(if 3<k then 1 else 0) else 0)
theorem xy(c a b d)(k):wrap64 (jU c a b d k+1)=jU c a b d k+1:=by
 have h:0<=jU c a b d k/\jU c a b d k<=4:=by
  unfold jU;constructor<;>(repeat' split)<;>omega
 unfold wrap64;omega
theorem Vx(a b):(a=true/\b=false)\/a=false\/(a=true/\b=true):=by cases a<;>cases b<;>decide
theorem agz(h:p:=by
  go_wp2_with (go_at_call 102;(first|(with_reducible refine Calls.mono (Wq.o _) ?_)|(with_reducible refine Calls.mono (Zz.o _) ?_)|(with_reducible refine Calls.mono (C64.o _) ?_)|(with_reducible refine Calls.mono (N8.o _) ?_)|(with_reducible refine Calls.mono (F1.o _) ?_)|(with_reducible refine Calls.mono (F2.o _) ?_)|(with_reducible refine Calls.mono (F4.o _) ?_)|(with_reducible refine Calls.mono (F16.o _) ?_));rintro e w' ⟨rfl,rfl⟩)
  go_ret
  exact⟨fM HS.o.symm,rfl⟩):p:=h
theorem Ri(h:p:=by first
  |(have HS:Hid (R=true):=(by show _=_;rw[<-HR.o];simp);clear HR;exact agz)
  |(have HS:Hid (R=false):=(by show _=_;rw[<-HR.o];simp);clear HR;exact agz)):p:=h
theorem adb(h:p:=by
  go_wp2_with (go_at_call 102;(first|(with_reducible refine Calls.mono (Wq.o _) ?_)|(with_reducible refine Calls.mono (Zz.o _) ?_)|(with_reducible refine Calls.mono (C64.o _) ?_)|(with_reducible refine Calls.mono (N8.o _) ?_)|(with_reducible refine Calls.mono (F1.o _) ?_)|(with_reducible refine Calls.mono (F2.o _) ?_)|(with_reducible refine Calls.mono (F4.o _) ?_)|(with_reducible refine Calls.mono (F16.o _) ?_));rintro e w' ⟨rfl,rfl⟩)
  go_round
  case rel=>first|exact⟨1,by decide,rfl,by rw[HN.o];first|(simp;done)|(simp;exact hw)⟩|exact⟨2,by decide,rfl,by rw[HN.o];first|(simp;done)|(simp;exact hw)⟩|exact⟨3,by decide,rfl,by rw[HN.o];first|(simp;done)|(simp;exact hw)⟩|exact⟨4,by decide,rfl,by rw[HN.o];first|(simp;done)|(simp;exact hw)⟩
  case measure=>decide):p:=h
theorem afN{p:Prop}(h:p:=by
 go_ret
 exact⟨fM HS.o.symm,rfl⟩):p:=h
theorem Kv(o f)(w):
  Calls prog 110 #[ι o,ι f] w λe w'=>e=.returned (.bool (jZ o f))/\w'=w:=by
 rw[ada]
 have d:=hid (λW=>eO o 8 3 W agF agF)
 have Wq:=hid (λW=>eO o 16 4 W agF agF)
 have Zz:=hid (λW=>eO o 32 5 W agF agF)
 have C64:=hid (λW=>eO o 64 6 W agF agF)
 have N8:=hid (λW=>eO o 128 7 W agF agF)
 have F1:=hid (λW=>eO f 1 0 W agF agF)
 have F2:=hid (λW=>eO f 2 1 W agF agF)
 have F4:=hid (λW=>eO f 4 2 W agF agF)
 have F16:=hid (λW=>eO f 16 4 W agF agF)
 obtain⟨F,D⟩:=aq (aI o 8)
 obtain⟨b4,z⟩:=aq (aI o 16)
 obtain⟨b5,l⟩:=aq (aI o 32)
 obtain⟨b6,r⟩:=aq (aI o 64)
 obtain⟨b7,C⟩:=aq (aI o 128)
 obtain⟨h,B⟩:=aq (aI f 1)
 obtain⟨t,y⟩:=aq (aI f 2)
 obtain⟨m,g⟩:=aq (aI f 4)
 obtain⟨E,s⟩:=aq (aI f 16)
 rw[D,z,l,r,C,B,y,g,s]
 rw[D]at d
 rw[z]at Wq
 rw[l]at Zz
 rw[r]at C64
 rw[C]at N8
 rw[B]at F1
 rw[y]at F2
 rw[g]at F4
 rw[s]at F16
 obtain⟨R,j⟩:=aq (agy o F b4 b5 b6 b7 h t m E)
 have HR:=hid j
 rw[j]
 unfold agy at HR
 clear D z l r C B y g s j
 by_cases v:o<0
 ·have HS:Hid (R=false):=by show _=_;rw[<-HR.o,if_pos (.inl v)]
  clear HR;go_enter func110,ntmps110;go_wp2;exact afN
 by_cases i:255<o
 ·have HS:Hid (R=false):=by show _=_;rw[<-HR.o,if_pos (.inr (.inl i))]
  clear HR;go_enter func110,ntmps110;go_wp2;exact afN
 cases F with
 |true=>
  have HS:Hid (R=false):=by show _=_;rw[<-HR.o,if_pos (.inr (.inr rfl))]
  clear HR;go_enter func110,ntmps110;go_wp2_with (go_at_call 102;refine(d.o _).mono ?_;rintro e w' ⟨rfl,rfl⟩)
  exact afN
 |false=>
  rw[if_neg ag2]at HR;go_enter func110,ntmps110;go_wp2_with (go_at_call 102;refine(d.o _).mono ?_;clear d;rintro e w' ⟨rfl,rfl⟩)
  go_loop [5,6] (λn b=>∃k:Nat,k<=4/\b = ι (16*2 ^ k)/\n = ι (jU b4 b5 b6 b7 k)) (λ_ b=>256-(intOf b).toNat)
  case atStart=>exact⟨0,by decide,rfl,by cases b4<;>cases b5<;>cases b6<;>cases b7<;>rfl⟩
  case round=>
   obtain⟨k,H,rfl,rfl⟩:=hrel;have u:k=0\/k=1\/k=2\/k=3\/k=4:=agE;rcases u with rfl|rfl|rfl|rfl|rfl
   ·have hn:jU b4 b5 b6 b7 1=jU b4 b5 b6 b7 0+(if b4=true then 1 else 0):=aha;have hw:=xy b4 b5 b6 b7 0;have HN:=hid hn;obtain⟨x,a⟩:=aq (jU b4 b5 b6 b7 0);rw[a]at HN hw⊢;clear hn a HR;cases b4<;>exact adb
   ·have hn:jU b4 b5 b6 b7 2=jU b4 b5 b6 b7 1+(if b5=true then 1 else 0):=aha;have hw:=xy b4 b5 b6 b7 1;have HN:=hid hn;obtain⟨x,a⟩:=aq (jU b4 b5 b6 b7 1);rw[a]at HN hw⊢;clear hn a HR;cases b5<;>exact adb
   ·have hn:jU b4 b5 b6 b7 3=jU b4 b5 b6 b7 2+(if b6=true then 1 else 0):=aha;have hw:=xy b4 b5 b6 b7 2;have HN:=hid hn;obtain⟨x,a⟩:=aq (jU b4 b5 b6 b7 2);rw[a]at HN hw⊢;clear hn a HR;cases b6<;>exact adb
   ·have hn:jU b4 b5 b6 b7 4=jU b4 b5 b6 b7 3+(if b7=true then 1 else 0):=aha;have hw:=xy b4 b5 b6 b7 3;have HN:=hid hn;obtain⟨x,a⟩:=aq (jU b4 b5 b6 b7 3);rw[a]at HN hw⊢;clear hn a HR;cases b7<;>exact adb
   ·have G:jU b4 b5 b6 b7 4=(if b4=true then 1 else 0)+(if b5=true then 1 else 0)+(if b6=true then 1 else 0)+(if b7=true then 1 else 0):=aha;rw[<-G]at HR;obtain⟨x,a⟩:=aq (jU b4 b5 b6 b7 4);rw[a]at HR⊢;clear G a H;by_cases A:1<x
    ·have HS:Hid (R=false):=(by show _=_;rw[<-HR.o,if_pos (.inl A)]);clear HR;go_wp2;exact afN
    ·cases b5 with
     |false=>
      rw[if_neg (by simp[A])]at HR;rcases Vx b4 m with⟨rfl,rfl⟩|rfl|⟨rfl,rfl⟩
      ·exact Ri
      all_goals
       rcases Vx b6 h with⟨rfl,rfl⟩|rfl|⟨rfl,rfl⟩
       ·exact Ri
       all_goals
        rcases Vx b7 t with⟨rfl,rfl⟩|rfl|⟨rfl,rfl⟩<;>exact Ri
     |true=>
      by_cases c:o=32
      ·have q:(o != 32)=false:=agM;rw[if_neg (by simp[A,c])]at HR;clear c;rcases Vx b4 m with⟨rfl,rfl⟩|rfl|⟨rfl,rfl⟩
       ·exact Ri
       all_goals
        rcases Vx b6 h with⟨rfl,rfl⟩|rfl|⟨rfl,rfl⟩
        ·exact Ri
        all_goals
         rcases Vx b7 t with⟨rfl,rfl⟩|rfl|⟨rfl,rfl⟩
         ·exact Ri
         all_goals cases E<;>exact Ri
      ·have q:(o != 32)=true:=(by rw[fj];exact c);have HS:Hid (R=false):=(by show _=_;rw[<-HR.o,if_pos (.inr ⟨rfl,c⟩)]);clear HR c;exact agz
end Go.Proofs.YtlfifnpjeangmaaGreatDoor
