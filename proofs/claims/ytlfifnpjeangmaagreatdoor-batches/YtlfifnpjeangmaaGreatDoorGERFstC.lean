import Derived.Test.YtlfifnpjeangmaaGreatDoorGERGivB
namespace Go.Proofs.YtlfifnpjeangmaaGreatDoor
open Go.RowKit
set_option maxRecDepth 100000
theorem Ct{P:Program}{c:Code}{Q:Exit->Act->World->Prop}{a:Act}{W:World}(X:World->Prop)(b:X W)(h:∀V,X V->Code.wp P c Q a V):Code.wp P c Q a W:=h W b
theorem IW{K:Act->World->Prop}{a:Act}{W:World}(X:World->Prop)(b:X W)(h:∀V,X V->K a V):K a W:=h W b
structure F2(w W:World)(base yb:Nat)(M:DM)(g:RG)(gv:Nat)(v0 v1 v2 v3 v4:Int)(z:Value)(o:Option (Int×List UInt8))(x s:RE)(bx bs:Nat):Prop where
 f:FS w W base yb M g gv v0 v1 v2 v3 v4 z o
 x:W.rangeAt bx 0 x.cells
 s:W.rangeAt bs 0 s.cells
theorem F2.grown{w W W':World}{base a:Nat}{M:DM}{g:RG}{c:Nat}{v0 v1 v2 v3 v4:Int}{z:Value}{o:Option (Int×List UInt8)}{x s:RE}{b d:Nat}(h:F2 w W base a M g c v0 v1 v2 v3 v4 z o x s b d)(k:W.grownBy W' none):F2 w W' base a M g c v0 v1 v2 v3 v4 z o x s b d:=
 ⟨h.f.grown k,aB h.x k,aB h.s k⟩
structure FT(U W:World)(fl se:Int)(cl:List UInt8)(au st fi rn:Int):Prop where
 g:U.grownBy W none
 t:W.rangeAt U.heap.size 0 [ι fl,υ se,.string cl,ι au,ι st,ι fi,ι rn]
 l:Live W U.heap.size 7
section
variable {U W:World}{fl se:Int}{cl:List UInt8}{au st fi rn:Int}
theorem FT.new(U)(fl se)(cl)(au st fi rn):FT U (U.alloc (.cells #[ι fl,υ se,.string ⟨cl.toArray⟩,ι au,ι st,ι fi,ι rn] 43)) fl se cl au st fi rn:=
 ⟨cx U _ none,aS U #[ι fl,υ se,.string cl,ι au,ι st,ι fi,ι rn] _,Live.new U #[ι fl,υ se,.string cl,ι au,ι st,ι fi,ι rn] _⟩
theorem FT.grown{W':World}(h:FT U W fl se cl au st fi rn)(k:W.grownBy W' none):FT U W' fl se cl au st fi rn:=
 ⟨aa h.g k,aB h.t k,h.l.grown k⟩
theorem FT.drew(h:FT U W fl se cl au st fi rn):FT U W.drew fl se cl au st fi rn:=h.grown (bg (cC _ _))
theorem FT.Bz(h:FT U W fl se cl au st fi rn)(v):FT U (W.setCell (U,0) (ι v)) v se cl au st fi rn:=
 ⟨az h.g (cy _),range_one h.t agI _,dH h.l _⟩
theorem FT.setSt(h:FT U W fl se cl au st fi rn)(v):FT U (W.setCell (U,4) (ι v)) fl se cl au v fi rn:=
 ⟨az h.g (cy _),range_one h.t agI _,dH h.l _⟩
theorem FT.xS(h:FT U W fl se cl au st fi rn)(v):FT U (W.setCell (U,5) (ι v)) fl se cl au st v rn:=
 ⟨az h.g (cy _),range_one h.t agI _,dH h.l _⟩
theorem FT.Q7(h:FT U W fl se cl au st fi rn)(a f)(i)(e b c d):FT U (((((((W.setCell (U,0) (ι a)).setCell (U,1) (υ f)).setCell (U,2) (.string ⟨i.toArray⟩)).setCell (U,3) (ι e)).setCell (U,4) (ι b)).setCell (U,5) (ι c)).setCell (U,6) (ι d)) a f i e b c d:=
 ⟨az (az (az (by grind [az,FT.g]) (cy _)) (cy _)) (cy _),fe h.l _ _ _ _ _ _ _,dH (dH (dH (by grind [dH,FT.l]) _) _) _⟩
theorem FT.tc(h:FT U W fl se cl au st fi rn):W.cell? (U,0)=some (ι fl)/\W.cell? (U,1)=some (υ se)/\W.cell? (U,2)=some (.string cl)/\W.cell? (U,3)=some (ι au)/\W.cell? (U,4)=some (ι st)/\W.cell? (U,5)=some (ι fi)/\W.cell? (U,6)=some (ι rn):=
 ⟨h.t 0 _ rfl,h.t 1 _ rfl,h.t 2 _ rfl,h.t 3 _ rfl,h.t 4 _ rfl,h.t 5 _ rfl,h.t 6 _ rfl⟩
end
theorem FT.c41{w U W:World}{base e:Nat}{M:DM}{g:RG}{c:Nat}{v0 v1 v2 v3 v4:Int}{z:Value}{o:Option (Int×List UInt8)}{x s:RE}{b d:Nat}{fl se:Int}{cl:List UInt8}{au st fi rn:Int}(a:F2 w U base e M g c v0 v1 v2 v3 v4 z o x s b d)(h:FT U W fl se cl au st fi rn):W.cell? (c,2)=some (ι v2)/\W.cell? (U,4)=some (ι st)/\W.cell? (b,3)=some (ι x.bI)/\W.cell? (d,3)=some (ι s.bI):=
 ⟨(aB a.f.v h.g) 2 _ rfl,h.t 4 _ rfl,(aB a.x h.g) 3 _ rfl,(aB a.s h.g) 3 _ rfl⟩
theorem Kj(b old)(x s)(start a):(if zX b old x s 4 2=true then fu b old x s start a else 0)=fu b old x s start a:=by
 rw[uO];cases zX b old x s 4 2<;>rfl
theorem Q8{now:Int}{q:FQ}{x s:BE}(b:In64 now)(d:In64 q.ma)(a:In64 q.dI)(c:In64 q.bW):(mH now q x s).In:=by
 refine⟨?_,b,?_,Bu now q x s a,?_⟩
 ·show In64 (32+(if q.pre.isSome then 64 else 0)+(if aI q.aO 8=true then 24 else 0)+gY q.aO 7 x s);unfold gY In64;(repeat' split)<;>omega
 ·show In64 (bH now q);grind [bH]
 ·show In64 (fu q.aO 7 x s (bH now q) (asked q.bW));unfold fu;split
  ·exact lG c
  ·exact gL
theorem xq{l:List UInt8}(h:cO l=true):l.length<=90:=by
 grind [cO]
theorem EY{n:Int}(h:1<=n/\n<=((4611686018427387904:Nat):Int)):In64 n:=by
 unfold In64;omega
theorem NN{base a:Nat}{M:DM}{g:RG}{e:GR}{w w':World}(f:M.aL.length<24)(c:RD w base a M g)(k:w.grownBy w' none):Cs base a M g (.ok e) w w' (.slice none 0 0) 60:=
 ⟨(if_pos f).symm,λ_=>⟨rfl,c.keep (λb d=>k.block b (c.lt b d).2 agI),k⟩,λh=>absurd h agF⟩
section
variable {aA now:Int}{q:FQ}{x s:BE}
theorem Zv(h:eT aA now x q.pre≠0):cB aA now q x s=eT aA now x q.pre:=by unfold cB;rw[if_pos h]
theorem Zw(h:eT aA now x q.pre=0)(a:q.aO<0\/15<q.aO):cB aA now q x s=13:=by
 unfold cB;rw[if_neg (λk=>k h),if_pos a]
theorem SY(h:eT aA now x q.pre=0)(a:¬ (q.aO<0\/15<q.aO))(c:aI q.aO 8=true)(b:¬ (x.has 16=true/\s.has 16=true)):cB aA now q x s=10:=by
 unfold cB;rw[if_neg (λk=>k h),if_neg a,if_pos ⟨c,b⟩]
theorem acY(h:eT aA now x q.pre=0)(b:¬ (q.aO<0\/15<q.aO))(a:aI q.aO 8=false)(c:aW now aA<q.ma):cB aA now q x s=10:=by
 unfold cB;rw[if_neg (λk=>k h),if_neg b,if_neg (by rw[a];simp),if_pos ⟨a,c⟩]
def Ta(aA now:Int)(q:FQ)(x s:BE):Prop:=(aI q.aO 8=true->x.has 16=true/\s.has 16=true)/\(aI q.aO 8=false->¬ aW now aA<q.ma)
theorem agh(h:eT aA now x q.pre=0)(b:¬ (q.aO<0\/15<q.aO))(a:Ta aA now q x s):cB aA now q x s=if fK now q x s<=bH now q then 11 else 0:=by
 unfold cB;rw[if_neg (λk=>k h),if_neg b,if_neg (λk=>k.2 (a.1 k.1)),if_neg (λk=>a.2 k.1 k.2)]
end
end Go.Proofs.YtlfifnpjeangmaaGreatDoor
namespace Go.Proofs.YtlfifnpjeangmaaGreatDoor
open Go.RowKit
set_option maxRecDepth 100000
variable {M:DM}{now:Int}{n:Nat}
structure dX(M:DM)(n:Nat):Prop where
 aG:fU n M.aG
 IX:∀e∈M.aG,In64 e.bI/\In64 e.aC
 aA:In64 M.aA
 aL:M.aL.length<=140737488355328
 times:∀y∈M.aJ,In64 y.time
theorem dX.mono{m:Nat}(h:dX M n)(a:n<=m):dX M m:=⟨h.aG.mono a,h.IX,h.aA,h.aL,h.times⟩
theorem dX.new{aA:Int}{zs:List UInt8}(d:0<=aA)(c:aA<=300)(b:zs.length<=140737488355328)(n):dX ⟨aA,[],[],zs⟩ n:=
 ⟨fU.nil n,λe a=>(by cases a),⟨by show _<=aA;omega,by show aA<=_;omega⟩,b,λy hy=>by cases hy⟩
theorem dX.bin(h:dX M n)(hn:n<=4611686018427387904):∀e∈M.aG,e.In:=λe a=>
 ⟨⟨(h.aG.num e a).1,by have:=(h.aG.num e a).2;omega⟩,(h.IX e a).1,(h.IX e a).2,by have:=xq (h.aG.name e a);omega⟩
theorem NP(M)(now)(R):∃ds,(dz M now R).2={M with aL:=ds}/\ds.length<=M.aL.length:=by
 unfold dz;cases R with
 |error c=>exact⟨M.aL,rfl,cy _⟩
 |ok g=>
  dsimp only;split
  ·exact⟨M.aL,rfl,cy _⟩
  ·exact⟨M.aL.drop 24,rfl,by rw[dr];omega⟩
theorem Q9{aA:Int}{l:List PF}{p:PF}(h:∀y∈l,In64 y.time)(a:In64 p.time):∀y∈bJ aA now l p,In64 y.time:=by
 intro y hy;have hn:∀y∈iQ aA now l,In64 y.time:=λy hy=>h y (List.mem_filter.1 hy).1;unfold bJ at hy;split at hy
 ·rcases eW.1 hy with hy|hy
  ·exact hn y hy
  ·rw[ew.1 hy];exact a
 ·exact hn y hy
theorem Vo{q:NQ}{t:TK}{p:PF}(h:iV M now q=.ok (t,p)):In64 p.time:=by
 unfold iV at h;split at h
 ·cases h
 ·split at h
  ·cases h
  ·split at h
   ·cases h
   ·split at h
    ·cases h
    ·split at h
     ·cases h
     ·rename_i p' hp;split at h
      ·cases h
      ·split at h
       ·cases h
       ·injection h with h;injection h with h1 h2;subst h1 h2;rw[yx]at hp;split at hp
        ·injection hp with hp;rw[<-hp];exact YD _
        ·cases hp
theorem dX.draw(h:dX M n){ds:List UInt8}(a:ds.length<=M.aL.length):dX {M with aL:=ds} n:=⟨h.aG,h.IX,h.aA,cE a h.aL,h.times⟩
theorem dX.proof(h:dX M n){ps:List PF}(a:∀y∈ps,In64 y.time):dX {M with aJ:=ps} n:=⟨h.aG,h.IX,h.aA,h.aL,a⟩
theorem dX.fin(h:dX M n)(now)(R):dX (dz M now R).2 n:=by
 obtain⟨ds,a,b⟩:=NP M now R;rw[a];exact h.draw b
theorem dX.answer(h:dX M n)(now)(b):dX (dG M now b).2 n:=by
 unfold dG;split
 ·exact h.fin now _
 ·split
  ·rename_i q _;unfold tO;split
   ·exact h
   ·rename_i t p hp;have a:dX {M with aJ:=bJ M.aA now M.aJ p} n:=h.proof (Q9 h.times (Vo hp));dsimp only;split
    ·exact a
    ·exact a.fin now _
  ·exact h
theorem dX.adm(h:dX M n)(hn:1<=n)(a)(d:In64 a.bI)(f:In64 a.aC):dX {M with aG:=(fB M.aG a).1} (n+1):=by
 refine⟨h.aG.fB hn a,?_,h.aA,h.aL,h.times⟩;have c:∀(i)(y),(In64 y.bI/\In64 y.aC)->∀e∈M.aG.set i y,In64 e.bI/\In64 e.aC:=by
  intro i y hy e b;rcases List.mem_or_eq_of_mem_set b with b|rfl
  ·exact h.IX e b
  ·exact hy
 show ∀e∈(fB M.aG a).1,_;unfold fB;split
 ·split
  ·exact h.IX
  ·split
   ·exact h.IX
   ·split
    ·exact h.IX
    ·split
     ·exact h.IX
     ·intro e b;rcases eW.1 b with b|b
      ·rcases eW.1 b with b|b
       ·exact h.IX e (List.mem_of_mem_take b)
       ·rw[ew.1 b];exact⟨d,f⟩
      ·exact h.IX e (List.mem_of_mem_drop b)
 ·split
  ·split
   ·exact h.IX
   ·split
    ·intro e b;rcases eW.1 b with b|b
     ·exact h.IX e (List.mem_of_mem_take b)
     ·exact h.IX e (List.mem_of_mem_drop b)
    ·split
     ·exact h.IX
     ·rename_i x hx;split
      ·exact c _ _ (h.IX x (ey hx))
      ·split
       ·exact h.IX
       ·exact c _ _ ⟨d,f⟩
  ·exact h.IX
theorem AZ{l:List (List UInt8)}(h:l.flatten.length<=n):(jN l).length<=n+4:=cE (oM 48 _) (Nat.add_le_add_right h 4)
theorem lJ(v):(bR v).length<=10:=(fo v).2
theorem Zx(k):(nC k).length<=12:=cE (oM 4 _) (by rw[Pure.dm];exact cy _)
theorem ab2{p:Prop}(h:p:=by
 simp only[eI,List.flatten_nil,cD,List.length_nil]
 omega):p:=h
theorem rM(now c):(aY now c).length<=900:=by
 unfold aY;have a:=lJ 30;have d:=lJ now;have b:=lJ c;refine cE (AZ (n:=30) ?_) agF;exact ab2
theorem acZ(c)(t)(s)(e f)(key d a b)(j:t.ay.length<=90)(i:s.name.length<=90):(lU c t s e f key d a b).length<=900:=by
 have l:t.plain.length<=160:=by
  unfold TK.plain;have:=lJ t.ae;have:=lJ t.dV;have:=lJ t.start;have:=lJ t.fin;have:=lJ t.aC;have:=Zx t.aN;have:(dw t.ay).length<=94:=cE (oM 4 _) agE;refine cE (AZ (n:=156) ?_) agF;exact ab2
 have k:(oq t e s).length<=170:=by
  unfold oq;have:=lJ e;have:=lJ t.ae;have:=lJ t.dV;have:=lJ t.start;have:=lJ t.fin;have:=lJ t.aC;have:=Zx t.aN;have:(dw s.name).length<=94:=cE (oM 4 _) agE;refine cE (AZ (n:=166) ?_) agF;exact ab2
 have g:(wR t s a).length<=288:=by
  unfold wR;have:=lJ s.aH;have:(dw s.name).length<=94:=cE (oM 4 _) agE;have:(dw (Pure.fE s.key 2 a t.plain)).length<=180:=cE (oM 4 _) ahj;refine cE (AZ (n:=284) ?_) agF;exact ab2
 have h:(jN [bR f,dw (Pure.fE key d b (oq t e s))]).length<=204:=by
  have:=lJ f;have:(dw (Pure.fE key d b (oq t e s))).length<=190:=cE (oM 4 _) ahj;refine cE (AZ (n:=200) ?_) agF;exact ab2
 unfold lU;have:=lJ c;have:(dw t.ay).length<=94:=cE (oM 4 _) agE;refine cE (AZ (n:=596) ?_) agF;exact ab2
theorem afx{p:Prop}(h:p:=by
 split at h
 ·cases h
 ·injection h with h;rw[<-h]):p:=h
theorem Kk{old t:TK}{x s:BE}{a bW b:Int}(h:fresh now old x s a bW b=.ok t):t.ay=old.ay:=by
 unfold fresh at h;split at h
 ·exact afx
 ·split at h
  ·exact afx
  ·exact afx
theorem Zy{R:Except Int GR}(h:∀g,R=.ok g->g.t.ay.length<=90/\g.s.name.length<=90):(dz M now R).1.length<=900:=by
 unfold dz;cases R with
 |error c=>exact rM now c
 |ok g=>
  dsimp only;split
  ·exact rM now 60
  ·exact acZ _ _ _ _ _ _ _ _ _ (h g rfl).1 (h g rfl).2
theorem Cu(h:dX M n){l:List UInt8}{e:BE}(b:BE.find M.aG l=some e):l.length<=90/\e.name.length<=90:=by
 have a:=xq (h.aG.name e (mq b));exact⟨by rw[<-lV b];exact a,a⟩
theorem A7(h:dX M n)(now)(b):(dG M now b).1.length<=900:=by
 unfold dG;split
 ·rename_i q _;refine Zy (λg a=>?_);unfold firstM at a;split at a
  ·cases a
  ·cases a
  ·rename_i x s hx hs;split at a
   ·cases a
   ·split at a
    ·cases a
    ·injection a with a;rw[<-a];exact⟨(Cu h hx).1,(Cu h hs).2⟩
 ·split
  ·rename_i q _;unfold tO;split
   ·exact rM now _
   ·rename_i t p hp;dsimp only;split
    ·exact rM now _
    ·refine Zy (λg a=>?_);unfold ek at a;split at a
     ·cases a
     ·split at a
      ·cases a
      ·split at a
       ·cases a
       ·cases a
       ·rename_i s x hs hx;split at a
        ·cases a
        ·split at a
         ·cases a
         ·split at a
          ·cases a
          ·rename_i u hu;injection a with a;rw[<-a];exact⟨by show u.ay.length<=90;rw[Kk hu];exact(Cu h hx).1,(Cu h hs).2⟩
  ·exact rM now 60
set_option linter.unusedSimpArgs false
theorem yI(k):Builtin.zeroCells #[.int .u8 0] k=((List.replicate k (0:UInt8)).map U8).toArray:=by
 unfold Builtin.zeroCells;apply Array.ext';simp only[List.map_replicate];refine List.ext_getElem agI (λj a b=>?_);simp[U8,Nat.mod_one]
theorem GV{P:Program}(w)(t D L e)(i)(Q)(A:P.underlying t=some (.slice e))(b:P.underlying D=some (.int Q))(B:P.info? e=some i)(S:i.zero=some (.int .u8 0))(J:i.size=1)(K:i.bytes=1)(v)(p)(a)(hv:Out w v p a)(k:Nat)(hk:k<=1000)(hl:a.length<=1000000):
  ∃X w',(Builtin.append_ #[t,D] L #[v,ι k]).run P w=.ok X w'/\aU w w' X p (a++List.replicate k 0):=by
 have hw:IntKind.i64.wrap (k:Int)=k:=ag6
 have x:¬ ((k:Int)<0):=agE
 have G:IntKind.i64.wrap 0=0:=agF
 have C:¬ (281474976710656<(k:Int)*(i.bytes:Int)):=by rw[K];omega
 have z:a.length+k<=maxLen:=ag1
 rcases hv with⟨l,rfl,rfl⟩|⟨q,l,rfl,h1,Z,M,Y⟩
 ·by_cases I:k=0
  ·subst I;refine⟨.slice none 0 0,w,?_,⟨none,by simpa using Out.nil w,CF.refl _ _,.inl l.symm,λ_ _ _=>l.symm⟩⟩;simp[Builtin.append_,run_underlying A,run_underlying b,sizeOf,typeInfo,B,asInt,asIntOf,G]
  ·have s:=Lib.run_append_nil_zeros (P:=P) w t D L e i (.int .u8 0) .i64 Q A b B S k agE agE agE (by rw[K];omega);have V:=grownCap_ge w k 0 e;have c:grownCap w k 0 e<=maxLen:=(by grind [grownCap_le_maxLen])
   obtain⟨m,r⟩:∃m,grownCap w k 0 e=k+m:=⟨grownCap w k 0 e-k,by omega⟩
   rw[r]at s c;obtain⟨N,R⟩:=wM w e (List.replicate k 0) k m agI (Pl.has p) c;refine⟨_,_,s,?_⟩;rw[show k+m-k=m from by omega];have T:Builtin.zeroCells (Value.int IntKind.u8 0).cells k=((List.replicate k (0:UInt8)).map U8).toArray:=yI k;rw[T];exact⟨some ⟨w.heap.size,0,k+m⟩,N,R,.inr (λq f=>by injection f with f;subst f;exact cy _),λq f=>by rw[l]at f;cases f⟩
 ·by_cases d:a.length+k<=q.cap
  ·have o:=run_storeCells_cells (P:=P) q.g (q.off+a.length) ((List.replicate k (0:UInt8)).map U8) 0 w (λj hj=>M.some _ (by simp at hj;omega)) (λj _=>M.frozen _) (oQ _);simp only[ft]at o;have hc:(Builtin.append_ #[t,D] L #[.slice (some (q.g,q.off)) a.length q.cap,ι k]).run P w=.ok (.slice (some (q.g,q.off)) (a.length+k) q.cap) (w.setCells q.g (q.off+a.length) ((List.replicate k (0:UInt8)).map U8)):=by
    by_cases I:k=0
    ·subst I;simp[Builtin.append_,run_underlying A,run_underlying b,sizeOf,typeInfo,B,asInt,asIntOf,G,J,h1,storeCells,World.setCells]
    ·have U:¬ (k*i.size=0):=(by rw[J];omega);simp[Builtin.append_,run_underlying A,run_underlying b,sizeOf,typeInfo,zeroValue,B,S,asInt,asIntOf,hw,x,U,I,C,d,J,Addr.add_lit,Value.cells,yI,o];have W:=o;simp only[List.map_replicate]at W;rw[W];rfl
   have F:CF w (w.setCells q.g (q.off+a.length) ((List.replicate k (0:UInt8)).map U8)) (Pl.has p):=by
    refine CF.setCells q.g _ _ w (CF.refl _ _) (λj hj _=>⟨q,l,rfl,?_,?_⟩)
    ·omega
    ·simp at hj;omega
   refine⟨_,_,hc,⟨some q,?_,F,.inl l.symm,λ_ _ _=>l.symm⟩⟩;refine .inr ⟨q,rfl,by simp,by simpa using d,Z,M.cf F,?_⟩;intro j u n;rw[eg]at n;by_cases hj:j<a.length
   ·rw[cW aiV]at n;rw[World.cell?_setCells_out q.g _ _ w _ agM];exact Y j u n
   ·rw[cY (by simpa using Nat.le_of_not_lt hj),cR]at n;have E:=(cM.1 n).1;have:=World.cell?_setCells_in q.g ((List.replicate k (0:UInt8)).map U8) (q.off+a.length) w (λm r=>M.some _ (by simp at r;omega)) (j-a.length) E;rw[show q.off+a.length+(j-a.length)=q.off+j from by omega]at this;rw[this,<-n,cL E]
  ·have H:(Builtin.firstCells i.size a.length (.slice (some (q.g,q.off)) a.length q.cap)).run P w.drew=.ok (a.map U8).toArray w.drew:=
    run_firstCells_some w.drew _ a.length ⟨q.g,q.off,none⟩ a.length q.cap (a.map U8) (by simp[J]) (λj u n=>by rw[Addr.add_lit];exact Y j u n)
   have y:=growslice_fits (need:=a.length+k) (old:=q.cap) (bytes:=i.bytes) agE (by rw[K];omega);have s:=Lib.run_append_grow_zeros (P:=P) w t D L e i (.int .u8 0) .i64 Q A b B S (some ⟨q.g,q.off,none⟩) a.length q.cap (a.map U8) H k agE agE agE agE (by rw[K];omega) y;have V:=grownCap_ge w (a.length+k) q.cap e;have c:=grownCap_le_maxLen w _ q.cap e z;obtain⟨m,r⟩:∃m,grownCap w (a.length+k) q.cap e=a.length+k+m:=⟨grownCap w (a.length+k) q.cap e-(a.length+k),by omega⟩
   rw[r]at s c;obtain⟨N,R⟩:=wM w e (a++List.replicate k 0) (a.length+k) m agI (Pl.has p) c;refine⟨_,_,s,?_⟩;rw[show a.length+k+m-(a.length+k)=m from by omega];have T:(a.map U8).toArray++Builtin.zeroCells (Value.int IntKind.u8 0).cells k=((a++List.replicate k 0).map U8).toArray:=by
    rw[show(Value.int IntKind.u8 0).cells=#[.int .u8 0] from rfl,yI,eg];simp
   rw[T];refine⟨some ⟨w.heap.size,0,a.length+k+m⟩,N,R,.inr (λq f=>by injection f with f;subst f;exact cy _),λq' h O=>?_⟩;rw[l]at h;injection h with h;subst h;simp at O;omega
variable {P:Program}
theorem NT(b)(e:∀v∈b,v.cells=#[v]):∀(k)(a),k+b.length<=a.size->
  Instr.fill (λi=>some (i*1,1)) a ((b.zipIdx k).map λx=>(x.2,x.1))=some ((a.toList.take k++b++a.toList.drop (k+b.length)).toArray):=by
 induction b with
 |nil=>
  intro k a _;simp[Instr.fill]
 |cons v b l=>
  intro k a g;simp only[de]at g;have m:=e v agI;have d:=l (λu h=>e u (by simp[h])) (k+1);simp only[List.zipIdx_cons,eE,Instr.fill,m];have j:(decide (#[v].size≠1)||decide (k*1 + #[v].size > a.size))=false:=by
   have n:¬ (k*1+1 > a.size):=agE;simp;omega
  have f:Array.foldl (λcs x=>cs.setIfInBounds (k*1+x.snd) x.fst) a #[v].zipIdx=a.setIfInBounds k v:=by
   grind
  rw[j,f];simp only[fL,if_false];rw[d (a.setIfInBounds k v) ag2];congr 2;have c:k<a.toList.length:=ag2;rw[Array.toList_setIfInBounds,de];rw[show k+(b.length+1)=k+1+b.length from by omega];rw[List.drop_set_of_lt agE];rw[dy (by simpa using c),List.getElem_set_self,List.take_set_of_le agE];simp
theorem ac1(w)(t e)(i)(z)(f:P.underlying t=some (.slice e))(h:P.info? e=some i)(j:i.size=1)(k:i.zero=some z)(a:List Value)(n)(hn:a.length=n)(m:0<n)(l:n<=1000)(g:∀v∈a,v.cells=#[v]):
  (Instr.buildSlice t n ((a.zipIdx.map λx=>(x.2,x.1)).toArray)).run P w=.ok (.slice (some (w.heap.size,0)) n n) (w.alloc (.cells a.toArray e)):=by
 subst hn
 have c:Instr.fill (λi=>some (i*1,1)) ((Array.range (a.length*1)).map (z.cells[· % z.cells.size]!)) (a.zipIdx.map λx=>(x.2,x.1))=some a.toArray:=by
  rw[NT a g 0 _ agI];simp
 have d:¬ (16777216<a.length*1):=agE
 have b:¬ (a.length*1=0):=agE
 simp only[fR]at d b
 unfold Instr.buildSlice
 simp[run_underlying f,sizeOf,typeInfo,h,j,zeroValue,k,d,b]
 simp only[fR]at c
 rw[c]
 simp[newRow]
theorem agj{o:Oper}{a:Act}{w:World}{K:Act->World->Prop}{Q:Exit->Act->World->Prop}(t)(n)(b)(d:o.op=.buildSlice t n b)(e)(i)(z)(h:P.underlying t=some (.slice e))(m:P.info? e=some i)(p:i.size=1)(r:i.zero=some z)(c:List Value)(f:(b.toList.map λx=>(x.1,a.eval x.2))=c.zipIdx.map λx=>(x.2,x.1))(hn:c.length=n)(q:0<n)(g:n<=1000)(j:∀v∈c,v.cells=#[v])(s:K (a.put o.dst (.slice (some (w,0)) n n)) (w.alloc (.cells c.toArray e))):Oper.wp P o a w K Q:=by
 have l:=ac1 (P:=P) w t e i z h m p r c n hn q g j
 unfold Oper.wp
 simp only[execOp,d]
 have k:(b.map λ(i,x)=>(i,a.eval x))=(c.zipIdx.map λx=>(x.2,x.1)).toArray:=by
  rw[<-f];apply Array.ext';simp
 rw[k]
 simp[l]
 exact s
theorem Acc.bsl{W:World}{B:Nat}{L:List (Value×List UInt8)}(h:Acc W B L){o:Oper}{a:Act}{K:Act->World->Prop}{Q:Exit->Act->World->Prop}(t)(n)(b)(d:o.op=.buildSlice t n b)(e)(i)(z)(j:P.underlying t=some (.slice e))(m:P.info? e=some i)(p:i.size=1)(s:i.zero=some z)(f:(b.toList.map λx=>(x.1,a.eval x.2))=((L.reverse.map λx=>x.1).zipIdx).map λx=>(x.2,x.1))(hn:(L.reverse.map λx=>x.1).length=n)(r:0<n)(g:n<=1000)(u:K (a.put o.dst (.slice (some (W,0)) n n)) (W.alloc (.cells (L.reverse.map λx=>x.1).toArray e))):Oper.wp P o a W K Q:=
 agj t n b d e i z j m p s _ f hn r g (λv q=>by
  obtain⟨x,l,rfl⟩:=List.mem_map.1 q
  obtain⟨a,c,k⟩:=(h x (List.mem_reverse.1 l)).1.shape
  rw[k]
  rfl) u
theorem Tryz.A9:(Tryz.prog.info? 37).map (λi=>(i.zero,i.size,i.bytes))=some (some (.slice none 0 0),1,24):=by kernel_rfl
theorem ag5{p:Prop}(h:p:=by first|exact jT _ _ (by decide)|exact fI _ _ (by omega)|exact fI _ _ (by rw[Pure.dm];decide)|exact fI _ _ (by rw[Pure.dx];omega)|exact fI _ _ (by decide)):p:=h
variable {p q r:Prop}
theorem bx0{s:Prop}(C:r)(B:s)(k:q)(h:r->s->Hid q->p:=by intro C5 B5 hq;intro K hK;refine Calls.mono C5 ?_;rintro e V5 ⟨o5,rfl,q5,g5⟩;obtain⟨a5,c5,rfl⟩:=q5.shape;have uJ:=hid (HA.o.push g5 q5 ag5);have Tc:=hid (aa dY.o g5);clear q5 g5;go_wp2_with fail;refine hK.out _ _ (.inr Tc.o) ?_;(try simp only[Act.put,List.getElem_toArray,List.getElem_cons_zero,List.getElem_cons_succ,eh,ej,eJ]);revert uJ Tc;revert V5 a5 c5;exact hq.o):p:=h C B (hid k)
theorem bx1{s:Prop}(C:r)(B:s)(k:q)(h:r->s->Hid q->p:=by intro C5 B5 hq;intro K hK;refine Calls.mono C5 ?_;rintro e V5 ⟨o5,rfl,q5,g5⟩;obtain⟨a5,c5,rfl⟩:=q5.shape;have uJ:=hid (HA.o.push g5 q5 ag5);have Tc:=hid (aa dY.o g5);have HZ5:=hid (HZ.o.grown g5);clear q5 g5;go_wp2_with fail;refine hK.out _ _ (.inr Tc.o) ?_;(try simp only[Act.put,List.getElem_toArray,List.getElem_cons_zero,List.getElem_cons_succ,eh,ej,eJ]);revert uJ Tc HZ5;revert V5 a5 c5;exact hq.o):p:=h C B (hid k)
theorem bx2{s:Prop}(C:r)(B:s)(k:q)(h:r->s->Hid q->p:=by intro C5 B5 hq;intro K hK;refine Calls.mono C5 ?_;rintro e V5 ⟨o5,rfl,q5,g5⟩;obtain⟨a5,c5,rfl⟩:=q5.shape;have uJ:=hid (HA.o.push g5 q5 ag5);have Tc:=hid (aa dY.o g5);have HZ5:=hid (HZ.o.grown g5);have HB5:=hid (HB.o.grown g5);clear q5 g5;go_wp2_with fail;refine hK.out _ _ (.inr Tc.o) ?_;(try simp only[Act.put,List.getElem_toArray,List.getElem_cons_zero,List.getElem_cons_succ,eh,ej,eJ]);revert uJ Tc HZ5 HB5;revert V5 a5 c5;exact hq.o):p:=h C B (hid k)
set_option maxHeartbeats 16000000
open Proofs.Tryz
theorem kE{P:Program}{c:Code}{Q:Exit->Act->World->Prop}{a:Act}{W:World}(X:World->Prop)(b:X W)(h:∀V,X V->Code.wp P c Q a V):Code.wp P c Q a W:=h W b
theorem Kn{p q:Prop}(k:q)(h:q->p:=by
  intro hq
  obtain⟨t0,t1,t2,t3,t4,t5,t6⟩:=HW.o.tc
  obtain⟨⟨d0,k0⟩,⟨d1,k1⟩,⟨d2,k2⟩,⟨d3,k3⟩,⟨d4,k4⟩,⟨d5,k5⟩,⟨d6,k6⟩,f0,f1,f2,f3,f4,f5,f6⟩:=pR HW.o.r
  go_wp2
  refine bodyPost_ret (aF results109 _ _ _ (w.heap.size+1) rfl _ (iE (fe HW.o.r _ _ _ _ _ _ _))) rfl ?_
  exact hq):p:=h k
theorem Vq(base j:Nat)(M)(g)(now)(q)(z pv)(w)(hD:RD w base j M g)(bk:fU 4611686018427387904 M.aG)(aP:base<=w.heap.size)(hz:vX w z q.dO)(bX:q.dO.length<=900)(hp:vX w pv q.proof)(bQ:q.proof.length<=900)(dA:In64 now)(bW:M.aJ.length<=1000)(Ag:∀y∈M.aJ,In64 y.time):
  Calls prog 109 #[(j,0),ι now,.agg #[.string ⟨q.fQ.toArray⟩,ι q.ou,z],pv,.string ⟨q.aV.toArray⟩,ι q.aO] w λe w'=>∃t c,e=.returned (.tuple #[.agg t.cells.toArray,ι c])/\nR base j g (iH M now q) w w' t c:=by
 obtain⟨A,hA⟩:=aq (iH M now q)
 rw[hA]
 have B:=hid hA
 clear hA
 obtain⟨T0,aw⟩:∃t:TK,t=⟨0,0,[],0,0,0,0⟩:=⟨_,rfl⟩
 have bE:Hid T0.In:=by rw[aw];exact rJ
 obtain⟨n,s,rfl,ak,al,Ut⟩:=hz
 have bx:OW w (((w.alloc (.cells #[.string q.fQ,ι q.ou,.slice n q.dO.length s] 233)).alloc (.cells #[ι 0,υ 0,.string ⟨#[]⟩,ι 0,ι 0,ι 0,ι 0] 43)).alloc (.cells #[ι 0,υ 0,.string ⟨#[]⟩,ι 0,ι 0,ι 0,ι 0] 43)) base j M g q (.slice n q.dO.length s) pv T0:=by
  have k:=λa o=>cx a o none;have G:=aM (aM (cx w (.cells #[.string q.fQ,ι q.ou,.slice n q.dO.length s] 233) none) (.cells #[ι 0,υ 0,.string ⟨#[]⟩,ι 0,ι 0,ι 0,ι 0] 43)) (.cells #[ι 0,υ 0,.string ⟨#[]⟩,ι 0,ι 0,ι 0,ι 0] 43);refine⟨hD.keep (λb hb=>G.block b (hD.lt b hb).2 agI),?_,?_,?_,?_,vX.grown ⟨n,s,rfl,ak,al,Ut⟩ G,hp.grown G,G⟩
  ·exact Kh
  ·exact Kh
  ·rw[aw];exact Kh
  ·exact Kh
 have aR:=hid bx
 have HZ:Hid (vX w (.slice n q.dO.length s) q.dO):=⟨n,s,rfl,ak,al,Ut⟩
 have HP:=hid hp
 have HD:=hid hD
 obtain⟨J,bG⟩:=aq q.dO.length
 rw[bG]at aR HZ⊢
 clear bx ak al Ut hp hD aw
 have Wq:=hid (λW=>eO q.aO 16 4 W agF agF)
 have Zz:=hid (λW=>eO q.aO 32 5 W agF agF)
 obtain⟨b4,h4⟩:=aq (aI q.aO 16)
 obtain⟨b5,h5⟩:=aq (aI q.aO 32)
 rw[h4]at Wq
 rw[h5]at Zz
 obtain⟨ag,a6⟩:=aq ((b4||b5))
 have an:Hid (jA q=(ag&&decide (q.fQ=q.aV))):=by show _=_;rw[<-a6,<-h4,<-h5];rfl
 have aZ:=hid a6
 clear h4 h5 a6
 go_enter func109,ntmps109
 go_upto_region 2 with fail
 refine kE (λV=>OW w V base j M g q (.slice n J s) pv T0) aR.o ?_
 clear aR
 intro W hW
 have HW:=hid hW
 clear hW
 go_cut [15] (λx wx=>x=.bool ag/\W=wx)
 case first=>
  have HX:=hid aZ.o;clear aZ an B;cases b4 with
  |true=>
   go_wp2_with (go_at_call 102;(with_reducible refine Calls.mono (Wq.o _) ?_);rintro e w' ⟨rfl,rfl⟩)
   exact ab8
  |false=>
   go_wp2_with (go_at_call 102;(first|(with_reducible refine Calls.mono (Wq.o _) ?_)|(with_reducible refine Calls.mono (Zz.o _) ?_));rintro e w' ⟨rfl,rfl⟩)
   exact ab8
 case rest=>
  obtain⟨rfl,rfl⟩:=hcut;clear Wq Zz aZ;have c0:W.cell? (w,0)=some (.string q.fQ):=HW.o.c 0 _ rfl;have c1:W.cell? (w,1)=some (ι q.ou):=HW.o.c 1 _ rfl;have c2:W.cell? (w,2)=some (.slice n J s):=HW.o.c 2 _ rfl;obtain⟨bad,ae⟩:=aq ((!decide (q.fQ=[116,103,115])&&!(ag&&decide (q.fQ=q.aV))));have ru:=hid ae;clear ae;go_upto_region 3 with fail
  go_cut [41] (λx wx=>x=.bool bad/\W=wx)
  case first=>
   clear an B;by_cases P:q.fQ=[116,103,115]
   ·have u:=db.2 P;have bR:=hid P;clear P;go_wp2_with fail;exact ab8
   ·have u:=cJ.2 P;have bR:=hid P;clear P;cases ag with
    |false=>
     go_wp2_with fail;exact ab8
    |true=>
     by_cases Q:q.fQ=q.aV
     ·have bD:=db.2 Q;have bH:=hid Q;clear Q;go_wp2_with fail;exact ab8
     ·have bD:=cJ.2 Q;have bH:=hid Q;clear Q;go_wp2_with fail;exact ab8
  case rest=>
   obtain⟨rfl,rfl⟩:=hcut;cases bad with
   |true=>
    have bs:q.fQ≠[116,103,115]/\jA q=false:=by
     grind [RowKit.Hid.o]
    have TT:=hid bs;clear bs;have HS:Hid (A=(.error 36,M)):=(by grind [RowKit.Hid.o,M5]);clear B;refine Kn ?_;exact⟨T0,36,rfl,by grind [Vh,OW.g,RowKit.Hid.o,kD]⟩
   |false=>
    have qa:Hid (q.fQ=[116,103,115]\/jA q=true):=by
     grind [RowKit.Hid.o]
    clear ru an;have CF:=hid (λW (hW:RD W base j M g)=>xm base j M g q.fQ W hW bk.len);have ab:=ui g.es q.fQ;rw[HD.o.aG]at ab;obtain⟨fa,Fb⟩:=aq (fZ g.es q.fQ);rw[Fb]at CF ab;have ar:=hid ab;clear ab Fb;go_wp2_with fail;refine(CF.o _ HW.o.d).mono ?_;rintro e W1 ⟨rfl,g1⟩;have Y:=hid (HW.o.grown g1);clear HW g1 CF c0 c1 c2;rcases ar.o with⟨hm,bB⟩|⟨i,hi,bS,bt⟩
    ·have b8:=hid bB;subst hm;clear ar bB;have HS:Hid (A=(.error 7,M)):=(by grind [RowKit.Hid.o,M6]);clear B;have HW:=Y;refine Kn ?_;exact⟨T0,7,rfl,by grind [RowKit.Hid.o,OW.g,kD,Vh]⟩
    ·have bN:¬ (i:Int)<0:=agE;have bF:(0:Int)<=(i:Int):=agE;obtain⟨gb,cb,bj,br⟩:=uj Y.o.d agE;obtain⟨m,hm⟩:=aq g.es.length;have OD:(i:Int)<(m:Int):=agE;have bz:=hid bj;have HM:=hid hm;have bI:=hid hi;obtain⟨x,ax⟩:=aq (g.es[i]'hi);have bZ:=hid ax;have bq:x.be∈M.aG:=(by grind [RD.aG,RowKit.Hid.o]);have hx:BE.find M.aG q.fQ=some x.be:=(by rw[<-ax];exact bt);have jK:1<=x.aH/\x.aH<=4611686018427387904:=bk.num x.be bq;have HX:=hid hx;subst bS;clear ar hx bt bj br hm ax bq;have CK:=hid (λW=>ET x q.ou W jK.1 (by have:=jK.2;omega));obtain⟨ko,ah⟩:=aq (x.be.keyOf q.ou);rw[ah]at CK;have aT:=hid ah;clear ah jK;obtain⟨kv,aW⟩:∃k:Int,((ko.getD 0).toNat:Int)=k:=⟨_,rfl⟩
     obtain⟨kb,aX⟩:∃k:Bool,ko.isSome=k:=⟨_,rfl⟩
     rw[aW,aX]at CK;have au:=hid aW;have ad:=hid aX;clear aW aX;have wy:Hid (∀V,OW w V base j M g q (.slice n J s) pv T0->V.cell? (j,1)=some (.slice (some (gb,0)) m cb)/\V.rangeAt gb 0 (bK g.es)):=by
      intro V hV;obtain⟨b6,ca,bM,aL⟩:=uj hV.d (by have:=bI.o;omega);have e:=bz.o.symm.trans bM;injection e with e1 e2 e3;injection e1 with e1;injection e1 with e1;subst e1;refine⟨?_,aL⟩;have:=hV.d.bP.blk.cell 1;grind [RowKit.Hid.o]
     go_wp2_with fail;refine aD.start (S:=λV=>OW w V base j M g q (.slice n J s) pv T0) 9 agP ?_;have dY:=hid Y.o.drew;clear Y;refine aD.tk 0 [6,5,3,2,1,0] ?_;refine aD.tk 1 [6,5,3,2,1] ?_;refine aD.tk 2 [6,5,3,2] ?_;refine aD.tk 3 [6,5,3] ?_ (hy:=by intro W hW;have y1:=(wy.o W hW).1;exact kI);refine aD.tk 4 [6,5,4] ?_;refine aD.tk 5 [6,5] ?_;refine aD.tk 6 [6] ?_ (hy:=by intro W hW;have hr:=(wy.o W hW).2;obtain⟨x0,x1,x2,x3,x4,x5,x6,x7,x8,x9⟩:=uP hr i hi;rw[bZ.o]at x0 x1 x2 x3 x4 x5 x6 x7 x8 x9;clear hr;exact kI);refine aD.tk 7 [8,7] ?_;refine aD.tk 8 [8] ?_ (hy:=by intro W hW;have c1:W.cell? ⟨w.heap.size,1,none⟩=some (ι q.ou):=hW.c 1 _ rfl;exact kI);refine aD.on 9 ?_;intro K hK;refine Calls.mono (CK.o _) ?_;rintro e W2 ⟨rfl,g2⟩;have HW:=hid (dY.o.grown g2);clear g2;go_wp2_with fail;refine hkl ?_;clear hK K CK dY;refine aD.fr 10 ?_;refine aD.fr 11 ?_;refine aD.fr 12 ?_;refine aD.fr 13 ?_;refine aD.fr 14 ?_;refine aD.done agP ?_;clear wy bz HM bN bF OD;cases kb with
     |false=>
      have b7:Hid (x.be.keyOf q.ou=none):=(by show _=_;rw[aT.o];have:=ad.o;cases ko with|none=>rfl|some k=>cases this);clear aT au ad;have HS:Hid (A=(.error 44,M)):=(by grind [RowKit.Hid.o,SB]);clear B;refine Kn ?_;exact⟨T0,44,rfl,by grind [RowKit.Hid.o,Vh,OW.g,kD]⟩
     |true=>
      obtain⟨key,af⟩:∃k,ko=some k:=by have:=ad.o;cases ko with|none=>cases this|some k=>exact⟨k,rfl⟩
      have D:Hid (x.be.keyOf q.ou=some key):=agM;have bT:kv=(key.toNat:Int):=(by rw[<-au.o,af];rfl);subst bT;clear aT au ad af;have c2:W2.cell? (w,2)=some (.slice n J s):=HW.o.c 2 _ rfl;have CO:=hid (λW (hW:vX W (.slice n J s) q.dO)=>xh key 2 2 q.dO (.slice n J s) W agF agF rfl bX hW);obtain⟨ol,F⟩:=aq (eP key 2 q.dO);rw[F]at CO;have N:=hid F;clear F;go_wp2_with fail;refine(CO.o _ HW.o.z).mono ?_;rintro e W3 ⟨o,rfl,R,ai,g3⟩;have Z:=hid (HW.o.grown g3);have I:=hid R;clear HW g3 c2 R ai CO;cases ol with
      |none=>
       have bh:Hid ((eP key 2 q.dO).bind dR=none):=(by show _=_;rw[N.o];rfl);clear N I;simp only[Option.isSome_none];have HS:Hid (A=(.error 31,M)):=(by grind [RowKit.Hid.o,Td]);clear B;have HW:=Z;refine Kn ?_;exact⟨T0,31,rfl,by grind [RowKit.Hid.o,Vh,OW.g,kD]⟩
      |some l=>
       obtain⟨E,aQ⟩:=I.o l rfl;have CT:=hid (zV l o W3 E agE);obtain⟨oa,oc,ho⟩:=E.shape;subst ho;clear E aQ I;simp only[dj];obtain⟨tb,u⟩:=aq ((dR l).isSome);rw[u]at CT;have Wo:=hid u;clear u;obtain⟨ln,T⟩:=aq l.length;rw[T]at CT⊢;clear T;obtain⟨⟨d0,k0⟩,⟨d1,k1⟩,⟨d2,k2⟩,⟨d3,k3⟩,⟨d4,k4⟩,⟨d5,k5⟩,⟨d6,k6⟩,f0,f1,f2,f3,f4,f5,f6⟩:=pR Z.o.lt;go_wp2_with fail;refine CT.o.mono ?_;rintro e W4 ⟨t,rfl,bu,bc,g4⟩;rw[TK.oL t];have bO:=hid bc;have aC:=hid bu;have av:=hid (Z.o.grown g4);have bm:=hid (av.o.aop HD.o HZ.o HP.o t);clear d0 k0 f0 d1 k1 f1 d2 k2 f2 d3 k3 f3 d4 k4 f4 d5 k5 f5 d6 k6 f6;obtain⟨⟨d0,k0⟩,⟨d1,k1⟩,⟨d2,k2⟩,⟨d3,k3⟩,⟨d4,k4⟩,⟨d5,k5⟩,⟨d6,k6⟩,f0,f1,f2,f3,f4,f5,f6⟩:=pR av.o.lt;clear bc bu g4 Z CT bE;go_upto_region 15 with fail
       refine kE (λV=>OW w V base j M g q (.slice n J s) pv t) bm.o ?_;clear d0 k0 f0 d1 k1 f1 d2 k2 f2 d3 k3 f3 d4 k4 f4 d5 k5 f5 d6 k6 f6 av bm;intro W5 bC;have HW:=hid bC;clear bC;cases tb with
       |false=>
        have bh:Hid ((eP key 2 q.dO).bind dR=none):=(by show _=_;rw[N.o];have:=Wo.o;show dR l=none;cases h:dR l with|none=>rfl|some y=>rw[h]at this;cases this);clear N Wo aC;have HS:Hid (A=(.error 31,M)):=(by show _=_;rw[<-B.o];exact Td qa.o HX.o D.o bh.o);clear B;refine Kn ?_;exact⟨t,31,rfl,by grind [kD,RowKit.Hid.o,Vh,OW.g]⟩
       |true=>
        have O:Hid ((eP key 2 q.dO).bind dR=some t):=(by show _=_;rw[N.o];have:=Wo.o;show dR l=some t;cases h:dR l with|none=>rw[h]at this;cases this|some y=>rw[aC.o y h]);clear N Wo aC;obtain⟨t0,t1,t2,t3,t4,t5,t6⟩:=HW.o.tc;have CO:=hid (λW (hW:vX W pv q.proof)=>xh t.aN 4 4 q.proof pv W agF agF rfl bQ hW);obtain⟨ol,F⟩:=aq (eP t.aN 4 q.proof);rw[F]at CO;have N:=hid F;clear F;go_wp2_with fail;refine(CO.o _ HW.o.p).mono ?_;rintro e W6 ⟨o,rfl,R,ai,g6⟩;have aY:=hid (HW.o.grown g6);have I:=hid R;clear HW g6 R ai CO t0 t1 t2 t3 t4 t5 t6;cases ol with
        |none=>
         have aK:Hid ((eP t.aN 4 q.proof).bind fG=none):=(by show _=_;rw[N.o];rfl);clear N I;simp only[Option.isSome_none];have HS:Hid (A=(.error 31,M)):=(by show _=_;rw[<-B.o];exact NU qa.o HX.o D.o O.o aK.o);clear B;have HW:=aY;refine Kn ?_;exact⟨t,31,rfl,by grind [RowKit.Hid.o,Vh,OW.g,kD]⟩
        |some l2=>
         obtain⟨E,aQ⟩:=I.o l2 rfl;have CT:=hid (ND l2 o W6 E agE);obtain⟨cc,b9,ho⟩:=E.shape;subst ho;clear E aQ I;simp only[dj];obtain⟨tb,u⟩:=aq ((fG l2).isSome);rw[u]at CT;have Wo:=hid u;clear u;obtain⟨b3,T⟩:=aq l2.length;rw[T]at CT⊢;clear T;go_wp2_with fail;refine CT.o.mono ?_;rintro e W7 ⟨p,rfl,bd,bn,g7⟩;have f:p.cells.toArray=#[.string p.ay,ι p.time,ι p.count]:=rfl;rw[f];clear f;have b0:=hid bn;have ao:=hid bd;have aE:=hid (aY.o.grown g7);clear bn bd g7 aY CT;go_upto_region 21 with fail
         refine kE (λV=>OW w V base j M g q (.slice n J s) pv t/\V.rangeAt W7.heap.size 0 p.cells) ⟨aE.o.grown (cx W7 _ none),aS W7 p.cells.toArray _⟩ ?_;have aU:=aE.o.big;obtain⟨H,bA⟩:=aq W7.heap.size;rw[bA]at aU⊢;have bV:=hid aU;clear aE aU bA;rintro W8 ⟨bb,bw⟩;have HW:=hid bb;have C:=hid bw;clear bb bw;cases tb with
         |false=>
          have aK:Hid ((eP t.aN 4 q.proof).bind fG=none):=(by show _=_;rw[N.o];have:=Wo.o;show fG l2=none;cases h:fG l2 with|none=>rfl|some y=>rw[h]at this;cases this);clear N Wo ao;have HS:Hid (A=(.error 31,M)):=(by show _=_;rw[<-B.o];exact NU qa.o HX.o D.o O.o aK.o);clear B;refine Kn ?_;exact⟨t,31,rfl,by grind [RowKit.Hid.o,Vh,OW.g,kD]⟩
         |true=>
          have aa:Hid ((eP t.aN 4 q.proof).bind fG=some p):=(by show _=_;rw[N.o];have:=Wo.o;show fG l2=some p;cases h:fG l2 with|none=>rw[h]at this;cases this|some y=>rw[ao.o y h]);clear N Wo ao;have p0:W8.cell? (H,0)=some (.string p.ay):=C.o 0 _ rfl;have p1:W8.cell? (H,1)=some (ι p.time):=C.o 1 _ rfl;by_cases L:p.ay=t.ay;rotate_left
          ·have bU:=cJ.2 L;have Gi:=hid L;clear L;have HS:Hid (A=(.error 36,M)):=(by show _=_;rw[<-B.o];exact Vp qa.o HX.o D.o O.o aa.o Gi.o);clear B;refine Kn ?_;exact⟨t,36,rfl,by grind [OW.g,RowKit.Hid.o,kD,Vh]⟩
          have bU:=db.2 L;have Gi:=hid L;clear L;have CA:=hid (λW=>yF p.time now W b0.o.1 dA);obtain⟨ap,a1⟩:=aq (dU p.time now);rw[a1]at CA;have az:=hid a1;clear a1;have ZA:W8.cell? (j,0)=some (ι M.aA):=by
           have:=HW.o.d.bP.blk.cell 0;simpa using this
          obtain⟨t0,t1,t2,t3,t4,t5,t6⟩:=HW.o.tc;have Mt:Hid (OW w W8.drew base j M g q (.slice n J s) pv t/\W8.drew.rangeAt H 0 p.cells):=⟨HW.o.drew,aB C.o (bg (cC _ _))⟩
          by_cases bl:M.aA<ap
          ·have X:Hid (M.aA<dU p.time now):=(by show _<_;rw[az.o];exact bl);go_wp2_with fail;clear t0 t1 t2 t3 t4 t5 t6 p0 p1 ZA;refine aD.start (S:=λV=>OW w V base j M g q (.slice n J s) pv t/\V.rangeAt H 0 p.cells) 8 agP ?_;have dY:=Mt;refine aD.tk 0 [3,1,0] ?_;refine aD.tk 1 [3,1] ?_ (hy:=by intro W hW;have p1:W.cell? ⟨H,1,none⟩=some (ι p.time):=hW.2 1 _ rfl;exact kI);refine aD.tk 2 [3,2] ?_;refine aD.tk 4 [7,6,5,4] ?_;refine aD.tk 5 [7,6,5] ?_;refine aD.tk 6 [7,6] ?_;refine aD.tk 7 [7] ?_ (hy:=by intro W hW;have y0:=(by have:=hW.1.d.bP.blk.cell 0;simpa using this);exact kI);refine aD.on 3 ?_;intro K hK;refine Calls.mono (CA.o _) ?_;rintro e w' ⟨rfl,rfl⟩;go_wp2_with fail;refine hkr ?_;clear hK K;refine aD.on 8 ?_;intro K hK;refine hkl ?_;clear hK K;refine aD.fr 9 ?_;refine aD.EX (λV=>OW w V base j M g q (.slice n J s) pv t/\V.rangeAt H 0 p.cells) agP dY.o ?_;clear dY Mt HW C;rintro W9 ⟨U,ZB⟩;have HW:=hid U;have C:=hid ZB;clear U ZB;have HS:Hid (A=(.error 37,M)):=(by show _=_;rw[<-B.o];exact ac3 qa.o HX.o D.o O.o aa.o Gi.o X.o);clear B;refine Kn ?_;exact⟨t,37,rfl,by grind [RowKit.Hid.o,kD,Vh,OW.g]⟩
          ·have X:Hid (dU p.time now<=M.aA):=(by show _<=_;rw[az.o];exact eS.1 bl);go_wp2_with fail;clear t0 t1 t2 t3 t4 t5 t6 p0 p1 ZA;refine aD.start (S:=λV=>OW w V base j M g q (.slice n J s) pv t/\V.rangeAt H 0 p.cells) 8 agP ?_;have dY:=Mt;refine aD.tk 0 [3,1,0] ?_;refine aD.tk 1 [3,1] ?_ (hy:=by intro W hW;have p1:W.cell? ⟨H,1,none⟩=some (ι p.time):=hW.2 1 _ rfl;exact kI);refine aD.tk 2 [3,2] ?_;refine aD.tk 4 [7,6,5,4] ?_;refine aD.tk 5 [7,6,5] ?_;refine aD.tk 6 [7,6] ?_;refine aD.tk 7 [7] ?_ (hy:=by intro W hW;have y0:=(by have:=hW.1.d.bP.blk.cell 0;simpa using this);exact kI);refine aD.on 3 ?_;intro K hK;refine Calls.mono (CA.o _) ?_;rintro e w' ⟨rfl,rfl⟩;go_wp2_with fail;refine hkr ?_;clear hK K;refine aD.on 8 ?_;intro K hK;refine hkl ?_;clear hK K;refine aD.fr 9 ?_;refine aD.EX (λV=>OW w V base j M g q (.slice n J s) pv t/\V.rangeAt H 0 p.cells) agP dY.o ?_;clear dY Mt HW C;rintro W9 ⟨U,ZB⟩;have HW:=hid U;have C:=hid ZB;clear U ZB;have b2:=(HD.o.lt j (.inl rfl)).2;have CR:=hid (λW (hW:RD W base j M g) (hb:base<=W.heap.size)=>Km base j M g p now W hW bW Ag dA hb);have f:p.cells.toArray=#[.string p.ay,ι p.time,ι p.count]:=rfl;rw[f]at CR;clear f;have bf:Hid (A=if bL M.aA now M.aJ p≠0 then(.error (bL M.aA now M.aJ p),{M with aJ:=bJ M.aA now M.aJ p}) else(.ok t,{M with aJ:=bJ M.aA now M.aJ p})):=by
            rw[<-B.o];exact ac4 qa.o HX.o D.o O.o aa.o Gi.o (eS.2 X.o)
           obtain⟨pc,ba⟩:=aq (bL M.aA now M.aJ p);obtain⟨M',bo⟩:∃m:DM,{M with aJ:=bJ M.aA now M.aJ p}=m:=⟨_,rfl⟩
           rw[ba,bo]at CR bf;clear ba bo B qa HX D O aa Gi X az CA;have bY:Hid (base<=W9.drew.heap.size):=cE aP (by have:=HW.o.drew.big;omega);go_wp2_with fail;refine aD.start (S:=λV=>V.rangeAt (w.heap.size+2) 0 t.cells/\V.rangeAt H 0 p.cells) 5 agP ?_;have dY:Hid (W9.drew.rangeAt (w.heap.size+2) 0 t.cells/\W9.drew.rangeAt H 0 p.cells):=⟨HW.o.drew.t,aB C.o (bg (cC _ _))⟩
           refine aD.tk 0 [0] ?_ (hy:=by intro W hW;have h7:=hW.1;obtain⟨t0,t1,t2,t3,t4,t5,t6⟩:=lZ h7;clear h7;exact kI);refine aD.tk 1 [4,1] ?_;refine aD.tk 2 [4,2] ?_ (hy:=by intro W hW;have p0:W.cell? (H,0)=some (.string p.ay):=hW.2 0 _ rfl;have p1:W.cell? (H,1)=some (ι p.time):=hW.2 1 _ rfl;have p2:W.cell? (H,2)=some (ι p.count):=hW.2 2 _ rfl;exact kI);refine aD.tk 3 [4,3] ?_;refine aD.on 4 ?_;intro K hK;refine Calls.mono (CR.o _ HW.o.drew.d bY.o) ?_;rintro e Wr ⟨rfl,v,a8,gR,NY⟩;have a7:=hid (And.intro a8 (And.intro gR NY));have aj:Hid (Wr.rangeAt (w.heap.size+2) 0 t.cells/\Wr.rangeAt H 0 p.cells):=⟨xx dY.o.1 gR agE,xx dY.o.2 gR (by have:=bV.o;omega)⟩
           have Mf:=hid (NV HW.o.drew.r gR agE);clear a8 gR NY;go_wp2_with fail;refine hkx aj.o ?_;clear hK K CR dY;have dY:=aj;clear aj;obtain⟨⟨d0,k0⟩,⟨d1,k1⟩,⟨d2,k2⟩,⟨d3,k3⟩,⟨d4,k4⟩,⟨d5,k5⟩,⟨d6,k6⟩,f0,f1,f2,f3,f4,f5,f6⟩:=pR Mf.o;refine aD.on 5 ?_;intro K hK;refine hkl ?_;clear hK K;refine aD.fr 6 ?_;refine aD.done agP ?_;go_wp2;refine bodyPost_ret (aF results109 _ _ _ (w.heap.size+1) rfl _ (iE (fe Mf.o _ _ _ _ _ _ _))) rfl ?_;refine⟨t,pc,rfl,NW bf.o bO.o ?_ ?_⟩
           ·obtain⟨h1,h2,h3⟩:=a7.o;have b1:=HW.o.drew.big;have hn:∀b,({g with pv:=v}:RG).foot j b->b≠w.heap.size+1:=by
             intro b hb;rcases hb with e|e|e|e
             ·omega
             ·have:=(HD.o.lt b (.inr (.inl e))).2;omega
             ·have:=h3 b e;omega
             ·have:=(HD.o.lt b (.inr (.inr (.inr e)))).2;omega
            exact⟨v,((((((h1.wu hn).wu hn).wu hn).wu hn).wu hn).wu hn).wu hn,.inr (λb hb=>cE agE (h3 b hb))⟩
           ·obtain⟨h1,h2,h3⟩:=a7.o;have h4:=iC (mh HW.o.drew.g j) h2;exact mZ (mZ (mZ (mZ (mZ (mZ (mZ h4 (en _ 1)) (en _ 1)) (en _ 1)) (en _ 1)) (en _ 1)) (en _ 1)) (en _ 1)
variable {w:World}
theorem Ko{K:Act->World->Prop}{a:Act}{W:World}(X:World->Prop)(b:X W)(h:∀V,X V->K a V):K a W:=h W b
theorem rO(x):∃k:UInt64,IntKind.u64.wrap x=(k.toNat:Int):=by
 refine⟨UInt64.ofNat (x % 18446744073709551616).toNat,?_⟩;rw[IntKind.wrap_u64,UInt64.toNat_ofNat'];omega
theorem Kq(w):Calls prog 60 #[.slice none 0 0] w λe w'=>∃o,e=.returned o/\Has w' o (Box.box 48 [])/\w.grownBy w' none:=by
 have HB:Hid (∀W,Calls prog 88 #[.int .u8 48,.slice none 0 0] W λe w'=>∃o,e=.returned o/\Has w' o (Box.box 48 [])/\W.grownBy w' none):=λW=>Zg 48 [] _ W (Has.nil W) agI;go_enter func60,ntmps60;go_wp2;go_loopw [3,4] (λo i wr=>o=.slice none 0 0/\i = ι 0/\w.grownBy wr none) (λ_ _ _=>0)
 case atStart=>grind [cC]
 case round=>
  obtain⟨rfl,rfl,a⟩:=hrel;have b:=hid a;clear a;go_wp2_with (go_at_call 88;refine(HB.o _).mono ?_;rintro e f ⟨o,rfl,d,c⟩)
  go_ret;exact⟨_,rfl,d,aa b.o c⟩
structure LB(w V:World)(base yb:Nat)(M:DM)(g:RG)(a:qJ):Prop where
 d:RD V base yb M g
 c:V.rangeAt w.heap.size 0 a.cells
 g:w.grownBy V none
theorem LB.grown{V f:World}{base e:Nat}{M:DM}{g:RG}{a:qJ}(h:LB w V base e M g a)(k:V.grownBy f none):LB w f base e M g a:=
 ⟨h.d.keep (λb i=>k.block b (h.d.lt b i).2 agI),aB h.c k,aa h.g k⟩
theorem LB.new{base c:Nat}{M:DM}{g:RG}(a)(t)(d:RD w base c M g):LB w (w.alloc (.cells a.arr t)) base c M g a:=by
 have k:=cx w (.cells a.arr t) none;exact⟨d.keep (λb e=>k.block b (d.lt b e).2 agI),aS w a.arr t,k⟩
theorem ac5{a w':World}{b:Value}{p:Option Pl}{d:List UInt8}(h:aU w w' b p d)(j:Pl.fresh a.heap.size p)(u:a.grownBy w none):Has w' b d/\a.grownBy w' none:=by
 obtain⟨p',f,l,y,z⟩:=h;obtain⟨g,cap,s,k,n,r,m⟩:=f.shape;refine⟨⟨g,cap,s,k,n,m,r⟩,?_⟩
 have c:=(CF.bF u (λ_ _=>False)).trans l (λi o x e=>by
  obtain⟨q,t,v,_⟩:=e;have:=j q t
  omega)
 exact c.gb (λ_ _ _ e=>e)
theorem Re(base C:Nat)(M)(g)(a:qJ)(w)(hD:RD w base C M g)(ar:fU 4611686018427387904 M.aG)(q:a.Ok):
  Calls prog 58 #[(C,0),.agg a.arr] w λe w'=>∃(o:Value) (z:List UInt8),e=.returned o/\w'.ownsRow w.heap.size 5 1 o z.length (z.map U8)/\0<z.length/\z.length<=20000000/\w.grownBy w' none:=by
 obtain⟨i0,H,T,Y,Q⟩:=info_parts Tryz.info5
 obtain⟨ib,ab,NZ,N7,aQ⟩:=info_parts Tryz.A9
 have HL:=hid (LB.new a 45 hD)
 rw[qJ.oL]at HL⊢
 clear hD
 go_enter func58,ntmps58
 go_upto_region 1 with fail
 refine kE (λV=>LB w V base C M g a) HL.o ?_
 clear HL
 intro W hW
 have HW:=hid hW
 have c1:W.cell? (w,1)=some (.string a.ay):=hW.c 1 _ rfl
 clear hW
 have CK:=hid (λW (hW:RD W base C M g)=>E8 base C M g a.ay W hW ar)
 go_wp2_with fail
 refine(CK.o _ HW.o.d).mono ?_
 rintro e W1 ⟨key,L,rfl,aP,aL,g1⟩
 have Z:=hid (HW.o.grown g1)
 clear HW g1 CK c1
 have CL:=hid (λW=>Kq W)
 go_wp2_with fail
 refine(CL.o _).mono ?_
 rintro e W2 ⟨o,rfl,hp,g2⟩
 have b:=hid (Z.o.grown g2)
 have HP:=hid hp
 obtain⟨pa,pc,ao⟩:=hp.shape
 subst ao
 clear Z g2 CL hp
 have c8:W2.cell? (w,8)=some (ι a.pre):=b.o.c 8 _ rfl
 have aK:=q.pre
 go_upto_if 19 with fail
 go_cut [7] (λp wx=>∃z,Has wx p z/\z.length<=5000/\LB w wx base C M g a)
 case first=>
  as_aux_lemma=>
   by_cases ae:a.pre=0
   ·have an:(a.pre==0)=true:=(by rw[ae];rfl);go_wp2;go_meet
    case rel=>exact⟨_,HP.o,by rw[Box.kZ];simp,b.o⟩
   ·have an:(a.pre==0)=false:=(by simpa using ae);have c9:W2.cell? (w,9)=some (ι a.lY):=b.o.c 9 _ rfl;have CN:=hid (λW=>qY a.lY W q.lY.1 q.lY.2);go_wp2_with fail;refine(CN.o _).mono ?_;rintro e W3 ⟨pl,rfl,m,g3⟩;have t:=hid (b.o.grown g3);have F:(Box.box 2 (Box.low a.lY (Box.size a.lY))).length<=10:=(fo a.lY).2;obtain⟨E,aj⟩:=aq (Box.box 2 (Box.low a.lY (Box.size a.lY)));rw[aj]at m F;have HO:=hid m;have f:=hid F;have ZC:=hid (Has.own m);have al:=hid b.o.g.size;have kR:=hid g3;clear g3 CN c8 c9 m aj F HP;have c8:W3.cell? (w,8)=some (ι a.pre):=t.o.c 8 _ rfl;go_upto_block 0 with fail
    go_cut [5,6,8] (λk n p wx=>∃(key:UInt64) (nn:Int) (z:List UInt8),k = υ key.toNat/\n = ι nn/\In64 nn/\Has wx p z/\z.length<=500/\LB w wx base C M g a)
    case first=>
     by_cases h1:a.pre=1
     ·have aC:(a.pre==1)=true:=(by rw[h1];rfl);go_wp2;go_meet
      case rel=>exact⟨key,L,E,rfl,rfl,by unfold In64;omega,ZC.o,by have:=f.o;omega,t.o⟩
     ·have aC:(a.pre==1)=false:=(by simpa using h1);by_cases h2:a.pre=2
      ·have aF:(a.pre==2)=true:=(by rw[h2];rfl);go_wp2;go_meet
       case rel=>exact⟨key,L+1,E,rfl,rfl,by unfold In64;omega,ZC.o,by have:=f.o;omega,t.o⟩
      ·have aF:(a.pre==2)=false:=(by simpa using h2);by_cases h3:a.pre=3
       ·have aH:(a.pre==3)=true:=(by rw[h3];rfl);obtain⟨k1,aR⟩:=rO ((key.toNat:Int)+1);go_wp2;go_meet
        case rel=>exact⟨k1,L,E,rfl,rfl,by unfold In64;omega,ZC.o,by have:=f.o;omega,t.o⟩
       ·have aH:(a.pre==3)=false:=(by simpa using h3);obtain⟨p,D,R⟩:=Out.own HO.o;have ai:=hid D;have O:=hid R;clear D R;by_cases h4:4<a.pre
        ·have aN:0<=a.pre % 400/\a.pre % 400<400:=agE;obtain⟨kk,aw⟩:∃k:Nat,a.pre.tmod 400=(k:Int):=⟨(a.pre % 400).toNat,by rw[fk agE];omega⟩
         have az:kk<=400:=(by rw[fk agE]at aw;omega);obtain⟨v',w',N,u⟩:=GV (P:=prog) W3 37 3 37 5 i0 .i64 underlying37 underlying3 H T Y Q pl p E ai.o kk (cE az agF) (by have:=f.o;omega);have HM:=hid (ac5 u O.o kR.o);clear u;go_wp2_with (at_builtin;refine Lib.wpList_append_run _ rfl _ _ _ _ rfl _ _ rfl rfl _ _ N ?_)
         go_meet
         case rel=>exact⟨key,L,_,rfl,rfl,by unfold In64;omega,HM.o.1,by have:=f.o;simp;omega,b.o.grown HM.o.2⟩
        ·have C1:=hid (λW=>bQ 1 W ⟨by decide,by decide⟩);clear ai O;go_wp2_with fail;refine(C1.o _).mono ?_;rintro e W4 ⟨o4,rfl,q4,g4⟩;obtain⟨a4,c4,aE⟩:=q4.shape;subst aE;have iU:=HO.o.kept g4 (eR _);have G4:=aa kR.o g4;have J:=G4.size;obtain⟨_,_,aI,_,_,ad,F5⟩:=q4;injection aI with B e2 e3;subst B e3;have aO:=(fo 1).2;have aA:E.length+(bR 1).length<=140737488355328:=(by have:=f.o;omega);clear C1 ZC HO g4 e2;go_wp2_with (at_builtin;refine bV _ rfl _ _ 37 rfl W2.heap.size 5 i0 underlying37 H T Y Q pl E.length E rfl iU a4 (bR 1).length c4 (bR 1) rfl rfl ad F5 aA J ?_)
         intro v5 w5 y ah _;have G5:=gu G4 ah (λi hi=>(iU.lt i hi).1);have HH:Hid (Has w5 v5 (E++bR 1)):=Has.own (by rw[cD,eg];exact y);have MP:=hid G5;clear y ah G5 G4 iU F5 ad J;go_wp2;go_meet
         case rel=>exact⟨key,L,_,rfl,rfl,by unfold In64;omega,HH.o,by rw[cD];have:=f.o;omega,b.o.grown MP.o⟩
    case rest=>
     obtain⟨ak,nn,I,rfl,rfl,ag,j,x,V7⟩:=hcut;obtain⟨U,zc,G⟩:=j.shape;subst G;obtain⟨zn,l⟩:=aq I.length;rw[l];rw[l]at j x;refine Ko (λV=>LB w V base C M g a/\Has V (.slice U zn zc) I) ⟨V7,j⟩ ?_;clear t HO f ZC al kR b c8 V7 j;rintro V ⟨hV,j⟩;have r:=hid hV;have HZ:=hid j;have au:=hid ag;have s:Hid (I.length<=500):=(by show _<=_;rw[l];exact x);clear hV j ag l;obtain⟨ax,aJ⟩:=rO a.bU;have CN:=hid (λW=>bQ nn W au.o);have av:=hid (λW (hW:Has W (.slice U zn zc) I)=>A8 ak 1 ax 1 I (.slice U zn zc) W agF agF rfl (cE s.o agF) hW);go_wp2_with fail;refine aD.start (S:=λX=>V.grownBy X none) 11 agP ?_;have dY:Hid (V.grownBy V.drew none):=bg (cC _ _);have HA:=hid (Acc.nil V.drew 1000);have v:=hid (HZ.o.grown dY.o);clear HZ;have HZ:=v;clear v;refine aD.tk 0 [0] ?_;refine aD.tk 2 [2] ?_;refine aD.tk 3 [3] ?_;refine aD.tk 4 [4] ?_ (hy:=by intro W hW;have B:W.cell? ⟨w.heap.size,3,none⟩=some (ι a.bU):=(aB r.o.c hW) 3 _ rfl;exact kI);refine aD.tk 5 [5] ?_;refine aD.tk 6 [6] ?_;refine aD.on 1 ?_;refine bx1 (CN.o _) trivial ?_;clear HA dY HZ;intro V5 a5 c5 HA dY HZ;refine aD.on 7 ?_;intro K hK;refine Calls.mono (av.o _ HZ.o) ?_;rintro e V5 ⟨o5,rfl,q5,g5⟩;obtain⟨a5,c5,rfl⟩:=q5.shape;have af:=hid q5;have uJ:=hid (HA.o.grown g5);have Tc:=hid (aa dY.o g5);clear HA dY q5 g5 HZ;have HA:=uJ;have dY:=Tc;clear uJ Tc;go_wp2_with fail;refine hkr ?_;clear hK K;refine aD.on 8 ?_;refine bx0 (lW _ _ _ af.o (by rw[Pure.dx];have:=s.o;omega)) s.o ?_;clear HA dY af;intro V5 a6 c6 HA dY;refine aD.on0 9 ?_;intro K hK;refine HA.o.bsl 175 2 _ rfl 37 ib _ underlying175 ab N7 NZ rfl rfl agF agF ?_;refine hkx (aM dY.o _) ?_;clear hK K;refine aD.on 10 ?_;intro K hK;refine Calls.mono (HA.o.list _ 2 rfl rfl agF agF) ?_;rintro e V6 ⟨o6,rfl,q6,l6,g6⟩;have A:=hid (And.intro q6 (And.intro l6 (aa dY.o g6)));clear q6 l6 g6;go_wp2_with fail;refine hkx A.o.2.2 ?_;clear hK K;refine aD.on 11 ?_;intro K hK;refine hkl ?_;clear hK K;refine aD.done agP ?_;go_wp2_with fail;go_meet
     case rel=>exact⟨_,A.o.1,cE A.o.2.1 agF,r.o.grown A.o.2.2⟩
 case rest=>
  obtain⟨z,j,x,V7⟩:=hcut;obtain⟨U,zc,G⟩:=j.shape;subst G;obtain⟨zn,l⟩:=aq z.length;rw[l];rw[l]at j;refine Ko (λV=>LB w V base C M g a/\Has V (.slice U zn zc) z) ⟨V7,j⟩ ?_;clear b HP c8 V7 j;rintro V ⟨hV,j⟩;have r:=hid hV;have HZ:=hid j;have s:=hid x;clear hV j x;as_aux_lemma=>
   go_wp2_with fail;refine aD.start (S:=λX=>V.grownBy X none) 25 agP ?_;have dY:Hid (V.grownBy V.drew none):=bg (cC _ _);have HA:=hid (Acc.nil V.drew 2000000);have v:=hid (HZ.o.grown dY.o);clear HZ;have HZ:=v;clear v;refine aD.tk 1 [1] ?_;refine aD.tk 2 [2] ?_ (hy:=by intro W hW;have B:W.cell? ⟨w.heap.size,1,none⟩=some (.string a.ay):=(aB r.o.c hW) 1 _ rfl;exact kI);refine aD.tk 4 [4] ?_;refine aD.tk 5 [5] ?_ (hy:=by intro W hW;have B:W.cell? ⟨w.heap.size,2,none⟩=some (.string a.aV):=(aB r.o.c hW) 2 _ rfl;exact kI);refine aD.tk 7 [7] ?_;refine aD.tk 8 [8] ?_ (hy:=by intro W hW;have B:W.cell? ⟨w.heap.size,3,none⟩=some (ι a.bU):=(aB r.o.c hW) 3 _ rfl;exact kI);refine aD.tk 10 [10] ?_;refine aD.tk 11 [11] ?_ (hy:=by intro W hW;have B:W.cell? ⟨w.heap.size,4,none⟩=some (ι a.ma):=(aB r.o.c hW) 4 _ rfl;exact kI);refine aD.tk 13 [13] ?_;refine aD.tk 14 [14] ?_ (hy:=by intro W hW;have B:W.cell? ⟨w.heap.size,5,none⟩=some (ι a.dI):=(aB r.o.c hW) 5 _ rfl;exact kI);refine aD.tk 16 [16] ?_;refine aD.tk 17 [17] ?_ (hy:=by intro W hW;have B:W.cell? ⟨w.heap.size,6,none⟩=some (ι a.bW):=(aB r.o.c hW) 6 _ rfl;exact kI);refine aD.tk 19 [19] ?_;refine aD.tk 20 [20] ?_ (hy:=by intro W hW;have B:W.cell? ⟨w.heap.size,7,none⟩=some (ι a.options):=(aB r.o.c hW) 7 _ rfl;exact kI);refine aD.tk 22 [22] ?_;refine aD.on 0 ?_;refine bx1 (bQ 10 _ ⟨by decide,by decide⟩) trivial ?_;clear HA dY HZ;intro V5 a5 c5 HA dY HZ;refine aD.on 3 ?_;refine bx1 (kM a.ay _ (cE q.ay agF)) q.ay ?_;clear HA dY HZ;intro V5 a5 c5 HA dY HZ;refine aD.on 6 ?_;refine bx1 (kM a.aV _ (cE q.aV agF)) q.aV ?_;clear HA dY HZ;intro V5 a5 c5 HA dY HZ;refine aD.on 9 ?_;refine bx1 (bQ a.bU _ q.bU) trivial ?_;clear HA dY HZ;intro V5 a5 c5 HA dY HZ;refine aD.on 12 ?_;refine bx1 (bQ a.ma _ q.ma) trivial ?_;clear HA dY HZ;intro V5 a5 c5 HA dY HZ;refine aD.on 15 ?_;refine bx1 (bQ a.dI _ q.dI) trivial ?_;clear HA dY HZ;intro V5 a5 c5 HA dY HZ;refine aD.on 18 ?_;refine bx1 (bQ a.bW _ q.bW) trivial ?_;clear HA dY HZ;intro V5 a5 c5 HA dY HZ;refine aD.on 21 ?_;refine bx1 (bQ a.options _ q.options) trivial ?_;clear HA dY HZ;intro V5 a5 c5 HA dY HZ;have uJ:=hid (HA.o.push (cC _ none) HZ.o (by have:=s.o;omega));clear HA;have HA:=uJ;clear uJ;refine aD.on0 23 ?_;intro K hK;refine HA.o.bsl 175 9 _ rfl 37 ib _ underlying175 ab N7 NZ rfl rfl agF agF ?_;refine hkx (aM dY.o _) ?_;clear hK K;refine aD.on 24 ?_;intro K hK;refine Calls.mono (HA.o.Zo _ 9 rfl agI agF agF) ?_;rintro e V6 ⟨o6,z9,rfl,q6,z6,l6,g6⟩;have A:=hid (And.intro q6 (And.intro z6 (And.intro l6 (And.intro (aa dY.o g6) (And.intro (cE r.o.g.size dY.o.size) trivial)))));clear q6 z6 l6 g6;go_wp2_with fail;refine hkx A.o.2.2.2.1 ?_;clear hK K;refine aD.on 25 ?_;intro K hK;refine hkl ?_;clear hK K;refine aD.done agP ?_;go_wp2;go_ret;exact⟨_,z9,rfl,dC A.o.1 A.o.2.2.2.2.1,A.o.2.1,cE A.o.2.2.1 agF,aa r.o.g A.o.2.2.2.1⟩
theorem Rf(v)(w):
  Calls prog 94 #[υ v.toNat] w λe w'=>∃o,e=.returned o/\w'.ownsRow w.heap.size 5 1 o 8 ((Pure.be v 8).map U8)/\w.grownBy w' none:=by
 obtain⟨i0,hi,hz0,hz1,hz2⟩:=info_parts Tryz.info5
 go_enter func94,ntmps94
 exact aas
theorem ZE(v)(w):Calls prog 94 #[υ v.toNat] w λe w'=>∃o,e=.returned o/\Has w' o (Pure.be v 8)/\w.grownBy w' none:=by
 refine(Rf v w).mono ?_;grind [Has.own,Pure.dm]
theorem Vy(k d a b f h i j)(v4 v5 v6 v7)(A:bG k.pair=some 12)(G:iI f v4)(v:iI h v5)(B:iI i v6)(Q:iI j v7):
  (lu ([k,d,a,b,f,h,i,j].map Pc.pair)).isSome=((gT d.pair).isSome&&((dh b.pair).isSome&&(jS [f,h,i,j]&&decide (a.tag.toNat=4))))/\∀q,lu ([k,d,a,b,f,h,i,j].map Pc.pair)=some q->∃c,gT d.pair=some c/\q=⟨c.1,c.2.1,c.2.2,a.ins,b.ins,v4,v5,v6,v7⟩:=by
 have e:lu ([k,d,a,b,f,h,i,j].map Pc.pair)=(gT d.pair).bind λc=>(jm a.pair).bind λp=>(dh b.pair).bind λs=>(bG f.pair).bind λn=>(bG h.pair).bind λt=>(bG i.pair).bind λr=>(bG j.pair).bind λo=>some ⟨c.1,c.2.1,c.2.2,p,s,n,t,r,o⟩:=by
  show(bG k.pair).bind _=_;rw[A];rfl
 have E:∀y,dh b.pair=some y->y=b.ins:=λy hy=>vY hy
 have u:jm a.pair=if a.tag.toNat=4 then some a.ins else none:=rfl
 rw[e,u]
 unfold iI at *
 simp only[jS,List.all_cons,List.all_nil,fW]
 cases N:gT d.pair with
 |none=>grind
 |some K=>
  by_cases l:a.tag.toNat=4
  ·rw[if_pos l];cases C:dh b.pair with
   |none=>grind
   |some F=>
    have S:=E F C;cases D:bG f.pair with
    |none=>grind
    |some J=>
     have T:=G.2 J D;cases H:bG h.pair with
     |none=>grind
     |some z=>
      have R:=v.2 z H;cases I:bG i.pair with
      |none=>grind
      |some m=>
       have P:=B.2 m I;cases L:bG j.pair with
       |none=>grind
       |some O=>
        grind
  grind
theorem BD{p:qz}{x:List UInt8×Int×List UInt8}(h:gT p=some x):x.2.2.length<=p.2.length:=by
 unfold gT at h;cases l:zq p with
 |none=>rw[l]at h;cases h
 |some ps=>
  rw[l]at h;have j:Box.dF p.2=some ps:=by
   grind [zq]
  have d:qG ps=some x:=h;match ps,j,d with
  | [],_,d=>cases d
  | [a],_,d=>
   have e:qG [a]=(dh a).bind λ_=>none:=rfl;grind [dh]
  | [a,b],_,d=>
   have e:qG [a,b]=(dh a).bind λ_=>(bG b).bind λ_=>none:=rfl;rw[e]at d;cases hn:dh a with
   |none=>rw[hn]at d;cases d
   |some y=>
    rw[hn]at d;cases i:bG b with
    |none=>rw[i]at d;cases d
    |some z=>rw[i]at d;cases d
  |a::b::c::r,j,d=>
   have e:qG (a::b::c::r)=(dh a).bind λs=>(bG b).bind λn=>(jm c).bind λz=>if r=[] then some (s,n,z) else none:=rfl;rw[e]at d;cases hn:dh a with
   |none=>rw[hn]at d;cases d
   |some y=>
    rw[hn]at d;cases i:bG b with
    |none=>rw[i]at d;cases d
    |some n=>
     rw[i]at d;cases k:jm c with
     |none=>rw[k]at d;cases d
     |some z=>
      rw[k]at d;have f:(if r=[] then some (y,n,z) else none)=some x:=d;split at f
      ·injection f with f;subst f;have m:z=c.2:=by
        grind [jm]
       rw[m];exact Box.lX j c agI
      ·cases f
theorem I1{P:Program}{W:World}{b n:Nat}(h:Live W b n)(k:Nat)(a:k<n)(v)(c:v.oneCell'=true):(store ⟨b,k,none⟩ v).run P W=.ok () (W.setCell (b,k) v):=by
 grind [Live.some,run_store,Live.frozen]
def nT(M:DM)(now:Int)(ps:List qz):Except Int GR×DM:=
 match lu ps with
 |none=>(.error 60,M)
 |some q=>
  match (iH M now q).1 with
  |.error c=>(.error c,(iH M now q).2)
  |.ok t=>(ek (iH M now q).2 now q t,(iH M now q).2)
def Cx(base yb:Nat)(g:RG)(A:Except Int GR×DM)(w w':World)(o:Value)(c:Int):Prop:=
 c=codeOf A.2 A.1/\(∃v,(v=g.pv\/NewAt w.heap.size v)/\(c≠0->o=.slice none 0 0/\RD w' base yb A.2 {g with pv:=v})/\(c=0->∃gr u,A.1=.ok gr/\Made w.heap.size w' o (gr.box A.2.aL)/\RD w' base yb {A.2 with aL:=A.2.aL.drop 24} {g with pv:=v,dv:=u}/\NewAt w.heap.size u))/\w.grownBy w' (some yb)
theorem uR{base yb:Nat}{g:RG}{a:DM}{v:Value}{c:Int}{w w':World}(b:c≠0)(e:RD w' base yb a {g with pv:=v})(d:v=g.pv\/NewAt w.heap.size v)(k:w.grownBy w' (some yb)):Cx base yb g (.error c,a) w w' (.slice none 0 0) c:=
 ⟨rfl,⟨v,d,λ_=>⟨rfl,e⟩,λh=>absurd h b⟩,k⟩
theorem ade{base yb:Nat}{g:RG}{a:DM}{b:GR}{v:Value}{w w':World}(c:a.aL.length<24)(e:RD w' base yb a {g with pv:=v})(d:v=g.pv\/NewAt w.heap.size v)(k:w.grownBy w' (some yb)):Cx base yb g (.ok b,a) w w' (.slice none 0 0) 60:=
 ⟨(if_pos c).symm,⟨v,d,λ_=>⟨rfl,e⟩,λh=>absurd h agF⟩,k⟩
theorem Rj(M)(now)(q):∃ps,(iH M now q).2={M with aJ:=ps}:=by
 unfold iH;cases iV M now q with
 |error c=>exact⟨M.aJ,rfl⟩
 |ok a=>
  obtain⟨t,p⟩:=a;dsimp only;split
  ·exact⟨_,rfl⟩
  ·exact⟨_,rfl⟩
section
variable {q:NQ}{old t:TK}{x s:BE}
theorem ZQ(h:aI old.ae 16=true/\aI q.aO 32=false\/aW now M.aA<old.start):ek M now q old=.error 33:=by unfold ek;rw[if_pos h]
theorem adf(h:¬ (aI old.ae 16=true/\aI q.aO 32=false\/aW now M.aA<old.start))(a:old.fin<now):ek M now q old=.error 32:=by unfold ek;rw[if_neg h,if_pos a]
theorem adg(h:¬ (aI old.ae 16=true/\aI q.aO 32=false\/aW now M.aA<old.start))(a:¬ old.fin<now):ek M now q old=match BE.find M.aG q.aV,BE.find M.aG old.ay with
 |none,_=>.error 7
 |some _,none=>.error 6
 |some s,some x=>
  if nP s x now 2 1≠0 then .error (nP s x now 2 1)
  else if jZ q.aO old.ae=false then .error 13
  else match fresh now old x s q.dI q.bW q.aO with
  |.error c=>.error c
  |.ok t=>.ok ⟨13,t,s,q.bU,0,old.aN,5⟩:=by
 unfold ek
 rw[if_neg h,if_neg a]
 rfl
theorem N9{a bW b c:Int}(h:c=0):¬ fresh now old x s a bW b=.error c:=by
 grind [fresh]
theorem ZR{a bW b:Int}(ho:old.In)(dA:In64 now)(c:In64 a)(d:In64 bW)(h:fresh now old x s a bW b=.ok t):t.In/\t.ay=old.ay:=by
 unfold fresh at h;split at h
 ·split at h
  ·cases h
  ·exact ad6
 ·split at h
  ·split at h
   ·cases h
   ·exact aci
  ·split at h
   ·cases h
   ·injection h with h;subst h;refine⟨⟨?_,ho.dV,dA,?_,?_⟩,rfl⟩
    ·show In64 (iL b old x s);unfold iL gY In64;(repeat' split)<;>omega
    ·show In64 (iD now a old x s);have i1:=ho.fin;have i2:In64 (lesser (asked a) (lesser (aW now x.bI) (aW now s.bI))):=lG c;unfold iD lesser In64 at *;(repeat' split at *)<;>omega
    ·show In64 (fu b old.ae x s now (lesser (asked bW) old.aC));have i1:=ho.aC;have i2:In64 (lesser (asked bW) (lesser (aW now x.aC) (aW now s.aC))):=lG d;grind [lesser,fu,In64]
end
structure N2(w W:World)(base yb:Nat)(M:DM)(g:RG)(gv:Nat)(v0 v1 v2 v3:Int)(bo:Nat)(t:TK):Prop where
 d:RD W base yb M g
 v:W.rangeAt gv 0 [ι v0,ι v1,ι v2,ι v3]
 o:W.rangeAt bo 0 t.cells
 g:w.grownBy W (some yb)
structure N3(w W:World)(base yb:Nat)(M:DM)(g:RG)(gv:Nat)(v0 v1 v2 v3:Int)(bo:Nat)(t:TK)(x s:RE)(bx bs:Nat):Prop where
 n:N2 w W base yb M g gv v0 v1 v2 v3 bo t
 x:W.rangeAt bx 0 x.cells
 s:W.rangeAt bs 0 s.cells
section
variable {W W':World}{base yb:Nat}{g:RG}{gv:Nat}{v0 v1 v2 v3:Int}{bo bx bs:Nat}{t:TK}{x s:RE}
theorem N2.grown(h:N2 w W base yb M g gv v0 v1 v2 v3 bo t)(k:W.grownBy W' none):N2 w W' base yb M g gv v0 v1 v2 v3 bo t:=
 ⟨h.d.keep (λb a=>k.block b (h.d.lt b a).2 agI),aB h.v k,aB h.o k,iC h.g (mh k yb)⟩
theorem N3.grown(h:N3 w W base yb M g gv v0 v1 v2 v3 bo t x s bx bs)(k:W.grownBy W' none):N3 w W' base yb M g gv v0 v1 v2 v3 bo t x s bx bs:=⟨h.n.grown k,aB h.x k,aB h.s k⟩
end
structure N1(w W:World)(base yb:Nat)(M:DM)(g:RG)(gv:Nat)(v0 v1 v2 v3:Int)(gl:Nat)(l:List Pc)(bc:Nat)(c:List Value):Prop where
 d:RD W base yb M g
 v:W.rangeAt gv 0 [ι v0,ι v1,ι v2,ι v3]
 p:jJ W gl l
 c:W.rangeAt bc 0 c
 g:w.grownBy W none
theorem N1.grown{w W W':World}{base yb:Nat}{M:DM}{g:RG}{gv:Nat}{v0 v1 v2 v3:Int}{a e:Nat}{l:List Pc}{c:List Value}(h:N1 w W base yb M g gv v0 v1 v2 v3 a l e c)(k:W.grownBy W' none):N1 w W' base yb M g gv v0 v1 v2 v3 a l e c:=
 ⟨h.d.keep (λb f=>k.block b (h.d.lt b f).2 agI),aB h.v k,h.p.grown k,aB h.c k,aa h.g k⟩
theorem GY{base yb:Nat}{g:RG}{A:Except Int TK×DM}{w w' w2:World}{t:TK}{c:Int}(h:nR base yb g A w w' t c)(k:w'.grownBy w2 none):nR base yb g A w w2 t c:=by
 obtain⟨d,i,l,⟨v,a,j⟩,f⟩:=h;exact⟨d,i,l,⟨v,a.keep (λb e=>k.block b (a.lt b e).2 agI),j⟩,iC f (mh k yb)⟩
theorem Kw{base yb:Nat}{g:RG}{A:Except Int TK×DM}{w V w':World}{t:TK}{c:Int}(h:nR base yb g A V w' t c)(k:w.grownBy V none):nR base yb g A w w' t c:=by
 obtain⟨a,f,j,⟨v,l,i⟩,e⟩:=h;exact⟨a,f,j,⟨v,l,i.imp id (λh b d=>cE k.size (h b d))⟩,iC (mh k yb) e⟩
theorem Ky{base yb:Nat}{g:RG}{A:Except Int TK×DM}{w V w':World}{t:TK}{c:Int}{bo:Nat}(h:nR base yb g A V w' t c)(k:w.grownBy V none)(d:∀b,g.foot yb b->b<bo)(hw:w.heap.size<=bo)(n:bo<V.heap.size)(u0 u1 u2 u3 u4 u5 u6):
  nR base yb g A w (((((((w'.setCell (bo,0) u0).setCell (bo,1) u1).setCell (bo,2) u2).setCell (bo,3) u3).setCell (bo,4) u4).setCell (bo,5) u5).setCell (bo,6) u6) t c:=by
 obtain⟨i,l,m,⟨v,p,a⟩,j⟩:=h
 have hn:∀b,({g with pv:=v}:RG).foot yb b->b≠bo:=by
  intro b f;rcases f with e|e|e|e
  ·exact Nat.ne_of_lt (d b (.inl e))
  ·exact Nat.ne_of_lt (d b (.inr (.inl e)))
  ·rcases a with a|a
   ·exact Nat.ne_of_lt (d b (.inr (.inr (.inl (by rw[<-a];exact e)))))
   ·have:=a b e;omega
  ·exact Nat.ne_of_lt (d b (.inr (.inr (.inr e))))
 have o:=iC (mh k yb) j
 exact⟨i,l,m,⟨v,(by grind [RD.wu]),a.imp id (λh b f=>cE k.size (h b f))⟩,(by grind [mZ])⟩
theorem Rk{W:World}{b bo:Nat}{cs:List Value}(h:W.rangeAt b 0 cs)(hn:bo≠b)(u0 u1 u2 u3 u4 u5 u6):(((((((W.setCell (bo,0) u0).setCell (bo,1) u1).setCell (bo,2) u2).setCell (bo,3) u3).setCell (bo,4) u4).setCell (bo,5) u5).setCell (bo,6) u6).rangeAt b 0 cs:=
 gM (gM (by grind [gM]) hn _) hn _
theorem Oa{W:World}{b:Nat}{v:Value}{cs:List Value}(h:W.rangeAt b 0 (v::cs)):b<W.heap.size:=by
 have c:=h 0 v rfl;rcases Nat.lt_or_ge b W.heap.size with a|a
 ·exact a
 ·have d:W.cell? (b,0+0)=none:=by
   simp[World.cell?,Array.getElem?_eq_none a]
  rw[d]at c;cases c
end Go.Proofs.YtlfifnpjeangmaaGreatDoor
