import Derived.Test.YtlfifnpjeangmaaGreatDoorGERGivB
namespace Go.Proofs.YtlfifnpjeangmaaGreatDoor
open Go.RowKit
set_option maxRecDepth 100000
theorem Cx{P:Program}{c:Code}{Q:Exit->Act->World->Prop}{a:Act}{W:World}(X:World->Prop)(b:X W)(h:∀V,X V->Code.wp P c Q a V):Code.wp P c Q a W:=h W b
theorem IZ{K:Act->World->Prop}{a:Act}{W:World}(X:World->Prop)(b:X W)(h:∀V,X V->K a V):K a W:=h W b
structure F2(w W:World)(base yb:Nat)(M:DM)(g:RG)(gv:Nat)(v0 v1 v2 v3 v4:Int)(z:Value)(o:Option (Int×E))(x s:RE)(bx bs:Nat):Prop where
 f:FS w W base yb M g gv v0 v1 v2 v3 v4 z o
 x:W.rangeAt bx 0 x.cells
 s:W.rangeAt bs 0 s.cells
theorem F2.grown{w W b:World}{a p:Nat}{M:DM}{g:RG}{f:Nat}{i j l m n:Int}{z:Value}{o:Option (Int×E)}{x s:RE}{e d:Nat}(h:F2 w W a p M g f i j l m n z o x s e d)(k:W.grownBy b none):F2 w b a p M g f i j l m n z o x s e d:=
 ⟨h.f.grown k,aB h.x k,aB h.s k⟩
structure FT(U W:World)(fl se:Int)(cl:E)(au st fi rn:Int):Prop where
 g:U.grownBy W none
 t:W.rangeAt U.1.size 0 [Y fl,H se,.string ⟨cl.toArray⟩,Y au,Y st,Y fi,Y rn]
 l:b' W U.1.size 7
section
variable {U W:World}{fl se:Int}{cl:E}{au st fi rn:Int}
theorem FT.new(U)(fl se)(cl)(au st fi rn):FT U (U.alloc (.cells #[Y fl,H se,.string ⟨cl.toArray⟩,Y au,Y st,Y fi,Y rn] 43)) fl se cl au st fi rn:=
 ⟨cx U _ none,aS U #[Y fl,H se,.string ⟨cl.toArray⟩,Y au,Y st,Y fi,Y rn] _,b'.new U #[Y fl,H se,.string ⟨cl.toArray⟩,Y au,Y st,Y fi,Y rn] _⟩
theorem FT.grown{a:World}(h:FT U W fl se cl au st fi rn)(k:W.grownBy a none):FT U a fl se cl au st fi rn:=
 ⟨aa h.g k,aB h.t k,h.l.grown k⟩
theorem FT.drew(h:FT U W fl se cl au st fi rn):FT U W.drew fl se cl au st fi rn:=h.grown (bg (cC _ _))
theorem FT.BG(h:FT U W fl se cl au st fi rn)(v):FT U (W.setCell (F U.1.size 0) (Y v)) v se cl au st fi rn:=
 ⟨az h.g (cy _),qK h.t Z _,dH h.l _⟩
theorem FT.setSt(h:FT U W fl se cl au st fi rn)(v):FT U (W.setCell (F U.1.size 4) (Y v)) fl se cl au v fi rn:=
 ⟨az h.g (cy _),qK h.t Z _,dH h.l _⟩
theorem FT.xW(h:FT U W fl se cl au st fi rn)(v):FT U (W.setCell (F U.1.size 5) (Y v)) fl se cl au st v rn:=
 ⟨az h.g (cy _),qK h.t Z _,dH h.l _⟩
theorem FT.Rj(h:FT U W fl se cl au st fi rn)(a g)(f)(e b c d):FT U (((((((W.s U.1.size 0 (Y a)).s U.1.size 1 (H g)).s U.1.size 2 (.string ⟨f.toArray⟩)).s U.1.size 3 (Y e)).s U.1.size 4 (Y b)).s U.1.size 5 (Y c)).s U.1.size 6 (Y d)) a g f e b c d:=
 ⟨az (az (az (by grind [az,FT.g]) (cy _)) (cy _)) (cy _),fq h.l _ _ _ _ _ _ _,dH (dH (dH (by grind [dH,FT.l]) _) _) _⟩
theorem FT.tc(h:FT U W fl se cl au st fi rn):W.cell? (F U.1.size 0)=some (Y fl)/\W.cell? (F U.1.size 1)=some (H se)/\W.cell? (F U.1.size 2)=some (.string ⟨cl.toArray⟩)/\W.cell? (F U.1.size 3)=some (Y au)/\W.cell? (F U.1.size 4)=some (Y st)/\W.cell? (F U.1.size 5)=some (Y fi)/\W.cell? (F U.1.size 6)=some (Y rn):=
 ⟨h.t 0 _ rfl,h.t 1 _ rfl,h.t 2 _ rfl,h.t 3 _ rfl,h.t 4 _ rfl,h.t 5 _ rfl,h.t 6 _ rfl⟩
end
theorem FT.c41{w U W:World}{a n:Nat}{M:DM}{g:RG}{f:Nat}{j k i l m:Int}{z:Value}{o:Option (Int×E)}{x s:RE}{e d:Nat}{fl se:Int}{cl:E}{au st fi rn:Int}(b:F2 w U a n M g f j k i l m z o x s e d)(h:FT U W fl se cl au st fi rn):W.cell? (F f 2)=some (Y i)/\W.cell? (F U.1.size 4)=some (Y st)/\W.cell? (F e 3)=some (Y x.bI)/\W.cell? (F d 3)=some (Y s.bI):=
 ⟨(aB b.f.v h.g) 2 _ rfl,h.t 4 _ rfl,(aB b.x h.g) 3 _ rfl,(aB b.s h.g) 3 _ rfl⟩
theorem Kn(e b)(x s)(a d):(if zZ e b x s 4 2=true then fB e b x s a d else 0)=fB e b x s a d:=by
 rw[uS];cases zZ e b x s 4 2<;>rfl
theorem Rk{now:Int}{q:FQ}{x s:BE}(a:b9 now)(e:b9 q.ma)(d:b9 q.dI)(b:b9 q.bX):(mI now q x s).In:=by
 refine⟨?_,a,?_,BB now q x s d,?_⟩
 .show b9 (32+(if q.pre.isSome then 64 else 0)+(if aI q.aO 8=true then 24 else 0)+ig q.aO 7 x s);unfold ig b9;(repeat' split)<;>omega
 .show b9 (bH now q);grind [bH]
 .show b9 (fB q.aO 7 x s (bH now q) (j9 q.bX));unfold fB;split
  .exact lH b
  .exact gP
theorem xx{l:E}(h:di l=true):l.length<=90:=by
 grind [di]
theorem E5{n:Int}(h:1<=n/\n<=((4611686018427387904:Nat):Int)):b9 n:=by
 unfold b9;omega
theorem NV{a f:Nat}{M:DM}{g:RG}{i:GR}{w e:World}(l:M.aL.length<24)(d:RD w a f M g)(k:w.grownBy e none):Cw a f M g (.ok i) w e σ 60:=
 ⟨(dT l).symm,λ_=>⟨rfl,d.keep (λb j=>k.block b (d.lt b j).2 Z),k⟩,λh=>absurd h O⟩
section
variable {aA now:Int}{q:FQ}{x s:BE}
theorem ZQ(h:eY aA now x q.pre≠0):cO aA now q x s=eY aA now x q.pre:=by unfold cO;rw[dT h]
theorem ZR(h:eY aA now x q.pre=0)(a:q.aO<0\/15<q.aO):cO aA now q x s=13:=by
 unfold cO;rw[cZ (λk=>k h),dT a]
theorem Tk(h:eY aA now x q.pre=0)(a:¬ (q.aO<0\/15<q.aO))(b:aI q.aO 8=true)(d:¬ (x.has 16=true/\s.has 16=true)):cO aA now q x s=10:=by
 unfold cO;rw[cZ (λk=>k h),cZ a,dT ⟨b,d⟩]
theorem RC(h:eY aA now x q.pre=0)(b:¬ (q.aO<0\/15<q.aO))(a:aI q.aO 8=false)(d:aW now aA<q.ma):cO aA now q x s=10:=by
 unfold cO;rw[cZ (λk=>k h),cZ b,cZ (by rw[a];simp),dT ⟨a,d⟩]
def Tm(aA now:Int)(q:FQ)(x s:BE):Prop:=(aI q.aO 8=true->x.has 16=true/\s.has 16=true)/\(aI q.aO 8=false->¬ aW now aA<q.ma)
theorem NO(h:eY aA now x q.pre=0)(b:¬ (q.aO<0\/15<q.aO))(a:Tm aA now q x s):cO aA now q x s=if fO now q x s<=bH now q then 11 else 0:=by
 unfold cO;rw[cZ (λk=>k h),cZ b,cZ (λk=>k.2 (a.1 k.1)),cZ (λk=>a.2 k.1 k.2)]
end
end Go.Proofs.YtlfifnpjeangmaaGreatDoor
namespace Go.Proofs.YtlfifnpjeangmaaGreatDoor
open Go.RowKit
set_option maxRecDepth 100000
variable {M:DM}{now:Int}{n:Nat}
structure dX(M:DM)(n:Nat):Prop where
 aF:fZ n M.aF
 I1:∀e∈M.aF,b9 e.bI/\b9 e.aC
 aA:b9 M.aA
 aL:M.aL.length<=140737488355328
 times:∀y∈M.aJ,b9 y.time
theorem dX.mono{m:Nat}(h:dX M n)(a:n<=m):dX M m:=⟨h.aF.mono a,h.I1,h.aA,h.aL,h.times⟩
theorem dX.new{a:Int}{b:E}(h:0<=a)(i:a<=300)(g:b.length<=140737488355328)(n):dX ⟨a,[],[],b⟩ n:=
 ⟨fZ.nil n,λe d=>(by cases d),⟨by show _<=a;omega,by show a<=_;omega⟩,g,λy f=>by cases f⟩
theorem dX.bin(h:dX M n)(b:n<=4611686018427387904):∀e∈M.aF,e.In:=λe a=>
 ⟨⟨(h.aF.num e a).1,by have:=(h.aF.num e a).2;omega⟩,(h.I1 e a).1,(h.I1 e a).2,by have:=xx (h.aF.name e a);omega⟩
theorem NW(M)(now)(R):∃a,(dA M now R).2={M with aL:=a}/\a.length<=M.aL.length:=by
 unfold dA;cases R with
 |error c=>exact⟨M.aL,rfl,cy _⟩
 |ok g=>
  dsimp only;split
  .exact⟨M.aL,rfl,cy _⟩
  .exact⟨M.aL.drop 24,rfl,by rw[dr];omega⟩
theorem Rl{b:Int}{l:List PF}{p:PF}(h:∀y∈l,b9 y.time)(e:b9 p.time):∀y∈bJ b now l p,b9 y.time:=by
 intro y a;have d:∀y∈iQ b now l,b9 y.time:=λy a=>h y (List.mem_filter.1 a).1;unfold bJ at a;split at a
 .rcases eW.1 a with a|a
  .exact d y a
  .rw[ew.1 a];exact e
 .exact d y a
theorem Vz{q:NQ}{t:TK}{p:PF}(h:iW M now q=.ok (t,p)):b9 p.time:=by
 unfold iW at h;split at h
 .cases h
 .split at h
  .cases h
  .split at h
   .cases h
   .split at h
    .cases h
    .split at h
     .cases h
     .rename_i p' hp;split at h
      .cases h
      .split at h
       .cases h
       .injection h with h;injection h with h1 h2;subst h1 h2;rw[yB]at hp;split at hp
        .injection hp with hp;rw[<-hp];exact YX _
        .cases hp
theorem dX.draw(h:dX M n){a:E}(b:a.length<=M.aL.length):dX {M with aL:=a} n:=⟨h.aF,h.I1,h.aA,cE b h.aL,h.times⟩
theorem dX.proof(h:dX M n){a:List PF}(b:∀y∈a,b9 y.time):dX {M with aJ:=a} n:=⟨h.aF,h.I1,h.aA,h.aL,b⟩
theorem dX.fin(h:dX M n)(now)(R):dX (dA M now R).2 n:=by
 obtain⟨d,a,b⟩:=NW M now R;rw[a];exact h.draw b
theorem dX.answer(h:dX M n)(now)(b):dX (dG M now b).2 n:=by
 unfold dG;split
 .exact h.fin now _
 .split
  .rename_i q _;unfold tT;split
   .exact h
   .rename_i t p hp;have a:dX {M with aJ:=bJ M.aA now M.aJ p} n:=h.proof (Rl h.times (Vz hp));dsimp only;split
    .exact a
    .exact a.fin now _
  .exact h
theorem dX.adm(h:dX M n)(j:1<=n)(a)(f:b9 a.bI)(g:b9 a.aC):dX {M with aF:=(fD M.aF a).1} (n+1):=by
 refine⟨h.aF.fD j a,?_,h.aA,h.aL,h.times⟩;have d:∀(i)(y),(b9 y.bI/\b9 y.aC)->∀e∈M.aF.set i y,b9 e.bI/\b9 e.aC:=by
  intro i y k e b;rcases List.mem_or_eq_of_mem_set b with b|rfl
  .exact h.I1 e b
  .exact k
 show ∀e∈(fD M.aF a).1,_;unfold fD;split
 .split
  .exact h.I1
  .split
   .exact h.I1
   .split
    .exact h.I1
    .split
     .exact h.I1
     .intro e b;rcases eW.1 b with b|b
      .rcases eW.1 b with b|b
       .exact h.I1 e (List.mem_of_mem_take b)
       .rw[ew.1 b];exact⟨f,g⟩
      .exact h.I1 e (List.mem_of_mem_drop b)
 .split
  .split
   .exact h.I1
   .split
    .intro e b;rcases eW.1 b with b|b
     .exact h.I1 e (List.mem_of_mem_take b)
     .exact h.I1 e (List.mem_of_mem_drop b)
    .split
     .exact h.I1
     .rename_i x hx;split
      .exact d _ _ (h.I1 x (ey hx))
      .split
       .exact h.I1
       .exact d _ _ ⟨f,g⟩
  .exact h.I1
theorem Ba{l:List E}(h:l.flatten.length<=n):(jO l).length<=n+4:=cE (oP 48 _) (Nat.add_le_add_right h 4)
theorem lK(v):(bS v).length<=10:=(fu v).2
theorem ZT(k):(nD k).length<=12:=cE (oP 4 _) (by rw[Pure.bQ];exact cy _)
theorem sT{p:Prop}(h:p:=by
 simp only[eI,List.flatten_nil,cD,List.length_nil]
 omega):p:=h
theorem rP(now c):(aY now c).length<=900:=by
 unfold aY;have a:=lK 30;have b:=lK now;have d:=lK c;refine cE (Ba (n:=30) ?_) O;exact sT
theorem Rr(d)(t)(s)(g h)(e f a b)(i:t.ay.length<=90)(m:s.name.length<=90):(lU d t s g h e f a b).length<=900:=by
 have k:t.plain.length<=160:=by
  unfold TK.plain;have:=lK t.ae;have:=lK t.dV;have:=lK t.start;have:=lK t.fin;have:=lK t.aC;have:=ZT t.aN;have:(dx t.ay).length<=94:=cE (oP 4 _) G;refine cE (Ba (n:=156) ?_) O;exact sT
 have l:(ow t g s).length<=170:=by
  unfold ow;have:=lK g;have:=lK t.ae;have:=lK t.dV;have:=lK t.start;have:=lK t.fin;have:=lK t.aC;have:=ZT t.aN;have:(dx s.name).length<=94:=cE (oP 4 _) G;refine cE (Ba (n:=166) ?_) O;exact sT
 have o:(wV t s a).length<=288:=by
  unfold wV;have:=lK s.aH;have:(dx s.name).length<=94:=cE (oP 4 _) G;have:(dx (Pure.dY s.key 2 a t.plain)).length<=180:=cE (oP 4 _) sz;refine cE (Ba (n:=284) ?_) O;exact sT
 have j:(jO [bS h,dx (Pure.dY e f b (ow t g s))]).length<=204:=by
  have:=lK h;have:(dx (Pure.dY e f b (ow t g s))).length<=190:=cE (oP 4 _) sz;refine cE (Ba (n:=200) ?_) O;exact sT
 unfold lU;have:=lK d;have:(dx t.ay).length<=94:=cE (oP 4 _) G;refine cE (Ba (n:=596) ?_) O;exact sT
theorem yr{p:Prop}(h:p:=by
 split at h
 .cases h
 .injection h with h;rw[<-h]):p:=h
theorem Ko{a t:TK}{x s:BE}{e d b:Int}(h:fresh now a x s e d b=.ok t):t.ay=a.ay:=by
 unfold fresh at h;split at h
 .exact yr
 .split at h
  .exact yr
  .exact yr
theorem ZU{R:Except Int GR}(h:∀g,R=.ok g->g.t.ay.length<=90/\g.s.name.length<=90):(dA M now R).1.length<=900:=by
 unfold dA;cases R with
 |error c=>exact rP now c
 |ok g=>
  dsimp only;split
  .exact rP now 60
  .exact Rr _ _ _ _ _ _ _ _ _ (h g rfl).1 (h g rfl).2
theorem Cy(h:dX M n){l:E}{e:BE}(b:BE.find M.aF l=some e):l.length<=90/\e.name.length<=90:=by
 have a:=xx (h.aF.name e (mq b));exact⟨by rw[<-lV b];exact a,a⟩
theorem Bb(h:dX M n)(now)(b):(dG M now b).1.length<=900:=by
 unfold dG;split
 .rename_i q _;refine ZU (λg a=>?_);unfold mB at a;split at a
  .cases a
  .cases a
  .rename_i x s hx hs;split at a
   .cases a
   .split at a
    .cases a
    .injection a with a;rw[<-a];exact⟨(Cy h hx).1,(Cy h hs).2⟩
 .split
  .rename_i q _;unfold tT;split
   .exact rP now _
   .rename_i t p hp;dsimp only;split
    .exact rP now _
    .refine ZU (λg a=>?_);unfold eu at a;split at a
     .cases a
     .split at a
      .cases a
      .split at a
       .cases a
       .cases a
       .rename_i s x hs hx;split at a
        .cases a
        .split at a
         .cases a
         .split at a
          .cases a
          .rename_i u hu;injection a with a;rw[<-a];exact⟨by show u.ay.length<=90;rw[Ko hu];exact(Cy h hx).1,(Cy h hs).2⟩
  .exact rP now 60
set_option linter.unusedSimpArgs false
theorem yL(k):Builtin.zeroCells #[.int .u8 0] k=((List.replicate k (0:UInt8)).map U8).toArray:=by
 unfold Builtin.zeroCells;apply Array.ext';simp only[List.map_replicate];refine List.ext_getElem Z (λj a b=>?_);simp[U8,Nat.mod_one]
theorem GZ{P:Program}(w)(t L S e)(i)(kn)(J:P.underlying t=some (.slice e))(f:P.underlying L=some (.int kn))(r:P.info? e=some i)(X:i.zero=some (.int .u8 0))(R:i.size=1)(Q:i.bytes=1)(v)(p)(a)(hv:f' w v p a)(k:Nat)(hk:k<=1000)(hl:a.length<=1000000):
  ∃b d,(Builtin.append_ #[t,L] S #[v,Y k]).run P w=.ok b d/\aU w d b p (a++List.replicate k 0):=by
 have hw:IntKind.i64.wrap (k:Int)=k:=oE
 have B:¬ ((k:Int)<0):=G
 have K:IntKind.i64.wrap 0=0:=O
 have o:¬ (281474976710656<(k:Int)*(i.bytes:Int)):=by rw[Q];omega
 have A:a.length+k<=maxLen:=kO
 rcases hv with⟨l,rfl,rfl⟩|⟨q,l,rfl,h1,h2,M,h4⟩
 .by_cases h:k=0
  .subst h;refine⟨σ,w,?_,⟨none,by simpa using f'.nil w,CF.refl _ _,.inl l.symm,λ_ _ _=>l.symm⟩⟩;simp[Builtin.append_,run_underlying J,run_underlying f,sizeOf,typeInfo,r,asInt,asIntOf,K]
  .have D:=Lib.run_append_nil_zeros (P:=P) w t L S e i (.int .u8 0) .i64 kn J f r X k G G G (by rw[Q];omega);have W:=grownCap_ge w k 0 e;have b:grownCap w k 0 e<=maxLen:=(by grind [grownCap_le_maxLen])
   obtain⟨m,y⟩:∃m,grownCap w k 0 e=k+m:=⟨grownCap w k 0 e-k,by omega⟩
   rw[y]at D b;obtain⟨U,V⟩:=wQ w e (List.replicate k 0) k m Z (Pl.has p) b;refine⟨_,_,D,?_⟩;rw[show k+m-k=m from by omega];have T:Builtin.zeroCells (Value.int IntKind.u8 0).cells k=((List.replicate k (0:UInt8)).map U8).toArray:=yL k;rw[T];exact⟨some ⟨w.1.size,0,k+m⟩,U,V,.inr (λq g=>by injection g with g;subst g;exact cy _),λq g=>by rw[l]at g;cases g⟩
 .by_cases d:a.length+k<=q.cap
  .have n:=run_storeCells_cells (P:=P) q.g (q.off+a.length) ((List.replicate k (0:UInt8)).map U8) 0 w (λj hj=>M.some _ (by simp at hj;omega)) (λj _=>M.frozen _) (oW _);simp only[ft]at n;have hc:(Builtin.append_ #[t,L] S #[ς q.g q.off a.length q.cap,Y k]).run P w=.ok (ς q.g q.off (a.length+k) q.cap) (w.setCells q.g (q.off+a.length) ((List.replicate k (0:UInt8)).map U8)):=by
    by_cases h:k=0
    .subst h;simp[Builtin.append_,run_underlying J,run_underlying f,sizeOf,typeInfo,r,asInt,asIntOf,K,R,h1,storeCells,World.setCells]
    .have u:¬ (k*i.size=0):=(by rw[R];omega);simp[Builtin.append_,run_underlying J,run_underlying f,sizeOf,typeInfo,zeroValue,r,X,asInt,asIntOf,hw,B,u,h,o,d,R,Addr.add_lit,Value.cells,yL,n];have x:=n;simp only[List.map_replicate]at x;rw[x];rfl
   have F:CF w (w.setCells q.g (q.off+a.length) ((List.replicate k (0:UInt8)).map U8)) (Pl.has p):=by
    refine CF.setCells q.g _ _ w (CF.refl _ _) (λj hj _=>⟨q,l,rfl,?_,?_⟩)
    .omega
    .simp at hj;omega
   refine⟨_,_,hc,⟨some q,?_,F,.inl l.symm,λ_ _ _=>l.symm⟩⟩;refine .inr ⟨q,rfl,by simp,by simpa using d,h2,M.cf F,?_⟩;intro j u h;rw[ef]at h;by_cases hj:j<a.length
   .rw[cW tj]at h;rw[World.cell?_setCells_out q.g _ _ w _ fA];exact h4 j u h
   .rw[cY (by simpa using Nat.le_of_not_lt hj),cR]at h;have x:=(cM.1 h).1;have:=World.cell?_setCells_in q.g ((List.replicate k (0:UInt8)).map U8) (q.off+a.length) w (λm y=>M.some _ (by simp at y;omega)) (j-a.length) x;rw[show q.off+a.length+(j-a.length)=q.off+j from by omega]at this;rw[this,<-h,cL x]
  .have C:(Builtin.firstCells i.size a.length (ς q.g q.off a.length q.cap)).run P w.drew=.ok (a.map U8).toArray w.drew:=
    run_firstCells_some w.drew _ a.length ⟨q.g,q.off,none⟩ a.length q.cap (a.map U8) (by simp[R]) (λj u h=>by rw[Addr.add_lit];exact h4 j u h)
   have j:=growslice_fits (need:=a.length+k) (old:=q.cap) (bytes:=i.bytes) G (by rw[Q];omega);have D:=Lib.run_append_grow_zeros (P:=P) w t L S e i (.int .u8 0) .i64 kn J f r X (some ⟨q.g,q.off,none⟩) a.length q.cap (a.map U8) C k G G G G (by rw[Q];omega) j;have W:=grownCap_ge w (a.length+k) q.cap e;have b:=grownCap_le_maxLen w _ q.cap e A;obtain⟨m,y⟩:∃m,grownCap w (a.length+k) q.cap e=a.length+k+m:=⟨grownCap w (a.length+k) q.cap e-(a.length+k),by omega⟩
   rw[y]at D b;obtain⟨U,V⟩:=wQ w e (a++List.replicate k 0) (a.length+k) m Z (Pl.has p) b;refine⟨_,_,D,?_⟩;rw[show a.length+k+m-(a.length+k)=m from by omega];have T:(a.map U8).toArray++Builtin.zeroCells (Value.int IntKind.u8 0).cells k=((a++List.replicate k 0).map U8).toArray:=by
    rw[show(Value.int IntKind.u8 0).cells=#[.int .u8 0] from rfl,yL,ef];simp
   rw[T];refine⟨some ⟨w.1.size,0,a.length+k+m⟩,U,V,.inr (λq g=>by injection g with g;subst g;exact cy _),λu h n=>?_⟩;rw[l]at h;injection h with h;subst h;simp at n;omega
variable {P:Program}
theorem N7(b)(f:∀v∈b,v.cells=#[v]):∀(k)(a),k+b.length<=a.size->
  Instr.fill (λi=>some (i*1,1)) a ((b.zipIdx k).map λx=>(x.2,x.1))=some ((a.toList.take k++b++a.toList.drop (k+b.length)).toArray):=by
 induction b with
 |nil=>
  intro k a _;simp[Instr.fill]
 |cons v b l=>
  intro k a i;simp only[de]at i;have j:=f v Z;have e:=l (λu d=>f u (by simp[d])) (k+1);simp only[List.zipIdx_cons,eE,Instr.fill,j];have g:(decide (#[v].size≠1)||decide (k*1 + #[v].size > a.size))=false:=by
   have m:¬ (k*1+1 > a.size):=G;simp;omega
  have h:Array.foldl (λd x=>d.setIfInBounds (k*1+x.snd) x.fst) a #[v].zipIdx=a.setIfInBounds k v:=by
   grind
  rw[g,h];simp only[fL,if_false];rw[e (a.setIfInBounds k v) j'];congr 2;have d:k<a.toList.length:=j';rw[Array.toList_setIfInBounds,de];rw[show k+(b.length+1)=k+1+b.length from by omega];rw[List.drop_set_of_lt G];rw[dy (by simpa using d),List.getElem_set_self,List.take_set_of_le G];simp
theorem Rg(w)(t e)(i)(z)(l:P.underlying t=some (.slice e))(h:P.info? e=some i)(k:i.size=1)(m:i.zero=some z)(a:List Value)(n)(j:a.length=n)(o:0<n)(p:n<=1000)(g:∀v∈a,v.cells=#[v]):
  (Instr.buildSlice t n ((a.zipIdx.map λx=>(x.2,x.1)).toArray)).run P w=.ok (ς w.1.size 0 n n) (w.alloc (.cells a.toArray e)):=by
 subst j
 have f:Instr.fill (λi=>some (i*1,1)) ((Array.range (a.length*1)).map (z.cells[· % z.cells.size]!)) (a.zipIdx.map λx=>(x.2,x.1))=some a.toArray:=by
  rw[N7 a g 0 _ Z];simp
 have d:¬ (16777216<a.length*1):=G
 have b:¬ (a.length*1=0):=G
 simp only[fR]at d b
 unfold Instr.buildSlice
 simp[run_underlying l,sizeOf,typeInfo,h,k,zeroValue,m,d,b]
 simp only[fR]at f
 rw[f]
 simp[newRow]
theorem NN{o:Oper}{a:Act}{w:World}{K:Act->World->Prop}{Q:Exit->Act->World->Prop}(t)(n)(b)(g:o.op=.buildSlice t n b)(e)(i)(z)(y:P.underlying t=some (.slice e))(p:P.info? e=some i)(u:i.size=1)(A:i.zero=some z)(d:List Value)(f:(b.toList.map λx=>(x.1,a.eval x.2))=d.zipIdx.map λx=>(x.2,x.1))(q:d.length=n)(h:0<n)(k:n<=1000)(j:∀v∈d,v.cells=#[v])(l:K (a.put o.dst (ς w.1.size 0 n n)) (w.alloc (.cells d.toArray e))):Oper.wp P o a w K Q:=by
 have r:=Rg (P:=P) w t e i z y p u A d n q h k j
 unfold Oper.wp
 simp only[execOp,g]
 have m:(b.map λ(i,x)=>(i,a.eval x))=(d.zipIdx.map λx=>(x.2,x.1)).toArray:=by
  rw[<-f];apply Array.ext';simp
 rw[m]
 simp[r]
 exact l
theorem lA.bsl{W:World}{B:Nat}{L:List (Value×E)}(h:lA W B L){o:Oper}{a:Act}{K:Act->World->Prop}{Q:Exit->Act->World->Prop}(t)(n)(b)(f:o.op=.buildSlice t n b)(e)(i)(z)(r:P.underlying t=some (.slice e))(m:P.info? e=some i)(q:i.size=1)(y:i.zero=some z)(d:(b.toList.map λx=>(x.1,a.eval x.2))=((L.reverse.map λx=>x.1).zipIdx).map λx=>(x.2,x.1))(p:(L.reverse.map λx=>x.1).length=n)(g:0<n)(k:n<=1000)(l:K (a.put o.dst (ς W.1.size 0 n n)) (W.alloc (.cells (L.reverse.map λx=>x.1).toArray e))):Oper.wp P o a W K Q:=
 NN t n b f e i z r m q y _ d p g k (λv u=>by
  obtain⟨x,w,rfl⟩:=List.mem_map.1 u
  obtain⟨a,c,j⟩:=(h x (List.mem_reverse.1 w)).1.shape
  rw[j]
  rfl) l
theorem Tryz.Bd:(Tryz.prog.info? 37).map (λi=>(i.zero,i.size,i.bytes))=some (some σ,1,24):=by kernel_rfl
theorem yd{p:Prop}(h:p:=by first|exact jU _ _ (by decide)|exact fK _ _ (by omega)|exact fK _ _ (by rw[Pure.bQ];decide)|exact fK _ _ (by rw[Pure.dh];omega)|exact fK _ _ (by decide)):p:=h
variable {p q r:Prop}
theorem oB{s:Prop}(C:r)(B:s)(k:q)(h:r->s->Hid q->p:=by intro C5 B5 hq;intro K hK;refine Calls.mono C5 ?_;rintro e V5 ⟨o5,rfl,q5,g5⟩;obtain⟨a5,c5,rfl⟩:=q5.shape;have uN:=I (HA.push g5 q5 yd);have Tn:=I (aa dZ g5);clear q5 g5;go_wp2_with fail;refine hK.out _ _ (.inr Tn) ?_;(try simp only[Act.put,List.getElem_toArray,List.getElem_cons_zero,List.getElem_cons_succ,eh,ej,eJ]);revert uN Tn;revert V5 a5 c5;exact hq):p:=h C B (I k)
theorem nF{s:Prop}(C:r)(B:s)(k:q)(h:r->s->Hid q->p:=by intro C5 B5 hq;intro K hK;refine Calls.mono C5 ?_;rintro e V5 ⟨o5,rfl,q5,g5⟩;obtain⟨a5,c5,rfl⟩:=q5.shape;have uN:=I (HA.push g5 q5 yd);have Tn:=I (aa dZ g5);have HZ5:=I (HZ.grown g5);clear q5 g5;go_wp2_with fail;refine hK.out _ _ (.inr Tn) ?_;(try simp only[Act.put,List.getElem_toArray,List.getElem_cons_zero,List.getElem_cons_succ,eh,ej,eJ]);revert uN Tn HZ5;revert V5 a5 c5;exact hq):p:=h C B (I k)
theorem rf{s:Prop}(C:r)(B:s)(k:q)(h:r->s->Hid q->p:=by intro C5 B5 hq;intro K hK;refine Calls.mono C5 ?_;rintro e V5 ⟨o5,rfl,q5,g5⟩;obtain⟨a5,c5,rfl⟩:=q5.shape;have uN:=I (HA.push g5 q5 yd);have Tn:=I (aa dZ g5);have HZ5:=I (HZ.grown g5);have HB5:=I (HB.grown g5);clear q5 g5;go_wp2_with fail;refine hK.out _ _ (.inr Tn) ?_;(try simp only[Act.put,List.getElem_toArray,List.getElem_cons_zero,List.getElem_cons_succ,eh,ej,eJ]);revert uN Tn HZ5 HB5;revert V5 a5 c5;exact hq):p:=h C B (I k)
set_option maxHeartbeats 16000000
open Proofs.Tryz
theorem kF{P:Program}{c:Code}{Q:Exit->Act->World->Prop}{a:Act}{W:World}(X:World->Prop)(b:X W)(h:∀V,X V->Code.wp P c Q a V):Code.wp P c Q a W:=h W b
theorem Kt{p q:Prop}(k:q)(h:q->p:=by
  intro hq
  obtain⟨t0,t1,t2,t3,t4,t5,t6⟩:=HW.tc
  obtain⟨⟨d0,k0⟩,⟨d1,k1⟩,⟨d2,k2⟩,⟨d3,k3⟩,⟨d4,k4⟩,⟨d5,k5⟩,⟨d6,k6⟩,f0,f1,f2,f3,f4,f5,f6⟩:=pV HW.r
  go_wp2
  refine bodyPost_ret (aG results109 _ _ _ (w.1.size+1) rfl _ (iF (fq HW.r _ _ _ _ _ _ _))) rfl ?_
  exact hq):p:=h k
theorem VB(d j)(M)(g)(f)(q)(z pv)(w)(v:RD w d j M g)(bx:fZ 4611686018427387904 M.aF)(ba:d<=w.1.size)(hz:wm w z q.dO)(df:q.dO.length<=900)(B:wm w pv q.proof)(dc:q.proof.length<=900)(dB:b9 f)(dd:M.aJ.length<=1000)(Ai:∀y∈M.aJ,b9 y.time):Calls prog 109 #[π j 0,Y f,.agg #[.string ⟨q.fU.toArray⟩,Y q.oC,z],pv,.string ⟨q.aV.toArray⟩,Y q.aO] w λe w'=>∃t c,e=.returned (.tuple #[.agg t.cells.toArray,Y c])/\nS d j g (iH M f q) w w' t c:=by
 obtain⟨A,a⟩:=N (iH M f q)
 rw[a]
 have C:=I a
 clear a
 obtain⟨T0,i⟩:∃t:TK,t=⟨0,0,[],0,0,0,0⟩:=⟨_,rfl⟩
 have cl:Hid T0.In:=by rw[i];exact rO
 obtain⟨n,u,rfl,l,m,x⟩:=hz
 have p:OW w (((w.alloc (.cells #[.string ⟨q.fU.toArray⟩,Y q.oC,.slice n q.dO.length u] 233)).alloc (.cells #[Y 0,H 0,ε,Y 0,Y 0,Y 0,Y 0] 43)).alloc (.cells #[Y 0,H 0,ε,Y 0,Y 0,Y 0,Y 0] 43)) d j M g q (.slice n q.dO.length u) pv T0:=by
  have k:=λa o=>cx a o none;have G:=aM (aM (cx w (.cells #[.string ⟨q.fU.toArray⟩,Y q.oC,.slice n q.dO.length u] 233) none) (.cells #[Y 0,H 0,ε,Y 0,Y 0,Y 0,Y 0] 43)) (.cells #[Y 0,H 0,ε,Y 0,Y 0,Y 0,Y 0] 43);refine⟨v.keep (λb hb=>G.block b (v.lt b hb).2 Z),?_,?_,?_,?_,wm.grown ⟨n,u,rfl,l,m,x⟩ G,B.grown G,G⟩
  .exact Kl
  .exact Kl
  .rw[i];exact Kl
  .exact Kl
 have a:=I p
 have HZ:Hid (wm w (.slice n q.dO.length u) q.dO):=⟨n,u,rfl,l,m,x⟩
 have HP:=I B
 have HD:=I v
 obtain⟨U,da⟩:=N q.dO.length
 rw[da]at a HZ⊢
 clear p l m x B v i
 have WJ:=I (λW=>eT q.aO 16 4 W O O)
 have ZV:=I (λW=>eT q.aO 32 5 W O O)
 obtain⟨b4,h4⟩:=N (aI q.aO 16)
 obtain⟨b5,l⟩:=N (aI q.aO 32)
 rw[h4]at WJ
 rw[l]at ZV
 obtain⟨ag,i⟩:=N ((b4||b5))
 have au:Hid (jB q=(ag&&decide (q.fU=q.aV))):=by show _=_;rw[<-i,<-h4,<-l];rfl
 have ak:=I i
 clear h4 l i
 go_in
 go_upto_region 2 with fail
 refine kF (λV=>OW w V d j M g q (.slice n U u) pv T0) a ?_
 clear a
 intro W hW
 have HW:=I hW
 clear hW
 go_cut [15] (λx i=>x=.bool ag/\W=i)
 case first=>
  have HX:=I ak.o;clear ak au C;cases b4 with
  |true=>
   go_wp2_with (go_at_call 102;(with_reducible refine Calls.mono (WJ.o _) ?_);rintro e w' ⟨rfl,rfl⟩)
   exact m'
  |false=>
   go_wp2_with (go_at_call 102;(first|(with_reducible refine Calls.mono (WJ.o _) ?_)|(with_reducible refine Calls.mono (ZV.o _) ?_));rintro e w' ⟨rfl,rfl⟩)
   exact m'
 case rest=>
  obtain⟨rfl,rfl⟩:=hcut;clear WJ ZV ak;have c0:W.c w.1.size 0=some (.string ⟨q.fU.toArray⟩):=HW.c 0 _ rfl;have c1:W.c w.1.size 1=some (Y q.oC):=HW.c 1 _ rfl;have c2:W.c w.1.size 2=some (.slice n U u):=HW.c 2 _ rfl;obtain⟨bq,a⟩:=N ((!decide (q.fU=[116,103,115])&&!(ag&&decide (q.fU=q.aV))));have rz:=I a;clear a;go_upto_region 3 with fail
  go_cut [41] (λx i=>x=.bool bq/\W=i)
  case first=>
   clear au C;by_cases a:q.fU=[116,103,115]
   .have B:=db.2 a;have l:=I a;clear a;go_wp2_with fail;exact m'
   .have B:=cJ.2 a;have l:=I a;clear a;cases ag with
    |false=>
     go_wp2_with fail;exact m'
    |true=>
     by_cases a:q.fU=q.aV
     .have m:=db.2 a;have i:=I a;clear a;go_wp2_with fail;exact m'
     .have m:=cJ.2 a;have i:=I a;clear a;go_wp2_with fail;exact m'
  case rest=>
   obtain⟨rfl,rfl⟩:=hcut;cases bq with
   |true=>
    have a:q.fU≠[116,103,115]/\jB q=false:=by
     grind [Hid.o]
    have i:=I a;clear a;have HS:Hid (A=(.error 36,M)):=(by grind [Hid.o,Nc]);clear C;refine Kt ?_;exact⟨T0,36,rfl,by grind [Vs,OW.g,Hid.o,kE]⟩
   |false=>
    have qf:Hid (q.fU=[116,103,115]\/jB q=true):=by
     grind [Hid.o]
    clear rz au;have CF:=I (λW (hW:RD W d j M g)=>xw d j M g q.fU W hW bx.len);have a:=uk g.es q.fU;rw[HD.aF]at a;obtain⟨fa,i⟩:=N (gu g.es q.fU);rw[i]at CF a;have l:=I a;clear a i;go_wp2_with fail;refine(CF _ HW.d).mono ?_;rintro e W1 ⟨rfl,a⟩;have ai:=I (HW.grown a);clear HW a CF c0 c1 c2;rcases l.o with⟨L,a⟩|⟨i,hi,cz,J⟩
    .have m:=I a;subst L;clear l a;have HS:Hid (A=(.error 7,M)):=(by grind [Hid.o,Nf]);clear C;have HW:=ai;refine Kt ?_;exact⟨T0,7,rfl,by grind [Hid.o,OW.g,kE,Vs]⟩
    .have cu:¬ (i:Int)<0:=aZ;have cv:(0:Int)<=(i:Int):=aZ;obtain⟨gb,cb,p,D⟩:=um ai.d aZ;obtain⟨m,L⟩:=N g.es.length;have OL:(i:Int)<(m:Int):=aZ;have bm:=I p;have HM:=I L;have ch:=I hi;obtain⟨x,a⟩:=N (g.es[i]'hi);have cm:=I a;have v:x.be∈M.aF:=(by grind [RD.aF,Hid.o]);have Q:BE.find M.aF q.fU=some x.be:=(by rw[<-a];exact J);have P:1<=x.aH/\x.aH<=4611686018427387904:=bx.num x.be v;have HX:=I Q;subst cz;clear l Q J p D L a v;have CK:=I (λW=>EW x q.oC W P.1 (by have:=P.2;omega));obtain⟨ko,a⟩:=N (x.be.keyOf q.oC);rw[a]at CK;have an:=I a;clear a P;obtain⟨kv,bc⟩:∃k:Int,((ko.getD 0).toNat:Int)=k:=⟨_,rfl⟩
     obtain⟨kb,a⟩:∃k:Bool,ko.isSome=k:=⟨_,rfl⟩
     rw[bc,a]at CK;have ao:=I bc;have ae:=I a;clear bc a;have p:Hid (∀V,OW w V d j M g q (.slice n U u) pv T0->V.cell? (F j 1)=some (ς gb 0 m cb)/\V.rangeAt gb 0 (bK g.es)):=by
      intro V v;obtain⟨J,D,l,a⟩:=um v.d (by have:=ch.o;omega);have e:=bm.o.symm.trans l;injection e with e1 e2 e3;injection e1 with e1;injection e1 with e1;subst e1;refine⟨?_,a⟩;have:=v.d.bP.blk.cell 1;grind [Hid.o]
     go_wp2_with fail;refine aD.start (S:=λV=>OW w V d j M g q (.slice n U u) pv T0) 9 gJ ?_;have dZ:=I ai.drew;clear ai;refine aD.tk 0 [6,5,3,2,1,0] ?_;refine aD.tk 1 [6,5,3,2,1] ?_;refine aD.tk 2 [6,5,3,2] ?_;refine aD.tk 3 [6,5,3] ?_ (hy:=by intro W hW;have y1:=(p W hW).1;exact kJ);refine aD.tk 4 [6,5,4] ?_;refine aD.tk 5 [6,5] ?_;refine aD.tk 6 [6] ?_ (hy:=by intro W hW;have a:=(p W hW).2;obtain⟨x0,x1,x2,x3,x4,x5,x6,x7,x8,x9⟩:=uT a i hi;rw[cm]at x0 x1 x2 x3 x4 x5 x6 x7 x8 x9;clear a;exact kJ);refine aD.tk 7 [8,7] ?_;refine aD.tk 8 [8] ?_ (hy:=by intro W hW;have c1:W.c w.1.size 1=some (Y q.oC):=hW.c 1 _ rfl;exact kJ);refine aD.on 9 ?_;intro K hK;refine Calls.mono (CK _) ?_;rintro e W2 ⟨rfl,a⟩;have HW:=I (dZ.grown a);clear a;go_wp2_with fail;refine gO ?_;clear hK K CK dZ;refine aD.fr 10 ?_;refine aD.fr 11 ?_;refine aD.fr 12 ?_;refine aD.fr 13 ?_;refine aD.fr 14 ?_;refine aD.done gJ ?_;clear p bm HM cu cv OL;cases kb with
     |false=>
      have a:Hid (x.be.keyOf q.oC=none):=(by show _=_;rw[an];have:=ae.o;cases ko with|none=>rfl|some k=>cases this);clear an ao ae;have HS:Hid (A=(.error 44,M)):=(by grind [Hid.o,SQ]);clear C;refine Kt ?_;exact⟨T0,44,rfl,by grind [Hid.o,Vs,OW.g,kE]⟩
     |true=>
      obtain⟨T,a⟩:∃k,ko=some k:=by have:=ae.o;cases ko with|none=>cases this|some k=>exact⟨k,rfl⟩
      have J:Hid (x.be.keyOf q.oC=some T):=fA;have cn:kv=(T.toNat:Int):=(by rw[<-ao,a];rfl);subst cn;clear an ao ae a;have c2:W2.c w.1.size 2=some (.slice n U u):=HW.c 2 _ rfl;have CO:=I (λW (hW:wm W (.slice n U u) q.dO)=>xu T 2 2 q.dO (.slice n U u) W O O rfl df hW);obtain⟨ol,R⟩:=N (eX T 2 q.dO);rw[R]at CO;have VC:=I R;clear R;go_wp2_with fail;refine(CO _ HW.z).mono ?_;rintro e W3 ⟨o,rfl,ad,bk,a⟩;have aj:=I (HW.grown a);have L:=I ad;clear HW a c2 ad bk CO;cases ol with
      |none=>
       have p:Hid ((eX T 2 q.dO).bind dR=none):=(by show _=_;rw[VC];rfl);clear VC L;simp only[Option.isSome_none];have HS:Hid (A=(.error 31,M)):=(by grind [Hid.o,Tp]);clear C;have HW:=aj;refine Kt ?_;exact⟨T0,31,rfl,by grind [Hid.o,Vs,OW.g,kE]⟩
      |some l=>
       obtain⟨Q,bf⟩:=L l rfl;have CT:=I (zX l o W3 Q aZ);obtain⟨oa,oc,ho⟩:=Q.shape;subst ho;clear Q bf L;simp only[dj];obtain⟨tb,B⟩:=N ((dR l).isSome);rw[B]at CT;have WH:=I B;clear B;obtain⟨ln,ab⟩:=N l.length;rw[ab]at CT⊢;clear ab;obtain⟨⟨d0,k0⟩,⟨d1,k1⟩,⟨d2,k2⟩,⟨d3,k3⟩,⟨d4,k4⟩,⟨d5,k5⟩,⟨d6,k6⟩,f0,f1,f2,f3,f4,f5,f6⟩:=pV aj.o.lt;go_wp2_with fail;refine CT.mono ?_;rintro e W4 ⟨t,rfl,P,D,X⟩;rw[TK.oO t];have cp:=I D;have av:=I P;have a:=I (aj.grown X);have v:=I (a.aoA HD HZ HP t);clear d0 k0 f0 d1 k1 f1 d2 k2 f2 d3 k3 f3 d4 k4 f4 d5 k5 f5 d6 k6 f6;obtain⟨⟨d0,k0⟩,⟨d1,k1⟩,⟨d2,k2⟩,⟨d3,k3⟩,⟨d4,k4⟩,⟨d5,k5⟩,⟨d6,k6⟩,f0,f1,f2,f3,f4,f5,f6⟩:=pV a.o.lt;clear D P X aj CT cl;go_upto_region 15 with fail
       refine kF (λV=>OW w V d j M g q (.slice n U u) pv t) v ?_;clear d0 k0 f0 d1 k1 f1 d2 k2 f2 d3 k3 f3 d4 k4 f4 d5 k5 f5 d6 k6 f6 a v;intro W5 a;have HW:=I a;clear a;cases tb with
       |false=>
        have p:Hid ((eX T 2 q.dO).bind dR=none):=(by show _=_;rw[VC];have:=WH.o;show dR l=none;cases h:dR l with|none=>rfl|some y=>rw[h]at this;cases this);clear VC WH av;have HS:Hid (A=(.error 31,M)):=(by show _=_;rw[<-C];exact Tp qf HX J p);clear C;refine Kt ?_;exact⟨t,31,rfl,by grind [kE,Hid.o,Vs,OW.g]⟩
       |true=>
        have X:Hid ((eX T 2 q.dO).bind dR=some t):=(by show _=_;rw[VC];have:=WH.o;show dR l=some t;cases h:dR l with|none=>rw[h]at this;cases this|some y=>rw[av y h]);clear VC WH av;obtain⟨t0,t1,t2,t3,t4,t5,t6⟩:=HW.tc;have CO:=I (λW (hW:wm W pv q.proof)=>xu t.aN 4 4 q.proof pv W O O rfl dc hW);obtain⟨ol,R⟩:=N (eX t.aN 4 q.proof);rw[R]at CO;have VC:=I R;clear R;go_wp2_with fail;refine(CO _ HW.p).mono ?_;rintro e W6 ⟨o,rfl,ad,bk,a⟩;have ay:=I (HW.grown a);have L:=I ad;clear HW a ad bk CO t0 t1 t2 t3 t4 t5 t6;cases ol with
        |none=>
         have v:Hid ((eX t.aN 4 q.proof).bind fI=none):=(by show _=_;rw[VC];rfl);clear VC L;simp only[Option.isSome_none];have HS:Hid (A=(.error 31,M)):=(by show _=_;rw[<-C];exact N8 qf HX J X v);clear C;have HW:=ay;refine Kt ?_;exact⟨t,31,rfl,by grind [Hid.o,Vs,OW.g,kE]⟩
        |some l2=>
         obtain⟨Q,bf⟩:=L l2 rfl;have CT:=I (NK l2 o W6 Q aZ);obtain⟨ds,dt,ho⟩:=Q.shape;subst ho;clear Q bf L;simp only[dj];obtain⟨tb,B⟩:=N ((fI l2).isSome);rw[B]at CT;have WH:=I B;clear B;obtain⟨dq,ab⟩:=N l2.length;rw[ab]at CT⊢;clear ab;go_wp2_with fail;refine CT.mono ?_;rintro e W7 ⟨p,rfl,ca,P,g7⟩;have a:p.cells.toArray=#[.string ⟨p.ay.toArray⟩,Y p.time,Y p.count]:=rfl;rw[a];clear a;have cj:=I P;have ar:=I ca;have D:=I (ay.grown g7);clear P ca g7 ay CT;go_upto_region 21 with fail
         refine kF (λV=>OW w V d j M g q (.slice n U u) pv t/\V.rangeAt W7.1.size 0 p.cells) ⟨D.grown (cx W7 _ none),aS W7 p.cells.toArray _⟩ ?_;have bb:=D.big;obtain⟨P,bo⟩:=N W7.1.size;rw[bo]at bb⊢;have cd:=I bb;clear D bb bo;rintro W8 ⟨bu,bs⟩;have HW:=I bu;have D:=I bs;clear bu bs;cases tb with
         |false=>
          have v:Hid ((eX t.aN 4 q.proof).bind fI=none):=(by show _=_;rw[VC];have:=WH.o;show fI l2=none;cases h:fI l2 with|none=>rfl|some y=>rw[h]at this;cases this);clear VC WH ar;have HS:Hid (A=(.error 31,M)):=(by show _=_;rw[<-C];exact N8 qf HX J X v);clear C;refine Kt ?_;exact⟨t,31,rfl,by grind [Hid.o,Vs,OW.g,kE]⟩
         |true=>
          have af:Hid ((eX t.aN 4 q.proof).bind fI=some p):=(by show _=_;rw[VC];have:=WH.o;show fI l2=some p;cases h:fI l2 with|none=>rw[h]at this;cases this|some y=>rw[ar y h]);clear VC WH ar;have p0:W8.c P 0=some (.string ⟨p.ay.toArray⟩):=D 0 _ rfl;have p1:W8.c P 1=some (Y p.time):=D 1 _ rfl;by_cases v:p.ay=t.ay;rotate_left
          .have cr:=cJ.2 v;have Gl:=I v;clear v;have HS:Hid (A=(.error 36,M)):=(by show _=_;rw[<-C];exact VA qf HX J X af Gl);clear C;refine Kt ?_;exact⟨t,36,rfl,by grind [OW.g,Hid.o,kE,Vs]⟩
          have cr:=db.2 v;have Gl:=I v;clear v;have CA:=I (λW=>yI p.time f W cj.1 dB);obtain⟨ap,v⟩:=N (dU p.time f);rw[v]at CA;have al:=I v;clear v;have ZW:W8.cell? (F j 0)=some (Y M.aA):=by
           have:=HW.d.bP.blk.cell 0;simpa using this
          obtain⟨t0,t1,t2,t3,t4,t5,t6⟩:=HW.tc;have ME:Hid (OW w W8.drew d j M g q (.slice n U u) pv t/\W8.drew.rangeAt P 0 p.cells):=⟨HW.drew,aB D (bg (cC _ _))⟩
          by_cases cc:M.aA<ap
          .have ah:Hid (M.aA<dU p.time f):=(by show _<_;rw[al];exact cc);go_wp2_with fail;clear t0 t1 t2 t3 t4 t5 t6 p0 p1 ZW;refine aD.start (S:=λV=>OW w V d j M g q (.slice n U u) pv t/\V.rangeAt P 0 p.cells) 8 gJ ?_;have dZ:=ME;refine aD.tk 0 [3,1,0] ?_;refine aD.tk 1 [3,1] ?_ (hy:=by intro W hW;have p1:W.c P 1=some (Y p.time):=hW.2 1 _ rfl;exact kJ);refine aD.tk 2 [3,2] ?_;refine aD.tk 4 [7,6,5,4] ?_;refine aD.tk 5 [7,6,5] ?_;refine aD.tk 6 [7,6] ?_;refine aD.tk 7 [7] ?_ (hy:=by intro W hW;have y0:=(by have:=hW.1.d.bP.blk.cell 0;simpa using this);exact kJ);refine aD.on 3 ?_;intro K hK;refine Calls.mono (CA _) ?_;rintro e w' ⟨rfl,rfl⟩;go_wp2_with fail;refine pZ ?_;clear hK K;refine aD.on 8 ?_;intro K hK;refine gO ?_;clear hK K;refine aD.fr 9 ?_;refine aD.EZ (λV=>OW w V d j M g q (.slice n U u) pv t/\V.rangeAt P 0 p.cells) gJ dZ ?_;clear dZ ME HW D;rintro W9 ⟨v,ZX⟩;have HW:=I v;have D:=I ZX;clear v ZX;have HS:Hid (A=(.error 37,M)):=(by show _=_;rw[<-C];exact Q' qf HX J X af Gl ah);clear C;refine Kt ?_;exact⟨t,37,rfl,by grind [Hid.o,kE,Vs,OW.g]⟩
          .have ah:Hid (dU p.time f<=M.aA):=(by show _<=_;rw[al];exact eS.1 cc);go_wp2_with fail;clear t0 t1 t2 t3 t4 t5 t6 p0 p1 ZW;refine aD.start (S:=λV=>OW w V d j M g q (.slice n U u) pv t/\V.rangeAt P 0 p.cells) 8 gJ ?_;have dZ:=ME;refine aD.tk 0 [3,1,0] ?_;refine aD.tk 1 [3,1] ?_ (hy:=by intro W hW;have p1:W.c P 1=some (Y p.time):=hW.2 1 _ rfl;exact kJ);refine aD.tk 2 [3,2] ?_;refine aD.tk 4 [7,6,5,4] ?_;refine aD.tk 5 [7,6,5] ?_;refine aD.tk 6 [7,6] ?_;refine aD.tk 7 [7] ?_ (hy:=by intro W hW;have y0:=(by have:=hW.1.d.bP.blk.cell 0;simpa using this);exact kJ);refine aD.on 3 ?_;intro K hK;refine Calls.mono (CA _) ?_;rintro e w' ⟨rfl,rfl⟩;go_wp2_with fail;refine pZ ?_;clear hK K;refine aD.on 8 ?_;intro K hK;refine gO ?_;clear hK K;refine aD.fr 9 ?_;refine aD.EZ (λV=>OW w V d j M g q (.slice n U u) pv t/\V.rangeAt P 0 p.cells) gJ dZ ?_;clear dZ ME HW D;rintro W9 ⟨v,ZX⟩;have HW:=I v;have D:=I ZX;clear v ZX;have dp:=(HD.o.lt j (.inl rfl)).2;have CR:=I (λW (hW:RD W d j M g) (hb:d<=W.1.size)=>Kr d j M g p f W hW dd Ai dB hb);have a:p.cells.toArray=#[.string ⟨p.ay.toArray⟩,Y p.time,Y p.count]:=rfl;rw[a]at CR;clear a;have bl:Hid (A=if bL M.aA f M.aJ p≠0 then(.error (bL M.aA f M.aJ p),{M with aJ:=bJ M.aA f M.aJ p}) else(.ok t,{M with aJ:=bJ M.aA f M.aJ p})):=by
            rw[<-C];exact Q2 qf HX J X af Gl (eS.2 ah)
           obtain⟨pc,bz⟩:=N (bL M.aA f M.aJ p);obtain⟨M',v⟩:∃m:DM,{M with aJ:=bJ M.aA f M.aJ p}=m:=⟨_,rfl⟩
           rw[bz,v]at CR bl;clear bz v C qf HX J X af Gl ah al CA;have ck:Hid (d<=W9.drew.1.size):=cE ba (by have:=HW.drew.big;omega);go_wp2_with fail;refine aD.start (S:=λV=>V.rangeAt (w.1.size+2) 0 t.cells/\V.rangeAt P 0 p.cells) 5 gJ ?_;have dZ:Hid (W9.drew.rangeAt (w.1.size+2) 0 t.cells/\W9.drew.rangeAt P 0 p.cells):=⟨HW.drew.t,aB D (bg (cC _ _))⟩
           refine aD.tk 0 [0] ?_ (hy:=by intro W hW;have v:=hW.1;obtain⟨t0,t1,t2,t3,t4,t5,t6⟩:=lZ v;clear v;exact kJ);refine aD.tk 1 [4,1] ?_;refine aD.tk 2 [4,2] ?_ (hy:=by intro W hW;have p0:W.c P 0=some (.string ⟨p.ay.toArray⟩):=hW.2 0 _ rfl;have p1:W.c P 1=some (Y p.time):=hW.2 1 _ rfl;have p2:W.c P 2=some (Y p.count):=hW.2 2 _ rfl;exact kJ);refine aD.tk 3 [4,3] ?_;refine aD.on 4 ?_;intro K hK;refine Calls.mono (CR _ HW.drew.d ck) ?_;rintro e Wr ⟨rfl,v,bt,gR,Ob⟩;have bn:=I (dN bt (dN gR Ob));have V:Hid (Wr.rangeAt (w.1.size+2) 0 t.cells/\Wr.rangeAt P 0 p.cells):=⟨xA dZ.1 gR aZ,xA dZ.2 gR (by have:=cd.o;omega)⟩
           have Ml:=I (N9 HW.drew.r gR aZ);clear bt gR Ob;go_wp2_with fail;refine l7 V ?_;clear hK K CR dZ;have dZ:=V;clear V;obtain⟨⟨d0,k0⟩,⟨d1,k1⟩,⟨d2,k2⟩,⟨d3,k3⟩,⟨d4,k4⟩,⟨d5,k5⟩,⟨d6,k6⟩,f0,f1,f2,f3,f4,f5,f6⟩:=pV Ml.o;refine aD.on 5 ?_;intro K hK;refine gO ?_;clear hK K;refine aD.fr 6 ?_;refine aD.done gJ ?_;go_wp2;refine bodyPost_ret (aG results109 _ _ _ (w.1.size+1) rfl _ (iF (fq Ml _ _ _ _ _ _ _))) rfl ?_;refine⟨t,pc,rfl,Oa bl cp ?_ ?_⟩
           .obtain⟨h1,h2,h3⟩:=bn.o;have dn:=HW.drew.big;have V:∀b,({g with pv:=v}:RG).foot j b->b≠w.1.size+1:=by
             intro b hb;rcases hb with e|e|e|e
             .omega
             .have:=(HD.o.lt b (.inr (.inl e))).2;omega
             .have:=h3 b e;omega
             .have:=(HD.o.lt b (.inr (.inr (.inr e)))).2;omega
            exact⟨v,((((((h1.wC V).wC V).wC V).wC V).wC V).wC V).wC V,.inr (λb hb=>cE aZ (h3 b hb))⟩
           .obtain⟨h1,h2,h3⟩:=bn.o;have h4:=iD (mh HW.drew.g j) h2;exact ni (ni (ni (ni (ni (ni (ni h4 (en _ 1)) (en _ 1)) (en _ 1)) (en _ 1)) (en _ 1)) (en _ 1)) (en _ 1)
variable {w:World}
theorem Ku{K:Act->World->Prop}{a:Act}{W:World}(X:World->Prop)(b:X W)(h:∀V,X V->K a V):K a W:=h W b
theorem rQ(x):∃k:UInt64,IntKind.u64.wrap x=(k.toNat:Int):=by
 refine⟨UInt64.ofNat (x % 18446744073709551616).toNat,?_⟩;rw[IntKind.wrap_u64,UInt64.toNat_ofNat'];omega
theorem Kv(w):Calls prog 60 #[σ] w λe a=>∃o,e=.returned o/\gN a o (Box.box 48 [])/\w.grownBy a none:=by
 have HB:Hid (∀W,Calls prog 88 #[.int .u8 48,σ] W λe a=>∃o,e=.returned o/\gN a o (Box.box 48 [])/\W.grownBy a none):=λW=>ZB 48 [] _ W (gN.nil W) Z;go_in;go_wp2;go_loopw [3,4] (λo i wr=>o = σ/\i = Y 0/\w.grownBy wr none) (λ_ _ _=>0)
 case atStart=>grind [cC]
 case round=>
  obtain⟨rfl,rfl,a⟩:=hrel;have b:=I a;clear a;go_wp2_with (go_at_call 88;refine(HB _).mono ?_;rintro e f ⟨o,rfl,a,d⟩)
  go_ret;exact⟨_,rfl,a,aa b d⟩
structure LB(w V:World)(base yb:Nat)(M:DM)(g:RG)(a:qM):Prop where
 d:RD V base yb M g
 c:V.rangeAt w.1.size 0 a.cells
 g:w.grownBy V none
theorem LB.grown{V e:World}{d f:Nat}{M:DM}{g:RG}{a:qM}(h:LB w V d f M g a)(k:V.grownBy e none):LB w e d f M g a:=
 ⟨h.d.keep (λb i=>k.block b (h.d.lt b i).2 Z),aB h.c k,aa h.g k⟩
theorem LB.new{d f:Nat}{M:DM}{g:RG}(a)(t)(e:RD w d f M g):LB w (w.alloc (.cells a.arr t)) d f M g a:=by
 have k:=cx w (.cells a.arr t) none;exact⟨e.keep (λb h=>k.block b (e.lt b h).2 Z),aS w a.arr t,k⟩
theorem Q1{d b:World}{g:Value}{p:Option Pl}{f:E}(h:aU w b g p f)(n:Pl.fresh d.1.size p)(m:d.grownBy w none):gN b g f/\d.grownBy b none:=by
 obtain⟨J,k,l,A,B⟩:=h;obtain⟨j,a,t,u,v,x,y⟩:=k.shape;refine⟨⟨j,a,t,u,v,y,x⟩,?_⟩
 have c:=(CF.bF m (λ_ _=>False)).trans l (λi o D e=>by
  obtain⟨q,r,C,_⟩:=e;have:=n q r
  omega)
 exact c.gb (λ_ _ _ e=>e)
theorem Rp(b v)(M)(g)(a:qM)(w)(f:RD w b v M g)(ai:fZ 4611686018427387904 M.aF)(m:a.Ok):Calls prog 58 #[π v 0,.agg a.arr] w λe y=>∃(o:Value) (z:E),e=.returned o/\y.ownsRow w.1.size 5 1 o z.length (z.map U8)/\0<z.length/\z.length<=20000000/\w.grownBy y none:=by
 obtain⟨i0,L,R,T,U⟩:=info_parts Tryz.info5
 obtain⟨ib,J,Oc,Od,ar⟩:=info_parts Tryz.Bd
 have d:=I (LB.new a 45 f)
 rw[qM.oO]at d⊢
 clear f
 go_in
 go_upto_region 1 with fail
 refine kF (λV=>LB w V b v M g a) d ?_
 clear d
 intro W hW
 have d:=I hW
 have l:W.c w.1.size 1=some (.string ⟨a.ay.toArray⟩):=hW.c 1 _ rfl
 clear hW
 have i:=I (λW (hW:RD W b v M g)=>Fa b v M g a.ay W hW ai)
 go_wp2_with fail
 refine(i _ d.d).mono ?_
 rintro e W1 ⟨j,kn,rfl,ay,ba,k⟩
 have f:=I (d.grown k)
 clear d k i l
 have k:=I (λW=>Kv W)
 go_wp2_with fail
 refine(k _).mono ?_
 rintro e W2 ⟨o,rfl,i,l⟩
 have d:=I (f.grown l)
 have HP:=I i
 obtain⟨pa,pc,ak⟩:=i.shape
 subst ak
 clear f l k i
 have c8:W2.c w.1.size 8=some (Y a.pre):=d.c 8 _ rfl
 have bb:=m.pre
 go_upto_if 19 with fail
 go_cut [7] (λp r=>∃z,gN r p z/\z.length<=5000/\LB w r b v M g a)
 case first=>
  as_aux_lemma=>
   by_cases Q:a.pre=0
   .have aj:(a.pre==0)=true:=(by rw[Q];rfl);go_wp2;go_meet
    case rel=>exact⟨_,HP,by rw[Box.lg];simp,d.o⟩
   .have aj:(a.pre==0)=false:=(by simpa using Q);have t:W2.c w.1.size 9=some (Y a.lY):=d.c 9 _ rfl;have CN:=I (λW=>ru a.lY W m.lY.1 m.lY.2);go_wp2_with fail;refine(CN _).mono ?_;rintro e W3 ⟨pl,rfl,i,n⟩;have q:=I (d.grown n);have k:(Box.box 2 (Box.low a.lY (Box.size a.lY))).length<=10:=(fu a.lY).2;obtain⟨x,l⟩:=N (Box.box 2 (Box.low a.lY (Box.size a.lY)));rw[l]at i k;have HO:=I i;have f:=I k;have B:=I (gN.own i);have ad:=I d.g.size;have kS:=I n;clear n CN c8 t i l k HP;have c8:W3.c w.1.size 8=some (Y a.pre):=q.c 8 _ rfl;go_upto_block 0 with fail
    go_cut [5,6,8] (λk n p r=>∃(j:UInt64) (nn:Int) (z:E),k = H (j.toNat:Int)/\n = Y nn/\b9 nn/\gN r p z/\z.length<=500/\LB w r b v M g a)
    case first=>
     by_cases h1:a.pre=1
     .have C:(a.pre==1)=true:=(by rw[h1];rfl);go_wp2;go_meet
      case rel=>exact⟨j,kn,x,rfl,rfl,by unfold b9;omega,B.o,by have:=f.o;omega,q.o⟩
     .have C:(a.pre==1)=false:=(by simpa using h1);by_cases h2:a.pre=2
      .have D:(a.pre==2)=true:=(by rw[h2];rfl);go_wp2;go_meet
       case rel=>exact⟨j,kn+1,x,rfl,rfl,by unfold b9;omega,B.o,by have:=f.o;omega,q.o⟩
      .have D:(a.pre==2)=false:=(by simpa using h2);by_cases h3:a.pre=3
       .have X:(a.pre==3)=true:=(by rw[h3];rfl);obtain⟨l,i⟩:=rQ ((j.toNat:Int)+1);go_wp2;go_meet
        case rel=>exact⟨l,kn,x,rfl,rfl,by unfold b9;omega,B.o,by have:=f.o;omega,q.o⟩
       .have X:(a.pre==3)=false:=(by simpa using h3);obtain⟨p,i,r⟩:=f'.own HO.o;have n:=I i;have l:=I r;clear i r;by_cases h4:4<a.pre
        .have au:0<=a.pre % 400/\a.pre % 400<400:=G;obtain⟨kk,u⟩:∃k:Nat,a.pre.tmod 400=(k:Int):=⟨(a.pre % 400).toNat,by rw[fk G];omega⟩
         have t:kk<=400:=(by rw[fk G]at u;omega);obtain⟨v',y,r,i⟩:=GZ (P:=prog) W3 37 3 37 5 i0 .i64 underlying37 underlying3 L R T U pl p x n kk (cE t O) (by have:=f.o;omega);have A:=I (Q1 i l kS);clear i;go_wp2_with (at_builtin;refine Lib.wpList_append_run _ rfl _ _ _ _ rfl _ _ rfl rfl _ _ r ?_)
         go_meet
         case rel=>exact⟨j,kn,_,rfl,rfl,by unfold b9;omega,A.1,by have:=f.o;simp;omega,d.grown A.2⟩
        .have C1:=I (λW=>bR 1 W ⟨by decide,by decide⟩);clear n l;go_wp2_with fail;refine(C1 _).mono ?_;rintro e W4 ⟨o4,rfl,q4,i⟩;obtain⟨a4,c4,al⟩:=q4.shape;subst al;have iV:=HO.kept i (eR _);have A:=aa kS i;have r:=A.size;obtain⟨_,_,ah,_,_,t,F7⟩:=q4;injection ah with u e2 e3;subst u e3;have av:=(fu 1).2;have ag:x.length+(bS 1).length<=140737488355328:=(by have:=f.o;omega);clear C1 B HO i e2;go_wp2_with (at_builtin;refine bW _ rfl _ _ 37 rfl W2.1.size 5 i0 underlying37 L R T U pl x.length x rfl iV a4 (bS 1).length c4 (bS 1) rfl rfl t F7 ag r ?_)
         intro v5 w5 k y _;have G5:=gD A y (λi hi=>(iV.lt i hi).1);have i:Hid (gN w5 v5 (x++bS 1)):=gN.own (by rw[cD,ef];exact k);have MZ:=I G5;clear k y G5 A iV F7 t r;go_wp2;go_meet
         case rel=>exact⟨j,kn,_,rfl,rfl,by unfold b9;omega,i.o,by rw[cD];have:=f.o;omega,d.grown MZ.o⟩
    case rest=>
     obtain⟨af,nn,z2,rfl,rfl,n,k,t,A⟩:=hcut;obtain⟨za,zc,y⟩:=k.shape;subst y;obtain⟨zn,i⟩:=N z2.length;rw[i];rw[i]at k t;refine Ku (λV=>LB w V b v M g a/\gN V (.slice za zn zc) z2) ⟨A,k⟩ ?_;clear q HO f B ad kS d c8 A k;rintro V ⟨D,k⟩;have l:=I D;have HZ:=I k;have ae:=I n;have r:Hid (z2.length<=500):=(by show _<=_;rw[i];exact t);clear D k n i;obtain⟨an,ao⟩:=rQ a.bV;have CN:=I (λW=>bR nn W ae);have ab:=I (λW (hW:gN W (.slice za zn zc) z2)=>Bc af 1 an 1 z2 (.slice za zn zc) W O O rfl (cE r O) hW);go_wp2_with fail;refine aD.start (S:=λX=>V.grownBy X none) 11 gJ ?_;have dZ:Hid (V.grownBy V.drew none):=bg (cC _ _);have HA:=I (lA.nil V.drew 1000);have p:=I (HZ.grown dZ);clear HZ;have HZ:=p;clear p;refine aD.tk 0 [0] ?_;refine aD.tk 2 [2] ?_;refine aD.tk 3 [3] ?_;refine aD.tk 4 [4] ?_ (hy:=by intro W hW;have u:W.c w.1.size 3=some (Y a.bV):=(aB l.c hW) 3 _ rfl;exact kJ);refine aD.tk 5 [5] ?_;refine aD.tk 6 [6] ?_;refine aD.on 1 ?_;refine nF (CN _) trivial ?_;clear HA dZ HZ;intro V5 a5 c5 HA dZ HZ;refine aD.on 7 ?_;intro K hK;refine Calls.mono (ab _ HZ) ?_;rintro e V5 ⟨o5,rfl,q5,g5⟩;obtain⟨a5,c5,rfl⟩:=q5.shape;have n:=I q5;have uN:=I (HA.grown g5);have Tn:=I (aa dZ g5);clear HA dZ q5 g5 HZ;have HA:=uN;have dZ:=Tn;clear uN Tn;go_wp2_with fail;refine pZ ?_;clear hK K;refine aD.on 8 ?_;refine oB (lW _ _ _ n (by rw[Pure.dh];have:=r.o;omega)) r.o ?_;clear HA dZ n;intro V5 a6 c6 HA dZ;refine aD.on0 9 ?_;intro K hK;refine HA.bsl 175 2 _ rfl 37 ib _ underlying175 J Od Oc rfl rfl O O ?_;refine l7 (aM dZ _) ?_;clear hK K;refine aD.on 10 ?_;intro K hK;refine Calls.mono (HA.list _ 2 rfl rfl O O) ?_;rintro e V6 ⟨o6,rfl,q6,l6,C⟩;have n:=I (dN q6 (dN l6 (aa dZ C)));clear q6 l6 C;go_wp2_with fail;refine l7 n.2.2 ?_;clear hK K;refine aD.on 11 ?_;intro K hK;refine gO ?_;clear hK K;refine aD.done gJ ?_;go_wp2_with fail;go_meet
     case rel=>exact⟨_,n.1,cE n.2.1 O,l.grown n.2.2⟩
 case rest=>
  obtain⟨z,k,t,A⟩:=hcut;obtain⟨za,zc,y⟩:=k.shape;subst y;obtain⟨zn,i⟩:=N z.length;rw[i];rw[i]at k;refine Ku (λV=>LB w V b v M g a/\gN V (.slice za zn zc) z) ⟨A,k⟩ ?_;clear d HP c8 A k;rintro V ⟨D,k⟩;have l:=I D;have HZ:=I k;have r:=I t;clear D k t;as_aux_lemma=>
   go_wp2_with fail;refine aD.start (S:=λX=>V.grownBy X none) 25 gJ ?_;have dZ:Hid (V.grownBy V.drew none):=bg (cC _ _);have HA:=I (lA.nil V.drew 2000000);have p:=I (HZ.grown dZ);clear HZ;have HZ:=p;clear p;refine aD.tk 1 [1] ?_;refine aD.tk 2 [2] ?_ (hy:=by intro W hW;have u:W.c w.1.size 1=some (.string ⟨a.ay.toArray⟩):=(aB l.c hW) 1 _ rfl;exact kJ);refine aD.tk 4 [4] ?_;refine aD.tk 5 [5] ?_ (hy:=by intro W hW;have u:W.c w.1.size 2=some (.string ⟨a.aV.toArray⟩):=(aB l.c hW) 2 _ rfl;exact kJ);refine aD.tk 7 [7] ?_;refine aD.tk 8 [8] ?_ (hy:=by intro W hW;have u:W.c w.1.size 3=some (Y a.bV):=(aB l.c hW) 3 _ rfl;exact kJ);refine aD.tk 10 [10] ?_;refine aD.tk 11 [11] ?_ (hy:=by intro W hW;have u:W.c w.1.size 4=some (Y a.ma):=(aB l.c hW) 4 _ rfl;exact kJ);refine aD.tk 13 [13] ?_;refine aD.tk 14 [14] ?_ (hy:=by intro W hW;have u:W.c w.1.size 5=some (Y a.dI):=(aB l.c hW) 5 _ rfl;exact kJ);refine aD.tk 16 [16] ?_;refine aD.tk 17 [17] ?_ (hy:=by intro W hW;have u:W.c w.1.size 6=some (Y a.bX):=(aB l.c hW) 6 _ rfl;exact kJ);refine aD.tk 19 [19] ?_;refine aD.tk 20 [20] ?_ (hy:=by intro W hW;have u:W.c w.1.size 7=some (Y a.options):=(aB l.c hW) 7 _ rfl;exact kJ);refine aD.tk 22 [22] ?_;refine aD.on 0 ?_;refine nF (bR 10 _ ⟨by decide,by decide⟩) trivial ?_;clear HA dZ HZ;intro V5 a5 c5 HA dZ HZ;refine aD.on 3 ?_;refine nF (kP a.ay _ (cE m.ay O)) m.ay ?_;clear HA dZ HZ;intro V5 a5 c5 HA dZ HZ;refine aD.on 6 ?_;refine nF (kP a.aV _ (cE m.aV O)) m.aV ?_;clear HA dZ HZ;intro V5 a5 c5 HA dZ HZ;refine aD.on 9 ?_;refine nF (bR a.bV _ m.bV) trivial ?_;clear HA dZ HZ;intro V5 a5 c5 HA dZ HZ;refine aD.on 12 ?_;refine nF (bR a.ma _ m.ma) trivial ?_;clear HA dZ HZ;intro V5 a5 c5 HA dZ HZ;refine aD.on 15 ?_;refine nF (bR a.dI _ m.dI) trivial ?_;clear HA dZ HZ;intro V5 a5 c5 HA dZ HZ;refine aD.on 18 ?_;refine nF (bR a.bX _ m.bX) trivial ?_;clear HA dZ HZ;intro V5 a5 c5 HA dZ HZ;refine aD.on 21 ?_;refine nF (bR a.options _ m.options) trivial ?_;clear HA dZ HZ;intro V5 a5 c5 HA dZ HZ;have uN:=I (HA.push (cC _ none) HZ (by have:=r.o;omega));clear HA;have HA:=uN;clear uN;refine aD.on0 23 ?_;intro K hK;refine HA.bsl 175 9 _ rfl 37 ib _ underlying175 J Od Oc rfl rfl O O ?_;refine l7 (aM dZ _) ?_;clear hK K;refine aD.on 24 ?_;intro K hK;refine Calls.mono (HA.ZK _ 9 rfl Z O O) ?_;rintro e V6 ⟨o6,k,rfl,q6,f,l6,C⟩;have n:=I (dN q6 (dN f (dN l6 (dN (aa dZ C) (dN (cE l.g.size dZ.size) trivial)))));clear q6 f l6 C;go_wp2_with fail;refine l7 n.2.2.2.1 ?_;clear hK K;refine aD.on 25 ?_;intro K hK;refine gO ?_;clear hK K;refine aD.done gJ ?_;go_wp2;go_ret;exact⟨_,k,rfl,dC n.1 n.2.2.2.2.1,n.2.1,cE n.2.2.1 O,aa l.g n.2.2.2.1⟩
theorem Rq(v)(w):Calls prog 94 #[H (v.toNat:Int)] w λe a=>∃o,e=.returned o/\a.ownsRow w.1.size 5 1 o 8 ((Pure.be v 8).map U8)/\w.grownBy a none:=by
 obtain⟨i0,hi,hz0,hz1,hz2⟩:=info_parts Tryz.info5
 go_in
 exact KB
theorem ZZ(v)(w):Calls prog 94 #[H (v.toNat:Int)] w λe a=>∃o,e=.returned o/\gN a o (Pure.be v 8)/\w.grownBy a none:=by
 refine(Rq v w).mono ?_;grind [gN.own,Pure.bQ]
theorem VJ(j d a b f g h i)(k l m u)(A:bG j.pair=some 12)(C:iI f k)(D:iI g l)(J:iI h m)(R:iI i u):
  (lC ([j,d,a,b,f,g,h,i].map Pc.pair)).isSome=((gY d.pair).isSome&&((dm b.pair).isSome&&(jT [f,g,h,i]&&decide (a.tag.toNat=4))))/\∀q,lC ([j,d,a,b,f,g,h,i].map Pc.pair)=some q->∃c,gY d.pair=some c/\q=⟨c.1,c.2.1,c.2.2,a.ins,b.ins,k,l,m,u⟩:=by
 have e:lC ([j,d,a,b,f,g,h,i].map Pc.pair)=(gY d.pair).bind λc=>(jq a.pair).bind λp=>(dm b.pair).bind λs=>(bG f.pair).bind λn=>(bG g.pair).bind λt=>(bG h.pair).bind λr=>(bG i.pair).bind λo=>some ⟨c.1,c.2.1,c.2.2,p,s,n,t,r,o⟩:=by
  show(bG j.pair).bind _=_;rw[A];rfl
 have K:∀y,dm b.pair=some y->y=b.ins:=λy n=>wu n
 have y:jq a.pair=if a.tag.toNat=4 then some a.ins else none:=rfl
 rw[e,y]
 unfold iI at *
 simp only[jT,List.all_cons,List.all_nil,fW]
 cases P:gY d.pair with
 |none=>grind
 |some L=>
  by_cases B:a.tag.toNat=4
  .rw[dT B];cases t:dm b.pair with
   |none=>grind
   |some n=>
    have S:=K n t;cases v:bG f.pair with
    |none=>grind
    |some o=>
     have T:=C.2 o v;cases w:bG g.pair with
     |none=>grind
     |some p=>
      have U:=D.2 p w;cases x:bG h.pair with
      |none=>grind
      |some r=>
       have V:=J.2 r x;cases Q:bG i.pair with
       |none=>grind
       |some M=>
        grind
  grind
theorem BI{p:qG}{x:E×Int×E}(h:gY p=some x):x.2.2.length<=p.2.length:=by
 unfold gY at h;cases l:zu p with
 |none=>rw[l]at h;cases h
 |some k=>
  rw[l]at h;have j:Box.dF p.2=some k:=by
   grind [zu]
  have d:qI k=some x:=h;match k,j,d with
  | [],_,d=>cases d
  | [a],_,d=>
   have e:qI [a]=(dm a).bind λ_=>none:=rfl;grind [dm]
  | [a,b],_,d=>
   have e:qI [a,b]=(dm a).bind λ_=>(bG b).bind λ_=>none:=rfl;rw[e]at d;cases i:dm a with
   |none=>rw[i]at d;cases d
   |some y=>
    rw[i]at d;cases g:bG b with
    |none=>rw[g]at d;cases d
    |some z=>rw[g]at d;cases d
  |a::b::c::r,j,d=>
   have e:qI (a::b::c::r)=(dm a).bind λs=>(bG b).bind λn=>(jq c).bind λz=>if r=[] then some (s,n,z) else none:=rfl;rw[e]at d;cases i:dm a with
   |none=>rw[i]at d;cases d
   |some y=>
    rw[i]at d;cases g:bG b with
    |none=>rw[g]at d;cases d
    |some n=>
     rw[g]at d;cases m:jq c with
     |none=>rw[m]at d;cases d
     |some z=>
      rw[m]at d;have f:(if r=[] then some (y,n,z) else none)=some x:=d;split at f
      .injection f with f;subst f;have o:z=c.2:=by
        grind [jq]
       rw[o];exact Box.lX j c Z
      .cases f
theorem I6{P:Program}{W:World}{b n:Nat}(h:b' W b n)(k)(d:k<n)(v)(a:v.oneCell'=true):(store ⟨b,k,none⟩ v).run P W=.ok () (W.setCell (F b k) v):=by
 grind [b'.some,run_store,b'.frozen]
def nU(M:DM)(now:Int)(ps:List qG):Except Int GR×DM:=
 match lC ps with
 |none=>(.error 60,M)
 |some q=>
  match (iH M now q).1 with
  |.error c=>(.error c,(iH M now q).2)
  |.ok t=>(eu (iH M now q).2 now q t,(iH M now q).2)
def CJ(base yb:Nat)(g:RG)(A:Except Int GR×DM)(w w':World)(o:Value)(c:Int):Prop:=
 c=mS A.2 A.1/\(∃v,(v=g.pv\/k' w.1.size v)/\(c≠0->o = σ/\RD w' base yb A.2 {g with pv:=v})/\(c=0->∃gr u,A.1=.ok gr/\l8 w.1.size w' o (gr.box A.2.aL)/\RD w' base yb {A.2 with aL:=A.2.aL.drop 24} {g with pv:=v,dv:=u}/\k' w.1.size u))/\w.grownBy w' (some yb)
theorem uU{base yb:Nat}{g:RG}{b:DM}{v:Value}{c:Int}{w a:World}(e:c≠0)(d:RD a base yb b {g with pv:=v})(f:v=g.pv\/k' w.1.size v)(k:w.grownBy a (some yb)):CJ base yb g (.error c,b) w a σ c:=
 ⟨rfl,⟨v,f,λ_=>⟨rfl,d⟩,λh=>absurd h e⟩,k⟩
theorem P1{base yb:Nat}{g:RG}{a:DM}{d:GR}{v:Value}{w b:World}(f:a.aL.length<24)(e:RD b base yb a {g with pv:=v})(i:v=g.pv\/k' w.1.size v)(k:w.grownBy b (some yb)):CJ base yb g (.ok d,a) w b σ 60:=
 ⟨(dT f).symm,⟨v,i,λ_=>⟨rfl,e⟩,λh=>absurd h O⟩,k⟩
theorem Ru(M)(now)(q):∃a,(iH M now q).2={M with aJ:=a}:=by
 unfold iH;cases iW M now q with
 |error c=>exact⟨M.aJ,rfl⟩
 |ok a=>
  obtain⟨t,p⟩:=a;dsimp only;split
  .exact⟨_,rfl⟩
  .exact⟨_,rfl⟩
section
variable {q:NQ}{old t:TK}{x s:BE}
theorem US(h:aI old.ae 16=true/\aI q.aO 32=false\/aW now M.aA<old.start):eu M now q old=.error 33:=by unfold eu;rw[dT h]
theorem P0(h:¬ (aI old.ae 16=true/\aI q.aO 32=false\/aW now M.aA<old.start))(a:old.fin<now):eu M now q old=.error 32:=by unfold eu;rw[cZ h,dT a]
theorem PX(h:¬ (aI old.ae 16=true/\aI q.aO 32=false\/aW now M.aA<old.start))(a:¬ old.fin<now):eu M now q old=match BE.find M.aF q.aV,BE.find M.aF old.ay with
 |none,_=>.error 7
 |some _,none=>.error 6
 |some s,some x=>
  if nQ s x now 2 1≠0 then .error (nQ s x now 2 1)
  else if ku q.aO old.ae=false then .error 13
  else match fresh now old x s q.dI q.bX q.aO with
  |.error c=>.error c
  |.ok t=>.ok ⟨13,t,s,q.bV,0,old.aN,5⟩:=by
 unfold eu
 rw[cZ h,cZ a]
 rfl
theorem Og{d b a c:Int}(h:c=0):¬ fresh now old x s d b a=.error c:=by
 grind [fresh]
theorem UP{b a d:Int}(ho:old.In)(dB:b9 now)(f:b9 b)(g:b9 a)(h:fresh now old x s b a d=.ok t):t.In/\t.ay=old.ay:=by
 unfold fresh at h;split at h
 .split at h
  .cases h
  .exact FK
 .split at h
  .split at h
   .cases h
   .exact I'
  .split at h
   .cases h
   .injection h with h;subst h;refine⟨⟨?_,ho.dV,dB,?_,?_⟩,rfl⟩
    .show b9 (iL d old x s);unfold iL ig b9;(repeat' split)<;>omega
    .show b9 (iE now b old x s);have i1:=ho.fin;have i2:b9 (gS (j9 b) (gS (aW now x.bI) (aW now s.bI))):=lH f;unfold iE gS b9 at *;(repeat' split at *)<;>omega
    .show b9 (fB d old.ae x s now (gS (j9 a) old.aC));have i1:=ho.aC;have i2:b9 (gS (j9 a) (gS (aW now x.aC) (aW now s.aC))):=lH g;grind [gS,fB,b9]
end
structure N2(w W:World)(base yb:Nat)(M:DM)(g:RG)(gv:Nat)(v0 v1 v2 v3:Int)(bo:Nat)(t:TK):Prop where
 d:RD W base yb M g
 v:W.rangeAt gv 0 [Y v0,Y v1,Y v2,Y v3]
 oq:W.rangeAt bo 0 t.cells
 g:w.grownBy W (some yb)
structure N3(w W:World)(base yb:Nat)(M:DM)(g:RG)(gv:Nat)(v0 v1 v2 v3:Int)(bo:Nat)(t:TK)(x s:RE)(bx bs:Nat):Prop where
 n:N2 w W base yb M g gv v0 v1 v2 v3 bo t
 x:W.rangeAt bx 0 x.cells
 s:W.rangeAt bs 0 s.cells
section
variable {W W':World}{base yb:Nat}{g:RG}{gv:Nat}{v0 v1 v2 v3:Int}{bo bx bs:Nat}{t:TK}{x s:RE}
theorem N2.grown(h:N2 w W base yb M g gv v0 v1 v2 v3 bo t)(k:W.grownBy W' none):N2 w W' base yb M g gv v0 v1 v2 v3 bo t:=
 ⟨h.d.keep (λb a=>k.block b (h.d.lt b a).2 Z),aB h.v k,aB h.oq k,iD h.g (mh k yb)⟩
theorem N3.grown(h:N3 w W base yb M g gv v0 v1 v2 v3 bo t x s bx bs)(k:W.grownBy W' none):N3 w W' base yb M g gv v0 v1 v2 v3 bo t x s bx bs:=⟨h.n.grown k,aB h.x k,aB h.s k⟩
end
structure N1(w W:World)(base yb:Nat)(M:DM)(g:RG)(gv:Nat)(v0 v1 v2 v3:Int)(gl:Nat)(l:List Pc)(bc:Nat)(c:List Value):Prop where
 d:RD W base yb M g
 v:W.rangeAt gv 0 [Y v0,Y v1,Y v2,Y v3]
 p:jK W gl l
 c:W.rangeAt bc 0 c
 g:w.grownBy W none
theorem N1.grown{w W W':World}{base yb:Nat}{M:DM}{g:RG}{gv:Nat}{v0 v1 v2 v3:Int}{d a:Nat}{l:List Pc}{c:List Value}(h:N1 w W base yb M g gv v0 v1 v2 v3 d l a c)(k:W.grownBy W' none):N1 w W' base yb M g gv v0 v1 v2 v3 d l a c:=
 ⟨h.d.keep (λb e=>k.block b (h.d.lt b e).2 Z),aB h.v k,h.p.grown k,aB h.c k,aa h.g k⟩
theorem G8{base yb:Nat}{g:RG}{A:Except Int TK×DM}{w d e:World}{t:TK}{c:Int}(h:nS base yb g A w d t c)(k:d.grownBy e none):nS base yb g A w e t c:=by
 obtain⟨f,i,j,⟨v,a,m⟩,l⟩:=h;exact⟨f,i,j,⟨v,a.keep (λb n=>k.block b (a.lt b n).2 Z),m⟩,iD l (mh k yb)⟩
theorem KC{base yb:Nat}{g:RG}{A:Except Int TK×DM}{w V a:World}{t:TK}{c:Int}(h:nS base yb g A V a t c)(k:w.grownBy V none):nS base yb g A w a t c:=by
 obtain⟨d,e,f,⟨v,i,l⟩,j⟩:=h;exact⟨d,e,f,⟨v,i,l.imp id (λh b m=>cE k.size (h b m))⟩,iD (mh k yb) j⟩
theorem KD{base yb:Nat}{g:RG}{A:Except Int TK×DM}{w V i:World}{t:TK}{c:Int}{bo:Nat}(h:nS base yb g A V i t c)(k:w.grownBy V none)(d:∀b,g.foot yb b->b<bo)(hw:w.1.size<=bo)(q:bo<V.1.size)(u0 u1 u2 u3 u4 u5 u6):
  nS base yb g A w (((((((i.s bo 0 u0).s bo 1 u1).s bo 2 u2).s bo 3 u3).s bo 4 u4).s bo 5 u5).s bo 6 u6) t c:=by
 obtain⟨j,l,m,⟨v,o,a⟩,n⟩:=h
 have r:∀b,({g with pv:=v}:RG).foot yb b->b≠bo:=by
  intro b f;rcases f with e|e|e|e
  .exact Nat.ne_of_lt (d b (.inl e))
  .exact Nat.ne_of_lt (d b (.inr (.inl e)))
  .rcases a with a|a
   .exact Nat.ne_of_lt (d b (.inr (.inr (.inl (by rw[<-a];exact e)))))
   .have:=a b e;omega
  .exact Nat.ne_of_lt (d b (.inr (.inr (.inr e))))
 have p:=iD (mh k yb) n
 exact⟨j,l,m,⟨v,(by grind [RD.wC]),a.imp id (λh b f=>cE k.size (h b f))⟩,(by grind [ni])⟩
theorem Rv{W:World}{b bo:Nat}{a:List Value}(h:W.rangeAt b 0 a)(d:bo≠b)(u0 u1 u2 u3 u4 u5 u6):(((((((W.s bo 0 u0).s bo 1 u1).s bo 2 u2).s bo 3 u3).s bo 4 u4).s bo 5 u5).s bo 6 u6).rangeAt b 0 a:=
 gQ (gQ (by grind [gQ]) d _) d _
theorem Oh{W:World}{b:Nat}{v:Value}{e:List Value}(h:W.rangeAt b 0 (v::e)):b<W.1.size:=by
 have d:=h 0 v rfl;rcases Nat.lt_or_ge b W.1.size with a|a
 .exact a
 .have f:W.cell? (F b (0+0))=none:=by
   simp[World.cell?,Array.getElem?_eq_none a]
  rw[f]at d;cases d
