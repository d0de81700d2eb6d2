import Derived.Test.YticfhckmhcaigaaGreatDoorGERGivB
namespace Go.Proofs.YticfhckmhcaigaaGreatDoor
open Go.RowKit
set_option maxRecDepth 100000
theorem Ef{P:Program}{c:Code}{Q:Exit->Act->World->Prop}{a:Act}{W:World}(X:World->Prop)(b:X W)(h:∀V,X V->Code.wp P c Q a V):Code.wp P c Q a W:=h W b
theorem Kw{K:Act->World->Prop}{a:Act}{W:World}(X:World->Prop)(b:X W)(h:∀V,X V->K a V):K a W:=h W b
structure F2(w W:World)(base yb:Nat)(M:DM)(g:RG)(gv:Nat)(v0 v1 v2 v3 v4:Int)(z:Value)(o:Option (Int×E))(x s:RE)(bx bs:Nat):Prop where
 f:FS w W base yb M g gv v0 v1 v2 v3 v4 z o
 x:W.rangeAt bx 0 x.cells
 s:W.rangeAt bs 0 s.cells
theorem F2.grown{w W b:World}{a p:Nat}{M:DM}{g:RG}{f:Nat}{i j l m n:Int}{z:Value}{o:Option (Int×E)}{x s:RE}{e d:Nat}(h:F2 w W a p M g f i j l m n z o x s e d)(k:W.grownBy b none):F2 w b a p M g f i j l m n z o x s e d:=
 ⟨h.f.grown k,aA h.x k,aA h.s k⟩
structure FT(U W:World)(fl se:Int)(cl:E)(au st fi rn:Int):Prop where
 g:U.grownBy W none
 t:W.rangeAt U.1.size 0 [Y fl,O se,.string ⟨cl.toArray⟩,Y au,Y st,Y fi,Y rn]
 l:b9 W U.1.size 7
section
variable {U W:World}{fl se:Int}{cl:E}{au st fi rn:Int}
theorem FT.new(U)(fl se)(cl)(au st fi rn):FT U (U.alloc (.cells #[Y fl,O se,.string ⟨cl.toArray⟩,Y au,Y st,Y fi,Y rn] 43)) fl se cl au st fi rn:=
 ⟨cy U _ none,aS U #[Y fl,O se,.string ⟨cl.toArray⟩,Y au,Y st,Y fi,Y rn] _,b9.new U #[Y fl,O se,.string ⟨cl.toArray⟩,Y au,Y st,Y fi,Y rn] _⟩
theorem FT.grown{a:World}(h:FT U W fl se cl au st fi rn)(k:W.grownBy a none):FT U a fl se cl au st fi rn:=
 ⟨aa h.g k,aA h.t k,h.l.grown k⟩
theorem FT.drew(h:FT U W fl se cl au st fi rn):FT U W.drew fl se cl au st fi rn:=h.grown (bg (cC _ _))
theorem FT.Di(h:FT U W fl se cl au st fi rn)(v):FT U (W.setCell (F U.1.size 0) (Y v)) v se cl au st fi rn:=
 ⟨aB h.g (cA _),rj h.t Z _,dL h.l _⟩
theorem FT.setSt(h:FT U W fl se cl au st fi rn)(v):FT U (W.setCell (F U.1.size 4) (Y v)) fl se cl au v fi rn:=
 ⟨aB h.g (cA _),rj h.t Z _,dL h.l _⟩
theorem FT.zk(h:FT U W fl se cl au st fi rn)(v):FT U (W.setCell (F U.1.size 5) (Y v)) fl se cl au st v rn:=
 ⟨aB h.g (cA _),rj h.t Z _,dL h.l _⟩
theorem FT.Uk(h:FT U W fl se cl au st fi rn)(a g)(f)(e b c d):FT U (((((((W.s U.1.size 0 (Y a)).s U.1.size 1 (O g)).s U.1.size 2 (.string ⟨f.toArray⟩)).s U.1.size 3 (Y e)).s U.1.size 4 (Y b)).s U.1.size 5 (Y c)).s U.1.size 6 (Y d)) a g f e b c d:=
 ⟨aB (aB (aB (by grind [aB,FT.g]) (cA _)) (cA _)) (cA _),fw h.l _ _ _ _ _ _ _,dL (dL (dL (by grind [dL,FT.l]) _) _) _⟩
theorem FT.tc(h:FT U W fl se cl au st fi rn):W.cell? (F U.1.size 0)=some (Y fl)/\W.cell? (F U.1.size 1)=some (O se)/\W.cell? (F U.1.size 2)=some (.string ⟨cl.toArray⟩)/\W.cell? (F U.1.size 3)=some (Y au)/\W.cell? (F U.1.size 4)=some (Y st)/\W.cell? (F U.1.size 5)=some (Y fi)/\W.cell? (F U.1.size 6)=some (Y rn):=
 ⟨h.t 0 _ rfl,h.t 1 _ rfl,h.t 2 _ rfl,h.t 3 _ rfl,h.t 4 _ rfl,h.t 5 _ rfl,h.t 6 _ rfl⟩
end
theorem FT.c41{w U W:World}{a n:Nat}{M:DM}{g:RG}{f:Nat}{j k i l m:Int}{z:Value}{o:Option (Int×E)}{x s:RE}{e d:Nat}{fl se:Int}{cl:E}{au st fi rn:Int}(b:F2 w U a n M g f j k i l m z o x s e d)(h:FT U W fl se cl au st fi rn):W.cell? (F f 2)=some (Y i)/\W.cell? (F U.1.size 4)=some (Y st)/\W.cell? (F e 3)=some (Y x.bH)/\W.cell? (F d 3)=some (Y s.bH):=
 ⟨(aA b.f.v h.g) 2 _ rfl,h.t 4 _ rfl,(aA b.x h.g) 3 _ rfl,(aA b.s h.g) 3 _ rfl⟩
theorem MI(e b)(x s)(a d):(if Bg e b x s 4 2=true then fE e b x s a d else 0)=fE e b x s a d:=by
 rw[vR];cases Bg e b x s 4 2<;>rfl
theorem Ul{now:Int}{q:FQ}{x s:BE}(a:bT now)(e:bT q.mG)(d:bT q.dM)(b:bT q.bY):(mZ now q x s).In:=by
 refine⟨?_,a,?_,Db now q x s d,?_⟩
 .show bT (32+(if q.pre.isSome then 64 else 0)+(if aJ q.aR 8=true then 24 else 0)+iy q.aR 7 x s);unfold iy bT;(repeat' split)<;>omega
 .show bT (bI now q);grind [bI]
 .show bT (fE q.aR 7 x s (bI now q) (kB q.bY));unfold fE;split
  .exact lU b
  .exact gY
theorem yz{l:E}(h:dx l=true):l.length<=90:=by
 grind [dx]
theorem He{n:Int}(h:1<=n/\n<=((4611686018427387904:Nat):Int)):bT n:=by
 unfold bT;omega
theorem Qi{a f:Nat}{M:DM}{g:RG}{i:GR}{w e:World}(l:M.aL.length<24)(d:RD w a f M g)(k:w.grownBy e none):Ee a f M g (.ok i) w e σ 60:=
 ⟨(dQ l).symm,λ_=>⟨rfl,d.keep (λb j=>k.block b (d.lt b j).2 Z),k⟩,λh=>absurd h H⟩
section
variable {ax now:Int}{q:FQ}{x s:BE}
theorem L5(h:fo ax now x q.pre≠0):di ax now q x s=fo ax now x q.pre:=by unfold di;rw[dQ h]
theorem L4(h:fo ax now x q.pre=0)(a:q.aR<0\/15<q.aR):di ax now q x s=13:=by
 unfold di;rw[b' (λk=>k h),dQ a]
theorem Vy(h:fo ax now x q.pre=0)(a:¬ (q.aR<0\/15<q.aR))(b:aJ q.aR 8=true)(d:¬ (x.has 16=true/\s.has 16=true)):di ax now q x s=10:=by
 unfold di;rw[b' (λk=>k h),b' a,dQ ⟨b,d⟩]
theorem U'(h:fo ax now x q.pre=0)(b:¬ (q.aR<0\/15<q.aR))(a:aJ q.aR 8=false)(d:aW now ax<q.mG):di ax now q x s=10:=by
 unfold di;rw[b' (λk=>k h),b' b,b' (by rw[a];simp),dQ ⟨a,d⟩]
def Vz(ax now:Int)(q:FQ)(x s:BE):Prop:=(aJ q.aR 8=true->x.has 16=true/\s.has 16=true)/\(aJ q.aR 8=false->¬ aW now ax<q.mG)
theorem Sp(h:fo ax now x q.pre=0)(b:¬ (q.aR<0\/15<q.aR))(a:Vz ax now q x s):di ax now q x s=if fT now q x s<=bI now q then 11 else 0:=by
 unfold di;rw[b' (λk=>k h),b' b,b' (λk=>k.2 (a.1 k.1)),b' (λk=>a.2 k.1 k.2)]
end
end Go.Proofs.YticfhckmhcaigaaGreatDoor
namespace Go.Proofs.YticfhckmhcaigaaGreatDoor
open Go.RowKit
set_option maxRecDepth 100000
variable {M:DM}{now:Int}{n:Nat}
structure dK(M:DM)(n:Nat):Prop where
 aC:gy n M.aC
 Jo:∀e∈M.aC,bT e.bH/\bT e.aD
 ax:bT M.ax
 aL:M.aL.length<=140737488355328
 times:∀y∈M.aI,bT y.time
theorem dK.mono{m:Nat}(h:dK M n)(a:n<=m):dK M m:=⟨h.aC.mono a,h.Jo,h.ax,h.aL,h.times⟩
theorem dK.new{a:Int}{b:E}(h:0<=a)(i:a<=300)(g:b.length<=140737488355328)(n):dK ⟨a,[],[],b⟩ n:=
 ⟨gy.nil n,λe d=>(by cases d),⟨by show _<=a;omega,by show a<=_;omega⟩,g,λy f=>by cases f⟩
theorem dK.bin(h:dK M n)(b:n<=4611686018427387904):∀e∈M.aC,e.In:=λe a=>
 ⟨⟨(h.aC.num e a).1,by have:=(h.aC.num e a).2;omega⟩,(h.Jo e a).1,(h.Jo e a).2,by have:=yz (h.aC.name e a);omega⟩
theorem Qj(M)(now)(R):∃a,(dD M now R).2={M with aL:=a}/\a.length<=M.aL.length:=by
 unfold dD;cases R with
 |error c=>exact⟨M.aL,rfl,cA _⟩
 |ok g=>
  dsimp only;split
  .exact⟨M.aL,rfl,cA _⟩
  .exact⟨M.aL.drop 24,rfl,by rw[ef];omega⟩
theorem Um{b:Int}{l:List PF}{p:PF}(h:∀y∈l,bT y.time)(e:bT p.time):∀y∈bK b now l p,bT y.time:=by
 intro y a;have d:∀y∈iX b now l,bT y.time:=λy a=>h y (List.mem_filter.1 a).1;unfold bK at a;split at a
 .rcases fp.1 a with a|a
  .exact d y a
  .rw[eC.1 a];exact e
 .exact d y a
theorem X7{q:NQ}{t:TK}{p:PF}(h:jg M now q=.ok (t,p)):bT p.time:=by
 unfold jg at h;split at h
 .cases h
 .split at h
  .cases h
  .split at h
   .cases h
   .split at h
    .cases h
    .split at h
     .cases h
     .rename_i p' hp;split at h
      .cases h
      .split at h
       .cases h
       .injection h with h;injection h with h1 h2;subst h1 h2;rw[zG]at hp;split at hp
        .injection hp with hp;rw[<-hp];exact Mn _
        .cases hp
theorem dK.draw(h:dK M n){a:E}(b:a.length<=M.aL.length):dK {M with aL:=a} n:=⟨h.aC,h.Jo,h.ax,cE b h.aL,h.times⟩
theorem dK.proof(h:dK M n){a:List PF}(b:∀y∈a,bT y.time):dK {M with aI:=a} n:=⟨h.aC,h.Jo,h.ax,h.aL,b⟩
theorem dK.fin(h:dK M n)(now)(R):dK (dD M now R).2 n:=by
 obtain⟨d,a,b⟩:=Qj M now R;rw[a];exact h.draw b
theorem dK.answer(h:dK M n)(now)(b):dK (dF M now b).2 n:=by
 unfold dF;split
 .exact h.fin now _
 .split
  .rename_i q _;unfold uJ;split
   .exact h
   .rename_i t p hp;have a:dK {M with aI:=bK M.ax now M.aI p} n:=h.proof (Um h.times (X7 hp));dsimp only;split
    .exact a
    .exact a.fin now _
  .exact h
theorem dK.adm(h:dK M n)(j:1<=n)(a)(f:bT a.bH)(g:bT a.aD):dK {M with aC:=(fD M.aC a).1} (n+1):=by
 refine⟨h.aC.fD j a,?_,h.ax,h.aL,h.times⟩;have d:∀(i)(y),(bT y.bH/\bT y.aD)->∀e∈M.aC.set i y,bT e.bH/\bT e.aD:=by
  intro i y k e b;rcases List.mem_or_eq_of_mem_set b with b|rfl
  .exact h.Jo e b
  .exact k
 show ∀e∈(fD M.aC a).1,_;unfold fD;split
 .split
  .exact h.Jo
  .split
   .exact h.Jo
   .split
    .exact h.Jo
    .split
     .exact h.Jo
     .intro e b;rcases fp.1 b with b|b
      .rcases fp.1 b with b|b
       .exact h.Jo e (List.mem_of_mem_take b)
       .rw[eC.1 b];exact⟨f,g⟩
      .exact h.Jo e (List.mem_of_mem_drop b)
 .split
  .split
   .exact h.Jo
   .split
    .intro e b;rcases fp.1 b with b|b
     .exact h.Jo e (List.mem_of_mem_take b)
     .exact h.Jo e (List.mem_of_mem_drop b)
    .split
     .exact h.Jo
     .rename_i x hx;split
      .exact d _ _ (h.Jo x (eE hx))
      .split
       .exact h.Jo
       .exact d _ _ ⟨f,g⟩
  .exact h.Jo
theorem Ck{l:List E}(h:l.flatten.length<=n):(jW l).length<=n+4:=cE (pM 48 _) (Nat.add_le_add_right h 4)
theorem lX(v):(bV v).length<=10:=(fB v).2
theorem L0(k):(nQ k).length<=12:=cE (pM 4 _) (by rw[Pure.dB];exact cA _)
theorem th{p:Prop}(h:p:=by
 simp only[eR,List.flatten_nil,cF,List.length_nil]
 omega):p:=h
theorem sQ(now c):(aY now c).length<=900:=by
 unfold aY;have a:=lX 30;have b:=lX now;have d:=lX c;refine cE (Ck (n:=30) ?_) H;exact th
theorem US(d)(t)(s)(g h)(e f a b)(i:t.az.length<=90)(m:s.name.length<=90):(mg d t s g h e f a b).length<=900:=by
 have k:t.plain.length<=160:=by
  unfold TK.plain;have:=lX t.ae;have:=lX t.dY;have:=lX t.start;have:=lX t.fin;have:=lX t.aD;have:=L0 t.aO;have:(dC t.az).length<=94:=cE (pM 4 _) G;refine cE (Ck (n:=156) ?_) H;exact th
 have l:(oV t g s).length<=170:=by
  unfold oV;have:=lX g;have:=lX t.ae;have:=lX t.dY;have:=lX t.start;have:=lX t.fin;have:=lX t.aD;have:=L0 t.aO;have:(dC s.name).length<=94:=cE (pM 4 _) G;refine cE (Ck (n:=166) ?_) H;exact th
 have o:(xX t s a).length<=288:=by
  unfold xX;have:=lX s.aH;have:(dC s.name).length<=94:=cE (pM 4 _) G;have:(dC (Pure.eB s.key 2 a t.plain)).length<=180:=cE (pM 4 _) sX;refine cE (Ck (n:=284) ?_) H;exact th
 have j:(jW [bV h,dC (Pure.eB e f b (oV t g s))]).length<=204:=by
  have:=lX h;have:(dC (Pure.eB e f b (oV t g s))).length<=190:=cE (pM 4 _) sX;refine cE (Ck (n:=200) ?_) H;exact th
 unfold mg;have:=lX d;have:(dC t.az).length<=94:=cE (pM 4 _) G;refine cE (Ck (n:=596) ?_) H;exact th
theorem AM{p:Prop}(h:p:=by
 split at h
 .cases h
 .injection h with h;rw[<-h]):p:=h
theorem MJ{a t:TK}{x s:BE}{e d b:Int}(h:fresh now a x s e d b=.ok t):t.az=a.az:=by
 unfold fresh at h;split at h
 .exact AM
 .split at h
  .exact AM
  .exact AM
theorem LS{R:Except Int GR}(h:∀g,R=.ok g->g.t.az.length<=90/\g.s.name.length<=90):(dD M now R).1.length<=900:=by
 unfold dD;cases R with
 |error c=>exact sQ now c
 |ok g=>
  dsimp only;split
  .exact sQ now 60
  .exact US _ _ _ _ _ _ _ _ _ (h g rfl).1 (h g rfl).2
theorem Eg(h:dK M n){l:E}{e:BE}(b:BE.find M.aC l=some e):l.length<=90/\e.name.length<=90:=by
 have a:=yz (h.aC.name e (mQ b));exact⟨by rw[<-mi b];exact a,a⟩
theorem yA(h:dK M n)(now)(b):(dF M now b).1.length<=900:=by
 unfold dF;split
 .rename_i q _;refine LS (λg a=>?_);unfold mS at a;split at a
  .cases a
  .cases a
  .rename_i x s hx hs;split at a
   .cases a
   .split at a
    .cases a
    .injection a with a;rw[<-a];exact⟨(Eg h hx).1,(Eg h hs).2⟩
 .split
  .rename_i q _;unfold uJ;split
   .exact sQ now _
   .rename_i t p hp;dsimp only;split
    .exact sQ now _
    .refine LS (λg a=>?_);unfold eF at a;split at a
     .cases a
     .split at a
      .cases a
      .split at a
       .cases a
       .cases a
       .rename_i s x hs hx;split at a
        .cases a
        .split at a
         .cases a
         .split at a
          .cases a
          .rename_i u hu;injection a with a;rw[<-a];exact⟨by show u.az.length<=90;rw[MJ hu];exact(Eg h hx).1,(Eg h hs).2⟩
  .exact sQ now 60
set_option linter.unusedSimpArgs false
theorem zQ(k):Builtin.zeroCells #[.int .u8 0] k=((List.replicate k (0:UInt8)).map U8).toArray:=by
 unfold Builtin.zeroCells;apply Array.ext';simp only[List.map_replicate];refine List.ext_getElem Z (λj a b=>?_);simp[U8,Nat.mod_one]
theorem Jp{P:Program}(w)(t L R e)(i)(X)(J:P.underlying t=some (.slice e))(f:P.underlying L=some (.int X))(r:P.info? e=some i)(W:i.zero=some (.int .u8 0))(Q:i.size=1)(hb:i.bytes=1)(v)(p)(a)(hv:fA w v p a)(k:Nat)(hk:k<=1000)(hl:a.length<=1000000):
  ∃b d,(Builtin.append_ #[t,L] R #[v,Y k]).run P w=.ok b d/\aU w d b p (a++List.replicate k 0):=by
 have hw:IntKind.i64.wrap (k:Int)=k:=pB
 have B:¬ ((k:Int)<0):=G
 have K:IntKind.i64.wrap 0=0:=H
 have o:¬ (281474976710656<(k:Int)*(i.bytes:Int)):=sT
 have A:a.length+k<=maxLen:=lA
 rcases hv with⟨l,rfl,rfl⟩|⟨q,l,rfl,h1,h2,M,h4⟩
 .by_cases u:k=0
  .subst u;refine⟨σ,w,?_,⟨none,by simpa using fA.nil w,CF.refl _ _,.inl l.symm,λ_ _ _=>l.symm⟩⟩;simp[Builtin.append_,run_underlying J,run_underlying f,sizeOf,typeInfo,r,asInt,asIntOf,K]
  .have D:=Lib.run_append_nil_zeros (P:=P) w t L R e i (.int .u8 0) .i64 X J f r W k G G G sT;have V:=grownCap_ge w k 0 e;have b:grownCap w k 0 e<=maxLen:=(by grind [grownCap_le_maxLen])
   obtain⟨m,y⟩:∃m,grownCap w k 0 e=k+m:=⟨grownCap w k 0 e-k,by omega⟩
   rw[y]at D b;obtain⟨T,U⟩:=xR w e (List.replicate k 0) k m Z (Pl.has p) b;refine⟨_,_,D,?_⟩;rw[show k+m-k=m from by omega];have S:Builtin.zeroCells (Value.int IntKind.u8 0).cells k=((List.replicate k (0:UInt8)).map U8).toArray:=zQ k;rw[S];exact⟨some ⟨w.1.size,0,k+m⟩,T,U,.inr (λq g=>by injection g with g;subst g;exact cA _),λq g=>by rw[l]at g;cases g⟩
 .by_cases d:a.length+k<=q.cap
  .have n:=run_storeCells_cells (P:=P) q.g (q.off+a.length) ((List.replicate k (0:UInt8)).map U8) 0 w (λj hj=>M.some _ (by simp at hj;omega)) (λj _=>M.frozen _) (pV _);simp only[fN]at n;have hc:(Builtin.append_ #[t,L] R #[ς q.g q.off a.length q.cap,Y k]).run P w=.ok (ς q.g q.off (a.length+k) q.cap) (w.setCells q.g (q.off+a.length) ((List.replicate k (0:UInt8)).map U8)):=by
    by_cases u:k=0
    .subst u;simp[Builtin.append_,run_underlying J,run_underlying f,sizeOf,typeInfo,r,asInt,asIntOf,K,Q,h1,storeCells,World.setCells]
    .have x:¬ (k*i.size=0):=(by rw[Q];omega);simp[Builtin.append_,run_underlying J,run_underlying f,sizeOf,typeInfo,zeroValue,r,W,asInt,asIntOf,hw,B,x,u,o,d,Q,Addr.add_lit,Value.cells,zQ,n];have h:=n;simp only[List.map_replicate]at h;rw[h];rfl
   have F:CF w (w.setCells q.g (q.off+a.length) ((List.replicate k (0:UInt8)).map U8)) (Pl.has p):=by
    refine CF.setCells q.g _ _ w (CF.refl _ _) (λj hj _=>⟨q,l,rfl,?_,?_⟩)
    .omega
    .simp at hj;omega
   refine⟨_,_,hc,⟨some q,?_,F,.inl l.symm,λ_ _ _=>l.symm⟩⟩;refine .inr ⟨q,rfl,by simp,by simpa using d,h2,M.cf F,?_⟩;intro j u h;rw[ej]at h;by_cases hj:j<a.length
   .rw[cX tv]at h;rw[World.cell?_setCells_out q.g _ _ w _ dT];exact h4 j u h
   .rw[dr (by simpa using Nat.le_of_not_lt hj),cU]at h;have x:=(cM.1 h).1;have:=World.cell?_setCells_in q.g ((List.replicate k (0:UInt8)).map U8) (q.off+a.length) w (λm y=>M.some _ (by simp at y;omega)) (j-a.length) x;rw[show q.off+a.length+(j-a.length)=q.off+j from by omega]at this;rw[this,<-h,cN x]
  .have C:(Builtin.firstCells i.size a.length (ς q.g q.off a.length q.cap)).run P w.drew=.ok (a.map U8).toArray w.drew:=
    run_firstCells_some w.drew _ a.length ⟨q.g,q.off,none⟩ a.length q.cap (a.map U8) (by simp[Q]) (λj u h=>by rw[Addr.add_lit];exact h4 j u h)
   have j:=growslice_fits (need:=a.length+k) (old:=q.cap) (bytes:=i.bytes) G sT;have D:=Lib.run_append_grow_zeros (P:=P) w t L R e i (.int .u8 0) .i64 X J f r W (some ⟨q.g,q.off,none⟩) a.length q.cap (a.map U8) C k G G G G sT j;have V:=grownCap_ge w (a.length+k) q.cap e;have b:=grownCap_le_maxLen w _ q.cap e A;obtain⟨m,y⟩:∃m,grownCap w (a.length+k) q.cap e=a.length+k+m:=⟨grownCap w (a.length+k) q.cap e-(a.length+k),by omega⟩
   rw[y]at D b;obtain⟨T,U⟩:=xR w e (a++List.replicate k 0) (a.length+k) m Z (Pl.has p) b;refine⟨_,_,D,?_⟩;rw[show a.length+k+m-(a.length+k)=m from by omega];have S:(a.map U8).toArray++Builtin.zeroCells (Value.int IntKind.u8 0).cells k=((a++List.replicate k 0).map U8).toArray:=by
    rw[show(Value.int IntKind.u8 0).cells=#[.int .u8 0] from rfl,zQ,ej];simp
   rw[S];refine⟨some ⟨w.1.size,0,a.length+k+m⟩,T,U,.inr (λq g=>by injection g with g;subst g;exact cA _),λu h n=>?_⟩;rw[l]at h;injection h with h;subst h;simp at n;omega
variable {P:Program}
theorem Qm(b)(f:∀v∈b,v.cells=#[v]):∀(k)(a),k+b.length<=a.size->
  Instr.fill (λi=>some (i*1,1)) a ((b.zipIdx k).map λx=>(x.2,x.1))=some ((a.toList.take k++b++a.toList.drop (k+b.length)).toArray):=by
 induction b with
 |nil=>
  intro k a _;simp[Instr.fill]
 |cons v b l=>
  intro k a i;simp only[de]at i;have j:=f v Z;have e:=l (λu d=>f u (by simp[d])) (k+1);simp only[List.zipIdx_cons,eN,Instr.fill,j];have g:(decide (#[v].size≠1)||decide (k*1 + #[v].size > a.size))=false:=by
   have m:¬ (k*1+1 > a.size):=G;simp;omega
  have h:Array.foldl (λd x=>d.setIfInBounds (k*1+x.snd) x.fst) a #[v].zipIdx=a.setIfInBounds k v:=by
   grind
  rw[g,h];simp only[fS,if_false];rw[e (a.setIfInBounds k v) iS];congr 2;have d:k<a.toList.length:=iS;rw[Array.toList_setIfInBounds,de];rw[show k+(b.length+1)=k+1+b.length from by omega];rw[List.drop_set_of_lt G];rw[dy (by simpa using d),List.getElem_set_self,List.take_set_of_le G];simp
theorem Up(w)(t e)(i)(z)(l:P.underlying t=some (.slice e))(h:P.info? e=some i)(k:i.size=1)(m:i.zero=some z)(a:List Value)(n)(j:a.length=n)(o:0<n)(p:n<=1000)(g:∀v∈a,v.cells=#[v]):
  (Instr.buildSlice t n ((a.zipIdx.map λx=>(x.2,x.1)).toArray)).run P w=.ok (ς w.1.size 0 n n) (w.alloc (.cells a.toArray e)):=by
 subst j
 have f:Instr.fill (λi=>some (i*1,1)) ((Array.range (a.length*1)).map (z.cells[· % z.cells.size]!)) (a.zipIdx.map λx=>(x.2,x.1))=some a.toArray:=by
  rw[Qm a g 0 _ Z];simp
 have d:¬ (16777216<a.length*1):=G
 have b:¬ (a.length*1=0):=G
 simp only[fY]at d b
 unfold Instr.buildSlice
 simp[run_underlying l,sizeOf,typeInfo,h,k,zeroValue,m,d,b]
 simp only[fY]at f
 rw[f]
 simp[newRow]
theorem So{o:Oper}{a:Act}{w:World}{K:Act->World->Prop}{Q:Exit->Act->World->Prop}(t)(n)(b)(g:o.op=.buildSlice t n b)(e)(i)(z)(y:P.underlying t=some (.slice e))(p:P.info? e=some i)(u:i.size=1)(A:i.zero=some z)(d:List Value)(f:(b.toList.map λx=>(x.1,a.eval x.2))=d.zipIdx.map λx=>(x.2,x.1))(q:d.length=n)(h:0<n)(k:n<=1000)(j:∀v∈d,v.cells=#[v])(l:K (a.put o.dst (ς w.1.size 0 n n)) (w.alloc (.cells d.toArray e))):Oper.wp P o a w K Q:=by
 have r:=Up (P:=P) w t e i z y p u A d n q h k j
 unfold Oper.wp
 simp only[execOp,g]
 have m:(b.map λ(i,x)=>(i,a.eval x))=(d.zipIdx.map λx=>(x.2,x.1)).toArray:=by
  rw[<-f];apply Array.ext';simp
 rw[m]
 simp[r]
 exact l
theorem lF.bsl{W:World}{B:Nat}{L:List (Value×E)}(h:lF W B L){o:Oper}{a:Act}{K:Act->World->Prop}{Q:Exit->Act->World->Prop}(t)(n)(b)(f:o.op=.buildSlice t n b)(e)(i)(z)(r:P.underlying t=some (.slice e))(m:P.info? e=some i)(q:i.size=1)(y:i.zero=some z)(d:(b.toList.map λx=>(x.1,a.eval x.2))=((L.reverse.map λx=>x.1).zipIdx).map λx=>(x.2,x.1))(p:(L.reverse.map λx=>x.1).length=n)(g:0<n)(k:n<=1000)(l:K (a.put o.dst (ς W.1.size 0 n n)) (W.alloc (.cells (L.reverse.map λx=>x.1).toArray e))):Oper.wp P o a W K Q:=
 So t n b f e i z r m q y _ d p g k (λv u=>by
  obtain⟨x,w,rfl⟩:=List.mem_map.1 u
  obtain⟨a,c,j⟩:=(h x (List.mem_reverse.1 w)).1.shape
  rw[j]
  rfl) l
theorem Tryz.Cn:(Tryz.prog.info? 37).map (λi=>(i.zero,i.size,i.bytes))=some (some σ,1,24):=by kernel_rfl
theorem zv{p:Prop}(h:p:=by first|exact kE _ _ (by decide)|exact fP _ _ (by omega)|exact fP _ _ (by rw[Pure.dB];decide)|exact fP _ _ (by rw[Pure.bR];omega)|exact fP _ _ (by decide)):p:=h
variable {p q r:Prop}
theorem pA{s:Prop}(C:r)(B:s)(k:q)(h:r->s->Hid q->p:=by intro C5 B5 hq;intro K hK;refine Calls.mono C5 ?_;rintro e V5 ⟨o5,rfl,q5,g5⟩;obtain⟨a5,c5,rfl⟩:=q5.shape;have vM:=I (HA.push g5 q5 zv);have VA:=I (aa eu g5);clear q5 g5;go_wp2_with fail;refine hK.out _ _ (.inr VA) ?_;(try simp only[Act.put,List.getElem_toArray,List.getElem_cons_zero,List.getElem_cons_succ,ei,eo,eM]);revert vM VA;revert V5 a5 c5;exact hq):p:=h C B (I k)
theorem oN{s:Prop}(C:r)(B:s)(k:q)(h:r->s->Hid q->p:=by intro C5 B5 hq;intro K hK;refine Calls.mono C5 ?_;rintro e V5 ⟨o5,rfl,q5,g5⟩;obtain⟨a5,c5,rfl⟩:=q5.shape;have vM:=I (HA.push g5 q5 zv);have VA:=I (aa eu g5);have HZ5:=I (HZ.grown g5);clear q5 g5;go_wp2_with fail;refine hK.out _ _ (.inr VA) ?_;(try simp only[Act.put,List.getElem_toArray,List.getElem_cons_zero,List.getElem_cons_succ,ei,eo,eM]);revert vM VA HZ5;revert V5 a5 c5;exact hq):p:=h C B (I k)
theorem rl{s:Prop}(C:r)(B:s)(k:q)(h:r->s->Hid q->p:=by intro C5 B5 hq;intro K hK;refine Calls.mono C5 ?_;rintro e V5 ⟨o5,rfl,q5,g5⟩;obtain⟨a5,c5,rfl⟩:=q5.shape;have vM:=I (HA.push g5 q5 zv);have VA:=I (aa eu g5);have HZ5:=I (HZ.grown g5);have HB5:=I (HB.grown g5);clear q5 g5;go_wp2_with fail;refine hK.out _ _ (.inr VA) ?_;(try simp only[Act.put,List.getElem_toArray,List.getElem_cons_zero,List.getElem_cons_succ,ei,eo,eM]);revert vM VA HZ5 HB5;revert V5 a5 c5;exact hq):p:=h C B (I k)
set_option maxHeartbeats 16000000
open Proofs.Tryz
theorem kR{P:Program}{c:Code}{Q:Exit->Act->World->Prop}{a:Act}{W:World}(X:World->Prop)(b:X W)(h:∀V,X V->Code.wp P c Q a V):Code.wp P c Q a W:=h W b
theorem MM{p q:Prop}(k:q)(h:q->p:=by
  intro hq
  obtain⟨t0,t1,t2,t3,t4,t5,t6⟩:=HW.tc
  obtain⟨⟨d0,k0⟩,⟨d1,k1⟩,⟨d2,k2⟩,⟨d3,k3⟩,⟨d4,k4⟩,⟨d5,k5⟩,⟨d6,k6⟩,f0,f1,f2,f3,f4,f5,f6⟩:=qD HW.r
  go_wp2
  refine bodyPost_ret (aG results109 _ _ _ (w.1.size+1) rfl _ (iK (fw HW.r _ _ _ _ _ _ _))) rfl ?_
  exact hq):p:=h k
theorem X9(d j)(M)(g)(f)(q)(z pv)(w)(v:RD w d j M g)(ca:gy 4611686018427387904 M.aC)(bb:d<=w.1.size)(hz:xA w z q.dR)(dp:q.dR.length<=900)(B:xA w pv q.proof)(df:q.proof.length<=900)(cO:bT f)(dn:M.aI.length<=1000)(yo:∀y∈M.aI,bT y.time):Calls prog 109 #[N j 0,Y f,.agg #[.string ⟨q.gq.toArray⟩,Y q.oW,z],pv,.string ⟨q.aV.toArray⟩,Y q.aR] w λe w'=>∃t c,e=.returned (.tuple #[.agg t.cells.toArray,Y c])/\oC d j g (iM M f q) w w' t c:=by
 obtain⟨A,a⟩:=aq (iM M f q)
 rw[a]
 have C:=I a
 clear a
 obtain⟨T0,i⟩:∃t:TK,t=⟨0,0,[],0,0,0,0⟩:=⟨_,rfl⟩
 have cn:Hid T0.In:=by rw[i];exact sP
 obtain⟨n,u,rfl,l,m,x⟩:=hz
 have p:OW w (((w.alloc (.cells #[.string ⟨q.gq.toArray⟩,Y q.oW,.slice n q.dR.length u] 233)).alloc (.cells #[Y 0,O 0,ε,Y 0,Y 0,Y 0,Y 0] 43)).alloc (.cells #[Y 0,O 0,ε,Y 0,Y 0,Y 0,Y 0] 43)) d j M g q (.slice n q.dR.length u) pv T0:=by
  have k:=λa o=>cy a o none;have G:=aM (aM (cy w (.cells #[.string ⟨q.gq.toArray⟩,Y q.oW,.slice n q.dR.length u] 233) none) (.cells #[Y 0,O 0,ε,Y 0,Y 0,Y 0,Y 0] 43)) (.cells #[Y 0,O 0,ε,Y 0,Y 0,Y 0,Y 0] 43);refine⟨v.keep (λb hb=>G.block b (v.lt b hb).2 Z),?_,?_,?_,?_,xA.grown ⟨n,u,rfl,l,m,x⟩ G,B.grown G,G⟩
  .exact MG
  .exact MG
  .rw[i];exact MG
  .exact MG
 have a:=I p
 have HZ:Hid (xA w (.slice n q.dR.length u) q.dR):=⟨n,u,rfl,l,m,x⟩
 have HP:=I B
 have HD:=I v
 obtain⟨U,dd⟩:=aq q.dR.length
 rw[dd]at a HZ⊢
 clear p l m x B v i
 have Y5:=I (λW=>eZ q.aR 16 4 W H H)
 have al:=I (λW=>eZ q.aR 32 5 W H H)
 obtain⟨b4,h4⟩:=aq (aJ q.aR 16)
 obtain⟨b5,l⟩:=aq (aJ q.aR 32)
 rw[h4]at Y5
 rw[l]at al
 obtain⟨ag,i⟩:=aq ((b4||b5))
 have ax:Hid (jI q=(ag&&decide (q.gq=q.aV))):=by show _=_;rw[<-i,<-h4,<-l];rfl
 have an:=I i
 clear h4 l i
 go_in
 go_upto_region 2 with fail
 refine kR (λV=>OW w V d j M g q (.slice n U u) pv T0) a ?_
 clear a
 intro W hW
 have HW:=I hW
 clear hW
 go_cut [15] (λx i=>x=.bool ag/\W=i)
 case first=>
  have HX:=I an.o;clear an ax C;cases b4 with
  |true=>
   go_wp2_with (go_at_call 102;(with_reducible refine Calls.mono (Y5.o _) ?_);rintro e w' ⟨rfl,rfl⟩)
   exact oA
  |false=>
   go_wp2_with (go_at_call 102;(first|(with_reducible refine Calls.mono (Y5.o _) ?_)|(with_reducible refine Calls.mono (al.o _) ?_));rintro e w' ⟨rfl,rfl⟩)
   exact oA
 case rest=>
  obtain⟨rfl,rfl⟩:=hcut;clear Y5 al an;have c0:W.c w.1.size 0=some (.string ⟨q.gq.toArray⟩):=HW.c 0 _ rfl;have c1:W.c w.1.size 1=some (Y q.oW):=HW.c 1 _ rfl;have c2:W.c w.1.size 2=some (.slice n U u):=HW.c 2 _ rfl;obtain⟨bt,a⟩:=aq ((!decide (q.gq=[116,103,115])&&!(ag&&decide (q.gq=q.aV))));have sj:=I a;clear a;go_upto_region 3 with fail
  go_cut [41] (λx i=>x=.bool bt/\W=i)
  case first=>
   clear ax C;by_cases a:q.gq=[116,103,115]
   .have B:=db.2 a;have l:=I a;clear a;go_wp2_with fail;exact oA
   .have B:=cJ.2 a;have l:=I a;clear a;cases ag with
    |false=>
     go_wp2_with fail;exact oA
    |true=>
     by_cases a:q.gq=q.aV
     .have m:=db.2 a;have i:=I a;clear a;go_wp2_with fail;exact oA
     .have m:=cJ.2 a;have i:=I a;clear a;go_wp2_with fail;exact oA
  case rest=>
   obtain⟨rfl,rfl⟩:=hcut;cases bt with
   |true=>
    have a:q.gq≠[116,103,115]/\jI q=false:=by
     grind [Hid.o]
    have i:=I a;clear a;have HS:Hid (A=(.error 36,M)):=(by grind [Hid.o,Pv]);clear C;refine MM ?_;exact⟨T0,36,rfl,by grind [XX,OW.g,Hid.o,kQ]⟩
   |false=>
    have qw:Hid (q.gq=[116,103,115]\/jI q=true):=by
     grind [Hid.o]
    clear sj ax;have CF:=I (λW (hW:RD W d j M g)=>yx d j M g q.gq W hW ca.len);have a:=uS g.es q.gq;rw[HD.aC]at a;obtain⟨fa,i⟩:=aq (gG g.es q.gq);rw[i]at CF a;have l:=I a;clear a i;go_wp2_with fail;refine(CF _ HW.d).mono ?_;rintro e W1 ⟨rfl,a⟩;have aj:=I (HW.grown a);clear HW a CF c0 c1 c2;rcases l.o with⟨L,a⟩|⟨i,hi,dc,J⟩
    .have m:=I a;subst L;clear l a;have HS:Hid (A=(.error 7,M)):=(by grind [Hid.o,Pw]);clear C;have HW:=aj;refine MM ?_;exact⟨T0,7,rfl,by grind [Hid.o,OW.g,kQ,XX]⟩
    .have cz:¬ (i:Int)<0:=aZ;have da:(0:Int)<=(i:Int):=aZ;obtain⟨gb,cb,p,D⟩:=uT aj.d aZ;obtain⟨m,L⟩:=aq g.es.length;have QX:(i:Int)<(m:Int):=aZ;have bn:=I p;have HM:=I L;have ck:=I hi;obtain⟨x,a⟩:=aq (g.es[i]'hi);have cp:=I a;have v:x.be∈M.aC:=(by grind [RD.aC,Hid.o]);have Q:BE.find M.aC q.gq=some x.be:=(by rw[<-a];exact J);have P:1<=x.aH/\x.aH<=4611686018427387904:=ca.num x.be v;have HX:=I Q;subst dc;clear l Q J p D L a v;have CK:=I (λW=>G8 x q.oW W P.1 (by have:=P.2;omega));obtain⟨ko,a⟩:=aq (x.be.keyOf q.oW);rw[a]at CK;have ar:=I a;clear a P;obtain⟨kv,bf⟩:∃k:Int,((ko.getD 0).toNat:Int)=k:=⟨_,rfl⟩
     obtain⟨kb,a⟩:∃k:Bool,ko.isSome=k:=⟨_,rfl⟩
     rw[bf,a]at CK;have au:=I bf;have af:=I a;clear bf a;have p:Hid (∀V,OW w V d j M g q (.slice n U u) pv T0->V.cell? (F j 1)=some (ς gb 0 m cb)/\V.rangeAt gb 0 (bL g.es)):=by
      intro V v;obtain⟨J,D,l,a⟩:=uT v.d (by have:=ck.o;omega);have e:=bn.o.symm.trans l;injection e with e1 e2 e3;injection e1 with e1;injection e1 with e1;subst e1;refine⟨?_,a⟩;have:=v.d.bU.blk.cell 1;grind [Hid.o]
     go_wp2_with fail;refine aF.start (S:=λV=>OW w V d j M g q (.slice n U u) pv T0) 9 f' ?_;have eu:=I aj.drew;clear aj;refine aF.tk 0 [6,5,3,2,1,0] ?_;refine aF.tk 1 [6,5,3,2,1] ?_;refine aF.tk 2 [6,5,3,2] ?_;refine aF.tk 3 [6,5,3] ?_ (hy:=by intro W hW;have y1:=(p W hW).1;exact kV);refine aF.tk 4 [6,5,4] ?_;refine aF.tk 5 [6,5] ?_;refine aF.tk 6 [6] ?_ (hy:=by intro W hW;have a:=(p W hW).2;obtain⟨x0,x1,x2,x3,x4,x5,x6,x7,x8,x9⟩:=vS a i hi;rw[cp]at x0 x1 x2 x3 x4 x5 x6 x7 x8 x9;clear a;exact kV);refine aF.tk 7 [8,7] ?_;refine aF.tk 8 [8] ?_ (hy:=by intro W hW;have c1:W.c w.1.size 1=some (Y q.oW):=hW.c 1 _ rfl;exact kV);refine aF.on 9 ?_;intro K hK;refine Calls.mono (CK _) ?_;rintro e W2 ⟨rfl,a⟩;have HW:=I (eu.grown a);clear a;go_wp2_with fail;refine gN ?_;clear hK K CK eu;refine aF.fr 10 ?_;refine aF.fr 11 ?_;refine aF.fr 12 ?_;refine aF.fr 13 ?_;refine aF.fr 14 ?_;refine aF.done f' ?_;clear p bn HM cz da QX;cases kb with
     |false=>
      have a:Hid (x.be.keyOf q.oW=none):=(by show _=_;rw[ar];have:=af.o;cases ko with|none=>rfl|some k=>cases this);clear ar au af;have HS:Hid (A=(.error 44,M)):=(by grind [Hid.o,Vn]);clear C;refine MM ?_;exact⟨T0,44,rfl,by grind [Hid.o,XX,OW.g,kQ]⟩
     |true=>
      obtain⟨T,a⟩:∃k,ko=some k:=by have:=af.o;cases ko with|none=>cases this|some k=>exact⟨k,rfl⟩
      have J:Hid (x.be.keyOf q.oW=some T):=dT;have cr:kv=(T.toNat:Int):=(by rw[<-au,a];rfl);subst cr;clear ar au af a;have c2:W2.c w.1.size 2=some (.slice n U u):=HW.c 2 _ rfl;have CO:=I (λW (hW:xA W (.slice n U u) q.dR)=>yw T 2 2 q.dR (.slice n U u) W H H rfl dp hW);obtain⟨ol,R⟩:=aq (fe T 2 q.dR);rw[R]at CO;have Ya:=I R;clear R;go_wp2_with fail;refine(CO _ HW.z).mono ?_;rintro e W3 ⟨o,rfl,ae,bl,a⟩;have ak:=I (HW.grown a);have L:=I ae;clear HW a c2 ae bl CO;cases ol with
      |none=>
       have p:Hid ((fe T 2 q.dR).bind dU=none):=(by show _=_;rw[Ya];rfl);clear Ya L;simp only[Option.isSome_none];have HS:Hid (A=(.error 31,M)):=(by grind [Hid.o,VB]);clear C;have HW:=ak;refine MM ?_;exact⟨T0,31,rfl,by grind [Hid.o,XX,OW.g,kQ]⟩
      |some l=>
       obtain⟨Q,bk⟩:=L l rfl;have CT:=I (Be l o W3 Q aZ);obtain⟨oa,oc,ho⟩:=Q.shape;subst ho;clear Q bk L;simp only[du];obtain⟨tb,B⟩:=aq ((dU l).isSome);rw[B]at CT;have NZ:=I B;clear B;obtain⟨ln,ad⟩:=aq l.length;rw[ad]at CT⊢;clear ad;obtain⟨⟨d0,k0⟩,⟨d1,k1⟩,⟨d2,k2⟩,⟨d3,k3⟩,⟨d4,k4⟩,⟨d5,k5⟩,⟨d6,k6⟩,f0,f1,f2,f3,f4,f5,f6⟩:=qD ak.o.lt;go_wp2_with fail;refine CT.mono ?_;rintro e W4 ⟨t,rfl,P,D,X⟩;rw[TK.pK t];have cu:=I D;have az:=I P;have a:=I (ak.grown X);have v:=I (a.arH HD HZ HP t);clear d0 k0 f0 d1 k1 f1 d2 k2 f2 d3 k3 f3 d4 k4 f4 d5 k5 f5 d6 k6 f6;obtain⟨⟨d0,k0⟩,⟨d1,k1⟩,⟨d2,k2⟩,⟨d3,k3⟩,⟨d4,k4⟩,⟨d5,k5⟩,⟨d6,k6⟩,f0,f1,f2,f3,f4,f5,f6⟩:=qD a.o.lt;clear D P X ak CT cn;go_upto_region 15 with fail
       refine kR (λV=>OW w V d j M g q (.slice n U u) pv t) v ?_;clear d0 k0 f0 d1 k1 f1 d2 k2 f2 d3 k3 f3 d4 k4 f4 d5 k5 f5 d6 k6 f6 a v;intro W5 a;have HW:=I a;clear a;cases tb with
       |false=>
        have p:Hid ((fe T 2 q.dR).bind dU=none):=(by show _=_;rw[Ya];have:=NZ.o;show dU l=none;cases h:dU l with|none=>rfl|some y=>rw[h]at this;cases this);clear Ya NZ az;have HS:Hid (A=(.error 31,M)):=(by show _=_;rw[<-C];exact VB qw HX J p);clear C;refine MM ?_;exact⟨t,31,rfl,by grind [kQ,Hid.o,XX,OW.g]⟩
       |true=>
        have X:Hid ((fe T 2 q.dR).bind dU=some t):=(by show _=_;rw[Ya];have:=NZ.o;show dU l=some t;cases h:dU l with|none=>rw[h]at this;cases this|some y=>rw[az y h]);clear Ya NZ az;obtain⟨t0,t1,t2,t3,t4,t5,t6⟩:=HW.tc;have CO:=I (λW (hW:xA W pv q.proof)=>yw t.aO 4 4 q.proof pv W H H rfl df hW);obtain⟨ol,R⟩:=aq (fe t.aO 4 q.proof);rw[R]at CO;have Ya:=I R;clear R;go_wp2_with fail;refine(CO _ HW.p).mono ?_;rintro e W6 ⟨o,rfl,ae,bl,a⟩;have ba:=I (HW.grown a);have L:=I ae;clear HW a ae bl CO t0 t1 t2 t3 t4 t5 t6;cases ol with
        |none=>
         have v:Hid ((fe t.aO 4 q.proof).bind fJ=none):=(by show _=_;rw[Ya];rfl);clear Ya L;simp only[Option.isSome_none];have HS:Hid (A=(.error 31,M)):=(by show _=_;rw[<-C];exact Qn qw HX J X v);clear C;have HW:=ba;refine MM ?_;exact⟨t,31,rfl,by grind [Hid.o,XX,OW.g,kQ]⟩
        |some l2=>
         obtain⟨Q,bk⟩:=L l2 rfl;have CT:=I (P9 l2 o W6 Q aZ);obtain⟨dv,ea,ho⟩:=Q.shape;subst ho;clear Q bk L;simp only[du];obtain⟨tb,B⟩:=aq ((fJ l2).isSome);rw[B]at CT;have NZ:=I B;clear B;obtain⟨dt,ad⟩:=aq l2.length;rw[ad]at CT⊢;clear ad;go_wp2_with fail;refine CT.mono ?_;rintro e W7 ⟨p,rfl,cd,P,g7⟩;have a:p.cells.toArray=#[.string ⟨p.az.toArray⟩,Y p.time,Y p.count]:=rfl;rw[a];clear a;have cl:=I P;have av:=I cd;have D:=I (ba.grown g7);clear P cd g7 ba CT;go_upto_region 21 with fail
         refine kR (λV=>OW w V d j M g q (.slice n U u) pv t/\V.rangeAt W7.1.size 0 p.cells) ⟨D.grown (cy W7 _ none),aS W7 p.cells.toArray _⟩ ?_;have bc:=D.big;obtain⟨P,bs⟩:=aq W7.1.size;rw[bs]at bc⊢;have cj:=I bc;clear D bc bs;rintro W8 ⟨bz,bu⟩;have HW:=I bz;have D:=I bu;clear bz bu;cases tb with
         |false=>
          have v:Hid ((fe t.aO 4 q.proof).bind fJ=none):=(by show _=_;rw[Ya];have:=NZ.o;show fJ l2=none;cases h:fJ l2 with|none=>rfl|some y=>rw[h]at this;cases this);clear Ya NZ av;have HS:Hid (A=(.error 31,M)):=(by show _=_;rw[<-C];exact Qn qw HX J X v);clear C;refine MM ?_;exact⟨t,31,rfl,by grind [Hid.o,XX,OW.g,kQ]⟩
         |true=>
          have ah:Hid ((fe t.aO 4 q.proof).bind fJ=some p):=(by show _=_;rw[Ya];have:=NZ.o;show fJ l2=some p;cases h:fJ l2 with|none=>rw[h]at this;cases this|some y=>rw[av y h]);clear Ya NZ av;have p0:W8.c P 0=some (.string ⟨p.az.toArray⟩):=D 0 _ rfl;have p1:W8.c P 1=some (Y p.time):=D 1 _ rfl;by_cases v:p.az=t.az;rotate_left
          .have cv:=cJ.2 v;have I4:=I v;clear v;have HS:Hid (A=(.error 36,M)):=(by show _=_;rw[<-C];exact X8 qw HX J X ah I4);clear C;refine MM ?_;exact⟨t,36,rfl,by grind [OW.g,Hid.o,kQ,XX]⟩
          have cv:=db.2 v;have I4:=I v;clear v;have CA:=I (λW=>zN p.time f W cl.1 cO);obtain⟨ap,v⟩:=aq (dW p.time f);rw[v]at CA;have ao:=I v;clear v;have bq:W8.cell? (F j 0)=some (Y M.ax):=by
           have:=HW.d.bU.blk.cell 0;simpa using this
          obtain⟨t0,t1,t2,t3,t4,t5,t6⟩:=HW.tc;have OQ:Hid (OW w W8.drew d j M g q (.slice n U u) pv t/\W8.drew.rangeAt P 0 p.cells):=⟨HW.drew,aA D (bg (cC _ _))⟩
          by_cases ch:M.ax<ap
          .have ai:Hid (M.ax<dW p.time f):=(by show _<_;rw[ao];exact ch);go_wp2_with fail;clear t0 t1 t2 t3 t4 t5 t6 p0 p1 bq;refine aF.start (S:=λV=>OW w V d j M g q (.slice n U u) pv t/\V.rangeAt P 0 p.cells) 8 f' ?_;have eu:=OQ;refine aF.tk 0 [3,1,0] ?_;refine aF.tk 1 [3,1] ?_ (hy:=by intro W hW;have p1:W.c P 1=some (Y p.time):=hW.2 1 _ rfl;exact kV);refine aF.tk 2 [3,2] ?_;refine aF.tk 4 [7,6,5,4] ?_;refine aF.tk 5 [7,6,5] ?_;refine aF.tk 6 [7,6] ?_;refine aF.tk 7 [7] ?_ (hy:=by intro W hW;have y0:=(by have:=hW.1.d.bU.blk.cell 0;simpa using this);exact kV);refine aF.on 3 ?_;intro K hK;refine Calls.mono (CA _) ?_;rintro e w' ⟨rfl,rfl⟩;go_wp2_with fail;refine qF ?_;clear hK K;refine aF.on 8 ?_;intro K hK;refine gN ?_;clear hK K;refine aF.fr 9 ?_;refine aF.Hd (λV=>OW w V d j M g q (.slice n U u) pv t/\V.rangeAt P 0 p.cells) f' eu ?_;clear eu OQ HW D;rintro W9 ⟨ab,v⟩;have HW:=I ab;have D:=I v;clear ab v;have HS:Hid (A=(.error 37,M)):=(by show _=_;rw[<-C];exact Uj qw HX J X ah I4 ai);clear C;refine MM ?_;exact⟨t,37,rfl,by grind [Hid.o,kQ,XX,OW.g]⟩
          .have ai:Hid (dW p.time f<=M.ax):=(by show _<=_;rw[ao];exact fh.1 ch);go_wp2_with fail;clear t0 t1 t2 t3 t4 t5 t6 p0 p1 bq;refine aF.start (S:=λV=>OW w V d j M g q (.slice n U u) pv t/\V.rangeAt P 0 p.cells) 8 f' ?_;have eu:=OQ;refine aF.tk 0 [3,1,0] ?_;refine aF.tk 1 [3,1] ?_ (hy:=by intro W hW;have p1:W.c P 1=some (Y p.time):=hW.2 1 _ rfl;exact kV);refine aF.tk 2 [3,2] ?_;refine aF.tk 4 [7,6,5,4] ?_;refine aF.tk 5 [7,6,5] ?_;refine aF.tk 6 [7,6] ?_;refine aF.tk 7 [7] ?_ (hy:=by intro W hW;have y0:=(by have:=hW.1.d.bU.blk.cell 0;simpa using this);exact kV);refine aF.on 3 ?_;intro K hK;refine Calls.mono (CA _) ?_;rintro e w' ⟨rfl,rfl⟩;go_wp2_with fail;refine qF ?_;clear hK K;refine aF.on 8 ?_;intro K hK;refine gN ?_;clear hK K;refine aF.fr 9 ?_;refine aF.Hd (λV=>OW w V d j M g q (.slice n U u) pv t/\V.rangeAt P 0 p.cells) f' eu ?_;clear eu OQ HW D;rintro W9 ⟨ab,v⟩;have HW:=I ab;have D:=I v;clear ab v;have ds:=(HD.o.lt j (.inl rfl)).2;have CR:=I (λW (hW:RD W d j M g) (hb:d<=W.1.size)=>ML d j M g p f W hW dn yo cO hb);have a:p.cells.toArray=#[.string ⟨p.az.toArray⟩,Y p.time,Y p.count]:=rfl;rw[a]at CR;clear a;have bm:Hid (A=if bM M.ax f M.aI p≠0 then(.error (bM M.ax f M.aI p),{M with aI:=bK M.ax f M.aI p}) else(.ok t,{M with aI:=bK M.ax f M.aI p})):=by
            rw[<-C];exact T' qw HX J X ah I4 (fh.2 ai)
           obtain⟨pc,cc⟩:=aq (bM M.ax f M.aI p);obtain⟨M',v⟩:∃m:DM,{M with aI:=bK M.ax f M.aI p}=m:=⟨_,rfl⟩
           rw[cc,v]at CR bm;clear cc v C qw HX J X ah I4 ai ao CA;have cm:Hid (d<=W9.drew.1.size):=cE bb (by have:=HW.drew.big;omega);go_wp2_with fail;refine aF.start (S:=λV=>V.rangeAt (w.1.size+2) 0 t.cells/\V.rangeAt P 0 p.cells) 5 f' ?_;have eu:Hid (W9.drew.rangeAt (w.1.size+2) 0 t.cells/\W9.drew.rangeAt P 0 p.cells):=⟨HW.drew.t,aA D (bg (cC _ _))⟩
           refine aF.tk 0 [0] ?_ (hy:=by intro W hW;have v:=hW.1;obtain⟨t0,t1,t2,t3,t4,t5,t6⟩:=mE v;clear v;exact kV);refine aF.tk 1 [4,1] ?_;refine aF.tk 2 [4,2] ?_ (hy:=by intro W hW;have p0:W.c P 0=some (.string ⟨p.az.toArray⟩):=hW.2 0 _ rfl;have p1:W.c P 1=some (Y p.time):=hW.2 1 _ rfl;have p2:W.c P 2=some (Y p.count):=hW.2 2 _ rfl;exact kV);refine aF.tk 3 [4,3] ?_;refine aF.on 4 ?_;intro K hK;refine Calls.mono (CR _ HW.drew.d cm) ?_;rintro e Wr ⟨rfl,v,bx,gR,Qq⟩;have bo:=I (cZ bx (cZ gR Qq));have V:Hid (Wr.rangeAt (w.1.size+2) 0 t.cells/\Wr.rangeAt P 0 p.cells):=⟨yD eu.1 gR aZ,yD eu.2 gR (by have:=cj.o;omega)⟩
           have OA:=I (Qo HW.drew.r gR aZ);clear bx gR Qq;go_wp2_with fail;refine mA V ?_;clear hK K CR eu;have eu:=V;clear V;obtain⟨⟨d0,k0⟩,⟨d1,k1⟩,⟨d2,k2⟩,⟨d3,k3⟩,⟨d4,k4⟩,⟨d5,k5⟩,⟨d6,k6⟩,f0,f1,f2,f3,f4,f5,f6⟩:=qD OA.o;refine aF.on 5 ?_;intro K hK;refine gN ?_;clear hK K;refine aF.fr 6 ?_;refine aF.done f' ?_;go_wp2;refine bodyPost_ret (aG results109 _ _ _ (w.1.size+1) rfl _ (iK (fw OA _ _ _ _ _ _ _))) rfl ?_;refine⟨t,pc,rfl,Qp bm cu ?_ ?_⟩
           .obtain⟨h1,h2,h3⟩:=bo.o;have dq:=HW.drew.big;have V:∀b,({g with pv:=v}:RG).foot j b->b≠w.1.size+1:=by
             intro b hb;rcases hb with e|e|e|e
             .omega
             .have:=(HD.o.lt b (.inr (.inl e))).2;omega
             .have:=h3 b e;omega
             .have:=(HD.o.lt b (.inr (.inr (.inr e)))).2;omega
            exact⟨v,((((((h1.xG V).xG V).xG V).xG V).xG V).xG V).xG V,.inr (λb hb=>cE aZ (h3 b hb))⟩
           .obtain⟨h1,h2,h3⟩:=bo.o;have h4:=iH (mK HW.drew.g j) h2;exact nN (nN (nN (nN (nN (nN (nN h4 (ep _ 1)) (ep _ 1)) (ep _ 1)) (ep _ 1)) (ep _ 1)) (ep _ 1)) (ep _ 1)
variable {w:World}
theorem MN{K:Act->World->Prop}{a:Act}{W:World}(X:World->Prop)(b:X W)(h:∀V,X V->K a V):K a W:=h W b
theorem sS(x):∃k:UInt64,IntKind.u64.wrap x=(k.toNat:Int):=by
 refine⟨UInt64.ofNat (x % 18446744073709551616).toNat,?_⟩;rw[IntKind.wrap_u64,UInt64.toNat_ofNat'];omega
theorem MO(w):Calls prog 60 #[σ] w λe a=>∃o,e=.returned o/\gQ a o (Box.box 48 [])/\w.grownBy a none:=by
 have HB:Hid (∀W,Calls prog 88 #[.int .u8 48,σ] W λe a=>∃o,e=.returned o/\gQ a o (Box.box 48 [])/\W.grownBy a none):=λW=>My 48 [] _ W (gQ.nil W) Z;go_in;go_wp2;go_loopw [3,4] (λo i wr=>o = σ/\i = Y 0/\w.grownBy wr none) (λ_ _ _=>0)
 case atStart=>grind [cC]
 case round=>
  obtain⟨rfl,rfl,a⟩:=hrel;have b:=I a;clear a;go_wp2_with (go_at_call 88;refine(HB _).mono ?_;rintro e f ⟨o,rfl,a,d⟩)
  go_ret;exact⟨_,rfl,a,aa b d⟩
structure LB(w V:World)(base yb:Nat)(M:DM)(g:RG)(a:qH):Prop where
 d:RD V base yb M g
 c:V.rangeAt w.1.size 0 a.cells
 g:w.grownBy V none
theorem LB.grown{V e:World}{d f:Nat}{M:DM}{g:RG}{a:qH}(h:LB w V d f M g a)(k:V.grownBy e none):LB w e d f M g a:=
 ⟨h.d.keep (λb i=>k.block b (h.d.lt b i).2 Z),aA h.c k,aa h.g k⟩
theorem LB.new{d f:Nat}{M:DM}{g:RG}(a)(t)(e:RD w d f M g):LB w (w.alloc (.cells a.arr t)) d f M g a:=by
 have k:=cy w (.cells a.arr t) none;exact⟨e.keep (λb h=>k.block b (e.lt b h).2 Z),aS w a.arr t,k⟩
theorem T8{d b:World}{g:Value}{p:Option Pl}{f:E}(h:aU w b g p f)(n:Pl.fresh d.1.size p)(m:d.grownBy w none):gQ b g f/\d.grownBy b none:=by
 obtain⟨J,k,l,A,B⟩:=h;obtain⟨j,a,t,u,v,x,y⟩:=k.shape;refine⟨⟨j,a,t,u,v,y,x⟩,?_⟩
 have c:=(CF.bD m (λ_ _=>False)).trans l (λi o D e=>by
  obtain⟨q,r,C,_⟩:=e;have:=n q r
  omega)
 exact c.gb (λ_ _ _ e=>e)
theorem Ur(b x)(M)(g)(a:qH)(w)(f:RD w b x M g)(ai:gy 4611686018427387904 M.aC)(m:a.Ok):Calls prog 58 #[N x 0,.agg a.arr] w λe A=>∃(o:Value) (z:E),e=.returned o/\A.ownsRow w.1.size 5 1 o z.length (z.map U8)/\0<z.length/\z.length<=20000000/\w.grownBy A none:=by
 obtain⟨i0,L,R,T,U⟩:=info_parts Tryz.info5
 obtain⟨ib,J,Qr,Qs,ar⟩:=info_parts Tryz.Cn
 have d:=I (LB.new a 45 f)
 rw[qH.pK]at d⊢
 clear f
 go_in
 go_upto_region 1 with fail
 refine kR (λV=>LB w V b x M g a) d ?_
 clear d
 intro W hW
 have d:=I hW
 have l:W.c w.1.size 1=some (.string ⟨a.az.toArray⟩):=hW.c 1 _ rfl
 clear hW
 have i:=I (λW (hW:RD W b x M g)=>Ho b x M g a.az W hW ai)
 go_wp2_with fail
 refine(i _ d.d).mono ?_
 rintro e W1 ⟨j,kn,rfl,ax,az,k⟩
 have f:=I (d.grown k)
 clear d k i l
 have k:=I (λW=>MO W)
 go_wp2_with fail
 refine(k _).mono ?_
 rintro e W2 ⟨o,rfl,i,l⟩
 have d:=I (f.grown l)
 have HP:=I i
 obtain⟨pa,pc,ak⟩:=i.shape
 subst ak
 clear f l k i
 have c8:W2.c w.1.size 8=some (Y a.pre):=d.c 8 _ rfl
 have ba:=m.pre
 go_upto_if 19 with fail
 go_cut [7] (λp r=>∃z,gQ r p z/\z.length<=5000/\LB w r b x M g a)
 case first=>
  as_aux_lemma=>
   by_cases Q:a.pre=0
   .have aj:(a.pre==0)=true:=(by rw[Q];rfl);go_wp2;go_meet
    case rel=>exact⟨_,HP,by rw[Box.lJ];simp,d.o⟩
   .have aj:(a.pre==0)=false:=(by simpa using Q);have u:W2.c w.1.size 9=some (Y a.mD):=d.c 9 _ rfl;have CN:=I (λW=>rY a.mD W m.mD.1 m.mD.2);go_wp2_with fail;refine(CN _).mono ?_;rintro e W3 ⟨pl,rfl,i,n⟩;have q:=I (d.grown n);have k:(Box.box 2 (Box.low a.mD (Box.size a.mD))).length<=10:=(fB a.mD).2;obtain⟨y,l⟩:=aq (Box.box 2 (Box.low a.mD (Box.size a.mD)));rw[l]at i k;have HO:=I i;have f:=I k;have t:=I (gQ.own i);have ad:=I d.g.size;have lh:=I n;clear n CN c8 u i l k HP;have c8:W3.c w.1.size 8=some (Y a.pre):=q.c 8 _ rfl;go_upto_block 0 with fail
    go_cut [5,6,8] (λk n p r=>∃(j:UInt64) (nn:Int) (z:E),k = O (j.toNat:Int)/\n = Y nn/\bT nn/\gQ r p z/\z.length<=500/\LB w r b x M g a)
    case first=>
     by_cases h1:a.pre=1
     .have C:(a.pre==1)=true:=(by rw[h1];rfl);go_wp2;go_meet
      case rel=>exact⟨j,kn,y,rfl,rfl,by unfold bT;omega,t.o,by have:=f.o;omega,q.o⟩
     .have C:(a.pre==1)=false:=(by simpa using h1);by_cases h2:a.pre=2
      .have D:(a.pre==2)=true:=(by rw[h2];rfl);go_wp2;go_meet
       case rel=>exact⟨j,kn+1,y,rfl,rfl,by unfold bT;omega,t.o,by have:=f.o;omega,q.o⟩
      .have D:(a.pre==2)=false:=(by simpa using h2);by_cases h3:a.pre=3
       .have X:(a.pre==3)=true:=(by rw[h3];rfl);obtain⟨l,i⟩:=sS ((j.toNat:Int)+1);go_wp2;go_meet
        case rel=>exact⟨l,kn,y,rfl,rfl,by unfold bT;omega,t.o,by have:=f.o;omega,q.o⟩
       .have X:(a.pre==3)=false:=(by simpa using h3);obtain⟨p,i,r⟩:=fA.own HO.o;have n:=I i;have l:=I r;clear i r;by_cases h4:4<a.pre
        .have au:0<=a.pre % 400/\a.pre % 400<400:=G;obtain⟨kk,v⟩:∃k:Nat,a.pre.tmod 400=(k:Int):=⟨(a.pre % 400).toNat,by rw[ft G];omega⟩
         have u:kk<=400:=(by rw[ft G]at v;omega);obtain⟨v',A,r,i⟩:=Jp (P:=prog) W3 37 3 37 5 i0 .i64 underlying37 underlying3 L R T U pl p y n kk (cE u H) (by have:=f.o;omega);have B:=I (T8 i l lh);clear i;go_wp2_with (at_builtin;refine Lib.wpList_append_run _ rfl _ _ _ _ rfl _ _ rfl rfl _ _ r ?_)
         go_meet
         case rel=>exact⟨j,kn,_,rfl,rfl,by unfold bT;omega,B.1,by have:=f.o;simp;omega,d.grown B.2⟩
        .have C1:=I (λW=>bS 1 W ⟨by decide,by decide⟩);clear n l;go_wp2_with fail;refine(C1 _).mono ?_;rintro e W4 ⟨o4,rfl,q4,i⟩;obtain⟨a4,c4,al⟩:=q4.shape;subst al;have jf:=HO.kept i (fm _);have B:=aa lh i;have r:=B.size;obtain⟨_,_,ah,_,_,u,Bz⟩:=q4;injection ah with v e2 e3;subst v e3;have av:=(fB 1).2;have ag:y.length+(bV 1).length<=140737488355328:=(by have:=f.o;omega);clear C1 t HO i e2;go_wp2_with (at_builtin;refine bJ _ rfl _ _ 37 rfl W2.1.size 5 i0 underlying37 L R T U pl y.length y rfl jf a4 (bV 1).length c4 (bV 1) rfl rfl u Bz ag r ?_)
         intro v5 w5 k A _;have G5:=gI B A (λi hi=>(jf.lt i hi).1);have i:Hid (gQ w5 v5 (y++bV 1)):=gQ.own (by rw[cF,ej];exact k);have Ph:=I G5;clear k A G5 B jf Bz u r;go_wp2;go_meet
         case rel=>exact⟨j,kn,_,rfl,rfl,by unfold bT;omega,i.o,by rw[cF];have:=f.o;omega,d.grown Ph.o⟩
    case rest=>
     obtain⟨af,nn,z2,rfl,rfl,n,k,u,B⟩:=hcut;obtain⟨za,zc,A⟩:=k.shape;subst A;obtain⟨zn,i⟩:=aq z2.length;rw[i];rw[i]at k u;refine MN (λV=>LB w V b x M g a/\gQ V (.slice za zn zc) z2) ⟨B,k⟩ ?_;clear q HO f t ad lh d c8 B k;rintro V ⟨D,k⟩;have l:=I D;have HZ:=I k;have ae:=I n;have r:Hid (z2.length<=500):=(by show _<=_;rw[i];exact u);clear D k n i;obtain⟨an,ao⟩:=sS a.bW;have CN:=I (λW=>bS nn W ae);have ab:=I (λW (hW:gQ W (.slice za zn zc) z2)=>Cm af 1 an 1 z2 (.slice za zn zc) W H H rfl (cE r H) hW);go_wp2_with fail;refine aF.start (S:=λX=>V.grownBy X none) 11 f' ?_;have eu:Hid (V.grownBy V.drew none):=bg (cC _ _);have HA:=I (lF.nil V.drew 1000);have p:=I (HZ.grown eu);clear HZ;have HZ:=p;clear p;refine aF.tk 0 [0] ?_;refine aF.tk 2 [2] ?_;refine aF.tk 3 [3] ?_;refine aF.tk 4 [4] ?_ (hy:=by intro W hW;have v:W.c w.1.size 3=some (Y a.bW):=(aA l.c hW) 3 _ rfl;exact kV);refine aF.tk 5 [5] ?_;refine aF.tk 6 [6] ?_;refine aF.on 1 ?_;refine oN (CN _) trivial ?_;clear HA eu HZ;intro V5 a5 c5 HA eu HZ;refine aF.on 7 ?_;intro K hK;refine Calls.mono (ab _ HZ) ?_;rintro e V5 ⟨o5,rfl,q5,g5⟩;obtain⟨a5,c5,rfl⟩:=q5.shape;have n:=I q5;have vM:=I (HA.grown g5);have VA:=I (aa eu g5);clear HA eu q5 g5 HZ;have HA:=vM;have eu:=VA;clear vM VA;go_wp2_with fail;refine qF ?_;clear hK K;refine aF.on 8 ?_;refine pA (mo _ _ _ n (by rw[Pure.bR];have:=r.o;omega)) r.o ?_;clear HA eu n;intro V5 a6 c6 HA eu;refine aF.on0 9 ?_;intro K hK;refine HA.bsl 175 2 _ rfl 37 ib _ underlying175 J Qs Qr rfl rfl H H ?_;refine mA (aM eu _) ?_;clear hK K;refine aF.on 10 ?_;intro K hK;refine Calls.mono (HA.list _ 2 rfl rfl H H) ?_;rintro e V6 ⟨o6,rfl,q6,l6,C⟩;have n:=I (cZ q6 (cZ l6 (aa eu C)));clear q6 l6 C;go_wp2_with fail;refine mA n.2.2 ?_;clear hK K;refine aF.on 11 ?_;intro K hK;refine gN ?_;clear hK K;refine aF.done f' ?_;go_wp2_with fail;go_meet
     case rel=>exact⟨_,n.1,cE n.2.1 H,l.grown n.2.2⟩
 case rest=>
  obtain⟨z,k,u,B⟩:=hcut;obtain⟨za,zc,A⟩:=k.shape;subst A;obtain⟨zn,i⟩:=aq z.length;rw[i];rw[i]at k;refine MN (λV=>LB w V b x M g a/\gQ V (.slice za zn zc) z) ⟨B,k⟩ ?_;clear d HP c8 B k;rintro V ⟨D,k⟩;have l:=I D;have HZ:=I k;have r:=I u;clear D k u;as_aux_lemma=>
   go_wp2_with fail;refine aF.start (S:=λX=>V.grownBy X none) 25 f' ?_;have eu:Hid (V.grownBy V.drew none):=bg (cC _ _);have HA:=I (lF.nil V.drew 2000000);have p:=I (HZ.grown eu);clear HZ;have HZ:=p;clear p;refine aF.tk 1 [1] ?_;refine aF.tk 2 [2] ?_ (hy:=by intro W hW;have v:W.c w.1.size 1=some (.string ⟨a.az.toArray⟩):=(aA l.c hW) 1 _ rfl;exact kV);refine aF.tk 4 [4] ?_;refine aF.tk 5 [5] ?_ (hy:=by intro W hW;have v:W.c w.1.size 2=some (.string ⟨a.aV.toArray⟩):=(aA l.c hW) 2 _ rfl;exact kV);refine aF.tk 7 [7] ?_;refine aF.tk 8 [8] ?_ (hy:=by intro W hW;have v:W.c w.1.size 3=some (Y a.bW):=(aA l.c hW) 3 _ rfl;exact kV);refine aF.tk 10 [10] ?_;refine aF.tk 11 [11] ?_ (hy:=by intro W hW;have v:W.c w.1.size 4=some (Y a.mG):=(aA l.c hW) 4 _ rfl;exact kV);refine aF.tk 13 [13] ?_;refine aF.tk 14 [14] ?_ (hy:=by intro W hW;have v:W.c w.1.size 5=some (Y a.dM):=(aA l.c hW) 5 _ rfl;exact kV);refine aF.tk 16 [16] ?_;refine aF.tk 17 [17] ?_ (hy:=by intro W hW;have v:W.c w.1.size 6=some (Y a.bY):=(aA l.c hW) 6 _ rfl;exact kV);refine aF.tk 19 [19] ?_;refine aF.tk 20 [20] ?_ (hy:=by intro W hW;have v:W.c w.1.size 7=some (Y a.options):=(aA l.c hW) 7 _ rfl;exact kV);refine aF.tk 22 [22] ?_;refine aF.on 0 ?_;refine oN (bS 10 _ ⟨by decide,by decide⟩) trivial ?_;clear HA eu HZ;intro V5 a5 c5 HA eu HZ;refine aF.on 3 ?_;refine oN (kY a.az _ (cE m.az H)) m.az ?_;clear HA eu HZ;intro V5 a5 c5 HA eu HZ;refine aF.on 6 ?_;refine oN (kY a.aV _ (cE m.aV H)) m.aV ?_;clear HA eu HZ;intro V5 a5 c5 HA eu HZ;refine aF.on 9 ?_;refine oN (bS a.bW _ m.bW) trivial ?_;clear HA eu HZ;intro V5 a5 c5 HA eu HZ;refine aF.on 12 ?_;refine oN (bS a.mG _ m.mG) trivial ?_;clear HA eu HZ;intro V5 a5 c5 HA eu HZ;refine aF.on 15 ?_;refine oN (bS a.dM _ m.dM) trivial ?_;clear HA eu HZ;intro V5 a5 c5 HA eu HZ;refine aF.on 18 ?_;refine oN (bS a.bY _ m.bY) trivial ?_;clear HA eu HZ;intro V5 a5 c5 HA eu HZ;refine aF.on 21 ?_;refine oN (bS a.options _ m.options) trivial ?_;clear HA eu HZ;intro V5 a5 c5 HA eu HZ;have vM:=I (HA.push (cC _ none) HZ (by have:=r.o;omega));clear HA;have HA:=vM;clear vM;refine aF.on0 23 ?_;intro K hK;refine HA.bsl 175 9 _ rfl 37 ib _ underlying175 J Qs Qr rfl rfl H H ?_;refine mA (aM eu _) ?_;clear hK K;refine aF.on 24 ?_;intro K hK;refine Calls.mono (HA.ab7 _ 9 rfl Z H H) ?_;rintro e V6 ⟨o6,k,rfl,q6,f,l6,C⟩;have n:=I (cZ q6 (cZ f (cZ l6 (cZ (aa eu C) (cZ (cE l.g.size eu.size) trivial)))));clear q6 f l6 C;go_wp2_with fail;refine mA n.2.2.2.1 ?_;clear hK K;refine aF.on 25 ?_;intro K hK;refine gN ?_;clear hK K;refine aF.done f' ?_;go_wp2;go_ret;exact⟨_,k,rfl,dw n.1 n.2.2.2.2.1,n.2.1,cE n.2.2.1 H,aa l.g n.2.2.2.1⟩
theorem Ut(v)(w):Calls prog 94 #[O (v.toNat:Int)] w λe a=>∃o,e=.returned o/\a.ownsRow w.1.size 5 1 o 8 ((Pure.be v 8).map U8)/\w.grownBy a none:=by
 obtain⟨i0,hi,hz0,hz1,hz2⟩:=info_parts Tryz.info5
 go_in
 exact MY
theorem acn(v)(w):Calls prog 94 #[O (v.toNat:Int)] w λe a=>∃o,e=.returned o/\gQ a o (Pure.be v 8)/\w.grownBy a none:=by
 refine(Ut v w).mono ?_;grind [gQ.own,Pure.dB]
theorem Yh(j d a b f g h i)(k l m u)(A:bG j.pair=some 12)(C:iN f k)(D:iN g l)(J:iN h m)(R:iN i u):
  (lN ([j,d,a,b,f,g,h,i].map Pc.pair)).isSome=((ik d.pair).isSome&&((dz b.pair).isSome&&(kD [f,g,h,i]&&decide (a.tag.toNat=4))))/\∀q,lN ([j,d,a,b,f,g,h,i].map Pc.pair)=some q->∃c,ik d.pair=some c/\q=⟨c.1,c.2.1,c.2.2,a.ins,b.ins,k,l,m,u⟩:=by
 have e:lN ([j,d,a,b,f,g,h,i].map Pc.pair)=(ik d.pair).bind λc=>(jD a.pair).bind λp=>(dz b.pair).bind λs=>(bG f.pair).bind λn=>(bG g.pair).bind λt=>(bG h.pair).bind λr=>(bG i.pair).bind λo=>some ⟨c.1,c.2.1,c.2.2,p,s,n,t,r,o⟩:=by
  show(bG j.pair).bind _=_;rw[A];rfl
 have K:∀y,dz b.pair=some y->y=b.ins:=λy n=>xB n
 have y:jD a.pair=if a.tag.toNat=4 then some a.ins else none:=rfl
 rw[e,y]
 unfold iN at *
 simp only[kD,List.all_cons,List.all_nil,gh]
 cases P:ik d.pair with
 |none=>grind
 |some L=>
  by_cases B:a.tag.toNat=4
  .rw[dQ B];cases t:dz b.pair with
   |none=>grind
   |some n=>
    have S:=K n t;cases v:bG f.pair with
    |none=>grind
    |some o=>
     have T:=C.2 o v;cases w:bG g.pair with
     |none=>grind
     |some p=>
      have U:=D.2 p w;cases x:bG h.pair with
      |none=>grind
      |some r=>
       have V:=J.2 r x;cases Q:bG i.pair with
       |none=>grind
       |some M=>
        grind
  grind
theorem Dk{p:ry}{x:E×Int×E}(h:ik p=some x):x.2.2.length<=p.2.length:=by
 unfold ik at h;cases l:Ap p with
 |none=>rw[l]at h;cases h
 |some k=>
  rw[l]at h;have j:Box.dG p.2=some k:=by
   grind [Ap]
  have d:rA k=some x:=h;match k,j,d with
  | [],_,d=>cases d
  | [a],_,d=>
   have e:rA [a]=(dz a).bind λ_=>none:=rfl;grind [dz]
  | [a,b],_,d=>
   have e:rA [a,b]=(dz a).bind λ_=>(bG b).bind λ_=>none:=rfl;rw[e]at d;cases i:dz a with
   |none=>rw[i]at d;cases d
   |some y=>
    rw[i]at d;cases g:bG b with
    |none=>rw[g]at d;cases d
    |some z=>rw[g]at d;cases d
  |a::b::c::r,j,d=>
   have e:rA (a::b::c::r)=(dz a).bind λs=>(bG b).bind λn=>(jD c).bind λz=>if r=[] then some (s,n,z) else none:=rfl;rw[e]at d;cases i:dz a with
   |none=>rw[i]at d;cases d
   |some y=>
    rw[i]at d;cases g:bG b with
    |none=>rw[g]at d;cases d
    |some n=>
     rw[g]at d;cases m:jD c with
     |none=>rw[m]at d;cases d
     |some z=>
      rw[m]at d;have f:(if r=[] then some (y,n,z) else none)=some x:=d;split at f
      .injection f with f;subst f;have o:z=c.2:=by
        grind [jD]
       rw[o];exact Box.mq j c Z
      .cases f
theorem KA{P:Program}{W:World}{b n:Nat}(h:b9 W b n)(k)(d:k<n)(v)(a:v.oneCell'=true):(store ⟨b,k,none⟩ v).run P W=.ok () (W.setCell (F b k) v):=by
 grind [b9.some,run_store,b9.frozen]
def oF(M:DM)(now:Int)(ps:List ry):Except Int GR×DM:=
 match lN ps with
 |none=>(.error 60,M)
 |some q=>
  match (iM M now q).1 with
  |.error c=>(.error c,(iM M now q).2)
  |.ok t=>(eF (iM M now q).2 now q t,(iM M now q).2)
def Ei(base yb:Nat)(g:RG)(A:Except Int GR×DM)(w w':World)(o:Value)(c:Int):Prop:=
 c=nD A.2 A.1/\(∃v,(v=g.pv\/lE w.1.size v)/\(c≠0->o = σ/\RD w' base yb A.2 {g with pv:=v})/\(c=0->∃gr u,A.1=.ok gr/\mB w.1.size w' o (gr.box A.2.aL)/\RD w' base yb {A.2 with aL:=A.2.aL.drop 24} {g with pv:=v,dv:=u}/\lE w.1.size u))/\w.grownBy w' (some yb)
theorem vU{base yb:Nat}{g:RG}{b:DM}{v:Value}{c:Int}{w a:World}(e:c≠0)(d:RD a base yb b {g with pv:=v})(f:v=g.pv\/lE w.1.size v)(k:w.grownBy a (some yb)):Ei base yb g (.error c,b) w a σ c:=
 ⟨rfl,⟨v,f,λ_=>⟨rfl,d⟩,λh=>absurd h e⟩,k⟩
theorem T2{base yb:Nat}{g:RG}{a:DM}{d:GR}{v:Value}{w b:World}(f:a.aL.length<24)(e:RD b base yb a {g with pv:=v})(i:v=g.pv\/lE w.1.size v)(k:w.grownBy b (some yb)):Ei base yb g (.ok d,a) w b σ 60:=
 ⟨(dQ f).symm,⟨v,i,λ_=>⟨rfl,e⟩,λh=>absurd h H⟩,k⟩
theorem Uw(M)(now)(q):∃a,(iM M now q).2={M with aI:=a}:=by
 unfold iM;cases jg M now q with
 |error c=>exact⟨M.aI,rfl⟩
 |ok a=>
  obtain⟨t,p⟩:=a;dsimp only;split
  .exact⟨_,rfl⟩
  .exact⟨_,rfl⟩
section
variable {q:NQ}{old t:TK}{x s:BE}
theorem acB(h:aJ old.ae 16=true/\aJ q.aR 32=false\/aW now M.ax<old.start):eF M now q old=.error 33:=by unfold eF;rw[dQ h]
theorem T1(h:¬ (aJ old.ae 16=true/\aJ q.aR 32=false\/aW now M.ax<old.start))(a:old.fin<now):eF M now q old=.error 32:=by unfold eF;rw[b' h,dQ a]
theorem TX(h:¬ (aJ old.ae 16=true/\aJ q.aR 32=false\/aW now M.ax<old.start))(a:¬ old.fin<now):eF M now q old=match BE.find M.aC q.aV,BE.find M.aC old.az with
 |none,_=>.error 7
 |some _,none=>.error 6
 |some s,some x=>
  if ou s x now 2 1≠0 then .error (ou s x now 2 1)
  else if kL q.aR old.ae=false then .error 13
  else match fresh now old x s q.dM q.bY q.aR with
  |.error c=>.error c
  |.ok t=>.ok ⟨13,t,s,q.bW,0,old.aO,5⟩:=by
 unfold eF
 rw[b' h,b' a]
 rfl
theorem Qu{d b a c:Int}(h:c=0):¬ fresh now old x s d b a=.error c:=by
 grind [fresh]
theorem acC{b a d:Int}(ho:old.In)(cO:bT now)(f:bT b)(g:bT a)(h:fresh now old x s b a d=.ok t):t.In/\t.az=old.az:=by
 unfold fresh at h;split at h
 .split at h
  .cases h
  .exact IT
 .split at h
  .split at h
   .cases h
   .exact Lq
  .split at h
   .cases h
   .injection h with h;subst h;refine⟨⟨?_,ho.dY,cO,?_,?_⟩,rfl⟩
    .show bT (iR d old x s);unfold iR iy bT;(repeat' split)<;>omega
    .show bT (iJ now b old x s);have i1:=ho.fin;have i2:bT (gU (kB b) (gU (aW now x.bH) (aW now s.bH))):=lU f;unfold iJ gU bT at *;(repeat' split at *)<;>omega
    .show bT (fE d old.ae x s now (gU (kB a) old.aD));have i1:=ho.aD;have i2:bT (gU (kB a) (gU (aW now x.aD) (aW now s.aD))):=lU g;grind [gU,fE,bT]
end
structure N2(w W:World)(base yb:Nat)(M:DM)(g:RG)(gv:Nat)(v0 v1 v2 v3:Int)(bo:Nat)(t:TK):Prop where
 d:RD W base yb M g
 v:W.rangeAt gv 0 [Y v0,Y v1,Y v2,Y v3]
 oq:W.rangeAt bo 0 t.cells
 g:w.grownBy W (some yb)
structure N3(w W:World)(base yb:Nat)(M:DM)(g:RG)(gv:Nat)(v0 v1 v2 v3:Int)(bo:Nat)(t:TK)(x s:RE)(bx bs:Nat):Prop where
 n:N2 w W base yb M g gv v0 v1 v2 v3 bo t
 x:W.rangeAt bx 0 x.cells
 s:W.rangeAt bs 0 s.cells
section
variable {W W':World}{base yb:Nat}{g:RG}{gv:Nat}{v0 v1 v2 v3:Int}{bo bx bs:Nat}{t:TK}{x s:RE}
theorem N2.grown(h:N2 w W base yb M g gv v0 v1 v2 v3 bo t)(k:W.grownBy W' none):N2 w W' base yb M g gv v0 v1 v2 v3 bo t:=
 ⟨h.d.keep (λb a=>k.block b (h.d.lt b a).2 Z),aA h.v k,aA h.oq k,iH h.g (mK k yb)⟩
theorem N3.grown(h:N3 w W base yb M g gv v0 v1 v2 v3 bo t x s bx bs)(k:W.grownBy W' none):N3 w W' base yb M g gv v0 v1 v2 v3 bo t x s bx bs:=⟨h.n.grown k,aA h.x k,aA h.s k⟩
end
structure N1(w W:World)(base yb:Nat)(M:DM)(g:RG)(gv:Nat)(v0 v1 v2 v3:Int)(gl:Nat)(l:List Pc)(bc:Nat)(c:List Value):Prop where
 d:RD W base yb M g
 v:W.rangeAt gv 0 [Y v0,Y v1,Y v2,Y v3]
 p:jT W gl l
 c:W.rangeAt bc 0 c
 g:w.grownBy W none
theorem N1.grown{w W W':World}{base yb:Nat}{M:DM}{g:RG}{gv:Nat}{v0 v1 v2 v3:Int}{d a:Nat}{l:List Pc}{c:List Value}(h:N1 w W base yb M g gv v0 v1 v2 v3 d l a c)(k:W.grownBy W' none):N1 w W' base yb M g gv v0 v1 v2 v3 d l a c:=
 ⟨h.d.keep (λb e=>k.block b (h.d.lt b e).2 Z),aA h.v k,h.p.grown k,aA h.c k,aa h.g k⟩
theorem Jq{base yb:Nat}{g:RG}{A:Except Int TK×DM}{w d e:World}{t:TK}{c:Int}(h:oC base yb g A w d t c)(k:d.grownBy e none):oC base yb g A w e t c:=by
 obtain⟨f,i,j,⟨v,a,m⟩,l⟩:=h;exact⟨f,i,j,⟨v,a.keep (λb n=>k.block b (a.lt b n).2 Z),m⟩,iH l (mK k yb)⟩
theorem MV{base yb:Nat}{g:RG}{A:Except Int TK×DM}{w V a:World}{t:TK}{c:Int}(h:oC base yb g A V a t c)(k:w.grownBy V none):oC base yb g A w a t c:=by
 obtain⟨d,e,f,⟨v,i,l⟩,j⟩:=h;exact⟨d,e,f,⟨v,i,l.imp id (λh b m=>cE k.size (h b m))⟩,iH (mK k yb) j⟩
theorem MX{base yb:Nat}{g:RG}{A:Except Int TK×DM}{w V i:World}{t:TK}{c:Int}{bo:Nat}(h:oC base yb g A V i t c)(k:w.grownBy V none)(d:∀b,g.foot yb b->b<bo)(hw:w.1.size<=bo)(q:bo<V.1.size)(u0 u1 u2 u3 u4 u5 u6):
  oC base yb g A w (((((((i.s bo 0 u0).s bo 1 u1).s bo 2 u2).s bo 3 u3).s bo 4 u4).s bo 5 u5).s bo 6 u6) t c:=by
 obtain⟨j,l,m,⟨v,o,a⟩,n⟩:=h
 have r:∀b,({g with pv:=v}:RG).foot yb b->b≠bo:=by
  intro b f;rcases f with e|e|e|e
  .exact Nat.ne_of_lt (d b (.inl e))
  .exact Nat.ne_of_lt (d b (.inr (.inl e)))
  .rcases a with a|a
   .exact Nat.ne_of_lt (d b (.inr (.inr (.inl (by rw[<-a];exact e)))))
   .have:=a b e;omega
  .exact Nat.ne_of_lt (d b (.inr (.inr (.inr e))))
 have p:=iH (mK k yb) n
 exact⟨j,l,m,⟨v,(by grind [RD.xG]),a.imp id (λh b f=>cE k.size (h b f))⟩,(by grind [nN])⟩
theorem Ux{W:World}{b bo:Nat}{a:List Value}(h:W.rangeAt b 0 a)(d:bo≠b)(u0 u1 u2 u3 u4 u5 u6):(((((((W.s bo 0 u0).s bo 1 u1).s bo 2 u2).s bo 3 u3).s bo 4 u4).s bo 5 u5).s bo 6 u6).rangeAt b 0 a:=
 gZ (gZ (by grind [gZ]) d _) d _
theorem Qv{W:World}{b:Nat}{v:Value}{e:List Value}(h:W.rangeAt b 0 (v::e)):b<W.1.size:=by
 have d:=h 0 v rfl;rcases Nat.lt_or_ge b W.1.size with a|a
 .exact a
 .have f:W.cell? (F b (0+0))=none:=by
   simp[World.cell?,Array.getElem?_eq_none a]
  rw[f]at d;cases d
