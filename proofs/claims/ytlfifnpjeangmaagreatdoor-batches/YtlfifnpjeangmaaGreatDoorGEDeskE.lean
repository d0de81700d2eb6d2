import Derived.Test.YtlfifnpjeangmaaGreatDoorGERBoxH
import Derived.Deep.CutBlock
namespace Go.Proofs.YtlfifnpjeangmaaGreatDoor
set_option maxHeartbeats 4000000
open Proofs.Tryz Go.RowKit
set_option maxRecDepth 100000
variable {p:Prop}
abbrev RE.arr(e:RE):Array Value:=#[Y e.k,.string ⟨e.name.toArray⟩,H (e.zm.toNat:Int),Y e.bI,Y e.aC,Y e.bB,Y e.ae,Y e.aH,H (e.key.toNat:Int),H (e.before.toNat:Int)]
theorem Tryz.XM:(prog.info? 166).map (λi=>(i.zero,i.size,i.bytes))=some (some (.agg #[Y 0,ε,H 0,Y 0,Y 0,Y 0,Y 0,Y 0,H 0,H 0]),10,88):=by kernel_rfl
def tO:List RE->E->Nat
 | [],_=>0
 |x::es,l=>if Op.bytesLess x.name l=true then tO es l+1 else 0
def PT(es:List RE)(e:RE):List RE:=es.take (tO es e.name)++[e]++es.drop (tO es e.name)
theorem XN(a)(l):tO a l<=a.length:=by
 induction a with
 |nil=>exact cy _
 |cons x a b=>simp only[tO,de];split<;>omega
theorem PU{l:E}:∀{a:List RE}{k:Nat}(hk:k<a.length),(∀j(hj:j<a.length),j<k->Op.bytesLess a[j].name l=true)->Op.bytesLess a[k].name l=false->tO a l=k:=by
 intro a;induction a with
 |nil=>intro k hk;simp at hk
 |cons x a f=>
  intro k hk d h;cases k with
  |zero=>
   have b:Op.bytesLess x.name l=false:=h;rw[tO,cZ (by rw[b];simp)]
  |succ k=>
   have b:Op.bytesLess x.name l=true:=d 0 Z G;have:=f (k:=k) rl (λj hj e=>d (j+1) tj G) h;rw[tO,dT b,this]
theorem Ub{l:E}:∀{a:List RE},(∀j(hj:j<a.length),Op.bytesLess a[j].name l=true)->tO a l=a.length:=by
 intro a;induction a with
 |nil=>intro _;rfl
 |cons x a e=>
  intro b;have d:Op.bytesLess x.name l=true:=b 0 Z;rw[tO,dT d,e (λj hj=>b (j+1) tj),de]
theorem fe(l):(bK l).length=l.length*10:=by
 induction l with
 |nil=>rfl
 |cons x l a=>simp only[bK,eE,eI,cD,de]at *;rw[a];show 10+_=_;omega
theorem rA(a b):bK (a++b)=bK a++bK b:=by simp[bK]
theorem zo(l)(k)(h:k<=l.length):(bK l).take (k*10)=bK (l.take k):=by
 have:bK l=bK (l.take k)++bK (l.drop k):=by rw[<-rA,eN]
 rw[this,List.take_append_of_le_length (by grind [fe]),cU (by grind [fe])]
theorem zq(l)(k)(h:k<=l.length):(bK l).drop (k*10)=bK (l.drop k):=by
 have:bK l=bK (l.take k)++bK (l.drop k):=by rw[<-rA,eN]
 rw[this,List.drop_append_of_le_length (by grind [fe]),List.drop_of_length_le (by grind [fe]),List.nil_append]
theorem pO(l):∀u∈bK l,u.oneCell'=true:=by
 intro u a;simp only[bK,List.mem_flatten,List.mem_map]at a;obtain⟨_,⟨x,_,rfl⟩,a⟩:=a;simp only[RE.cells,List.mem_cons,List.not_mem_nil,or_false]at a;rcases a with rfl|rfl|rfl|rfl|rfl|rfl|rfl|rfl|rfl|rfl<;>rfl
theorem ql.take{w:World}{a:Option Addr}{b:List Value}(h:ql w a b)(k):ql w a (b.take k):=λj u d=>h j u (by
 grind)
def k'(n:Nat)(v:Value):Prop:=∀g,v.ownBlock=some g->n<=g
theorem Hg(h:p:=by
 subst hke
 clear hD Dz
 go_wp2_with fail
 go_quiet (fail)
 go_wp2
 go_meet
 case rel=>exact⟨rfl,q+nq,by rw[World.drewN_drewN]⟩):p:=h
theorem DD(h:p:=by
 refine .inr (λe=>?_)
 have h1:=(hrow.lt g hx).1
 have h2:=(hD.aL.lt g e.symm).2
 omega):p:=h
theorem Ds(h:p:=by
 exact nA (ownsRow_setCell_below hrow (by show pb<w.1.size+1;omega) _) G):p:=h
theorem XO(l pb)(aA)(bv pv dv)(es)(ds)(m)(e)(w)(hD:iP w l pb aA bv pv dv es ds)(hm:Hid (es.length=m))(yg:m<=1000)(an:l<=w.1.size):Calls prog 57 #[π pb 0,.agg e.arr] w λr b=>r=.returned (.tuple #[])/\∃a,iP b l pb aA a pv dv (PT es e) ds/\w.grownBy b (some pb)/\k' w.1.size a:=by
 obtain⟨ie,r,B,p,C⟩:=info_parts Tryz.XM
 obtain⟨J,K,T⟩:=bA hD.aF
 rw[hm]at T
 subst T
 have G0:w.grownBy (w.alloc (.cells e.arr 166)) none:=cx w _ none
 have c1:=(hD.grown G0).blk.cell 1
 simp only[cH,cG,cI]at c1
 obtain⟨a,Dz⟩:=aw (tO es e.name)
 have yl:a<=m:=by grind [XN,Hid.o]
 go_in
 go_upto_block 0 with fail
 go_cut [4] (λi b=>i = Y a/\∃q,b=(w.alloc (.cells e.arr 166)).drewN q)
 case first=>
  go_wp2_with fail;go_loopw [4] (λi wr=>∃(k q:Nat),k<=m/\i = Y k/\Hid (∀j(n:j<es.length),j<k->Op.bytesLess es[j].name e.name=true)/\wr=(w.alloc (.cells e.arr 166)).drewN q) (λi _=>m-(intOf i).toNat)
  case atStart=>exact⟨0,0,cS _,rfl,I (λj _ n=>by omega),rfl⟩
  case round=>
   obtain⟨k,q,A,rfl,y,rfl⟩:=hrel;by_cases hlt:k<m
   .have hlt':k<es.length:=tl;have x:(k:Int)<(m:Int):=G;have u:(0:Int)<=(k:Int):=G;obtain⟨d,f⟩:∃d,J=some ⟨d,0,none⟩:=by
     rcases hD.aF.2 with⟨h,h2⟩|⟨g,V,W,h,_⟩
     .omega
     grind
    subst f;have i:(w.alloc (.cells e.arr 166)).cell? (F d (k*10+1))=some (.string ⟨es[k].name.toArray⟩):=by
     have hbk:=(hD.grown G0).aF;exact DQ
    cases v:Op.bytesLess es[k].name e.name with
    |true=>
     have b:Hid (∀j(n),j<k+1->Op.bytesLess es[j].name e.name=true):=by
      intro j n t;grind [Hid.o]
     clear hD;go_wp2_with fail;go_quiet (fail)
     go_wp2;go_roundw
     case rel=>exact⟨k+1,_,by omega,by go_num,b,rfl⟩
     case measure=>simp[intOf];omega
    |false=>
     have hke:a=k:=(by grind [Hid.o,PU]);exact Hg
   .have b:k=m:=G;subst b;have x:¬ (k:Int)<(k:Int):=G;have hke:a=k:=(by rw[Dz,Ub kA,hm]);exact Hg
 case rest=>
  obtain⟨rfl,q,rfl⟩:=hcut;have ae:=I Dz;clear Dz c1;have Gq:=aR G0 q;have v:=hD.grown Gq;have bn:=hD.blk.lt;have ao:=λg h=>(hD.aF.lt g h).2;have f:=v.aF;rw[hm]at f;have n:=nC f;have U:=Jj f;have Uc:Hid ((bK es).length=m*10):=by show _=_;rw[fe,hm]
  have M:=λw=>Sj (P:=prog) 141 166 ie 10 underlying141 r p J m K a (a:Int) rfl G w;obtain⟨af,bl,LG,bk⟩:=Hy (P:=prog) 141 166 ie 10 underlying141 r p J m K a (a:Int) rfl yl U.1 Uc.o;have b:ql ((w.alloc (.cells e.arr 166)).drewN q) J (bK (es.take a)):=by
   rw[<-zo es a (by rw[hm];exact yl)];exact n.take _
  have ar:(bK (es.take a)).length=a*10:=by grind [Hid.o,fe]
  have S:=(dz.new w e.arr 166).drewN q;have A:=v.blk.cell 1;simp only[cH,cG,cI]at A;have D:J=none->K=0/\a=0:=fA;have ay:0+a<=maxLen:=kO;have ba:(0+a)*88<=140737488355328:=G;go_wp2_with (at_builtin;refine fH _ rfl _ _ 141 rfl (w.1.size+1) 166 ie _ 10 88 underlying141 r B p C rfl O σ 0 [] rfl (World.ownsRow_nil _ _ _ _) J a K (bK (es.take a)) rfl ar b D (pO _) ay ba ?b1 ?_)
  case b1=>show _<=(w.alloc _).1.size;simp
  intro v1 y hown1 hg1;have i:((w.alloc (.cells e.arr 166)).drewN q).grownBy y none:=xj;have L:=aa Gq i;have kQ:y.ownsRow (w.1.size+1) 166 10 v1 a (bK (es.take a)):=sg;obtain⟨a1,k1,rfl⟩:=bA kQ;have bo:w.1.size+1<=y.1.size:=by have:=i.size;have h2:((w.alloc (.cells e.arr 166)).drewN q).1.size=w.1.size+1:=(by show(w.alloc _).1.size=_;simp);omega
  have d:=S.grown i Z;have R:=v.grown i;have f0:=d.cell 0;have f1:=d.cell 1;have f2:=d.cell 2;have f3:=d.cell 3;have f4:=d.cell 4;have f5:=d.cell 5;have f6:=d.cell 6;have f7:=d.cell 7;have f8:=d.cell 8;have f9:=d.cell 9;simp only[RE.arr,cH,cG,cI]at f0 f1 f2 f3 f4 f5 f6 f7 f8 f9;have t:ql (y.alloc (.cells e.arr 166)) (some ⟨y.1.size,0,none⟩) e.cells:=by
   intro j u Q;grind [World.cell?_alloc_at,RE.cells]
  have bb:(some (⟨y.1.size,0,none⟩:Addr))=none->(1:Nat)=0/\(1:Nat)=0:=λh=>by cases h
  have bc:a+1<=maxLen:=kO;have bf:(a+1)*88<=140737488355328:=G;have x:=λu Q=>pO [e] u (by simpa[bK]using Q);clear hown1 hg1 b D M A n f;go_wp2_with (at_builtin;refine fH _ rfl _ _ 141 rfl (w.1.size+1) 166 ie _ 10 88 underlying141 r B p C rfl O (.slice a1 a k1) a (bK (es.take a)) rfl (kQ.alloc _) (some ⟨y.1.size,0,none⟩) 1 1 e.cells rfl rfl t bb x bc bf ?b2 ?_)
  case b2=>simp;omega
  intro v2 w2 f j;have u:∀g,g<w.1.size+1->some g≠(Value.slice a1 a k1).ownBlock:=λg hg e=>by have:=(kQ.lt g e.symm).1;omega
  have A:=(R.blk.alloc (.cells e.arr 166)).grown j (u _ G);have Q:=A.cell 1;simp only[cH,cG,cI]at Q;have M:∀g,g<w.1.size->w2.1[g]?=w.1[g]?:=λg hg=>by
   rw[j.block g j' (u g G),Below.heap_alloc y _ g G,L.block g hg Z]
  have n:=hD.aF;rw[hm]at n
  have D:=(nC n).keep (λb X h=>M b (by
   subst h;rcases n.2 with⟨h,_⟩|⟨g,V,W,h,_⟩
   .simp at h
   grind))
  have DI:=LG w2 D;rw[zq es a (by rw[hm];exact yl)]at DI;have au:(bK (es.drop a)).length=(m-a)*10:=by rw[fe,dr,hm]
  have av:w.1.size+1<=w2.1.size:=by have:=j.size;simp at this;omega
  obtain⟨a2,k2,rfl⟩:=bA f;have X:af=none->K-a=0/\m-a=0:=fA;have ad:a+1+(m-a)<=maxLen:=kO;have ag:(a+1+(m-a))*88<=140737488355328:=G;have W:∀g,g<w.1.size+1->some g≠(Value.slice a2 (a+1) k2).ownBlock:=λg hg e=>by have:=(f.lt g e.symm).1;omega
  clear f0 f1 f2 f3 f4 f5 f6 f7 f8 f9 d t x LG D;go_wp2_with (at_builtin;refine fH _ rfl _ _ 141 rfl (w.1.size+1) 166 ie _ 10 88 underlying141 r B p C rfl O (.slice a2 (a+1) k2) (a+1) _ rfl f af (m-a) (K-a) (bK (es.drop a)) rfl au DI X (pO _) ad ag av ?_)
  intro v3 w3 d b;obtain⟨x,D,rfl⟩:=bA d;have t:=A.grown b (W _ G);have al:=t.cell 1;have bm:=t.frozen 1;simp only[cH,cG,cI]at al;have ah:∀g,g<w.1.size->w3.1[g]?=w.1[g]?:=oN;have bp:=b.size;have Cn:Hid (PT es e=es.take a++[e]++es.drop a):=by show _=_;rw[PT,<-ae]
  have V:(es.take a++[e]++es.drop a).length=a+1+(m-a):=by simp[hm.o];omega
  have hrow:w3.ownsRow (w.1.size+1) 166 10 (.slice x (a+1+(m-a)) D) (a+1+(m-a)) (bK (es.take a++[e]++es.drop a)):=by
   grind [bK]
  have ai:=(b.os.trans j.os).trans (L.os);have aj:=(b.tape.trans j.tape).trans (L.tape);have ak:=(b.output.trans j.output).trans (L.output);clear i j b kQ f d Q DI M A R v Gq L S n
  have b:w.grownBy (w3.setCell (F pb 1) (.slice x (a+1+(m-a)) D)) (some pb):=
   ⟨ai,aj,ak,by rw[World.size_setCell];omega,ud⟩
  have RD:iP (w3.setCell (F pb 1) (.slice x (a+1+(m-a)) D)) l pb aA (.slice x (a+1+(m-a)) D) pv dv (PT es e) ds:=by
   refine⟨by simpa using t.set 1 (.slice x (a+1+(m-a)) D),?_,hD.aL.kept b (.inr hD.T9),hD.here,λh=>by have:=(hrow.lt _ h).1;omega,hD.T9,?_⟩
   .rw[Cn,V];exact Ds
   .cases hx:(Value.slice x (a+1+(m-a)) D).ownBlock with
    |none=>exact .inl rfl
    |some g=>
     exact DD
  have d:k' w.1.size (.slice x (a+1+(m-a)) D):=λg h=>by have:=(hrow.lt g h).1;omega
  clear hD hrow t ah ao;go_wp2;go_end0;grind
def rC(es:List RE)(a:mE):Int:=
 if a.kind=1 then(if di a.name=false then 4 else if a.qm=false then 1 else if 0<=gu es a.name then 5 else if 20<=es.length then 7 else 0)
 else if a.kind=2\/a.kind=3\/a.kind=4 then(if gu es a.name<0 then 6 else if a.kind=4/\a.qm=false then 1 else 0)
 else 1
def XP(a:mE):RE:=⟨a.kind,a.name,a.key,a.bI,a.aC,a.bB,a.ae,1,a.key,0⟩
theorem Js(a)(l):-1<=gu a l/\gu a l<a.length\/(gu a l=-1):=by
 unfold gu;split
 .rename_i i h;have:=(List.findIdx?_eq_some_iff_getElem.1 h).1;left;omega
 .exact .inr rfl
def PV(es:List RE)(a:mE)(m:Nat)(fi:Int)(pl:Bool):Prop:=es.length=m/\rC es a≠0/\(a.kind=4->gu es a.name<0)/\fi=gu es a.name/\pl=a.qm
theorem PV.err{l:List RE}{a:Int}{d:E}{b:UInt64}{k g j i:Int}{m:Nat}{e:Int}{f:Bool}(h:PV l ⟨a,d,b,k,g,j,i⟩ m e f):
  rC l ⟨a,d,b,k,g,j,i⟩=(if a=1 then(if di d=false then 4 else if f=false then 1 else if 0<=e then 5 else if 20<=m then 7 else 0)
  else if a=2\/a=3\/a=4 then(if e<0 then 6 else if a=4/\f=false then 1 else 0) else 1):=by
 obtain⟨rfl,_,_,rfl,rfl⟩:=h
 rfl
theorem wa(h:p:=by
 have HE:=I hE1
 clear hE1 hin
 go_wp2
 go_ret
 exact⟨bD (by rw[HE]),G2⟩):p:=h
theorem PW(i D)(K)(bv pv S)(j)(R)(m)(a)(w)(A:iP w i D K bv pv S j R)(C:Hid (j.length=m))(yg:m<=1000)(q:a.name.length<=9223372036854775807)(n:Hid (rC j a≠0))(u:Hid (a.kind=4->gu j a.name<0)):Calls Tryz.prog 30 #[π D 0,.agg a.cells] w λr b=>r=.returned (Y (rC j a))/\w.grownBy b none:=by
 obtain⟨ab,cb,p⟩:=bA A.aF
 rw[C]at p
 subst p
 obtain⟨x,d⟩:=aw (gu j a.name)
 obtain⟨pl,e⟩:=aw a.qm
 have b:PV j a m x pl:=⟨C,n,u,d,e⟩
 have k:=λw=>mY a w
 rw[<-e]at k
 obtain⟨f,l,t,Q,L,P,M⟩:=a
 obtain⟨T,h⟩:∃T:ByteArray,T=⟨l.toArray⟩:=⟨_,rfl⟩
 simp only[mE.cells]at k⊢
 simp only at d q
 rw[<-h]at k⊢
 have J:w.grownBy (w.alloc (.cells #[Y f,.string T,H (t.toNat:Int),Y Q,Y L,Y P,Y M] 41)) none:=cx w _ none
 have y:=dz.new w #[Y f,.string T,H (t.toNat:Int),Y Q,Y L,Y P,Y M] 41
 have hF:=oh i D K _ pv S j R l m T _ (A.grown J) C yg (I h)
 rw[<-d]at hF
 have g:=λw=>vJ l l.length T w (I h) (I rfl) q
 clear d e n u h
 go_enter Tryz.func30,Tryz.ntmps30
 go_wp2_with fail
 refine hF.mono ?_
 rintro e w1 ⟨rfl,h⟩
 have d:=y.grown h Z
 have G1:=aa J h
 have u:=d.cell 0
 have v:=d.cell 1
 have r:=d.cell 2
 have U:=d.cell 3
 have V:=d.cell 4
 have W:=d.cell 5
 have X:=d.cell 6
 simp only[cH,cG,cI]at u v r U V W X
 clear hF h
 go_wp2_with fail
 refine(k _).mono ?_
 rintro e w2 ⟨rfl,h⟩
 have n:=d.grown h Z
 have G2:=aa G1 h
 have B:=A.grown G2
 clear u v r U V W X k h d
 have u:=n.cell 0
 have v:=n.cell 1
 have V:=B.blk.cell 1
 simp only[cH,cG,cI]at u v V
 by_cases r:f=1
 .have U:(f==1)=true:=by rw[db];exact r
  have hE1:=b.err;rw[dT r]at hE1;have d:=I hE1;clear r hE1;go_wp2_with fail;refine(g _).mono ?_;rintro e w3 ⟨rfl,rfl⟩;clear g;have hE1:=d.o;clear d;cases hin:di l with
  |false=>
   rw[dT hin]at hE1;exact wa
  |true=>
   rw[cZ (by rw[hin];simp)]at hE1;cases pl with
   |false=>
    rw[dT rfl]at hE1;exact wa
   |true=>
    rw[cZ Z]at hE1;by_cases k:0<=x
    .rw[dT k]at hE1;exact wa
    .rw[cZ k]at hE1;by_cases d:20<=m
     .have h:(20:Int)<=(m:Int):=G;rw[dT d]at hE1;exact wa
     .rw[cZ d]at hE1;exact absurd hE1 b.2.1
 .have U:(f==1)=false:=by rw[cJ];exact r
  have hE1:=b.err;rw[cZ r]at hE1;by_cases d:f=2\/f=3\/f=4
  .rw[dT d]at hE1;by_cases k:x<0
   .rw[dT k]at hE1;have HE:=I hE1;clear hE1 g;rcases d with d|d|d
    all_goals
     subst d
     go_wp2
     go_ret
     exact⟨bD (by rw[HE]),G2⟩
   .rw[cZ k]at hE1;have W:¬ f=4:=λh=>k (by rw[b.2.2.2.1];exact b.2.2.1 h);rw[cZ (λh=>W h.1)]at hE1;exact absurd hE1 b.2.1
  .rw[cZ d]at hE1;have HE:=I hE1;have h:(f==2)=false:=mN;have k:(f==3)=false:=mN;have W:(f==4)=false:=mN;clear hE1 g;go_wp2;go_ret;exact⟨bD (by rw[HE]),G2⟩
def OU(es:List RE)(a:mE):Prop:=a.kind=1/\di a.name=true/\a.qm=true/\gu es a.name=-1
theorem PY(d l)(C)(bv K J)(k)(D)(m)(a)(w)(x:iP w d l C bv K J k D)(Q:Hid (k.length=m))(yg:m<20)(S:a.name.length<=9223372036854775807)(b:OU k a)(P:d<=w.1.size):Calls Tryz.prog 30 #[π l 0,.agg a.cells] w λr e=>r=.returned (Y 0)/\∃B,iP e d l C B K J (PT k (XP a)) D/\w.grownBy e (some l)/\k' w.1.size B:=by
 obtain⟨W,cb,y⟩:=bA x.aF
 rw[Q]at y
 subst y
 have L:=λw=>mY a w
 rw[b.2.2.1]at L
 have hF:=λw e=>oh d l C (.slice W m cb) K J k D a.name m ⟨a.name.toArray⟩ w e Q G (I rfl)
 rw[b.2.2.2]at hF
 have g:=λw=>vJ a.name a.name.length ⟨a.name.toArray⟩ w (I rfl) (I rfl) S
 rw[b.2.1]at g
 have h:=λw e f=>XO d l C (.slice W m cb) K J k D m (XP a) w e Q G f
 obtain⟨ak,an,A,bI,V,bB,X⟩:=a
 obtain rfl:ak=1:=b.1
 simp only[mE.cells,XP,RE.arr]at L hF g h⊢
 have ad:¬ (20:Int)<=(m:Int):=G
 have U:w.grownBy (w.alloc (.cells #[Y 1,.string ⟨an.toArray⟩,H (A.toNat:Int),Y bI,Y V,Y bB,Y X] 41)) none:=cx w _ none
 have v:=dz.new w #[Y 1,.string ⟨an.toArray⟩,H (A.toNat:Int),Y bI,Y V,Y bB,Y X] 41
 have i:=hF _ (x.grown U)
 clear hF b
 go_enter Tryz.func30,Tryz.ntmps30
 go_wp2_with fail
 refine i.mono ?_
 rintro e w1 ⟨rfl,f⟩
 have b:=v.grown f Z
 have G1:=aa U f
 have n:=b.cell 0
 have o:=b.cell 1
 have p:=b.cell 2
 have q:=b.cell 3
 have r:=b.cell 4
 have t:=b.cell 5
 have u:=b.cell 6
 simp only[cH,cG,cI]at n o p q r t u
 clear i f
 go_wp2_with fail
 refine(L _).mono ?_
 rintro e w2 ⟨rfl,j⟩
 have f:=b.grown j Z
 have M:=aa G1 j
 have i:=x.grown M
 clear n o p q r t u L j b
 have n:=f.cell 0
 have o:=f.cell 1
 have p:=f.cell 2
 have q:=f.cell 3
 have r:=f.cell 4
 have t:=f.cell 5
 have u:=f.cell 6
 have c1:=i.blk.cell 1
 simp only[cH,cG,cI]at n o p q r t u c1
 go_wp2_with fail
 refine(g _).mono ?_
 rintro e w3 ⟨rfl,rfl⟩
 clear g
 have T:=M.size
 have b:=h _ i G
 clear h
 go_wp2_with fail
 refine b.mono ?_
 rintro e w4 ⟨rfl,B,j,L,R⟩
 have af:=x.blk.lt
 have G4:=aa (Jf M) L
 clear b x i c1 n o p q r t u f v
 go_wp2
 go_ret
 exact⟨rfl,B,j,G4,λg h=>cE T (R g h)⟩
def vL(c:Int)(n:Nat):Nat:=((if c<0 then -(c+1) else c) % (n:Int)).toNat
theorem DJ(c){n:Nat}(h:0<n):vL c n<n:=by
 unfold vL;have a:(0:Int)<(n:Int):=G;have b:=Int.emod_nonneg (if c<0 then -(c+1) else c) (show(n:Int)≠0 by omega);have d:=Int.emod_lt_of_pos (if c<0 then -(c+1) else c) a;omega
theorem DK(c)(n:Nat)(w)(f:-9223372036854775808<=c)(g:c<=9223372036854775807)(k:0<n)(i:n<=9223372036854775807):Calls prog 9 #[Y c,Y (n:Int)] w λe a=>e=.returned (Y (vL c n:Int))/\w=a:=by
 have e:(0:Int)<(n:Int):=G
 have j:((n:Int)==0)=false:=fA
 have a:¬ (n:Int)=0:=G
 by_cases h:c<0
 .have b:Hid ((vL c n:Int)=(-(c+1)) % (n:Int)):=by
   show _=_;have:=Int.emod_nonneg (-(c+1)) a;rw[vL,dT h,Int.toNat_of_nonneg this]
  have d:Hid (Int.tmod (-(c+1)) (n:Int)=(-(c+1)) % (n:Int)):=fk G;go_in;go_wp2;go_ret;exact⟨bD (by rw[b,<-d,Int.neg_tmod]),rfl⟩
 .have b:Hid ((vL c n:Int)=c % (n:Int)):=by
   show _=_;have:=Int.emod_nonneg c a;rw[vL,cZ h,Int.toNat_of_nonneg this]
  have d:Hid (Int.tmod c (n:Int)=c % (n:Int)):=fk G;go_in;go_wp2;go_ret;exact⟨bD (by rw[b]),rfl⟩
theorem FV(h:p:=by
 clear ha hb hget
 go_wp2_with fail
 go_quiet (fail)
 go_wp2
 go_roundw
 case rel=>exact⟨k+1,q+nq,by omega,by go_num,rfl⟩
 case measure=>simp[intOf];omega):p:=h
theorem Fe(h:p:=by
 have mW:¬ (k:Int)<(n:Int):=G
 clear ha hb
 go_wp2
 go_ret
 exact⟨rfl,aR (cC _ _) q⟩):p:=h
theorem BR(d:List E)(n)(a b)(f g)(w)(hn:Hid (d.length=n))(r:n<=1000000)(ha:ql w a (d.map λl=>.string ⟨l.toArray⟩))(hb:ql w b (d.map λl=>.string ⟨l.toArray⟩)):Calls prog 73 #[.slice a n f,.slice b n g] w λe h=>e=.returned (.bool true)/\w.grownBy h none:=by
 go_in
 go_wp2
 go_loopw [5] (λi wr=>∃k q:Nat,k<=n/\i = Y k/\wr=w.drewN q) (λi _=>n-(intOf i).toNat)
 case atStart=>exact⟨0,0,cS _,rfl,rfl⟩
 case round=>
  obtain⟨k,q,p,rfl,rfl⟩:=hrel;by_cases hlt:k<n
  .have e:k<d.length:=mT;have mW:(k:Int)<(n:Int):=G;have j:(0:Int)<=(k:Int):=G;have hget:(d.map λl=>Value.string ⟨l.toArray⟩)[k]?=some (.string ⟨d[k].toArray⟩):=(by simp[e]);obtain⟨l,t,rfl,h⟩:=ha k _ hget;obtain⟨m,u,rfl,i⟩:=hb k _ hget;generalize (⟨d[k].toArray⟩:ByteArray)=T at h i;exact FV
  .exact Fe
theorem Jt(d:List Int)(n)(a b)(f g)(w)(hn:Hid (d.length=n))(r:n<=1000000)(ha:ql w a (d.map λx=>Y x))(hb:ql w b (d.map λx=>Y x)):Calls prog 74 #[.slice a n f,.slice b n g] w λe h=>e=.returned (.bool true)/\w.grownBy h none:=by
 go_in
 go_wp2
 go_loopw [5] (λi wr=>∃k q:Nat,k<=n/\i = Y k/\wr=w.drewN q) (λi _=>n-(intOf i).toNat)
 case atStart=>exact⟨0,0,cS _,rfl,rfl⟩
 case round=>
  obtain⟨k,q,p,rfl,rfl⟩:=hrel;by_cases hlt:k<n
  .have e:k<d.length:=mT;have mW:(k:Int)<(n:Int):=G;have j:(0:Int)<=(k:Int):=G;have hget:(d.map λx=>Value.int .i64 x)[k]?=some (Y d[k]):=(by simp[e]);obtain⟨l,t,rfl,h⟩:=ha k _ hget;obtain⟨m,u,rfl,i⟩:=hb k _ hget;generalize d[k]=T at h i;exact FV
  .exact Fe
