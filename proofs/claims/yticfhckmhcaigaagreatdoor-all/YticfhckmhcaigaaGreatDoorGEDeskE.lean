import Derived.Test.YticfhckmhcaigaaGreatDoorGERBoxH
import Derived.Test.YticfhckmhcaigaaGreatDoorGERows2
import Derived.Deep.CutBlock
namespace Go.Proofs.YticfhckmhcaigaaGreatDoor
set_option maxHeartbeats 4000000
open Proofs.Tryz Go.RowKit
set_option maxRecDepth 100000
variable {p:Prop}
abbrev RE.arr(e:RE):Array Value:=#[Y e.k,.string ⟨e.name.toArray⟩,O (e.Ak.toNat:Int),Y e.bH,Y e.aD,Y e.bB,Y e.ae,Y e.aH,O (e.key.toNat:Int),O (e.before.toNat:Int)]
theorem Tryz.aaa:(prog.info? 166).map (λi=>(i.zero,i.size,i.bytes))=some (some (.agg #[Y 0,ε,O 0,Y 0,Y 0,Y 0,Y 0,Y 0,O 0,O 0]),10,88):=by kernel_rfl
def uH:List RE->E->Nat
 | [],_=>0
 |x::es,l=>if Op.bytesLess x.name l=true then uH es l+1 else 0
def Si(es:List RE)(e:RE):List RE:=es.take (uH es e.name)++[e]++es.drop (uH es e.name)
theorem aab(a)(l):uH a l<=a.length:=by
 induction a with
 |nil=>exact cA _
 |cons x a b=>simp only[uH,de];split<;>omega
theorem Sj{l:E}:∀{a:List RE}{k:Nat}(hk:k<a.length),(∀j(hj:j<a.length),j<k->Op.bytesLess a[j].name l=true)->Op.bytesLess a[k].name l=false->uH a l=k:=by
 intro a;induction a with
 |nil=>intro k hk;simp at hk
 |cons x a f=>
  intro k hk d h;cases k with
  |zero=>
   have b:Op.bytesLess x.name l=false:=h;rw[uH,b' (by rw[b];simp)]
  |succ k=>
   have b:Op.bytesLess x.name l=true:=d 0 Z G;have:=f (k:=k) sG (λj hj e=>d (j+1) tv G) h;rw[uH,dQ b,this]
theorem Wv{l:E}:∀{a:List RE},(∀j(hj:j<a.length),Op.bytesLess a[j].name l=true)->uH a l=a.length:=by
 intro a;induction a with
 |nil=>intro _;rfl
 |cons x a e=>
  intro b;have d:Op.bytesLess x.name l=true:=b 0 Z;rw[uH,dQ d,e (λj hj=>b (j+1) tv),de]
theorem fq(l):(bL l).length=l.length*10:=by
 induction l with
 |nil=>rfl
 |cons x l a=>simp only[bL,eN,eR,cF,de]at *;rw[a];show 10+_=_;omega
theorem su(a b):bL (a++b)=bL a++bL b:=by simp[bL]
theorem Al(l)(k)(h:k<=l.length):(bL l).take (k*10)=bL (l.take k):=by
 have:bL l=bL (l.take k)++bL (l.drop k):=by rw[<-su,eK]
 rw[this,List.take_append_of_le_length (by grind [fq]),cW (by grind [fq])]
theorem Am(l)(k)(h:k<=l.length):(bL l).drop (k*10)=bL (l.drop k):=by
 have:bL l=bL (l.take k)++bL (l.drop k):=by rw[<-su,eK]
 rw[this,List.drop_append_of_le_length (by grind [fq]),List.drop_of_length_le (by grind [fq]),List.nil_append]
theorem qx(l):∀u∈bL l,u.oneCell'=true:=by
 intro u a;simp only[bL,List.mem_flatten,List.mem_map]at a;obtain⟨_,⟨x,_,rfl⟩,a⟩:=a;simp only[RE.cells,List.mem_cons,List.not_mem_nil,or_false]at a;rcases a with rfl|rfl|rfl|rfl|rfl|rfl|rfl|rfl|rfl|rfl<;>rfl
theorem qR.take{w:World}{a:Option Addr}{b:List Value}(h:qR w a b)(k):qR w a (b.take k):=λj u d=>h j u (by
 grind)
def lE(n:Nat)(v:Value):Prop:=∀g,v.ownBlock=some g->n<=g
theorem Iv(h:p:=by
 subst hke
 clear hD ES
 go_wp2_with fail
 go_quiet (fail)
 go_wp2
 go_meet
 case rel=>exact⟨rfl,q+nq,by rw[World.drewN_drewN]⟩):p:=h
theorem F'(h:p:=by
 refine .inr (λe=>?_)
 have h1:=(hrow.lt g hx).1
 have h2:=(hD.aL.lt g e.symm).2
 omega):p:=h
theorem Hb(h:p:=by
 exact nO (ownsRow_setCell_below hrow (by show pb<w.1.size+1;omega) _) G):p:=h
theorem aac(l pb)(ax)(bv pv dv)(es)(ds)(m)(e)(w)(hD:iW w l pb ax bv pv dv es ds)(hm:Hid (es.length=m))(yP:m<=1000)(an:l<=w.1.size):Calls prog 57 #[N pb 0,.agg e.arr] w λr b=>r=.returned (.tuple #[])/\∃a,iW b l pb ax a pv dv (Si es e) ds/\w.grownBy b (some pb)/\lE w.1.size a:=by
 obtain⟨ie,r,B,p,C⟩:=info_parts Tryz.aaa
 obtain⟨J,K,T⟩:=bA hD.aC
 rw[hm]at T
 subst T
 have G0:w.grownBy (w.alloc (.cells e.arr 166)) none:=cy w _ none
 have c1:=(hD.grown G0).blk.cell 1
 simp only[cI,cH,cL]at c1
 obtain⟨a,ES⟩:=aw (uH es e.name)
 have zu:a<=m:=by grind [aab,Hid.o]
 go_in
 go_upto_block 0 with fail
 go_cut [4] (λi b=>i = Y a/\∃q,b=(w.alloc (.cells e.arr 166)).drewN q)
 case first=>
  go_wp2_with fail;go_loopw [4] (λi wr=>∃(k q:Nat),k<=m/\i = Y k/\Hid (∀j(n:j<es.length),j<k->Op.bytesLess es[j].name e.name=true)/\wr=(w.alloc (.cells e.arr 166)).drewN q) (λi _=>m-(intOf i).toNat)
  case atStart=>exact⟨0,0,cS _,rfl,I (λj _ n=>by omega),rfl⟩
  case round=>
   obtain⟨k,q,A,rfl,y,rfl⟩:=hrel;by_cases hlt:k<m
   .have hlt':k<es.length:=tz;have x:(k:Int)<(m:Int):=G;have u:(0:Int)<=(k:Int):=G;obtain⟨d,f⟩:∃d,J=some ⟨d,0,none⟩:=by
     rcases hD.aC.2 with⟨h,h2⟩|⟨g,V,W,h,_⟩
     .omega
     grind
    subst f;have i:(w.alloc (.cells e.arr 166)).cell? (F d (k*10+1))=some (.string ⟨es[k].name.toArray⟩):=by
     have hbk:=(hD.grown G0).aC;exact E2
    cases v:Op.bytesLess es[k].name e.name with
    |true=>
     have b:Hid (∀j(n),j<k+1->Op.bytesLess es[j].name e.name=true):=by
      intro j n t;grind [Hid.o]
     clear hD;go_wp2_with fail;go_quiet (fail)
     go_wp2;go_roundw
     case rel=>exact⟨k+1,_,by omega,by go_num,b,rfl⟩
     case measure=>simp[intOf];omega
    |false=>
     have hke:a=k:=(by grind [Hid.o,Sj]);exact Iv
   .have b:k=m:=G;subst b;have x:¬ (k:Int)<(k:Int):=G;have hke:a=k:=(by rw[ES,Wv kO,hm]);exact Iv
 case rest=>
  obtain⟨rfl,q,rfl⟩:=hcut;have ae:=I ES;clear ES c1;have Gq:=aN G0 q;have v:=hD.grown Gq;have bn:=hD.blk.lt;have ao:=λg h=>(hD.aC.lt g h).2;have f:=v.aC;rw[hm]at f;have n:=nP f;have U:=Lj f;have Ww:Hid ((bL es).length=m*10):=by show _=_;rw[fq,hm]
  have M:=λw=>U4 (P:=prog) 141 166 ie 10 underlying141 r p J m K a (a:Int) rfl G w;obtain⟨af,bl,N8,bk⟩:=JM (P:=prog) 141 166 ie 10 underlying141 r p J m K a (a:Int) rfl zu U.1 Ww.o;have b:qR ((w.alloc (.cells e.arr 166)).drewN q) J (bL (es.take a)):=by
   rw[<-Al es a (by rw[hm];exact zu)];exact n.take _
  have ar:(bL (es.take a)).length=a*10:=by grind [Hid.o,fq]
  have S:=(dm.new w e.arr 166).drewN q;have A:=v.blk.cell 1;simp only[cI,cH,cL]at A;have D:J=none->K=0/\a=0:=dT;have az:0+a<=maxLen:=lA;have ba:(0+a)*88<=140737488355328:=G;go_wp2_with (at_builtin;refine fI _ rfl _ _ 141 rfl (w.1.size+1) 166 ie _ 10 88 underlying141 r B p C rfl H σ 0 [] rfl (World.ownsRow_nil _ _ _ _) J a K (bL (es.take a)) rfl ar b D (qx _) az ba ?b1 ?_)
  case b1=>show _<=(w.alloc _).1.size;simp
  intro v1 y hown1 hg1;have i:((w.alloc (.cells e.arr 166)).drewN q).grownBy y none:=yk;have L:=aa Gq i;have kZ:y.ownsRow (w.1.size+1) 166 10 v1 a (bL (es.take a)):=sE;obtain⟨a1,k1,rfl⟩:=bA kZ;have bo:w.1.size+1<=y.1.size:=by have:=i.size;have h2:((w.alloc (.cells e.arr 166)).drewN q).1.size=w.1.size+1:=(by show(w.alloc _).1.size=_;simp);omega
  have d:=S.grown i Z;have R:=v.grown i;have f0:=d.cell 0;have f1:=d.cell 1;have f2:=d.cell 2;have f3:=d.cell 3;have f4:=d.cell 4;have f5:=d.cell 5;have f6:=d.cell 6;have f7:=d.cell 7;have f8:=d.cell 8;have f9:=d.cell 9;simp only[RE.arr,cI,cH,cL]at f0 f1 f2 f3 f4 f5 f6 f7 f8 f9;have t:qR (y.alloc (.cells e.arr 166)) (some ⟨y.1.size,0,none⟩) e.cells:=by
   intro j u Q;grind [World.cell?_alloc_at,RE.cells]
  have bb:(some (⟨y.1.size,0,none⟩:Addr))=none->(1:Nat)=0/\(1:Nat)=0:=λh=>by cases h
  have bc:a+1<=maxLen:=lA;have bf:(a+1)*88<=140737488355328:=G;have x:=λu Q=>qx [e] u (by simpa[bL]using Q);clear hown1 hg1 b D M A n f;go_wp2_with (at_builtin;refine fI _ rfl _ _ 141 rfl (w.1.size+1) 166 ie _ 10 88 underlying141 r B p C rfl H (.slice a1 a k1) a (bL (es.take a)) rfl (kZ.alloc _) (some ⟨y.1.size,0,none⟩) 1 1 e.cells rfl rfl t bb x bc bf ?b2 ?_)
  case b2=>simp;omega
  intro v2 w2 f j;have u:∀g,g<w.1.size+1->some g≠(Value.slice a1 a k1).ownBlock:=λg hg e=>by have:=(kZ.lt g e.symm).1;omega
  have A:=(R.blk.alloc (.cells e.arr 166)).grown j (u _ G);have Q:=A.cell 1;simp only[cI,cH,cL]at Q;have M:∀g,g<w.1.size->w2.1[g]?=w.1[g]?:=λg hg=>by
   rw[j.block g iS (u g G),Below.heap_alloc y _ g G,L.block g hg Z]
  have n:=hD.aC;rw[hm]at n
  have D:=(nP n).keep (λb X h=>M b (by
   subst h;rcases n.2 with⟨h,_⟩|⟨g,V,W,h,_⟩
   .simp at h
   grind))
  have EX:=N8 w2 D;rw[Am es a (by rw[hm];exact zu)]at EX;have au:(bL (es.drop a)).length=(m-a)*10:=by rw[fq,ef,hm]
  have av:w.1.size+1<=w2.1.size:=by have:=j.size;simp at this;omega
  obtain⟨a2,k2,rfl⟩:=bA f;have X:af=none->K-a=0/\m-a=0:=dT;have ad:a+1+(m-a)<=maxLen:=lA;have ag:(a+1+(m-a))*88<=140737488355328:=G;have W:∀g,g<w.1.size+1->some g≠(Value.slice a2 (a+1) k2).ownBlock:=λg hg e=>by have:=(f.lt g e.symm).1;omega
  clear f0 f1 f2 f3 f4 f5 f6 f7 f8 f9 d t x N8 D;go_wp2_with (at_builtin;refine fI _ rfl _ _ 141 rfl (w.1.size+1) 166 ie _ 10 88 underlying141 r B p C rfl H (.slice a2 (a+1) k2) (a+1) _ rfl f af (m-a) (K-a) (bL (es.drop a)) rfl au EX X (qx _) ad ag av ?_)
  intro v3 w3 d b;obtain⟨x,D,rfl⟩:=bA d;have t:=A.grown b (W _ G);have al:=t.cell 1;have bm:=t.frozen 1;simp only[cI,cH,cL]at al;have ah:∀g,g<w.1.size->w3.1[g]?=w.1[g]?:=n9;have bp:=b.size;have D5:Hid (Si es e=es.take a++[e]++es.drop a):=by show _=_;rw[Si,<-ae]
  have V:(es.take a++[e]++es.drop a).length=a+1+(m-a):=by simp[hm.o];omega
  have hrow:w3.ownsRow (w.1.size+1) 166 10 (.slice x (a+1+(m-a)) D) (a+1+(m-a)) (bL (es.take a++[e]++es.drop a)):=by
   grind [bL]
  have ai:=(b.os.trans j.os).trans (L.os);have aj:=(b.tape.trans j.tape).trans (L.tape);have ak:=(b.output.trans j.output).trans (L.output);clear i j b kZ f d Q EX M A R v Gq L S n
  have b:w.grownBy (w3.setCell (F pb 1) (.slice x (a+1+(m-a)) D)) (some pb):=
   ⟨ai,aj,ak,by rw[World.size_setCell];omega,vt⟩
  have RD:iW (w3.setCell (F pb 1) (.slice x (a+1+(m-a)) D)) l pb ax (.slice x (a+1+(m-a)) D) pv dv (Si es e) ds:=by
   refine⟨by simpa using t.set 1 (.slice x (a+1+(m-a)) D),?_,hD.aL.kept b (.inr hD.Wt),hD.here,λh=>by have:=(hrow.lt _ h).1;omega,hD.Wt,?_⟩
   .rw[D5,V];exact Hb
   .cases hx:(Value.slice x (a+1+(m-a)) D).ownBlock with
    |none=>exact .inl rfl
    |some g=>
     exact F'
  have d:lE w.1.size (.slice x (a+1+(m-a)) D):=λg h=>by have:=(hrow.lt g h).1;omega
  clear hD hrow t ah ao;go_wp2;go_end0;grind
def sw(es:List RE)(a:nC):Int:=
 if a.kind=1 then(if dx a.name=false then 4 else if a.qQ=false then 1 else if 0<=gG es a.name then 5 else if 20<=es.length then 7 else 0)
 else if a.kind=2\/a.kind=3\/a.kind=4 then(if gG es a.name<0 then 6 else if a.kind=4/\a.qQ=false then 1 else 0)
 else 1
def ux(a:nC):RE:=⟨a.kind,a.name,a.key,a.bH,a.aD,a.bB,a.ae,1,a.key,0⟩
theorem Ll(a)(l):-1<=gG a l/\gG a l<a.length\/(gG a l=-1):=by
 unfold gG;split
 .rename_i i h;have:=(List.findIdx?_eq_some_iff_getElem.1 h).1;left;omega
 .exact .inr rfl
def Sk(es:List RE)(a:nC)(m:Nat)(fi:Int)(pl:Bool):Prop:=es.length=m/\sw es a≠0/\(a.kind=4->gG es a.name<0)/\fi=gG es a.name/\pl=a.qQ
theorem Sk.err{l:List RE}{a:Int}{d:E}{b:UInt64}{k g j i:Int}{m:Nat}{e:Int}{f:Bool}(h:Sk l ⟨a,d,b,k,g,j,i⟩ m e f):
  sw l ⟨a,d,b,k,g,j,i⟩=(if a=1 then(if dx d=false then 4 else if f=false then 1 else if 0<=e then 5 else if 20<=m then 7 else 0)
  else if a=2\/a=3\/a=4 then(if e<0 then 6 else if a=4/\f=false then 1 else 0) else 1):=by
 obtain⟨rfl,_,_,rfl,rfl⟩:=h
 rfl
theorem xo(h:p:=by
 have HE:=I hE1
 clear hE1 hin
 go_wp2
 go_ret
 exact⟨bE (by rw[HE]),G2⟩):p:=h
theorem Sm(i D)(M)(bv pv S)(j)(R)(m)(a)(w)(A:iW w i D M bv pv S j R)(C:Hid (j.length=m))(yP:m<=1000)(q:a.name.length<=9223372036854775807)(n:Hid (sw j a≠0))(u:Hid (a.kind=4->gG j a.name<0)):Calls Tryz.prog 30 #[N D 0,.agg a.cells] w λr b=>r=.returned (Y (sw j a))/\w.grownBy b none:=by
 obtain⟨ab,cb,p⟩:=bA A.aC
 rw[C]at p
 subst p
 obtain⟨x,d⟩:=aw (gG j a.name)
 obtain⟨pl,e⟩:=aw a.qQ
 have b:Sk j a m x pl:=⟨C,n,u,d,e⟩
 have k:=λw=>nK a w
 rw[<-e]at k
 obtain⟨f,l,t,Q,K,P,L⟩:=a
 obtain⟨T,h⟩:∃T:ByteArray,T=⟨l.toArray⟩:=⟨_,rfl⟩
 simp only[nC.cells]at k⊢
 simp only at d q
 rw[<-h]at k⊢
 have J:w.grownBy (w.alloc (.cells #[Y f,.string T,O (t.toNat:Int),Y Q,Y K,Y P,Y L] 41)) none:=cy w _ none
 have y:=dm.new w #[Y f,.string T,O (t.toNat:Int),Y Q,Y K,Y P,Y L] 41
 have hF:=oP i D M _ pv S j R l m T _ (A.grown J) C yP (I h)
 rw[<-d]at hF
 have g:=λw=>wQ l l.length T w (I h) (I rfl) q
 clear d e n u h
 go_enter Tryz.func30,Tryz.ntmps30
 go_wp2_with fail
 refine hF.mono ?_
 rintro e w1 ⟨rfl,h⟩
 have d:=y.grown h Z
 have G1:=aa J h
 have u:=d.cell 0
 have v:=d.cell 1
 have r:=d.cell 2
 have U:=d.cell 3
 have V:=d.cell 4
 have W:=d.cell 5
 have X:=d.cell 6
 simp only[cI,cH,cL]at u v r U V W X
 clear hF h
 go_wp2_with fail
 refine(k _).mono ?_
 rintro e w2 ⟨rfl,h⟩
 have n:=d.grown h Z
 have G2:=aa G1 h
 have B:=A.grown G2
 clear u v r U V W X k h d
 have u:=n.cell 0
 have v:=n.cell 1
 have V:=B.blk.cell 1
 simp only[cI,cH,cL]at u v V
 by_cases r:f=1
 .have U:(f==1)=true:=by rw[db];exact r
  have hE1:=b.err;rw[dQ r]at hE1;have d:=I hE1;clear r hE1;go_wp2_with fail;refine(g _).mono ?_;rintro e w3 ⟨rfl,rfl⟩;clear g;have hE1:=d.o;clear d;cases hin:dx l with
  |false=>
   rw[dQ hin]at hE1;exact xo
  |true=>
   rw[b' (by rw[hin];simp)]at hE1;cases pl with
   |false=>
    rw[dQ rfl]at hE1;exact xo
   |true=>
    rw[b' Z]at hE1;by_cases k:0<=x
    .rw[dQ k]at hE1;exact xo
    .rw[b' k]at hE1;by_cases d:20<=m
     .have h:(20:Int)<=(m:Int):=G;rw[dQ d]at hE1;exact xo
     .rw[b' d]at hE1;exact absurd hE1 b.2.1
 .have U:(f==1)=false:=by rw[cJ];exact r
  have hE1:=b.err;rw[b' r]at hE1;by_cases d:f=2\/f=3\/f=4
  .rw[dQ d]at hE1;by_cases k:x<0
   .rw[dQ k]at hE1;have HE:=I hE1;clear hE1 g;rcases d with d|d|d
    all_goals
     subst d
     go_wp2
     go_ret
     exact⟨bE (by rw[HE]),G2⟩
   .rw[b' k]at hE1;have W:¬ f=4:=λh=>k (by rw[b.2.2.2.1];exact b.2.2.1 h);rw[b' (λh=>W h.1)]at hE1;exact absurd hE1 b.2.1
  .rw[b' d]at hE1;have HE:=I hE1;have h:(f==2)=false:=mC;have k:(f==3)=false:=mC;have W:(f==4)=false:=mC;clear hE1 g;go_wp2;go_ret;exact⟨bE (by rw[HE]),G2⟩
def SP(es:List RE)(a:nC):Prop:=a.kind=1/\dx a.name=true/\a.qQ=true/\gG es a.name=-1
theorem Sq(d l)(C)(bv K J)(k)(D)(m)(a)(w)(x:iW w d l C bv K J k D)(Q:Hid (k.length=m))(yP:m<20)(S:a.name.length<=9223372036854775807)(b:SP k a)(P:d<=w.1.size):Calls Tryz.prog 30 #[N l 0,.agg a.cells] w λr e=>r=.returned (Y 0)/\∃B,iW e d l C B K J (Si k (ux a)) D/\w.grownBy e (some l)/\lE w.1.size B:=by
 obtain⟨W,cb,y⟩:=bA x.aC
 rw[Q]at y
 subst y
 have L:=λw=>nK a w
 rw[b.2.2.1]at L
 have hF:=λw e=>oP d l C (.slice W m cb) K J k D a.name m ⟨a.name.toArray⟩ w e Q G (I rfl)
 rw[b.2.2.2]at hF
 have g:=λw=>wQ a.name a.name.length ⟨a.name.toArray⟩ w (I rfl) (I rfl) S
 rw[b.2.1]at g
 have h:=λw e f=>aac d l C (.slice W m cb) K J k D m (ux a) w e Q G f
 obtain⟨ak,an,A,bH,V,bB,X⟩:=a
 obtain rfl:ak=1:=b.1
 simp only[nC.cells,ux,RE.arr]at L hF g h⊢
 have ad:¬ (20:Int)<=(m:Int):=G
 have U:w.grownBy (w.alloc (.cells #[Y 1,.string ⟨an.toArray⟩,O (A.toNat:Int),Y bH,Y V,Y bB,Y X] 41)) none:=cy w _ none
 have v:=dm.new w #[Y 1,.string ⟨an.toArray⟩,O (A.toNat:Int),Y bH,Y V,Y bB,Y X] 41
 have i:=hF _ (x.grown U)
 clear hF b
 go_enter Tryz.func30,Tryz.ntmps30
 go_wp2_with fail
 refine i.mono ?_
 rintro e w1 ⟨rfl,f⟩
 have b:=v.grown f Z
 have G1:=aa U f
 have n:=b.cell 0
 have o:=b.cell 1
 have p:=b.cell 2
 have q:=b.cell 3
 have r:=b.cell 4
 have t:=b.cell 5
 have u:=b.cell 6
 simp only[cI,cH,cL]at n o p q r t u
 clear i f
 go_wp2_with fail
 refine(L _).mono ?_
 rintro e w2 ⟨rfl,j⟩
 have f:=b.grown j Z
 have M:=aa G1 j
 have i:=x.grown M
 clear n o p q r t u L j b
 have n:=f.cell 0
 have o:=f.cell 1
 have p:=f.cell 2
 have q:=f.cell 3
 have r:=f.cell 4
 have t:=f.cell 5
 have u:=f.cell 6
 have c1:=i.blk.cell 1
 simp only[cI,cH,cL]at n o p q r t u c1
 go_wp2_with fail
 refine(g _).mono ?_
 rintro e w3 ⟨rfl,rfl⟩
 clear g
 have T:=M.size
 have b:=h _ i G
 clear h
 go_wp2_with fail
 refine b.mono ?_
 rintro e w4 ⟨rfl,B,j,L,R⟩
 have af:=x.blk.lt
 have G4:=aa (KP M) L
 clear b x i c1 n o p q r t u f v
 go_wp2
 go_ret
 exact⟨rfl,B,j,G4,λg h=>cE T (R g h)⟩
def wh(c:Int)(n:Nat):Nat:=((if c<0 then -(c+1) else c) % (n:Int)).toNat
theorem EY(c){n:Nat}(h:0<n):wh c n<n:=by
 unfold wh;have a:(0:Int)<(n:Int):=G;have b:=Int.emod_nonneg (if c<0 then -(c+1) else c) (show(n:Int)≠0 by omega);have d:=Int.emod_lt_of_pos (if c<0 then -(c+1) else c) a;omega
theorem EZ(c)(n:Nat)(w)(f:-9223372036854775808<=c)(g:c<=9223372036854775807)(k:0<n)(i:n<=9223372036854775807):Calls prog 9 #[Y c,Y (n:Int)] w λe a=>e=.returned (Y (wh c n:Int))/\w=a:=by
 have e:(0:Int)<(n:Int):=G
 have j:((n:Int)==0)=false:=dT
 have a:¬ (n:Int)=0:=G
 by_cases h:c<0
 .have b:Hid ((wh c n:Int)=(-(c+1)) % (n:Int)):=by
   show _=_;have:=Int.emod_nonneg (-(c+1)) a;rw[wh,dQ h,Int.toNat_of_nonneg this]
  have d:Hid (Int.tmod (-(c+1)) (n:Int)=(-(c+1)) % (n:Int)):=ft G;go_in;go_wp2;go_ret;exact⟨bE (by rw[b,<-d,Int.neg_tmod]),rfl⟩
 .have b:Hid ((wh c n:Int)=c % (n:Int)):=by
   show _=_;have:=Int.emod_nonneg c a;rw[wh,b' h,Int.toNat_of_nonneg this]
  have d:Hid (Int.tmod c (n:Int)=c % (n:Int)):=ft G;go_in;go_wp2;go_ret;exact⟨bE (by rw[b]),rfl⟩
theorem I0(h:p:=by
 clear ha hb hget
 go_wp2_with fail
 go_quiet (fail)
 go_wp2
 go_roundw
 case rel=>exact⟨k+1,q+nq,by omega,by go_num,rfl⟩
 case measure=>simp[intOf];omega):p:=h
theorem GP(h:p:=by
 have nG:¬ (k:Int)<(n:Int):=G
 clear ha hb
 go_wp2
 go_ret
 exact⟨rfl,aN (cC _ _) q⟩):p:=h
theorem Dw(d:List E)(n)(a b)(f g)(w)(hn:Hid (d.length=n))(r:n<=1000000)(ha:qR w a (d.map λl=>.string ⟨l.toArray⟩))(hb:qR w b (d.map λl=>.string ⟨l.toArray⟩)):Calls prog 73 #[.slice a n f,.slice b n g] w λe h=>e=.returned (.bool true)/\w.grownBy h none:=by
 go_in
 go_wp2
 go_loopw [5] (λi wr=>∃k q:Nat,k<=n/\i = Y k/\wr=w.drewN q) (λi _=>n-(intOf i).toNat)
 case atStart=>exact⟨0,0,cS _,rfl,rfl⟩
 case round=>
  obtain⟨k,q,p,rfl,rfl⟩:=hrel;by_cases hlt:k<n
  .have e:k<d.length:=nB;have nG:(k:Int)<(n:Int):=G;have j:(0:Int)<=(k:Int):=G;have hget:(d.map λl=>Value.string ⟨l.toArray⟩)[k]?=some (.string ⟨d[k].toArray⟩):=(by simp[e]);obtain⟨l,t,rfl,h⟩:=ha k _ hget;obtain⟨m,u,rfl,i⟩:=hb k _ hget;generalize (⟨d[k].toArray⟩:ByteArray)=T at h i;exact I0
  .exact GP
theorem Lm(d:List Int)(n)(a b)(f g)(w)(hn:Hid (d.length=n))(r:n<=1000000)(ha:qR w a (d.map λx=>Y x))(hb:qR w b (d.map λx=>Y x)):Calls prog 74 #[.slice a n f,.slice b n g] w λe h=>e=.returned (.bool true)/\w.grownBy h none:=by
 go_in
 go_wp2
 go_loopw [5] (λi wr=>∃k q:Nat,k<=n/\i = Y k/\wr=w.drewN q) (λi _=>n-(intOf i).toNat)
 case atStart=>exact⟨0,0,cS _,rfl,rfl⟩
 case round=>
  obtain⟨k,q,p,rfl,rfl⟩:=hrel;by_cases hlt:k<n
  .have e:k<d.length:=nB;have nG:(k:Int)<(n:Int):=G;have j:(0:Int)<=(k:Int):=G;have hget:(d.map λx=>Value.int .i64 x)[k]?=some (Y d[k]):=(by simp[e]);obtain⟨l,t,rfl,h⟩:=ha k _ hget;obtain⟨m,u,rfl,i⟩:=hb k _ hget;generalize d[k]=T at h i;exact I0
  .exact GP
