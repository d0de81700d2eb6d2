import Derived.Test.YtlfifnpjeangmaaGreatDoorGERBoxH
import Derived.Deep.CutBlock
namespace Go.Proofs.YtlfifnpjeangmaaGreatDoor
set_option maxHeartbeats 4000000
open Proofs.Tryz Go.RowKit
set_option maxRecDepth 100000
variable {p:Prop}
abbrev RE.arr(e:RE):Array Value:=#[ι e.k,.string e.name,υ e.zk.toNat,ι e.bI,ι e.aC,ι e.bB,ι e.ae,ι e.aH,υ e.key.toNat,υ e.before.toNat]
theorem Tryz.Xr:(prog.info? 166).map (λi=>(i.zero,i.size,i.bytes))=some (some (.agg #[ι 0,.string ⟨#[]⟩,υ 0,ι 0,ι 0,ι 0,ι 0,ι 0,υ 0,υ 0]),10,88):=by kernel_rfl
def tL:List RE->List UInt8->Nat
 | [],_=>0
 |x::es,l=>if Op.bytesLess x.name l=true then tL es l+1 else 0
def PD(es:List RE)(e:RE):List RE:=es.take (tL es e.name)++[e]++es.drop (tL es e.name)
theorem Xt(a)(l):tL a l<=a.length:=by
 induction a with
 |nil=>exact cy _
 |cons x a b=>simp only[tL,de];split<;>omega
theorem PE{l:List UInt8}:∀{a:List RE}{k:Nat}(hk:k<a.length),(∀j(hj:j<a.length),j<k->Op.bytesLess a[j].name l=true)->Op.bytesLess a[k].name l=false->tL a l=k:=by
 intro a;induction a with
 |nil=>intro k hk;simp at hk
 |cons x a e=>
  intro k hk c h;cases k with
  |zero=>
   have b:Op.bytesLess x.name l=false:=h;rw[tL,if_neg (by rw[b];simp)]
  |succ k=>
   have b:Op.bytesLess x.name l=true:=c 0 agI agE;have:=e (k:=k) ahA (λj hj d=>c (j+1) aiV agE) h;rw[tL,if_pos b,this]
theorem TQ{l:List UInt8}:∀{a:List RE},(∀j(hj:j<a.length),Op.bytesLess a[j].name l=true)->tL a l=a.length:=by
 intro a;induction a with
 |nil=>intro _;rfl
 |cons x a c=>
  intro b;have d:Op.bytesLess x.name l=true:=b 0 agI;rw[tL,if_pos d,c (λj hj=>b (j+1) aiV),de]
theorem eY(l):(bK l).length=l.length*10:=by
 induction l with
 |nil=>rfl
 |cons x l a=>simp only[bK,eE,eI,cD,de]at *;rw[a];show 10+_=_;omega
theorem ry(a b):bK (a++b)=bK a++bK b:=by simp[bK]
theorem zl(l)(k)(h:k<=l.length):(bK l).take (k*10)=bK (l.take k):=by
 have:bK l=bK (l.take k)++bK (l.drop k):=by rw[<-ry,eN]
 rw[this,List.take_append_of_le_length (by grind [eY]),cU (by grind [eY])]
theorem zm(l)(k)(h:k<=l.length):(bK l).drop (k*10)=bK (l.drop k):=by
 have:bK l=bK (l.take k)++bK (l.drop k):=by rw[<-ry,eN]
 rw[this,List.drop_append_of_le_length (by grind [eY]),List.drop_of_length_le (by grind [eY]),List.nil_append]
theorem pK(l):∀u∈bK l,u.oneCell'=true:=by
 intro u a;simp only[bK,List.mem_flatten,List.mem_map]at a;obtain⟨_,⟨x,_,rfl⟩,a⟩:=a;simp only[RE.cells,List.mem_cons,List.not_mem_nil,or_false]at a;rcases a with rfl|rfl|rfl|rfl|rfl|rfl|rfl|rfl|rfl|rfl<;>rfl
theorem qj.take{w:World}{a:Option Addr}{cs:List Value}(h:qj w a cs)(k):qj w a (cs.take k):=λj u b=>h j u (by
 grind)
def NewAt(n:Nat)(v:Value):Prop:=∀g,v.ownBlock=some g->n<=g
theorem aem(h:p:=by
 subst hke
 clear hD Dx
 go_wp2_with fail
 go_quiet (fail)
 go_wp2
 go_meet
 case rel=>exact⟨rfl,q+nq,by rw[World.drewN_drewN]⟩):p:=h
theorem afO(h:p:=by
 refine .inr (λe=>?_)
 have h1:=(hrow.lt g hx).1
 have h2:=(hD.aL.lt g e.symm).2
 omega):p:=h
theorem af2(h:p:=by
 exact ny (ownsRow_setCell_below hrow (by show pb<w.heap.size+1;omega) _) agE):p:=h
theorem Xu(base pb:Nat)(aA)(bv pv dv)(es)(ds)(m)(e)(w)(hD:iP w base pb aA bv pv dv es ds)(hm:Hid (es.length=m))(xY:m<=1000)(aD:base<=w.heap.size):
  Calls prog 57 #[(pb,0),.agg e.arr] w λr w'=>r=.returned (.tuple #[])/\∃OH,iP w' base pb aA OH pv dv (PD es e) ds/\w.grownBy w' (some pb)/\NewAt w.heap.size OH:=by
 obtain⟨M,v,J,y,F⟩:=info_parts Tryz.Xr
 obtain⟨K,L,O⟩:=bA hD.aG
 rw[hm.o]at O
 subst O
 have G0:w.grownBy (w.alloc (.cells e.arr 166)) none:=cx w _ none
 have c1:=(hD.grown G0).blk.cell 1
 simp only[cH,cG,cI]at c1
 obtain⟨a,Dx⟩:=aw (tL es e.name)
 have yg:a<=m:=by grind [Xt,RowKit.Hid.o]
 go_enter func57,ntmps57
 go_upto_block 0 with fail
 go_cut [4] (λi wx=>i = ι a/\∃q,wx=(w.alloc (.cells e.arr 166)).drewN q)
 case first=>
  go_wp2_with fail;go_loopw [4] (λi wr=>∃(k q:Nat),k<=m/\i = ι k/\Hid (∀j(hj:j<es.length),j<k->Op.bytesLess es[j].name e.name=true)/\wr=(w.alloc (.cells e.arr 166)).drewN q) (λi _=>m-(intOf i).toNat)
  case atStart=>exact⟨0,0,cS _,rfl,hid (λj _ hj=>by omega),rfl⟩
  case round=>
   obtain⟨k,q,hk,rfl,HL,rfl⟩:=hrel;by_cases hlt:k<m
   ·have hlt':k<es.length:=ahH;have mU:(k:Int)<(m:Int):=agE;have aU:(0:Int)<=(k:Int):=agE;obtain⟨g0,aH⟩:∃g0,K=some ⟨g0,0,none⟩:=by
     rcases hD.aG.2 with⟨h,h2⟩|⟨g,cap,ah,h,_⟩
     ·omega
     grind
    subst aH;have ai:(w.alloc (.cells e.arr 166)).cell? (g0,k*10+1)=some (.string ⟨es[k].name.toArray⟩):=by
     have hbk:=(hD.grown G0).aG;exact agf
    cases aO:Op.bytesLess es[k].name e.name with
    |true=>
     have aC:Hid (∀j(hj),j<k+1->Op.bytesLess es[j].name e.name=true):=by
      intro j hj aS;grind [RowKit.Hid.o]
     clear hD;go_wp2_with fail;go_quiet (fail)
     go_wp2;go_roundw
     case rel=>exact⟨k+1,_,by omega,by go_num,aC,rfl⟩
     case measure=>simp[intOf];omega
    |false=>
     have hke:a=k:=(by grind [RowKit.Hid.o,PE]);exact aem
   ·have OE:k=m:=agE;subst OE;have mU:¬ (k:Int)<(k:Int):=agE;have hke:a=k:=(by rw[Dx,TQ agR,hm.o]);exact aem
 case rest=>
  obtain⟨rfl,q,rfl⟩:=hcut;have az:=hid Dx;clear Dx c1;have Gq:=aR G0 q;have z:=hD.grown Gq;have aP:=hD.blk.lt;have al:=λg h=>(hD.aG.lt g h).2;have A:=z.aG;rw[hm.o]at A;have Y:=nA A;have Z:=Jf A;have TR:Hid ((bK es).length=m*10):=by show _=_;rw[eY,hm.o]
  have ay:=λw=>RZ (P:=prog) 141 166 M 10 underlying141 v y K m L a (a:Int) rfl agE w;obtain⟨af,aK,Lt,aQ⟩:=Hr (P:=prog) 141 166 M 10 underlying141 v y K m L a (a:Int) rfl yg Z.1 TR.o;have x:qj ((w.alloc (.cells e.arr 166)).drewN q) K (bK (es.take a)):=by
   rw[<-zl es a (by rw[hm.o];exact yg)];exact Y.take _
  have aB:(bK (es.take a)).length=a*10:=by grind [RowKit.Hid.o,eY]
  have X:=(dB.new w e.arr 166).drewN q;have ae:=z.blk.cell 1;simp only[cH,cG,cI]at ae;have T:K=none->L=0/\a=0:=agM;have ax:0+a<=maxLen:=ag1;have an:(0+a)*88<=140737488355328:=agE;go_wp2_with (at_builtin;refine fF _ rfl _ _ 141 rfl (w.heap.size+1) 166 M _ 10 88 underlying141 v J y F rfl agF (.slice none 0 0) 0 [] rfl (World.ownsRow_nil _ _ _ _) K a L (bK (es.take a)) rfl aB x T (pK _) ax an ?b1 ?_)
  case b1=>show _<=(w.alloc _).heap.size;simp
  intro v1 E hown1 hg1;have f:((w.alloc (.cells e.arr 166)).drewN q).grownBy E none:=aiW;have R:=aa Gq f;have kP:E.ownsRow (w.heap.size+1) 166 10 v1 a (bK (es.take a)):=ah0;obtain⟨a1,k1,rfl⟩:=bA kP;have aN:w.heap.size+1<=E.heap.size:=by have:=f.size;have h2:((w.alloc (.cells e.arr 166)).drewN q).heap.size=w.heap.size+1:=(by show(w.alloc _).heap.size=_;simp);omega
  have c:=X.grown f agI;have S:=z.grown f;have f0:=c.cell 0;have f1:=c.cell 1;have f2:=c.cell 2;have f3:=c.cell 3;have f4:=c.cell 4;have f5:=c.cell 5;have f6:=c.cell 6;have f7:=c.cell 7;have f8:=c.cell 8;have f9:=c.cell 9;simp only[RE.arr,cH,cG,cI]at f0 f1 f2 f3 f4 f5 f6 f7 f8 f9;have t:qj (E.alloc (.cells e.arr 166)) (some ⟨E.heap.size,0,none⟩) e.cells:=by
   intro j u hu;grind [World.cell?_alloc_at,RE.cells]
  have aF:(some (⟨E.heap.size,0,none⟩:Addr))=none->(1:Nat)=0/\(1:Nat)=0:=λh=>by cases h
  have aI:a+1<=maxLen:=ag1;have ao:(a+1)*88<=140737488355328:=agE;have C:=λu hu=>pK [e] u (by simpa[bK]using hu);clear hown1 hg1 x T ay ae Y A;go_wp2_with (at_builtin;refine fF _ rfl _ _ 141 rfl (w.heap.size+1) 166 M _ 10 88 underlying141 v J y F rfl agF (.slice a1 a k1) a (bK (es.take a)) rfl (kP.alloc _) (some ⟨E.heap.size,0,none⟩) 1 1 e.cells rfl rfl t aF C aI ao ?b2 ?_)
  case b2=>simp;omega
  intro v2 w2 d l;have D:∀g,g<w.heap.size+1->some g≠(Value.slice a1 a k1).ownBlock:=λg hg e=>by have:=(kP.lt g e.symm).1;omega
  have H:=(S.blk.alloc (.cells e.arr 166)).grown l (D _ agE);have N:=H.cell 1;simp only[cH,cG,cI]at N;have ag:∀g,g<w.heap.size->w2.heap[g]?=w.heap[g]?:=λg hg=>by
   rw[l.block g ag2 (D g agE),Below.heap_alloc E _ g agE,R.block g hg agI]
  have n:=hD.aG;rw[hm.o]at n
  have V:=(nA n).keep (λb off h=>ag b (by
   subst h;rcases n.2 with⟨h,_⟩|⟨g,cap,ah,h,_⟩
   ·simp at h
   grind))
  have DD:=Lt w2 V;rw[zm es a (by rw[hm.o];exact yg)]at DD;have aE:(bK (es.drop a)).length=(m-a)*10:=by rw[eY,dr,hm.o]
  have aj:w.heap.size+1<=w2.heap.size:=by have:=l.size;simp at this;omega
  obtain⟨a2,k2,rfl⟩:=bA d;have U:af=none->L-a=0/\m-a=0:=agM;have ad:a+1+(m-a)<=maxLen:=ag1;have aq:(a+1+(m-a))*88<=140737488355328:=agE;have W:∀g,g<w.heap.size+1->some g≠(Value.slice a2 (a+1) k2).ownBlock:=λg hg e=>by have:=(d.lt g e.symm).1;omega
  clear f0 f1 f2 f3 f4 f5 f6 f7 f8 f9 c t C Lt V;go_wp2_with (at_builtin;refine fF _ rfl _ _ 141 rfl (w.heap.size+1) 166 M _ 10 88 underlying141 v J y F rfl agF (.slice a2 (a+1) k2) (a+1) _ rfl d af (m-a) (L-a) (bK (es.drop a)) rfl aE DD U (pK _) ad aq aj ?_)
  intro v3 w3 s p;obtain⟨I,G,rfl⟩:=bA s;have B:=H.grown p (W _ agE);have av:=B.cell 1;have aT:=B.frozen 1;simp only[cH,cG,cI]at av;have ak:∀g,g<w.heap.size->w3.heap[g]?=w.heap[g]?:=ag8;have aM:=p.size;have Ci:Hid (PD es e=es.take a++[e]++es.drop a):=by show _=_;rw[PD,<-az.o]
  have Q:(es.take a++[e]++es.drop a).length=a+1+(m-a):=by simp[hm.o];omega
  have hrow:w3.ownsRow (w.heap.size+1) 166 10 (.slice I (a+1+(m-a)) G) (a+1+(m-a)) (bK (es.take a++[e]++es.drop a)):=by
   grind [bK]
  have ar:=(p.os.trans l.os).trans (R.os);have au:=(p.tape.trans l.tape).trans (R.tape);have aJ:=(p.output.trans l.output).trans (R.output);clear f l p kP d s N DD ag H S z Gq R X n
  have GB:w.grownBy (w3.setCell (pb,1) (.slice I (a+1+(m-a)) G)) (some pb):=
   ⟨ar,au,aJ,by rw[World.size_setCell];omega,ahF⟩
  have RD:iP (w3.setCell (pb,1) (.slice I (a+1+(m-a)) G)) base pb aA (.slice I (a+1+(m-a)) G) pv dv (PD es e) ds:=by
   refine⟨by simpa using B.set 1 (.slice I (a+1+(m-a)) G),?_,hD.aL.kept GB (.inr hD.TN),hD.here,λh=>by have:=(hrow.lt _ h).1;omega,hD.TN,?_⟩
   ·rw[Ci.o,Q];exact af2
   ·cases hx:(Value.slice I (a+1+(m-a)) G).ownBlock with
    |none=>exact .inl rfl
    |some g=>
     exact afO
  have NA:NewAt w.heap.size (.slice I (a+1+(m-a)) G):=λg h=>by have:=(hrow.lt g h).1;omega
  clear hD hrow B ak al;go_wp2;go_end0;grind
def rz(es:List RE)(a:mW):Int:=
 if a.kind=1 then(if cO a.name=false then 4 else if a.ql=false then 1 else if 0<=fZ es a.name then 5 else if 20<=es.length then 7 else 0)
 else if a.kind=2\/a.kind=3\/a.kind=4 then(if fZ es a.name<0 then 6 else if a.kind=4/\a.ql=false then 1 else 0)
 else 1
def Xv(a:mW):RE:=⟨a.kind,a.name,a.key,a.bI,a.aC,a.bB,a.ae,1,a.key,0⟩
theorem Jo(a)(l):-1<=fZ a l/\fZ a l<a.length\/(fZ a l=-1):=by
 unfold fZ;split
 ·rename_i i h;have:=(List.findIdx?_eq_some_iff_getElem.1 h).1;left;omega
 ·exact .inr rfl
def PG(es:List RE)(a:mW)(m:Nat)(fi:Int)(pl:Bool):Prop:=es.length=m/\rz es a≠0/\(a.kind=4->fZ es a.name<0)/\fi=fZ es a.name/\pl=a.ql
theorem PG.err{e:List RE}{a:Int}{d:List UInt8}{key:UInt64}{f aC g ae:Int}{m:Nat}{c:Int}{b:Bool}(h:PG e ⟨a,d,key,f,aC,g,ae⟩ m c b):
  rz e ⟨a,d,key,f,aC,g,ae⟩=(if a=1 then(if cO d=false then 4 else if b=false then 1 else if 0<=c then 5 else if 20<=m then 7 else 0)
  else if a=2\/a=3\/a=4 then(if c<0 then 6 else if a=4/\b=false then 1 else 0) else 1):=by
 obtain⟨rfl,_,_,rfl,rfl⟩:=h
 rfl
theorem aco(h:p:=by
 have HE:=hid hE1
 clear hE1 hin
 go_wp2
 go_ret
 exact⟨bD (by rw[HE.o]),G2⟩):p:=h
theorem PH(base D:Nat)(aA)(W pv dv)(i)(ds)(m)(a)(w)(G:iP w base D aA W pv dv i ds)(E:Hid (i.length=m))(Y:m<=1000)(y:a.name.length<=9223372036854775807)(Q:Hid (rz i a≠0))(K:Hid (a.kind=4->fZ i a.name<0)):
  Calls Tryz.prog 30 #[(D,0),.agg a.cells] w λr w'=>r=.returned (ι (rz i a))/\w.grownBy w' none:=by
 obtain⟨ab,cb,x⟩:=bA G.aG
 rw[E.o]at x
 subst x
 obtain⟨H,f⟩:=aw (fZ i a.name)
 obtain⟨L,j⟩:=aw a.ql
 have b:PG i a m H L:=⟨E.o,Q.o,K.o,f,j⟩
 have z:=λw=>mX a w
 rw[<-j]at z
 obtain⟨d,t,key,S,aC,P,ae⟩:=a
 obtain⟨T,C⟩:∃T:ByteArray,T=⟨t.toArray⟩:=⟨_,rfl⟩
 simp only[mW.cells]at z⊢
 simp only at f y
 rw[<-C]at z⊢
 have M:w.grownBy (w.alloc (.cells #[ι d,.string T,υ key.toNat,ι S,ι aC,ι P,ι ae] 41)) none:=cx w _ none
 have F:=dB.new w #[ι d,.string T,υ key.toNat,ι S,ι aC,ι P,ι ae] 41
 have hF:=og base D aA _ pv dv i ds t m T _ (G.grown M) E Y (hid C)
 rw[<-f]at hF
 have g:=λw=>vF t t.length T w (hid C) (hid rfl) y
 clear f j Q K C
 go_enter Tryz.func30,Tryz.ntmps30
 go_wp2_with fail
 refine hF.mono ?_
 rintro e w1 ⟨rfl,k⟩
 have c:=F.grown k agI
 have G1:=aa M k
 have A:=c.cell 0
 have B:=c.cell 1
 have O:=c.cell 2
 have N:=c.cell 3
 have J:=c.cell 4
 have R:=c.cell 5
 have U:=c.cell 6
 simp only[cH,cG,cI]at A B O N J R U
 clear hF k
 go_wp2_with fail
 refine(z _).mono ?_
 rintro e w2 ⟨rfl,l⟩
 have v:=c.grown l agI
 have G2:=aa G1 l
 have I:=G.grown G2
 clear A B O N J R U z l c
 have A:=v.cell 0
 have B:=v.cell 1
 have V:=I.blk.cell 1
 simp only[cH,cG,cI]at A B V
 by_cases q:d=1
 ·have X:(d==1)=true:=by rw[db];exact q
  have hE1:=b.err;rw[if_pos q]at hE1;have s:=hid hE1;clear q hE1;go_wp2_with fail;refine(g _).mono ?_;rintro e w3 ⟨rfl,rfl⟩;clear g;have hE1:=s.o;clear s;cases hin:cO t with
  |false=>
   rw[if_pos hin]at hE1;exact aco
  |true=>
   rw[if_neg (by rw[hin];simp)]at hE1;cases L with
   |false=>
    rw[if_pos rfl]at hE1;exact aco
   |true=>
    rw[if_neg agI]at hE1;by_cases p:0<=H
    ·rw[if_pos p]at hE1;exact aco
    ·rw[if_neg p]at hE1;by_cases u:20<=m
     ·have ad:(20:Int)<=(m:Int):=agE;rw[if_pos u]at hE1;exact aco
     ·rw[if_neg u]at hE1;exact absurd hE1 b.2.1
 ·have X:(d==1)=false:=by rw[cJ];exact q
  have hE1:=b.err;rw[if_neg q]at hE1;by_cases n:d=2\/d=3\/d=4
  ·rw[if_pos n]at hE1;by_cases p:H<0
   ·rw[if_pos p]at hE1;have HE:=hid hE1;clear hE1 g;rcases n with n|n|n
    all_goals
     subst n
     go_wp2
     go_ret
     exact⟨bD (by rw[HE.o]),G2⟩
   ·rw[if_neg p]at hE1;have Z:¬ d=4:=λh=>p (by rw[b.2.2.2.1];exact b.2.2.1 h);rw[if_neg (λh=>Z h.1)]at hE1;exact absurd hE1 b.2.1
  ·rw[if_neg n]at hE1;have HE:=hid hE1;have b2:(d==2)=false:=ahd;have b3:(d==3)=false:=ahd;have b4:(d==4)=false:=ahd;clear hE1 g;go_wp2;go_ret;exact⟨bD (by rw[HE.o]),G2⟩
def ae9(es:List RE)(a:mW):Prop:=a.kind=1/\cO a.name=true/\a.ql=true/\fZ es a.name=-1
theorem PK(base n:Nat)(aA)(X pv dv)(p)(ds)(m)(a)(w)(u:iP w base n aA X pv dv p ds)(G:Hid (p.length=m))(xY:m<20)(L:a.name.length<=9223372036854775807)(d:ae9 p a)(J:base<=w.heap.size):
  Calls Tryz.prog 30 #[(n,0),.agg a.cells] w λr w'=>r=.returned (ι 0)/\∃D,iP w' base n aA D pv dv (PD p (Xv a)) ds/\w.grownBy w' (some n)/\NewAt w.heap.size D:=by
 obtain⟨T,S,A⟩:=bA u.aG
 rw[G.o]at A
 subst A
 have E:=λw=>mX a w
 rw[d.2.2.1]at E
 have hF:=λw M=>og base n aA (.slice T m S) pv dv p ds a.name m ⟨a.name.toArray⟩ w M G agE (hid rfl)
 rw[d.2.2.2]at hF
 have f:=λw=>vF a.name a.name.length ⟨a.name.toArray⟩ w (hid rfl) (hid rfl) L
 rw[d.2.1]at f
 have k:=λw M hb=>Xu base n aA (.slice T m S) pv dv p ds m (Xv a) w M G agE hb
 obtain⟨W,P,key,V,aC,R,ae⟩:=a
 obtain rfl:W=1:=d.1
 simp only[mW.cells,Xv,RE.arr]at E hF f k⊢
 have ad:¬ (20:Int)<=(m:Int):=agE
 have Q:w.grownBy (w.alloc (.cells #[ι 1,.string P,υ key.toNat,ι V,ι aC,ι R,ι ae] 41)) none:=cx w _ none
 have t:=dB.new w #[ι 1,.string P,υ key.toNat,ι V,ι aC,ι R,ι ae] 41
 have U:=hF _ (u.grown Q)
 clear hF d
 go_enter Tryz.func30,Tryz.ntmps30
 go_wp2_with fail
 refine U.mono ?_
 rintro e w1 ⟨rfl,i⟩
 have b:=t.grown i agI
 have G1:=aa Q i
 have s:=b.cell 0
 have z:=b.cell 1
 have x:=b.cell 2
 have v:=b.cell 3
 have q:=b.cell 4
 have B:=b.cell 5
 have C:=b.cell 6
 simp only[cH,cG,cI]at s z x v q B C
 clear U i
 go_wp2_with fail
 refine(E _).mono ?_
 rintro e w2 ⟨rfl,j⟩
 have c:=b.grown j agI
 have K:=aa G1 j
 have l:=u.grown K
 clear s z x v q B C E j b
 have s:=c.cell 0
 have z:=c.cell 1
 have x:=c.cell 2
 have v:=c.cell 3
 have q:=c.cell 4
 have B:=c.cell 5
 have C:=c.cell 6
 have O:=l.blk.cell 1
 simp only[cH,cG,cI]at s z x v q B C O
 go_wp2_with fail
 refine(f _).mono ?_
 rintro e w3 ⟨rfl,rfl⟩
 clear f
 have I:=K.size
 have y:=k _ l agE
 clear k
 go_wp2_with fail
 refine y.mono ?_
 rintro e w4 ⟨rfl,D,N,H,F⟩
 have Y:=u.blk.lt
 have Z:=aa (Jb K) H
 clear y u l O s z x v q B C c t
 go_wp2
 go_ret
 exact⟨rfl,D,N,Z,λg h=>cE I (F g h)⟩
def vH(c:Int)(n:Nat):Nat:=((if c<0 then -(c+1) else c) % (n:Int)).toNat
theorem DF(c){n:Nat}(h:0<n):vH c n<n:=by
 unfold vH;have a:(0:Int)<(n:Int):=agE;have b:=Int.emod_nonneg (if c<0 then -(c+1) else c) (show(n:Int)≠0 by omega);have d:=Int.emod_lt_of_pos (if c<0 then -(c+1) else c) a;omega
theorem DI(c)(n:Nat)(w)(i:-9223372036854775808<=c)(j:c<=9223372036854775807)(hn:0<n)(f:n<=9223372036854775807):
  Calls prog 9 #[ι c,ι n] w λe w'=>e=.returned (ι (vH c n:Int))/\w=w':=by
 have k:(0:Int)<(n:Int):=agE
 have g:((n:Int)==0)=false:=agM
 have a:¬ (n:Int)=0:=agE
 by_cases h:c<0
 ·have b:Hid ((vH c n:Int)=(-(c+1)) % (n:Int)):=by
   show _=_;have:=Int.emod_nonneg (-(c+1)) a;rw[vH,if_pos h,Int.toNat_of_nonneg this]
  have d:Hid (Int.tmod (-(c+1)) (n:Int)=(-(c+1)) % (n:Int)):=fk agE;go_enter func9,ntmps9;go_wp2;go_ret;exact⟨bD (by rw[b.o,<-d.o,Int.neg_tmod]),rfl⟩
 ·have b:Hid ((vH c n:Int)=c % (n:Int)):=by
   show _=_;have:=Int.emod_nonneg c a;rw[vH,if_neg h,Int.toNat_of_nonneg this]
  have d:Hid (Int.tmod c (n:Int)=c % (n:Int)):=fk agE;go_enter func9,ntmps9;go_wp2;go_ret;exact⟨bD (by rw[b.o]),rfl⟩
theorem ad4(h:p:=by
 clear ha hb hget
 go_wp2_with fail
 go_quiet (fail)
 go_wp2
 go_roundw
 case rel=>exact⟨k+1,q+nq,by omega,by go_num,rfl⟩
 case measure=>simp[intOf];omega):p:=h
theorem afo(h:p:=by
 have mU:¬ (k:Int)<(n:Int):=agE
 clear ha hb
 go_wp2
 go_ret
 exact⟨rfl,aR (cC _ _) q⟩):p:=h
theorem BM(cs:List (List UInt8))(n)(a b)(j h)(w)(hn:Hid (cs.length=n))(p:n<=1000000)(ha:qj w a (cs.map λl=>.string ⟨l.toArray⟩))(hb:qj w b (cs.map λl=>.string ⟨l.toArray⟩)):
  Calls prog 73 #[.slice a n j,.slice b n h] w λe w'=>e=.returned (.bool true)/\w.grownBy w' none:=by
 go_enter func73,ntmps73
 go_wp2
 go_loopw [5] (λi wr=>∃k q:Nat,k<=n/\i = ι k/\wr=w.drewN q) (λi _=>n-(intOf i).toNat)
 case atStart=>exact⟨0,0,cS _,rfl,rfl⟩
 case round=>
  obtain⟨k,q,r,rfl,rfl⟩:=hrel;by_cases hlt:k<n
  ·have c:k<cs.length:=ag4;have mU:(k:Int)<(n:Int):=agE;have g:(0:Int)<=(k:Int):=agE;have hget:(cs.map λl=>Value.string ⟨l.toArray⟩)[k]?=some (.string ⟨cs[k].toArray⟩):=(by simp[c]);obtain⟨t,m,rfl,d⟩:=ha k _ hget;obtain⟨u,s,rfl,f⟩:=hb k _ hget;generalize (⟨cs[k].toArray⟩:ByteArray)=T at d f;exact ad4
  ·exact afo
theorem Jp(cs:List Int)(n)(a b)(j h)(w)(hn:Hid (cs.length=n))(m:n<=1000000)(ha:qj w a (cs.map λx=>ι x))(hb:qj w b (cs.map λx=>ι x)):
  Calls prog 74 #[.slice a n j,.slice b n h] w λe w'=>e=.returned (.bool true)/\w.grownBy w' none:=by
 go_enter func74,ntmps74
 go_wp2
 go_loopw [5] (λi wr=>∃k q:Nat,k<=n/\i = ι k/\wr=w.drewN q) (λi _=>n-(intOf i).toNat)
 case atStart=>exact⟨0,0,cS _,rfl,rfl⟩
 case round=>
  obtain⟨k,q,p,rfl,rfl⟩:=hrel;by_cases hlt:k<n
  ·have c:k<cs.length:=ag4;have mU:(k:Int)<(n:Int):=agE;have g:(0:Int)<=(k:Int):=agE;have hget:(cs.map λx=>Value.int .i64 x)[k]?=some (ι cs[k]):=(by simp[c]);obtain⟨s,l,rfl,d⟩:=ha k _ hget;obtain⟨t,r,rfl,f⟩:=hb k _ hget;generalize cs[k]=T at d f;exact ad4
  ·exact afo
end Go.Proofs.YtlfifnpjeangmaaGreatDoor
