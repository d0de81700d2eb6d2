import Derived.Test.YtlfifnpjeangmaaGreatDoorGERows2
import Derived.Test.YtlfifnpjeangmaaGreatDoorGELaw1
namespace Go.Proofs.YtlfifnpjeangmaaGreatDoor
open Go.RowKit
theorem cB{w j:World}{a:Nat}{e:TypeId}{size:Nat}{v:Value}{n:Nat}{k:List Value}(h:w.ownsRow a e size v n k)(m:∀b,v.ownBlock=some b->j.1[b]?=w.1[b]?):j.ownsRow a e size v n k:=by
 refine⟨h.1,?_⟩;rcases h.2 with o|⟨g,d,f,rfl,l,i,b⟩
 .exact .inl o
 .exact .inr ⟨g,d,f,rfl,l,(m g rfl).trans i,b⟩
theorem iU.refl(w)(a:Nat->Prop):iU w w a:=⟨rfl,rfl,rfl,cy _,λ_ _ _=>rfl⟩
theorem iU.mono{w d:World}{a ex':Nat->Prop}(h:iU w d a)(k:∀b,b<w.1.size->a b->ex' b):iU w d ex':=⟨h.os,h.tape,h.output,h.size,(by grind [iU.block])⟩
theorem iU.trans{a b c:World}{d:Nat->Prop}(h:iU a b d)(k:iU b c λi=>d i\/a.1.size<=i):iU a c d:=by
 have s:=h.size;refine⟨k.os.trans h.os,k.tape.trans h.tape,k.output.trans h.output,cE h.size k.size,λi e f=>?_⟩;rw[k.block i G fA,h.block i e f]
theorem iU.bF{w d:World}{a:Option Nat}(h:w.grownBy d a):iU w d λb=>a=some b:=⟨h.os,h.tape,h.output,h.size,oN⟩
theorem iU.lM{w a:World}(h:w.grownBy a none)(b:Nat->Prop):iU w a b:=⟨h.os,h.tape,h.output,h.size,oN⟩
theorem iU.below{w d:World}{a:Nat->Prop}{B:Nat}(h:iU w d a)(e:B<=w.1.size)(f:∀b,a b->B<=b):Below B w d:=⟨h.os,h.tape,h.output,h.size,(by grind [iU.block])⟩
theorem iU.setCell{a w:World}{b:Nat->Prop}(h:iU a w b)(p)(u)(d:b p.block\/a.1.size<=p.block):iU a (w.setCell p u) b:=
 h.trans ⟨rfl,rfl,rfl,by simp[World.setCell],ud⟩
theorem iU.set{a w:World}{ex:Nat->Prop}{g:Nat}(h:iU a w ex)(b:ex g)(j)(u):iU a (w.setCell (F g j) u) ex:=(by grind [iU.setCell])
section
variable {S:Type}{C:S->Nat->World->Prop}{qz:S->Nat->Nat->Prop}
def BA(C:S->Nat->World->Prop)(qz:S->Nat->Nat->Prop):Prop:=∀s k w w',C s k w->(∀b,qz s k b->w'.1[b]?=w.1[b]?)->C s k w'
structure Sep(C:S->Nat->World->Prop)(qz:S->Nat->Nat->Prop)(B:Nat)(s:S)(w:World):Prop where
 here:∀k,C s k w
 lt:∀k b,qz s k b->b<w.1.size
 base:∀k b,qz s k b->B<=b
 one:∀j k b,qz s j b->qz s k b->j=k
 room:B<=w.1.size
theorem Sep.grown(L:BA C qz){B:Nat}{s:S}{w d:World}(h:Sep C qz B s w)(g:w.grownBy d none):Sep C qz B s d:=
 have z:=g.size
 ⟨λk=>L s k w d (h.here k) (λb a=>g.block b (h.lt k b a) Z),λk b a=>by have:=h.lt k b a;omega,h.base,h.one,by have:=h.room;omega⟩
end
end Go.Proofs.YtlfifnpjeangmaaGreatDoor
namespace Go.Proofs.YtlfifnpjeangmaaGreatDoor
open Go.RowKit
set_option maxRecDepth 100000
variable {w:World}
structure ic where
 l:Sl
 one:Sl
 two:Sl
 three:Sl
 mark:Value
def ic.cells(x:ic):List Value:=[x.l.val,x.one.val,x.two.val,x.three.val,x.mark]
def gX(l:List ic):List Value:=(l.map ic.cells).flatten
theorem Jk(l)(x):gX (l++[x])=gX l++x.cells:=by simp[gX]
theorem Lj(l):∀(k j)(a:k<l.length),j<5->(gX l)[k*5+j]?=(l[k]).cells[j]?:=by
 induction l with
 |nil=>intro k j a;simp at a
 |cons x l d=>
  intro k j a b;have e:gX (x::l)=x.cells++gX l:=by simp[gX]
  rw[e];cases k with
  |zero=>rw[gf,cN,cW (by show j<5;exact b)];rfl
  |succ k=>
   grind [ic.cells]
def kU(w:World)(m:Value)(s:Sl):Prop:=s.2.1<=9223372036854775807/\ql w s.1 (List.replicate s.2.1 m)
def Sl.on(s:Sl)(b:Nat):Prop:=∃off,s.1=some ⟨b,off,none⟩/\0<s.2.1
def ic.ok(w:World)(x:ic):Prop:=kU w x.mark x.l/\kU w x.mark x.one/\kU w x.mark x.two/\kU w x.mark x.three
def ic.on(x:ic)(b:Nat):Prop:=x.l.on b\/x.one.on b\/x.two.on b\/x.three.on b
theorem kU.keep{w':World}{m:Value}{s:Sl}(h:kU w m s)(k:∀b,s.on b->w'.1[b]?=w.1[b]?):kU w' m s:=by
 refine⟨h.1,λj u f=>?_⟩;obtain⟨b,d,e,g⟩:=h.2 j u f;have i:=(cM.1 f).1;rw[fs]at i;refine⟨b,d,e,?_⟩;rw[World.cell?_of_block (w:=w) (w':=w') (a:=⟨b,d+j,none⟩) (k b ⟨d,e,by omega⟩)];exact g
theorem ic.ok.keep{w':World}{x:ic}(h:x.ok w)(k:∀b,x.on b->w'.1[b]?=w.1[b]?):x.ok w':=
 ⟨h.1.keep (λb a=>k b (.inl a)),h.2.1.keep (λb a=>k b (.inr (.inl a))),h.2.2.1.keep (λb a=>k b (.inr (.inr (.inl a)))),h.2.2.2.keep (λb a=>k b (.inr (.inr (.inr a))))⟩
theorem E3{p:Prop}(h:p:=by
 rw[e1]at e3
 injection e3 with e3
 injection e3 with e3 _ _
 subst e3
 exact World.block_lt_of_cell? w _ e4):p:=h
theorem kU.lt{m:Value}{s:Sl}(h:kU w m s){b:Nat}(e:s.on b):b<w.1.size:=by
 obtain⟨f,e1,d⟩:=e;obtain⟨g,a,e3,e4⟩:=h.2 0 m (by simp[d]);exact E3
theorem E9{p:Prop}(h:p:=by
 rcases hb with e|e|e|e
 .exact h.1.lt e
 .exact h.2.1.lt e
 .exact h.2.2.1.lt e
 .exact h.2.2.2.lt e):p:=h
theorem ic.ok.lt{x:ic}(h:x.ok w){b:Nat}(hb:x.on b):b<w.1.size:=by
 exact E9
theorem su(n k)(m:Value):List.replicate n m++List.replicate k m=List.replicate (n+k) m:=by rw[List.replicate_append_replicate]
theorem Ek{p:Prop}(h:p:=by
 rintro b ⟨off,e1,e2⟩
 have Xu:ao=some ⟨b,off,none⟩:=e1
 subst Xu
 exact⟨rfl,(h.lt b rfl).1⟩):p:=h
theorem mX{a:Nat}{e:TypeId}{v:Value}{n:Nat}{m:Value}(h:w.ownsRow a e 1 v n (List.replicate n m))(f:n<=9223372036854775807):
  ∃s,v=s.val/\s.2.1=n/\kU w m s/\∀b,s.on b->v.ownBlock=some b/\a<=b:=by
 obtain⟨ao,d,g⟩:=bA h
 subst g
 refine⟨(ao,n,d),rfl,rfl,⟨f,nC h⟩,?_⟩
 exact Ek
theorem C9{p:Prop}(h:p:=by
 intro ad zs h j u hu
 obtain⟨b,off,e1,e2⟩:=h j u hu
 grind [Addr.add_lit]):p:=h
theorem lN{P:Program}(w){k:Array Oper}{g:List Oper}{o:Oper}{a:Act}{Q:Exit->Act->World->Prop}(T:o.guard=none)(s x)(t)(r:o.op=Op.call {callee:=Callee.builtin Builtin.append,args:=#[s,x],argTypes:=#[t,t]})(e)(i)(z)(d)(C:P.underlying t=some (.slice e))(D:P.info? e=some i)(J:i.zero=some z)(K:i.size=1)(L:i.bytes=d)(M:z.cells.size=1)(l)(n)(m)(V:a.eval s=.slice l n n)(U:m.length=n)(q:l=none->n=0)(S:ql w l m)(b c)(f)(W:a.eval x = ς b 0 f.length c)(hp:0<f.length)(X:ql w (some ⟨b,0,none⟩) f)(p:∀u∈f,u.oneCell'=true)(A:n+f.length<=1000000)(B:d<=1000)(R:∀y v,v.ownsRow w.1.size e 1 y (n+f.length) (m++f)->w.grownBy v none->wpList P k Q g (a.put o.dst y) v):
  wpList P k Q (o::g) a w:=by
 have v:∀(ad)(zs),ql w (some ad) zs->∀j u,zs[j]?=some u->w.cell? (ad.add j)=some u:=by
  exact C9
 have y:(n+f.length)*d<=140737488355328:=cE (Nat.mul_le_mul A B) G
 exact wpList_append_grows w T s x t r e i z 1 d C D J K L M O l n n m V fA (by rw[U,fR]) fA ⟨b,0,none⟩ f.length c f W (by rw[fR]) (v _ _ X) p G kO y R
theorem o9(w:World)(a)(e):ql (w.alloc (.cells a e)) (some ⟨w.1.size,0,none⟩) a.toList:=by
 intro j u b;grind [World.cell?_alloc_at]
theorem Sk(a:List Value)(m)(k)(h:k<a.length):(List.replicate k m++a.drop k).set k m=List.replicate (k+1) m++a.drop (k+1):=by
 exact G'
theorem dz.cat{g:Nat}{a:List Value}(h:dz w g a.toArray):ql w (some ⟨g,0,none⟩) a:=by
 intro j u b;refine⟨g,0,rfl,?_⟩;rw[cN,h.cell];simpa using b
def Xv(v:Value):Prop:=∃m:UInt8,v=.int .u8 (m.toNat:Int)
def Ll(v:Value):Prop:=∃m:Int,v = Y m
def Xw(v:Value):Prop:=∃m:ByteArray,v=.string m
def tU(x:ic)(gB:Option Nat)(n:Nat):Prop:=∀b,x.on b->gB=some b\/n<=b
def rq(ok:World->ic->Prop)(base wb j:Nat)(Sm:TypeId)(mk:Value->Prop)(gB:Option Nat)(vb:Value)(cs:Array Value)(fV:List ic)(w w':World):Prop:=
 ∃x OP,mk x.mark/\dz w' wb (cs.setIfInBounds j OP)/\w'.ownsRow base Sm 5 OP (fV.length+1) (gX (fV++[x]))/\ok w' x/\iU w w' (λb=>b=wb\/vb.ownBlock=some b\/gB=some b)/\
  (∀b,OP.ownBlock=some b->vb.ownBlock=some b\/w.1.size<=b)/\∀b,x.on b->b≠wb/\OP.ownBlock≠some b/\(gB=some b\/w.1.size<=b)
theorem rq.push{ok:World->ic->Prop}{a f j:Nat}{A:TypeId}{D:Value->Prop}{o:Option Nat}{d h:Value}{B:Array Value}{t:List ic}{wr y q:World}{x:ic}{J:List Value}(P:∀k,d.ownBlock=some k->a<=k/\k<w.1.size)(Q:d.ownBlock≠some f)(S:f<w.1.size)(Fr:iU w wr (λb=>o=some b))(p:ok wr x)(u:∀W e,ok W x->(∀b,x.on b->e.1[b]?=W.1[b]?)->ok e x)(r:∀b,x.on b->b<wr.1.size)(T:x.cells=J)(n:tU x o w.1.size)(M:∀g,o=some g->g≠f/\d.ownBlock≠some g)(i:wr.grownBy y d.ownBlock)(k:y.grownBy q d.ownBlock)(L:dz q f B)(C:q.ownsRow a A 5 h (t.length+1) (gX t++J))(g:h.ownBlock=d.ownBlock\/h.ownBlock=some y.1.size)(v:D x.mark):rq ok a f j A D o d B t w (q.setCell (F f j) h):=by
 have U:=Fr.size
 have V:=i.size
 have W:=k.size
 have R:h.ownBlock≠some f:=by
  grind
 have m:∀b,x.on b->b≠f/\d.ownBlock≠some b:=by
  intro b g;rcases n b g with e|e
  .exact M b e
  grind
 refine⟨x,h,v,L.set j h,?_,?_,?_,?_,?_⟩
 .grind [RowKit.Below.heap_setCell,cB,Jk]
 .refine u _ _ p (λb g=>?_);have l:=r b g;rw[Below.heap_setCell _ _ _ _ (m b g).1,k.block b G fA,i.block b l fA]
 .refine⟨(k.os.trans i.os).trans Fr.os,(k.tape.trans i.tape).trans Fr.tape,(k.output.trans i.output).trans Fr.output,by rw[World.size_setCell];omega,λb g p=>?_⟩;rw[Below.heap_setCell _ _ _ _ (λe=>p (.inl e)),k.block b G fA,i.block b G fA,Fr.block b g (λe=>p (.inr (.inr e)))]
 .grind
 .intro b l;refine⟨(m b l).1,λe=>?_,n b l⟩;grind
set_option maxHeartbeats 2000000
open Proofs.Tryz
theorem C0{p:Prop}(h:p:=by intro u hu;simp at hu;rcases hu with rfl|rfl|rfl|rfl|rfl<;>rfl):p:=h
variable {n:Nat}{p:Option Pl}{u:Value}{w':World}
theorem Tryz.aib:(prog.info? 57).map (λi=>(i.zero,i.size,i.bytes))=some (some (.agg #[σ,σ,σ,σ,.int .u8 0]),5,104):=by kernel_rfl
theorem f'.set{f:Option Addr}{d:Nat}{e:E}(h:f' w (.slice f n d) p e)(k)(y)(g:k<e.length):∃b a,f=some ⟨b,a,none⟩/\w.c b (a+k)=some (U8 e[k])/\w.z b (a+k)=false/\f' (w.setCell (δ b (a+k)) (U8 y)) (.slice f n d) p (e.set k y)/\CF w (w.setCell (δ b (a+k)) (U8 y)) (Pl.has p):=by
 rcases h with⟨_,_,h⟩|⟨q,i,m,j,l,a,b⟩
 .subst h;simp at g
 .injection m with e1 e2 e3;subst e1 e3;have F:CF w (w.setCell (δ q.g (q.off+k)) (U8 y)) (Pl.has p):=(CF.refl _ _).setCell _ _ _ (λ_=>⟨q,i,rfl,by omega,by omega⟩);refine⟨q.g,q.off,rfl,b k _ (by simp[g]),a.frozen _,.inr ⟨q,i,by rw[eL,e2],by rw[eL];exact j,l,a.cf F,?_⟩,F⟩;rw[List.map_set];exact He b k _
theorem f'.marked{v:Value}{m:UInt8}(h:f' w v p (List.replicate n m))(r:n<=9223372036854775807):∃s,v=s.val/\s.2.1=n/\kU w (U8 m) s/\∀b,s.on b->∃q,p=some q/\q.g=b:=by
 rcases h with⟨g,rfl,h⟩|⟨q,g,rfl,k,l,o,f⟩
 .refine⟨(none,0,0),rfl,?_,⟨cS _,λj u a=>by simp at a⟩,?_⟩
  .have:=congrArg List.length h;simpa using this.symm
  .rintro b ⟨d,e,_⟩;cases e
 .refine⟨(some ⟨q.g,q.off,none⟩,(List.replicate n m).length,q.cap),rfl,fs,⟨by grind,λj u a=>⟨q.g,q.off,rfl,?_⟩⟩,?_⟩
  .have i:(List.replicate n (U8 m))[j]?=some u:=(by simpa using a);exact f j u fA
  .rintro b ⟨d,e,_⟩;grind
theorem kU.km{s:Sl}(h:kU w u s)(k:KM w w' u):kU w' u s:=by
 refine⟨h.1,λj x f=>?_⟩;obtain⟨b,a,d,e⟩:=h.2 j x f;have:x=u:=fA;subst this;exact⟨b,a,d,k b _ e⟩
theorem KM.refl(w)(u):KM w w u:=λ_ _ h=>h
theorem KM.trans{a b c:World}(h:KM a b u)(k:KM b c u):KM a c u:=λx y e=>k x y (h x y e)
theorem KM.bF{a b:World}(h:a.grownBy b none):KM a b u:=λ_ _ e=>h.cell e Z
theorem f'.km{b:Nat->Nat->Prop}{v:Value}{m:UInt8}(h:f' w v p (List.replicate n m))(k:KM w w' (U8 m))(f:CF w w' b):f' w' v p (List.replicate n m):=by
 rcases h with h|⟨q,o,r,d,g,i,l⟩
 .exact .inl h
 .refine .inr ⟨q,o,r,d,g,i.cf f,λj u a=>?_⟩;have:=l j u a;rw[List.map_replicate]at a;have e:u=U8 m:=fA;subst e;exact k _ _ this
def Pl.blk(p:Option Pl):Option Nat:=p.map (·.g)
theorem Pf(h:CF w w' (Pl.has p)):iU w w' (λb=>Pl.blk p=some b):=
 ⟨h.os,h.tape,h.output,h.size,λb d g=>h.block b d (λo e=>by obtain⟨q,f,a,_⟩:=e;exact g (by rw[f,a];rfl))⟩
theorem S9(d A n)(v)(p)(bs)(t)(vb)(cs)(w)(hW:dz w A cs)(D:cs[2]?=some vb)(l:w.ownsRow d 57 5 vb t.length (gX t))(ak:vb.ownBlock≠some A)(bb:d<=w.1.size)(hn:Hid (bs.length=n))(cm:n<=100000)(hO:f' w v p bs)(hB:∀g,Pl.blk p=some g->g≠A/\vb.ownBlock≠some g)(cl:(t.length+1)*112<=140737488355328):Calls prog 21 #[π A 2,v] w λe w'=>e=.returned (.tuple #[])/\rq ic.ok d A 2 57 Xv (Pl.blk p) vb cs t w w':=by
 obtain⟨i0,J,M,Q,S⟩:=info_parts Tryz.info5
 obtain⟨ie,bn,bf,bk,bl⟩:=info_parts Tryz.aib
 obtain⟨ab,cb,bu⟩:=bA l
 subst bu
 obtain⟨a,g,bx,ca,cc,_,_⟩:=hO.open hn
 subst bx
 have bc:=(hW.cell 2).trans D
 have ck:t.length<=140737488355328:=G
 obtain⟨m,b⟩:∃m:UInt8,m=UInt8.ofNat (t.length % 251):=⟨_,rfl⟩
 have HM:Hid ((t.length:Int) % 251=(m.toNat:Int)):=by show _=_;rw[b];exact Xo _
 clear b
 have HB:=I hB
 clear hB
 go_in
 go_wp2
 rw[HM]
 go_loopw [5] (λi wr=>∃k:Nat,k<=n/\i = Y k/\f' wr (.slice a n g) p (List.replicate k m++bs.drop k)/\CF w wr (Pl.has p)) (λi _=>n-(intOf i).toNat)
 case atStart=>grind [CF.refl]
 case round=>
  obtain⟨k,hk,rfl,r,y⟩:=hrel;by_cases hlt:k<n
  .have U:(k:Int)<(n:Int):=G;have L:(0:Int)<=(k:Int):=G;have gO:k<(List.replicate k m++bs.drop k).length:=(by have h:=hn.o;simp;omega);obtain⟨b,R,x,C,K,f,q⟩:=r.set k m gO;have j:=FY bs m k mT;rw[j]at f;subst x;have F2:=y.trans q (λ_ _ _ e=>e);have B:=I f;have T:=I F2;clear r y j f F2 q hO;go_wp2;go_roundw
   case rel=>exact⟨k+1,by omega,by go_num,B.o,T.o⟩
   case measure=>simp[intOf];omega
  .have bo:k=n:=G;subst bo;rw[List.drop_of_length_le kA,fS]at r
   have L:∀W:World,Src prog 1 37 (ς W.1.size 0 1 1) 1 ((List.replicate 1 m).map U8) (W.alloc (.cells #[.int .u8 (m.toNat:Int)] 5)):=
    λW=>sN (P:=prog) underlying37 _ 1 1 (List.replicate 1 m) rfl (fw _ _ _ _ rfl)
   have al:∀W:World,Src prog 1 37 (ς W.1.size 0 2 2) 2 ((List.replicate 2 m).map U8) (W.alloc (.cells #[.int .u8 (m.toNat:Int),.int .u8 (m.toNat:Int)] 5)):=
    λW=>sN (P:=prog) underlying37 _ 2 2 (List.replicate 2 m) rfl (fw _ _ _ _ rfl)
   have Dh:Hid ((List.replicate k m).length+1<=140737488355328):=(by show _<=_;simp;omega);have U:Hid ((List.replicate k m).length+2<=140737488355328):=(by show _<=_;simp;omega);have C:∀j,Hid (List.replicate k m++List.replicate j m=List.replicate (k+j) m):=λj=>List.replicate_append_replicate;clear bc hO;go_wp2_with (first|(at_builtin;refine mK _ rfl (.tmp 27) (.tmp 29) 37 37 rfl 5 i0 underlying37 J M Q S _ _ p m (List.replicate k m) 1 rfl rfl (r.grown (cx wr _ none)) 1 (L _) Dh ?_;intro v1 w1 x K;have q:=(r.grown (cx wr _ none)).km K x.cf)|(at_builtin;refine mK _ rfl (.tmp 31) (.tmp 34) 37 37 rfl 5 i0 underlying37 J M Q S _ _ p m (List.replicate k m) 2 rfl rfl (q.grown (cx w1 _ none)) 2 (al _) U ?_;intro v2 w2 B R;have f:=(q.grown (cx w1 _ none)).km R B.cf))
   rw[(C 1).o]at x;rw[(C 2).o]at B;have W:=x.before (cx wr _ none);have X:=B.before (cx w1 _ none);have ba:=(KM.bF (cx wr _ none)).trans K;have V:=(KM.bF (cx w1 _ none)).trans R;clear x B K R q;obtain⟨wo,bz⟩:∃wo,wo=wr:=⟨wr,rfl⟩
   subst bz;go_loopw [8,9] (λo i w3=>∃j:Nat,j<=64/\i = Y j/\aU w2 w3 o p (List.replicate (k+j) m)/\KM w2 w3 (U8 m)) (λ_ i _=>64-(intOf i).toNat)
   case atStart=>grind [aU.refl,KM.refl]
   case round=>
    obtain⟨j,hj,rfl,R3,T⟩:=hrel;by_cases i:j<64
    .obtain⟨p3,x,q⟩:=R3;have yj:=I q;have B:Hid ((List.replicate (k+j) m).length+1<=140737488355328):=(by show _<=_;simp;omega);clear q;go_wp2_with (at_builtin;refine mK _ rfl _ _ 37 37 rfl 5 i0 underlying37 J M Q S _ _ p3 m (List.replicate (k+j) m) 1 rfl rfl (x.grown (cx wr _ none)) 1 (L _) B ?_;intro v4 w4 R4 q)
     have R:aU w2 w4 v4 p (List.replicate (k+(j+1)) m):=by
      have:=aU.comp yj (R4.before (cx wr _ none)) Z;rw[List.replicate_append_replicate]at this;exact this
     have K:=T.trans ((KM.bF (cx wr _ none)).trans q);clear R4 q x yj T;go_wp2;go_roundw
     case rel=>exact⟨j+1,by omega,by go_num,R,K⟩
     case measure=>simp[intOf];omega
    .have Px:j=64:=G;subst Px;clear i hj L al Dh U C;have F1:=W.cf;have F2:=X.cf;have F3:=R3.cf;have FF:=((y.trans F1 (λ_ _ _ e=>e)).trans F2 (λ_ _ _ e=>e)).trans F3 (λ_ _ _ e=>e);have sA:=y.size;have sB:=F1.size;have sC:=F2.size;have sD:=F3.size;have Fr:=Pf FF;have F5:=hW.lt;have Xx:dz wr A cs:=(by grind [iU.block,Hid.o,dz.kept])
     have Dn:=cB l (λb hb=>Fr.block b (l.lt b hb).2 (λe=>(HB _ e).2 hb));have i:=f.km T F3;obtain⟨p1,o1,_,q1,_⟩:=W;obtain⟨p2,o2,_,q2,_⟩:=X;obtain⟨p3,o3,_,q3,_⟩:=R3;obtain⟨⟨z0,n0,c0⟩,an,bp,ah,K⟩:=i.marked G;obtain⟨⟨z1,n1,c1⟩,ao,bq,ai,af⟩:=o1.marked G;obtain⟨⟨z2,n2,c2⟩,ar,bt,aj,ag⟩:=o2.marked G;obtain⟨⟨z3,n3,c3⟩,au,Wq,Xy,F6⟩:=o3.marked G;have ad:=ai.km (V.trans T);have ae:=aj.km T;change Value.slice a k g=.slice z0 n0 c0 at an;change v1=.slice z1 n1 c1 at ao;change v2=.slice z2 n2 c2 at ar;change u8=.slice z3 n3 c3 at au;injection an with y1 y2 y3;subst y1 y2 y3 ao ar au;obtain⟨x,hx⟩:∃x:ic,x=⟨(a,k,g),(z1,n1,c1),(z2,n2,c2),(z3,n3,c3),.int .u8 (m.toNat:Int)⟩:=⟨_,rfl⟩
     have Dp:x.ok wr:=(by subst hx;exact⟨ah,ad,ae,Xy⟩);have HX:Hid (x.cells=[.slice a k g,.slice z1 n1 c1,.slice z2 n2 c2,.slice z3 n3 c3,.int .u8 (m.toNat:Int)]):=(by subst hx;rfl);have av:Hid (Xv x.mark):=(by subst hx;exact⟨_,rfl⟩);have ay:tU x (Pl.blk p) w.1.size:=by
      have bm:∀(pp)(B b),(pp=p\/Pl.fresh B pp)->w.1.size<=B->(∃q,pp=some q/\q.g=b)->Pl.blk p=some b\/w.1.size<=b:=by
       rintro pp B b h hB ⟨q,hq,e⟩;rcases h with h|h
       .left;rw[<-h,hq,<-e];rfl
       .right;have:=h q hq;omega
      intro b hb;rw[hx]at hb;rcases hb with h|h|h|h
      .exact bm p w.1.size b (.inl rfl) (cy _) (K b h)
      .grind
      .grind
      grind
     have sO:t.length+1<=maxLen:=kO;have Py:(t.length+1)*104<=140737488355328:=G;have cd:d<=wr.1.size:=G;have ch:=(Xx.cell 2).trans D;clear hx ah ai aj Xy ad ae K af ag F6 o1 o2 o3 q1 q2 q3 r f i bp bq bt Wq F1 F2 F3 FF y ba V T;go_wp2_with (at_builtin;refine dJ _ rfl _ _ 29 rfl d 57 ie _ 5 104 underlying29 bn bf bk bl rfl O _ _ _ rfl (Dn.alloc _) ⟨wr.1.size,0,none⟩ 1 1 [.slice a k g,.slice z1 n1 c1,.slice z2 n2 c2,.slice z3 n3 c3,.int .u8 (m.toNat:Int)] rfl rfl (gL wr _ _) C0 G sO Py j' ?_;intro OP w5 b B q;obtain⟨Xn,K,Jl⟩:=bA b;subst Jl;have i:=(Xx.alloc (.cells #[.slice a k g,.slice z1 n1 c1,.slice z2 n2 c2,.slice z3 n3 c3,.int .u8 (m.toNat:Int)] 57)).grown B (λe=>ak e.symm);have KR:=((i.cell 2).trans D);have cj:=i.frozen 2)
     have R:rq ic.ok d A 2 57 Xv (Pl.blk p) (.slice ab t.length cb) cs t w (w5.setCell (F A 2) (.slice Xn (t.length+1) K)):=rq.push l.lt ak F5 Fr Dp (by grind [ic.ok.keep]) (λ_ h=>Dp.lt h) HX.o ay HB.o (cx wr _ _) B i b q.o av.o;clear q b B i;go_end0;exact⟨rfl,R⟩
theorem Ks{p:Prop}(h:p:=by
 go_wp2
 go_round
 case rel=>exact⟨k+1,by omega,by go_num⟩
 case measure=>simp[intOf];omega):p:=h
theorem zf(n)(f)(a)(m)(w)(o:n<=9223372036854775807)(d:ql w f (List.replicate n (Y m:Value))):Calls Tryz.prog 12 #[.slice f n a,Y m] w λe b=>e=.returned (.bool true)/\w=b:=by
 go_enter Tryz.func12,Tryz.ntmps12
 go_wp2
 go_loop [5] (λi=>∃k:Nat,k<=n/\i = Y k) (λi=>n-(intOf i).toNat)
 case atStart=>exact⟨0,cS _,rfl⟩
 case round=>
  obtain⟨k,l,rfl⟩:=hrel;by_cases e:k<n
  .have i:(k:Int)<(n:Int):=G;have h:(0:Int)<=(k:Int):=G;obtain⟨b,j,rfl,g⟩:=d k _ (by rw[List.getElem?_replicate,dT e]);clear d;exact Ks
  .have i:¬ (k:Int)<(n:Int):=G;clear d;exact lO
theorem zg(n)(f)(a)(M)(w)(m:n<=9223372036854775807)(d:ql w f (List.replicate n (.string M:Value))):Calls Tryz.prog 13 #[.slice f n a,.string M] w λe b=>e=.returned (.bool true)/\w=b:=by
 go_enter Tryz.func13,Tryz.ntmps13
 go_wp2
 go_loop [5] (λi=>∃k:Nat,k<=n/\i = Y k) (λi=>n-(intOf i).toNat)
 case atStart=>exact⟨0,cS _,rfl⟩
 case round=>
  obtain⟨k,l,rfl⟩:=hrel;by_cases e:k<n
  .have i:(k:Int)<(n:Int):=G;have h:(0:Int)<=(k:Int):=G;obtain⟨b,j,rfl,g⟩:=d k _ (by rw[List.getElem?_replicate,dT e]);clear d;go_wp2;go_round
   case rel=>exact⟨k+1,by omega,by go_num⟩
   case measure=>simp[intOf];omega
  .have i:¬ (k:Int)<(n:Int):=G;clear d;exact lO
theorem wS(n)(f)(a)(m:UInt8)(w)(o:n<=9223372036854775807)(d:ql w f (List.replicate n (.int .u8 (m.toNat:Int):Value))):Calls Tryz.prog 11 #[.slice f n a,.int .u8 (m.toNat:Int)] w λe b=>e=.returned (.bool true)/\w=b:=by
 go_enter Tryz.func11,Tryz.ntmps11
 go_wp2
 go_loop [5] (λi=>∃k:Nat,k<=n/\i = Y k) (λi=>n-(intOf i).toNat)
 case atStart=>exact⟨0,cS _,rfl⟩
 case round=>
  obtain⟨k,l,rfl⟩:=hrel;by_cases e:k<n
  .have i:(k:Int)<(n:Int):=G;have h:(0:Int)<=(k:Int):=G;obtain⟨b,j,rfl,g⟩:=d k _ (by rw[List.getElem?_replicate,dT e]);clear d;go_wp2;go_round
   case rel=>exact⟨k+1,by omega,by go_num⟩
   case measure=>simp[intOf];omega
  .have i:¬ (k:Int)<(n:Int):=G;clear d;exact lO
structure ae4(w:World)(base:Nat)(Sm:TypeId)(v:Value)(l:List ic)(ae5:Value->Prop):Prop where
 row:w.ownsRow base Sm 5 v l.length (gX l)
 ok:∀x∈l,x.ok w
 mark:∀x∈l,ae5 x.mark
theorem ae4.grown{w f:World}{a:Nat}{d:TypeId}{v:Value}{l:List ic}{p:Value->Prop}(h:ae4 w a d v l p)(k:w.grownBy f none):ae4 f a d v l p:=
 ⟨h.row.kept k (eR _),λx e=>(h.ok x e).keep (λb g=>k.block b ((h.ok x e).lt g) Z),h.mark⟩
section
variable {S:Type}{C:S->Nat->World->Prop}{qz:S->Nat->Nat->Prop}
theorem FL{p:Prop}(h:p:=by
 have q:=(ho j e2).2 b hj
 rcases(hf i b e hi).2.2 with⟨k,hk,r⟩|r
 .exact absurd (by rw[h.one j k b q r];exact hk) e2
 .exact absurd q (r j)):p:=h
theorem Hb{p:Prop}(h:p:=by
 rcases(hf j b e2 hj).2.2 with⟨k,hk,r⟩|r
 .exact absurd (by rw[h.one i k b p r];exact hk) e
 .exact absurd p (r i)):p:=h
theorem DA{p:Prop}(h:p:=by
 by_cases e:K j
 .exact hc j e
 .exact(ho j e).1 (L s j w w' (h.here j) (hkeep j e))):p:=h
theorem DS{p:Prop}(h:p:=by
 by_cases e:K j
 .exact(hf j b e hb).2.1
 .have:=h.lt j b ((ho j e).2 b hb);omega):p:=h
theorem Sep.acts(L:BA C qz){B:Nat}{s a:S}{w w':World}(h:Sep C qz B s w)(K:Nat->Prop)(g:Nat->Prop)(f:iU w w' g)(m:∀b,g b->(∃k,K k/\qz s k b)\/∀j,¬ qz s j b)(hc:∀k,K k->C a k w')(hf:∀k b,K k->qz a k b->B<=b/\b<w'.1.size/\((∃j,K j/\qz s j b)\/∀j,¬ qz s j b))(l:∀i j b,K i->K j->qz a i b->qz a j b->i=j)(ho:∀j,¬ K j->(C s j w'->C a j w')/\∀b,qz a j b->qz s j b):Sep C qz B a w':=by
 have z:=f.size
 have d:=h.room
 have hkeep:∀j,¬ K j->∀b,qz s j b->w'.1[b]?=w.1[b]?:=λj hj b hb=>f.block b (h.lt j b hb) (λe=>by
  rcases m b e with⟨k,hk,e2⟩|e2
  .exact hj (by rw[h.one j k b hb e2];exact hk)
  .exact e2 j hb)
 refine⟨λj=>?_,λj b hb=>?_,λj b hb=>?_,λi j b hi hj=>?_,by omega⟩
 .exact DA
 .exact DS
 .by_cases e:K j
  .exact(hf j b e hb).1
  .exact h.base j b ((ho j e).2 b hb)
 .by_cases e:K i
  .by_cases e2:K j
   .exact l i j b e e2 hi hj
   .exact FL
  .have p:=(ho i e).2 b hi;by_cases e2:K j
   .exact Hb
   .exact h.one i j b p ((ho j e2).2 b hj)
end
structure TN where
 P:World->Prop
 foot:Nat->Prop
 loc:∀w w',P w->(∀b,foot b->w'.1[b]?=w.1[b]?)->P w'
def TN.emp:TN:=⟨λ_=>True,λ_=>False,λ_ _ _ _=>trivial⟩
structure WD(PP QP:Type) where
 pv:Value
 qv:Value
 bv:Value
 iv:Value
 sv:Value
 dv:Value
 ps:List PP
 qs:List QP
 eb:List ic
 ei:List ic
 es:List ic
 ed:List ic
abbrev WD.cells{PP QP:Type}(d:WD PP QP):Array Value:=#[d.pv,d.qv,d.bv,d.iv,d.sv,d.dv]
structure Hz(PP QP:Type) where
 pas:PP->TN
 pb:PP->Nat
 qas:QP->TN
 qb:QP->Nat
def mA(b:Nat):Value:=π b 0
def lQ(w:World)(m:Value)(s:Sl):Prop:=s.2.1<=9223372036854775807/\ql w s.1 (List.replicate s.2.1 [σ,m]).flatten
def ic.okD(w:World)(x:ic):Prop:=lQ w x.mark x.l/\lQ w x.mark x.one/\lQ w x.mark x.two/\lQ w x.mark x.three
def abz.on(l:List ic)(b:Nat):Prop:=∃x∈l,x.on b
variable {PP QP:Type}(D:Hz PP QP)(base wb:Nat)
def WD.C(d:WD PP QP)(k:Nat)(w:World):Prop:=
 match k with
 |0=>dz w wb d.cells
 |1=>w.ownsRow base 51 1 d.pv d.ps.length (d.ps.map λp=>mA (D.pb p))
 |2=>w.ownsRow base 54 1 d.qv d.qs.length (d.qs.map λq=>mA (D.qb q))
 |3=>w.ownsRow base 57 5 d.bv d.eb.length (gX d.eb)
 |4=>∀x∈d.eb,x.ok w/\Xv x.mark
 |5=>w.ownsRow base 60 5 d.iv d.ei.length (gX d.ei)
 |6=>∀x∈d.ei,x.ok w/\Ll x.mark
 |7=>w.ownsRow base 64 5 d.sv d.es.length (gX d.es)
 |8=>∀x∈d.es,x.ok w/\Xw x.mark
 |9=>w.ownsRow base 68 5 d.dv d.ed.length (gX d.ed)
 |10=>∀x∈d.ed,x.okD w/\Ll x.mark
 |k+11=>if k % 2=0 then ∀p,d.ps[k / 2]?=some p->(D.pas p).P w else ∀q,d.qs[k / 2]?=some q->(D.qas q).P w
def WD.F(d:WD PP QP)(k b:Nat):Prop:=
 match k with
 |0=>b=wb
 |1=>d.pv.ownBlock=some b
 |2=>d.qv.ownBlock=some b
 |3=>d.bv.ownBlock=some b
 |4=>abz.on d.eb b
 |5=>d.iv.ownBlock=some b
 |6=>abz.on d.ei b
 |7=>d.sv.ownBlock=some b
 |8=>abz.on d.es b
 |9=>d.dv.ownBlock=some b
 |10=>abz.on d.ed b
 |k+11=>if k % 2=0 then ∃p,d.ps[k / 2]?=some p/\(D.pas p).foot b else ∃q,d.qs[k / 2]?=some q/\(D.qas q).foot b
theorem lQ.keep{w w':World}{m:Value}{s:Sl}(h:lQ w m s)(k:∀b,s.on b->w'.1[b]?=w.1[b]?):lQ w' m s:=by
 refine⟨h.1,λj u f=>?_⟩;obtain⟨b,d,g,i⟩:=h.2 j u f;have l:0<s.2.1:=by
  rcases Nat.eq_zero_or_pos s.2.1 with e|e
  .rw[e]at f;simp at f
  .exact e
 refine⟨b,d,g,?_⟩;rw[World.cell?_of_block (w:=w) (w':=w') (a:=⟨b,d+j,none⟩) (k b ⟨d,g,l⟩)];exact i
theorem WD.loc:BA (WD.C D base wb) (WD.F D wb):=by
 intro d k w j h f;have i:∀{e:TypeId}{size:Nat}{v:Value}{n:Nat}{g:List Value},w.ownsRow base e size v n g->(∀b,v.ownBlock=some b->j.1[b]?=w.1[b]?)->j.ownsRow base e size v n g:=λa b=>cB a b;match k,h,f with
 |0,h,f=>exact dz.kept h (f wb rfl)
 |1,h,f=>exact i h f
 |2,h,f=>exact i h f
 |3,h,f=>exact i h f
 |4,h,f=>exact λx a=>⟨(h x a).1.keep (λb g=>f b ⟨x,a,g⟩),(h x a).2⟩
 |5,h,f=>exact i h f
 |6,h,f=>exact λx a=>⟨(h x a).1.keep (λb g=>f b ⟨x,a,g⟩),(h x a).2⟩
 |7,h,f=>exact i h f
 |8,h,f=>exact λx a=>⟨(h x a).1.keep (λb g=>f b ⟨x,a,g⟩),(h x a).2⟩
 |9,h,f=>exact i h f
 |10,h,f=>exact λx a=>⟨⟨(h x a).1.1.keep (λb g=>f b ⟨x,a,.inl g⟩),(h x a).1.2.1.keep (λb g=>f b ⟨x,a,.inr (.inl g)⟩),(h x a).1.2.2.1.keep (λb g=>f b ⟨x,a,.inr (.inr (.inl g))⟩),(h x a).1.2.2.2.keep (λb g=>f b ⟨x,a,.inr (.inr (.inr g))⟩)⟩,(h x a).2⟩
 |k+11,h,f=>
  simp only[WD.C,WD.F]at h f⊢;by_cases e:k % 2=0
  .rw[dT e]at h⊢;simp only[e,if_true]at f;exact λp a=>(D.pas p).loc w j (h p a) (λb g=>f b ⟨p,a,g⟩)
  .rw[cZ e]at h⊢;simp only[e,if_false]at f;exact λq a=>(D.qas q).loc w j (h q a) (λb g=>f b ⟨q,a,g⟩)
abbrev Pz(d:WD PP QP)(w:World):Prop:=Sep (WD.C D base wb) (WD.F D wb) base d w
variable {D base wb}
theorem Pz.grown{d:WD PP QP}{w a:World}(h:Pz D base wb d w)(g:w.grownBy a none):Pz D base wb d a:=Sep.grown (WD.loc D base wb) h g
theorem Pz.below{d:WD PP QP}{w i:World}{e:Nat->Prop}{a:World}(h:Pz D base wb d a)(g:Below base a w)(f:iU w i e)(j:∀b,e b->base<=b):Below base a i:=g.trans (f.below (by have:=h.room;have:=g.size;omega) j)
end Go.Proofs.YtlfifnpjeangmaaGreatDoor
namespace Go.Proofs.YtlfifnpjeangmaaGreatDoor
open Go.RowKit
set_option maxRecDepth 100000
variable {PP QP:Type}{D:Hz PP QP}{base wb:Nat}
theorem Dq{base:Nat}{w a:World}(h:w.grownBy a none)(b:base<=w.1.size):Below base w a:=⟨h.os,h.tape,h.output,h.size,λk d=>h.block k G Z⟩
structure More(D:Hz PP QP)(base wb c:Nat)(d:WD PP QP)(w w':World):Prop where
 sep:∃d',Pz D base wb d' w'/\d'.ps=d.ps/\d'.qs=d.qs/\d'.eb.length<=d.eb.length+c/\d'.ei.length<=d.ei.length+c/\d'.es.length<=d.es.length+c/\d'.dv=d.dv/\d'.ed=d.ed
 below:Below base w w'
theorem More.before{c:Nat}{d:WD PP QP}{a w b:World}(h:More D base wb c d w b)(g:a.grownBy w none)(e:base<=a.1.size):More D base wb c d a b:=⟨h.sep,(Dq g e).trans h.below⟩
theorem More.none{d:WD PP QP}{w a:World}(c:Nat)(h:Pz D base wb d w)(g:w.grownBy a none):More D base wb c d w a:=
 ⟨⟨d,h.grown g,rfl,rfl,by omega,by omega,by omega,rfl,rfl⟩,Dq g h.room⟩
theorem f'.xL{w w':World}{g:Nat->Prop}{v:Value}{p:Option Pl}{d:E}(h:f' w v p d)(f:iU w w' g)(x:∀q,p=some q->¬ g q.g):f' w' v p d:=by
 rcases h with h|⟨q,l,t,m,n,i,o⟩
 .exact .inl h
 .have k:w'.1[q.g]?=w.1[q.g]?:=f.block q.g i.lt (x q l);obtain⟨b,e,y,A⟩:=i;refine .inr ⟨q,l,t,m,n,⟨b,e,k.trans y,A⟩,λj u r=>?_⟩;rw[World.cell?_of_block (w:=w) (w':=w') (a:=⟨q.g,q.off+j,none⟩) k];exact o j u r
theorem gU.o{w:World}{g n:Nat}{a:E}(h:gU w g n a)(b:Hid (a.length=n)):f' w (ς g 0 n n) (some ⟨g,0,n⟩) a:=by
 obtain⟨d,e⟩:=f'.buf h;exact .inr ⟨_,rfl,by rw[b],by rw[b];exact cy _,h.maxLen,by simpa using d,e⟩
theorem f'.at'{w:World}{f:Option Addr}{n d:Nat}{p:Option Pl}{b:E}(h:f' w (.slice f n d) p b)(i:Hid (b.length=n)):At w f b:=by
 obtain⟨a,c,e,_,_,g,_⟩:=h.open i;injection e with e1 e2 e3;subst e1;exact g
theorem Tryz.Jm:(Tryz.prog.info? 48).map (·.size)=some 41:=by kernel_rfl
theorem wpList_load_at{P:Program}{l:Array Oper}{e:List Oper}{o:Oper}{a:Act}{w:World}{Q:Exit->Act->World->Prop}(m:o.guard=none)(f:TypeId)(x:Operand)(u:o.op=.load f x)(g:Addr)(A:a.eval x=.pointer (some g))(b:Array Value)(d:TypeDesc)(t:∀j v,b.toList[j]?=some v->w.cell? (g.add j)=some v)(y:P.underlying f=some d)(B:(match d with|.struct _|.array _ _=>true|_=>false)=true)(p:(P.info? f).map (·.size)=some b.size)(h:wpList P l Q e (a.put o.dst (.agg b)) w):wpList P l Q (o::e) a w:=by
 refine wpList_plain m λK r=>?_
 have q:(loadCells g b.toList.length).run P w=.ok b.toList.toArray w:=run_loadCells_list (P:=P) w g b.toList t
 have k:(loadVar f g).run P w=.ok (.agg b) w:=by
  cases n:P.info? f with
  |none=>simp[n]at p
  |some i=>
   have v:i.size=b.size:=(by simpa[n]using p);have j:(isAgg f).run P w=.ok true w:=by
    unfold isAgg;rw[Sem.run_bind,run_underlying y w];cases d<;>simp_all
   simp only[cV,Array.toArray_toList]at q;simp[loadVar,Sem.run_bind,j,sizeOf,typeInfo,n,v,q]
 unfold Oper.wp execOp
 simp only[u,A,Instr.loadAt,Instr.sureAddr,Sem.run_bind,Sem.run_pure,Result.andThen_ok,k]
 exact r _ _ h
set_option maxHeartbeats 2000000
open Proofs.Tryz
theorem vi{p:Prop}(h:p:=by cases h:v1.ownBlock<;>simp):p:=h
theorem Tryz.agQ:(prog.info? 3).map (λi=>(i.zero,i.size,i.bytes))=some (some (Y 0),1,8):=by kernel_rfl
theorem Tryz.adw:(prog.info? 60).map (λi=>(i.zero,i.size,i.bytes))=some (some (.agg #[σ,σ,σ,σ,Y 0]),5,104):=by kernel_rfl
theorem Jw{p:Prop}(h:p:=by
 go_wp2
 go_roundw
 case rel=>exact⟨1,by omega,by go_num,.inr ⟨by omega,R.1⟩,R.2⟩
 case measure=>simp[intOf]):p:=h
theorem Of(l P n)(a)(X:List Value)(t)(vb)(cs)(B)(w)(hW:dz w P cs)(V:cs[3]?=some vb)(r:w.ownsRow l 60 5 vb t.length (gX t))(ah:vb.ownBlock≠some P)(ay:l<=w.1.size)(hn:Hid (X.length=n))(cm:n<=100000)(ha:Hid (a=none->n=0))(hB:Hid ((n=0/\B=none)\/∃g,B=some g/\a=some ⟨g,0,none⟩/\0<n/\dz w g X.toArray/\g≠P/\vb.ownBlock≠some g))(cl:(t.length+1)*112<=140737488355328):Calls prog 39 #[π P 2,.slice a n n] w λe b=>e=.returned (.tuple #[])/\rq ic.ok l P 3 60 Ll B vb cs t w b:=by
 obtain⟨i0,J,K,L,M⟩:=info_parts Tryz.agQ
 obtain⟨ie,bl,bc,bf,bk⟩:=info_parts Tryz.adw
 obtain⟨ab,cb,bq⟩:=bA r
 subst bq
 have bb:=(hW.cell 3).trans V
 have ck:t.length<=140737488355328:=aZ
 obtain⟨m,b⟩:∃m:Int,m=-1000-(t.length:Int):=⟨_,rfl⟩
 have HM:=I b.symm
 clear b
 obtain⟨w0,b⟩:=aw w
 have T:w.grownBy w0 none:=by rw[b];exact cC _ _
 go_in
 go_wp2
 rw[HM]
 rw[<-b]
 clear b
 have cn:=T.size
 go_loopw [5] (λi wr=>∃k:Nat,k<=n/\i = Y k/\w.grownBy wr B/\(∀g,B=some g->dz wr g (List.replicate k (Y m:Value)++X.drop k).toArray)) (λi _=>n-(intOf i).toNat)
 case atStart=>
  refine⟨0,cS _,rfl,Jf T,?_⟩;intro g b;rcases hB.o with⟨q,v⟩|⟨g',q,v,f,d,_⟩
  .rw[v]at b;cases b
  .rw[q]at b;cases b;simpa using d.grown T Z
 case round=>
  obtain⟨k,hk,rfl,D,C⟩:=hrel;by_cases hlt:k<n
  .obtain⟨g,d,x⟩:∃g,B=some g/\a=some ⟨g,0,none⟩:=by
    rcases hB.o with⟨q,v⟩|⟨g,q,v,_⟩
    .omega
    .exact⟨g,q,v⟩
   have p:=C g d;subst d x;have gO:k<(List.replicate k (Y m:Value)++X.drop k).length:=(by have h:=hn.o;simp;omega);obtain⟨u,y⟩:∃u,(List.replicate k (Y m:Value)++X.drop k)[k]?=some u:=⟨_,cL gO⟩
   have f:=(p.cell k).trans (by simpa using y);have A:=p.frozen k;have R:dz (wr.setCell (F g k) (Y m:Value)) g (List.replicate (k+1) (Y m:Value)++X.drop (k+1)).toArray:=by
    have:=p.set k (Y m:Value);rw[<-Sk X (Y m:Value) k mT];simpa using this
   have G:=yZ (j:=k) (u:=(Y m:Value)) D;clear C D p y gO;go_wp2;go_roundw
   case rel=>exact⟨k+1,by omega,by go_num,G,λg b=>by cases b;exact R⟩
   case measure=>simp[intOf];omega
  .have bm:k=n:=aZ;subst bm;have yl:ql wr a (List.replicate k (Y m:Value)):=by
    rcases hB.o with⟨q,v⟩|⟨g,q,v,_⟩
    .subst q;intro j u y;simp at y
    .have p:=C g q;rw[List.drop_of_length_le (by rw[hn];omega),fS]at p;rw[v];exact p.cat
   have U:Hid ((List.replicate k (Y m:Value)).length=k):=fs;have ad:k+1<=1000000:=aZ;have av:k+2<=1000000:=aZ;have f:∀u∈[(Y m:Value)],u.oneCell'=true:=(by intro u y;rw[ew.1 y];rfl);have A:∀u∈[(Y m:Value),(Y m:Value)],u.oneCell'=true:=(by intro u y;simp at y;rw[y];rfl);have Fj:=I f;have ar:=I A;clear C bb f A;go_wp2_with (first|(at_builtin;refine lN _ rfl (.tmp 26) (.tmp 28) 24 rfl 3 i0 _ 8 underlying24 J K L M rfl a k (List.replicate k (Y m:Value)) rfl U ha (yl.below (cx _ _ _)) wr.1.size 1 [(Y m:Value)] rfl (Nat.succ_pos _) (o9 wr _ _) Fj ad O ?_;intro v1 w1 f d;have W:=aa (cx wr _ none) d;have jm:=yl.below W)|(at_builtin;refine lN _ rfl (.tmp 30) (.tmp 33) 24 rfl 3 i0 _ 8 underlying24 J K L M rfl a k (List.replicate k (Y m:Value)) rfl U ha (jm.below (cx _ _ _)) w1.1.size 2 [(Y m:Value),(Y m:Value)] rfl (Nat.succ_pos _) (o9 w1 _ _) ar av O ?_;intro v2 S A x;have Q:=aa (cx w1 _ none) x;have nk:=jm.below Q))
   have kQ:=f.kept Q vi;have ao:=aa W Q;have bu:=W.size;have bx:=Q.size;have bz:=D.size;clear f d x yl jm W Q;obtain⟨wo,bs⟩:∃wo,wo=wr:=⟨wr,rfl⟩
   subst bs;go_loopw [8,9] (λo i w3=>∃j:Nat,j<=64/\i = Y j/\((j=0/\o=.slice a k k)\/(0<j/\w3.ownsRow S.1.size 3 1 o (k+j) (List.replicate (k+j) (Y m:Value))))/\S.grownBy w3 none) (λ_ i _=>64-(intOf i).toNat)
   case atStart=>exact⟨0,by omega,rfl,.inl ⟨rfl,rfl⟩,cC _ _⟩
   case round=>
    obtain⟨j,hj,rfl,ho,f⟩:=hrel;have ca:=f.size;by_cases W:j<64
    .have ba:k+j+1<=maxLen:=kO;have au:(k+j+1)*8<=140737488355328:=aZ;rcases ho with⟨ae,bp⟩|⟨ae,d⟩
     .subst ae bp;have mM:=nk.below f;go_wp2_with (at_builtin;refine lN _ rfl _ _ 24 rfl 3 i0 _ 8 underlying24 J K L M rfl a k (List.replicate k (Y m:Value)) rfl U ha (mM.below (cx _ _ _)) wr.1.size 1 [(Y m:Value)] rfl (Nat.succ_pos _) (o9 wr _ _) Fj ad O ?_;intro v4 w4 iV x)
      have R:w4.ownsRow S.1.size 3 1 v4 (k+1) (List.replicate (k+1) (Y m:Value))/\S.grownBy w4 none:=⟨dC (by rw[<-su];exact iV) j',aa (aM f _) x⟩
      clear iV x mM f;exact Jw
     .have Q:=o9 wr #[(Y m:Value)] 3;go_wp2_with (at_builtin;refine fH _ rfl _ _ 24 rfl S.1.size 3 i0 _ 1 8 underlying24 J K L M rfl O _ _ _ rfl (d.alloc _) (some ⟨wr.1.size,0,none⟩) 1 1 [(Y m:Value)] rfl rfl Q qC Fj ba au j' ?_;intro v4 w4 iV x)
      have R:w4.ownsRow S.1.size 3 1 v4 (k+(j+1)) (List.replicate (k+(j+1)) (Y m:Value))/\S.grownBy w4 none:=⟨by rw[<-gi,<-su (k+j) 1 (Y m:Value)];exact iV,gD (aM f _) x (λi hi=>(d.lt i hi).1)⟩
      clear iV x f d Q;go_wp2;go_roundw
      case rel=>exact⟨j+1,by omega,by go_num,.inr ⟨by omega,R.1⟩,R.2⟩
      case measure=>simp[intOf];omega
    .have Px:j=64:=aZ;subst Px;have d:wr.ownsRow S.1.size 3 1 u8 (k+64) (List.replicate (k+64) (Y m:Value)):=by
      rcases ho with⟨h,_⟩|⟨_,h⟩
      .omega
      .exact h
     clear ho W hj;have K3:=aa ao f;have wH:=kQ.kept f vi;have wI:=A.kept f (by cases h:v2.ownBlock<;>simp);have mM:=nk.below f;clear kQ A nk f;have Fo:=iU.bF D;have Fr:=Fo.trans (iU.lM K3 _);have F5:=hW.lt;have Ab:∀g,B=some g->g≠P/\(Value.slice ab t.length cb).ownBlock≠some g:=by
      intro g b;rcases hB.o with⟨_,v⟩|⟨g',q,_,_,_,i,x⟩
      .rw[v]at b;cases b
      .rw[q]at b;cases b;exact⟨i,x⟩
     have Xx:=hW.kept (Fr.block P F5 (λe=>(Ab _ e).1 rfl));have Dn:=cB r (λb hb=>Fr.block b (r.lt b hb).2 (λe=>(Ab _ e).2 hb));have cc:=K3.size;obtain⟨⟨p1,n1,c1⟩,ai,bn,af,i⟩:=mX (n:=k+1) (m:=(Y m:Value)) (by rw[<-su];exact wH) aZ;obtain⟨⟨p2,n2,c2⟩,aj,bo,ag,Q⟩:=mX (n:=k+2) (m:=(Y m:Value)) (by rw[<-su];exact wI) aZ;obtain⟨⟨p3,n3,c3⟩,ak,Wq,Xy,F6⟩:=mX (n:=k+64) (m:=(Y m:Value)) d aZ;change v1=.slice p1 n1 c1 at ai;change v2=.slice p2 n2 c2 at aj;change u8=.slice p3 n3 c3 at ak;subst ai aj ak;obtain⟨x,hx⟩:∃x:ic,x=⟨(a,k,k),(p1,n1,c1),(p2,n2,c2),(p3,n3,c3),(Y m:Value)⟩:=⟨_,rfl⟩
     have Dp:x.ok wr:=(by subst hx;exact⟨⟨by show k<=_;omega,mM⟩,af,ag,Xy⟩);have HX:Hid (x.cells=[.slice a k k,.slice p1 n1 c1,.slice p2 n2 c2,.slice p3 n3 c3,(Y m:Value)]):=(by subst hx;rfl);have al:Hid (Ll x.mark):=(by subst hx;exact⟨_,rfl⟩);have an:tU x B w.1.size:=by
      intro b hb;rw[hx]at hb;rcases hb with h|h|h|h
      .obtain⟨bt,e1,e2⟩:=h;rcases hB.o with⟨q,_⟩|⟨g,q,v,_⟩
       .have cd:0<k:=e2;omega
       .have Xu:a=some ⟨b,bt,none⟩:=e1;rw[v]at Xu;simp at Xu;exact .inl (by rw[q,Xu.1])
      .have:=(i b h).2;simp at this;exact .inr aZ
      .have:=(Q b h).2;simp at this;exact .inr aZ
      .have:=(F6 b h).2;exact .inr aZ
     have sO:t.length+1<=maxLen:=kO;have Py:(t.length+1)*104<=140737488355328:=aZ;have p:l<=wr.1.size:=aZ;have ch:=(Xx.cell 3).trans V;have v:=I Ab;clear hx af ag Xy i Q F6 wH wI d mM bn bo Wq Ab;go_wp2_with (at_builtin;refine dJ _ rfl _ _ 30 rfl l 60 ie _ 5 104 underlying30 bl bc bf bk rfl O _ _ _ rfl (Dn.alloc _) ⟨wr.1.size,0,none⟩ 1 1 [.slice a k k,.slice p1 n1 c1,.slice p2 n2 c2,.slice p3 n3 c3,(Y m:Value)] rfl rfl (gL wr _ _) (by intro u y;simp at y;rcases y with rfl|rfl|rfl|rfl|rfl<;>rfl) aZ sO Py j' ?_;intro OP w5 b q i;obtain⟨Xn,Q,Jl⟩:=bA b;subst Jl;have g:=(Xx.alloc (.cells #[.slice a k k,.slice p1 n1 c1,.slice p2 n2 c2,.slice p3 n3 c3,(Y m:Value)] 60)).grown q (λe=>ah e.symm);have KR:=((g.cell 3).trans V);have cj:=g.frozen 3)
     have R:rq ic.ok l P 3 60 Ll B (.slice ab t.length cb) cs t w (w5.setCell (F P 3) (.slice Xn (t.length+1) Q)):=rq.push r.lt ah F5 Fr Dp (λ_ _ h k=>ic.ok.keep h k) (λ_ h=>Dp.lt h) HX an v (cx wr _ _) q g b i al.o;clear i b q g;go_end0;exact⟨rfl,R⟩
theorem Tryz.agT:(prog.info? 9).map (λi=>(i.zero,i.size,i.bytes))=some (some ε,1,16):=by kernel_rfl
theorem Tryz.adx:(prog.info? 64).map (λi=>(i.zero,i.size,i.bytes))=some (some (.agg #[σ,σ,σ,σ,ε]),5,112):=by kernel_rfl
theorem N6(p S n)(a)(vs:List Value)(d)(vb)(cs)(B)(w)(hW:dz w S cs)(X:cs[4]?=some vb)(t:w.ownsRow p 64 5 vb d.length (gX d))(ai:vb.ownBlock≠some S)(ba:p<=w.1.size)(hn:Hid (vs.length=n))(cn:n<=100000)(ha:Hid (a=none->n=0))(hB:Hid ((n=0/\B=none)\/∃g,B=some g/\a=some ⟨g,0,none⟩/\0<n/\dz w g vs.toArray/\g≠S/\vb.ownBlock≠some g))(cm:(d.length+1)*112<=140737488355328):Calls prog 38 #[π S 2,.slice a n n] w λe b=>e=.returned (.tuple #[])/\rq ic.ok p S 4 64 Xw B vb cs d w b:=by
 obtain⟨i0,J,K,L,Q⟩:=info_parts Tryz.agT
 obtain⟨ie,bm,bf,bk,bl⟩:=info_parts Tryz.adx
 obtain⟨ab,cb,bs⟩:=bA t
 subst bs
 have bc:=(hW.cell 4).trans X
 have cl:d.length<=140737488355328:=aZ
 have f:#[Value.int IntKind.u8 ((d.length:Int) % 251),Value.int IntKind.u8 ((d.length:Int) / 251 % 256)].toList=[UInt8.ofNat (d.length % 251),UInt8.ofNat (d.length / 251 % 256)].map U8:=by
  simp only[eE,fy,U8,eo];rw[ez (show d.length % 251<2 ^ 8 by omega),ez (show d.length / 251 % 256<2 ^ 8 by omega)];simp
 have i:At (w.alloc (.cells #[.int .u8 ((d.length:Int) % 251),.int .u8 ((d.length:Int) / 251 % 256)] 5)).drew (some ⟨w.1.size,0,none⟩) [UInt8.ofNat (d.length % 251),UInt8.ofNat (d.length / 251 % 256)]:=fw w 5 _ _ f
 have b:=iq (P:=prog) (w.alloc (.cells #[.int .u8 ((d.length:Int) % 251),.int .u8 ((d.length:Int) / 251 % 256)] 5)).drew 37 9 5 underlying37 underlying5 underlying9 (some ⟨w.1.size,0,none⟩) 2 [UInt8.ofNat (d.length % 251),UInt8.ofNat (d.length / 251 % 256)] i
 simp only[de,List.length_nil,cN]at b
 obtain⟨M,k⟩:∃M:ByteArray,M=⟨[UInt8.ofNat (d.length % 251),UInt8.ofNat (d.length / 251 % 256)].toArray⟩:=⟨_,rfl⟩
 rw[<-k]at b
 clear k f i
 obtain⟨w0,f⟩:=aw ((w.alloc (.cells #[.int .u8 ((d.length:Int) % 251),.int .u8 ((d.length:Int) / 251 % 256)] 5)).drew)
 have V:w.grownBy w0 none:=by rw[f];exact bg (cx w _ _)
 have i:=I f
 clear f
 go_in
 go_wp2_with fail
 go_region
 rw[<-i]
 clear b i
 go_wp2
 have cp:=V.size
 go_loopw [5] (λi wr=>∃k:Nat,k<=n/\i = Y k/\w.grownBy wr B/\(∀g,B=some g->dz wr g (List.replicate k (.string M:Value)++vs.drop k).toArray)) (λi _=>n-(intOf i).toNat)
 case atStart=>
  refine⟨0,cS _,rfl,Jf V,?_⟩;intro g b;rcases hB.o with⟨r,v⟩|⟨g',r,v,l,f,_⟩
  .rw[v]at b;cases b
  .rw[r]at b;cases b;simpa using f.grown V Z
 case round=>
  obtain⟨k,hk,rfl,D,C⟩:=hrel;by_cases hlt:k<n
  .obtain⟨g,f,x⟩:∃g,B=some g/\a=some ⟨g,0,none⟩:=by
    rcases hB.o with⟨r,v⟩|⟨g,r,v,_⟩
    .omega
    .exact⟨g,r,v⟩
   have q:=C g f;subst f x;have gO:k<(List.replicate k (.string M:Value)++vs.drop k).length:=(by have h:=hn.o;simp;omega);obtain⟨u,y⟩:∃u,(List.replicate k (.string M:Value)++vs.drop k)[k]?=some u:=⟨_,cL gO⟩
   have l:=(q.cell k).trans (by simpa using y);have A:=q.frozen k;have R:dz (wr.setCell (F g k) (.string M:Value)) g (List.replicate (k+1) (.string M:Value)++vs.drop (k+1)).toArray:=by
    have:=q.set k (.string M:Value);rw[<-Sk vs (.string M:Value) k mT];simpa using this
   have G:=yZ (j:=k) (u:=(.string M:Value)) D;clear C D q y gO;go_wp2;go_roundw
   case rel=>exact⟨k+1,by omega,by go_num,G,λg b=>by cases b;exact R⟩
   case measure=>simp[intOf];omega
  .have bn:k=n:=aZ;subst bn;have yl:ql wr a (List.replicate k (.string M:Value)):=by
    rcases hB.o with⟨r,v⟩|⟨g,r,v,_⟩
    .subst r;intro j u y;simp at y
    .have q:=C g r;rw[List.drop_of_length_le (by rw[hn];omega),fS]at q;rw[v];exact q.cat
   have W:Hid ((List.replicate k (.string M:Value)).length=k):=fs;have ae:k+1<=1000000:=aZ;have ay:k+2<=1000000:=aZ;have l:∀u∈[(.string M:Value)],u.oneCell'=true:=(by intro u y;rw[ew.1 y];rfl);have A:∀u∈[(.string M:Value),(.string M:Value)],u.oneCell'=true:=(by intro u y;simp at y;rw[y];rfl);have Fj:=I l;have au:=I A;clear C bc l A;go_wp2_with (first|(at_builtin;refine lN _ rfl (.tmp 36) (.tmp 38) 62 rfl 9 i0 _ 16 underlying62 J K L Q rfl a k (List.replicate k (.string M:Value)) rfl W ha (yl.below (cx _ _ _)) wr.1.size 1 [(.string M:Value)] rfl (Nat.succ_pos _) (o9 wr _ _) Fj ae O ?_;intro v1 w1 l f;have K1:=aa (cx wr _ none) f;have jm:=yl.below K1)|(at_builtin;refine lN _ rfl (.tmp 40) (.tmp 43) 62 rfl 9 i0 _ 16 underlying62 J K L Q rfl a k (List.replicate k (.string M:Value)) rfl W ha (jm.below (cx _ _ _)) w1.1.size 2 [(.string M:Value),(.string M:Value)] rfl (Nat.succ_pos _) (o9 w1 _ _) au ay O ?_;intro v2 U A x;have T:=aa (cx w1 _ none) x;have nk:=jm.below T))
   have kQ:=l.kept T (by cases h:v1.ownBlock<;>simp);have ar:=aa K1 T;have bx:=K1.size;have bz:=T.size;have ca:=D.size;clear l f x yl jm K1 T;obtain⟨wo,bt⟩:∃wo,wo=wr:=⟨wr,rfl⟩
   subst bt;go_loopw [8,9] (λo i w3=>∃j:Nat,j<=64/\i = Y j/\((j=0/\o=.slice a k k)\/(0<j/\w3.ownsRow U.1.size 9 1 o (k+j) (List.replicate (k+j) (.string M:Value))))/\U.grownBy w3 none) (λ_ i _=>64-(intOf i).toNat)
   case atStart=>exact⟨0,by omega,rfl,.inl ⟨rfl,rfl⟩,cC _ _⟩
   case round=>
    obtain⟨j,hj,rfl,ho,l⟩:=hrel;have cc:=l.size;by_cases ad:j<64
    .have bb:k+j+1<=maxLen:=kO;have av:(k+j+1)*16<=140737488355328:=aZ;rcases ho with⟨af,bq⟩|⟨af,f⟩
     .subst af bq;have mM:=nk.below l;go_wp2_with (at_builtin;refine lN _ rfl _ _ 62 rfl 9 i0 _ 16 underlying62 J K L Q rfl a k (List.replicate k (.string M:Value)) rfl W ha (mM.below (cx _ _ _)) wr.1.size 1 [(.string M:Value)] rfl (Nat.succ_pos _) (o9 wr _ _) Fj ae O ?_;intro v4 w4 iV x)
      have R:w4.ownsRow U.1.size 9 1 v4 (k+1) (List.replicate (k+1) (.string M:Value))/\U.grownBy w4 none:=⟨dC (by rw[<-su];exact iV) j',aa (aM l _) x⟩
      clear iV x mM l;go_wp2;go_roundw
      case rel=>exact⟨1,by omega,by go_num,.inr ⟨by omega,R.1⟩,R.2⟩
      case measure=>simp[intOf]
     .have T:=o9 wr #[(.string M:Value)] 9;go_wp2_with (at_builtin;refine fH _ rfl _ _ 62 rfl U.1.size 9 i0 _ 1 16 underlying62 J K L Q rfl O _ _ _ rfl (f.alloc _) (some ⟨wr.1.size,0,none⟩) 1 1 [(.string M:Value)] rfl rfl T qC Fj bb av j' ?_;intro v4 w4 iV x)
      have R:w4.ownsRow U.1.size 9 1 v4 (k+(j+1)) (List.replicate (k+(j+1)) (.string M:Value))/\U.grownBy w4 none:=⟨by rw[<-gi,<-su (k+j) 1 (.string M:Value)];exact iV,gD (aM l _) x (λi hi=>(f.lt i hi).1)⟩
      clear iV x l f T;go_wp2;go_roundw
      case rel=>exact⟨j+1,by omega,by go_num,.inr ⟨by omega,R.1⟩,R.2⟩
      case measure=>simp[intOf];omega
    .have Px:j=64:=aZ;subst Px;have f:wr.ownsRow U.1.size 9 1 u8 (k+64) (List.replicate (k+64) (.string M:Value)):=by
      rcases ho with⟨h,_⟩|⟨_,h⟩
      .omega
      .exact h
     clear ho ad hj;have K3:=aa ar l;have wH:=kQ.kept l (by cases h:v1.ownBlock<;>simp);have wI:=A.kept l (by cases h:v2.ownBlock<;>simp);have mM:=nk.below l;clear kQ A nk l;have Fo:=iU.bF D;have Fr:=Fo.trans (iU.lM K3 _);have F5:=hW.lt;have Ab:∀g,B=some g->g≠S/\(Value.slice ab d.length cb).ownBlock≠some g:=by
      intro g b;rcases hB.o with⟨_,v⟩|⟨g',r,_,_,_,i,x⟩
      .rw[v]at b;cases b
      .rw[r]at b;cases b;exact⟨i,x⟩
     have Xx:=hW.kept (Fr.block S F5 (λe=>(Ab _ e).1 rfl));have Dn:=cB t (λb hb=>Fr.block b (t.lt b hb).2 (λe=>(Ab _ e).2 hb));have cd:=K3.size;obtain⟨⟨p1,n1,c1⟩,aj,bo,ag,i⟩:=mX (n:=k+1) (m:=(.string M:Value)) (by rw[<-su];exact wH) aZ;obtain⟨⟨p2,n2,c2⟩,ak,bp,ah,T⟩:=mX (n:=k+2) (m:=(.string M:Value)) (by rw[<-su];exact wI) aZ;obtain⟨⟨p3,n3,c3⟩,al,Wq,Xy,F6⟩:=mX (n:=k+64) (m:=(.string M:Value)) f aZ;change v1=.slice p1 n1 c1 at aj;change v2=.slice p2 n2 c2 at ak;change u8=.slice p3 n3 c3 at al;subst aj ak al;obtain⟨x,hx⟩:∃x:ic,x=⟨(a,k,k),(p1,n1,c1),(p2,n2,c2),(p3,n3,c3),(.string M:Value)⟩:=⟨_,rfl⟩
     have Dp:x.ok wr:=(by subst hx;exact⟨⟨by show k<=_;omega,mM⟩,ag,ah,Xy⟩);have HX:Hid (x.cells=[.slice a k k,.slice p1 n1 c1,.slice p2 n2 c2,.slice p3 n3 c3,(.string M:Value)]):=(by subst hx;rfl);have an:Hid (Xw x.mark):=(by subst hx;exact⟨_,rfl⟩);have ao:tU x B w.1.size:=by
      intro b hb;rw[hx]at hb;rcases hb with h|h|h|h
      .obtain⟨bu,e1,e2⟩:=h;rcases hB.o with⟨r,_⟩|⟨g,r,v,_⟩
       .have ch:0<k:=e2;omega
       .have Xu:a=some ⟨b,bu,none⟩:=e1;rw[v]at Xu;simp at Xu;exact .inl (by rw[r,Xu.1])
      .have:=(i b h).2;simp at this;exact .inr aZ
      .have:=(T b h).2;simp at this;exact .inr aZ
      .have:=(F6 b h).2;exact .inr aZ
     have sO:d.length+1<=maxLen:=kO;have Py:(d.length+1)*112<=140737488355328:=aZ;have q:p<=wr.1.size:=aZ;have cj:=(Xx.cell 4).trans X;have v:=I Ab;clear hx ag ah Xy i T F6 wH wI f mM bo bp Wq Ab;go_wp2_with (at_builtin;refine dJ _ rfl _ _ 31 rfl p 64 ie _ 5 112 underlying31 bm bf bk bl rfl O _ _ _ rfl (Dn.alloc _) ⟨wr.1.size,0,none⟩ 1 1 [.slice a k k,.slice p1 n1 c1,.slice p2 n2 c2,.slice p3 n3 c3,(.string M:Value)] rfl rfl (gL wr _ _) (by intro u y;simp at y;rcases y with rfl|rfl|rfl|rfl|rfl<;>rfl) aZ sO Py j' ?_;intro OP w5 b r i;obtain⟨Xn,T,Jl⟩:=bA b;subst Jl;have g:=(Xx.alloc (.cells #[.slice a k k,.slice p1 n1 c1,.slice p2 n2 c2,.slice p3 n3 c3,(.string M:Value)] 64)).grown r (λe=>ai e.symm);have KR:=((g.cell 4).trans X);have ck:=g.frozen 4)
     have R:rq ic.ok p S 4 64 Xw B (.slice ab d.length cb) cs d w (w5.setCell (F S 4) (.slice Xn (d.length+1) T)):=rq.push t.lt ai F5 Fr Dp (λ_ _ h k=>ic.ok.keep h k) (λ_ h=>Dp.lt h) HX ao v (cx wr _ _) r g b i an.o;clear i b r g;go_end0;exact⟨rfl,R⟩
