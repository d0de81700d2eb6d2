import Derived.Test.YticfhckmhcaigaaGreatDoorGERows2
import Derived.Test.YticfhckmhcaigaaGreatDoorGELaw1
namespace Go.Proofs.YticfhckmhcaigaaGreatDoor
open Go.RowKit
theorem dh{w j:World}{a:Nat}{e:TypeId}{size:Nat}{v:Value}{n:Nat}{k:List Value}(h:w.ownsRow a e size v n k)(m:∀b,v.ownBlock=some b->j.1[b]?=w.1[b]?):j.ownsRow a e size v n k:=by
 refine⟨h.1,?_⟩;rcases h.2 with o|⟨g,d,f,rfl,l,i,b⟩
 .exact .inl o
 .exact .inr ⟨g,d,f,rfl,l,(m g rfl).trans i,b⟩
theorem iO.refl(w)(a:Nat->Prop):iO w w a:=⟨rfl,rfl,rfl,cA _,λ_ _ _=>rfl⟩
theorem iO.mono{w d:World}{a ex':Nat->Prop}(h:iO w d a)(k:∀b,b<w.1.size->a b->ex' b):iO w d ex':=⟨h.os,h.tape,h.output,h.size,(by grind [iO.block])⟩
theorem iO.trans{a b c:World}{d:Nat->Prop}(h:iO a b d)(k:iO b c λi=>d i\/a.1.size<=i):iO a c d:=by
 have s:=h.size;refine⟨k.os.trans h.os,k.tape.trans h.tape,k.output.trans h.output,cE h.size k.size,λi e f=>?_⟩;rw[k.block i G dT,h.block i e f]
theorem iO.bD{w d:World}{a:Option Nat}(h:w.grownBy d a):iO w d λb=>a=some b:=⟨h.os,h.tape,h.output,h.size,n9⟩
theorem iO.mY{w a:World}(h:w.grownBy a none)(b:Nat->Prop):iO w a b:=⟨h.os,h.tape,h.output,h.size,n9⟩
theorem iO.below{w d:World}{a:Nat->Prop}{B:Nat}(h:iO w d a)(e:B<=w.1.size)(f:∀b,a b->B<=b):Below B w d:=⟨h.os,h.tape,h.output,h.size,(by grind [iO.block])⟩
theorem iO.setCell{a w:World}{b:Nat->Prop}(h:iO a w b)(p)(u)(d:b p.block\/a.1.size<=p.block):iO a (w.setCell p u) b:=
 h.trans ⟨rfl,rfl,rfl,by simp[World.setCell],vt⟩
theorem iO.set{a w:World}{ex:Nat->Prop}{g:Nat}(h:iO a w ex)(b:ex g)(j)(u):iO a (w.setCell (F g j) u) ex:=(by grind [iO.setCell])
section
variable {S:Type}{C:S->Nat->World->Prop}{IU:S->Nat->Nat->Prop}
def Loc(C:S->Nat->World->Prop)(IU:S->Nat->Nat->Prop):Prop:=∀s k w w',C s k w->(∀b,IU s k b->w'.1[b]?=w.1[b]?)->C s k w'
structure Sep(C:S->Nat->World->Prop)(IU:S->Nat->Nat->Prop)(B:Nat)(s:S)(w:World):Prop where
 here:∀k,C s k w
 lt:∀k b,IU s k b->b<w.1.size
 base:∀k b,IU s k b->B<=b
 one:∀j k b,IU s j b->IU s k b->j=k
 room:B<=w.1.size
theorem Sep.grown(L:Loc C IU){B:Nat}{s:S}{w d:World}(h:Sep C IU B s w)(g:w.grownBy d none):Sep C IU B s d:=
 have z:=g.size
 ⟨λk=>L s k w d (h.here k) (λb a=>g.block b (h.lt k b a) Z),λk b a=>by have:=h.lt k b a;omega,h.base,h.one,by have:=h.room;omega⟩
end
end Go.Proofs.YticfhckmhcaigaaGreatDoor
namespace Go.Proofs.YticfhckmhcaigaaGreatDoor
open Go.RowKit
set_option maxRecDepth 100000
variable {w:World}
structure jk where
 l:Sl
 one:Sl
 two:Sl
 three:Sl
 mark:Value
def jk.cells(x:jk):List Value:=[x.l.val,x.one.val,x.two.val,x.three.val,x.mark]
def jU(l:List jk):List Value:=(l.map jk.cells).flatten
theorem L9(l)(x):jU (l++[x])=jU l++x.cells:=by simp[jU]
theorem OY(l):∀(k j)(a:k<l.length),j<5->(jU l)[k*5+j]?=(l[k]).cells[j]?:=by
 induction l with
 |nil=>intro k j a;simp at a
 |cons x l d=>
  intro k j a b;have e:jU (x::l)=x.cells++jU l:=by simp[jU]
  rw[e];cases k with
  |zero=>rw[gj,cR,cX (by show j<5;exact b)];rfl
  |succ k=>
   grind [jk.cells]
def lC(w:World)(m:Value)(s:Sl):Prop:=s.2.1<=9223372036854775807/\qR w s.1 (List.replicate s.2.1 m)
def Sl.on(s:Sl)(b:Nat):Prop:=∃off,s.1=some ⟨b,off,none⟩/\0<s.2.1
def jk.ok(w:World)(x:jk):Prop:=lC w x.mark x.l/\lC w x.mark x.one/\lC w x.mark x.two/\lC w x.mark x.three
def jk.on(x:jk)(b:Nat):Prop:=x.l.on b\/x.one.on b\/x.two.on b\/x.three.on b
theorem lC.keep{w':World}{m:Value}{s:Sl}(h:lC w m s)(k:∀b,s.on b->w'.1[b]?=w.1[b]?):lC w' m s:=by
 refine⟨h.1,λj u f=>?_⟩;obtain⟨b,d,e,g⟩:=h.2 j u f;have i:=(cM.1 f).1;rw[fL]at i;refine⟨b,d,e,?_⟩;rw[World.cell?_of_block (w:=w) (w':=w') (a:=⟨b,d+j,none⟩) (k b ⟨d,e,by omega⟩)];exact g
theorem jk.ok.keep{w':World}{x:jk}(h:x.ok w)(k:∀b,x.on b->w'.1[b]?=w.1[b]?):x.ok w':=
 ⟨h.1.keep (λb a=>k b (.inl a)),h.2.1.keep (λb a=>k b (.inr (.inl a))),h.2.2.1.keep (λb a=>k b (.inr (.inr (.inl a)))),h.2.2.2.keep (λb a=>k b (.inr (.inr (.inr a))))⟩
theorem Iz{p:Prop}(h:p:=by
 rw[e1]at e3
 injection e3 with e3
 injection e3 with e3 _ _
 subst e3
 exact World.block_lt_of_cell? w _ e4):p:=h
theorem lC.lt{m:Value}{s:Sl}(h:lC w m s){b:Nat}(e:s.on b):b<w.1.size:=by
 obtain⟨f,e1,d⟩:=e;obtain⟨g,a,e3,e4⟩:=h.2 0 m (by simp[d]);exact Iz
theorem IH{p:Prop}(h:p:=by
 rcases hb with e|e|e|e
 .exact h.1.lt e
 .exact h.2.1.lt e
 .exact h.2.2.1.lt e
 .exact h.2.2.2.lt e):p:=h
theorem jk.ok.lt{x:jk}(h:x.ok w){b:Nat}(hb:x.on b):b<w.1.size:=by
 exact IH
theorem tT(n k)(m:Value):List.replicate n m++List.replicate k m=List.replicate (n+k) m:=by rw[List.replicate_append_replicate]
theorem FG{p:Prop}(h:p:=by
 rintro b ⟨off,e1,e2⟩
 have e1':ao=some ⟨b,off,none⟩:=e1
 subst e1'
 exact⟨rfl,(h.lt b rfl).1⟩):p:=h
theorem nL{a:Nat}{e:TypeId}{v:Value}{n:Nat}{m:Value}(h:w.ownsRow a e 1 v n (List.replicate n m))(f:n<=9223372036854775807):
  ∃s,v=s.val/\s.2.1=n/\lC w m s/\∀b,s.on b->v.ownBlock=some b/\a<=b:=by
 obtain⟨ao,d,g⟩:=bA h
 subst g
 refine⟨(ao,n,d),rfl,rfl,⟨f,nP h⟩,?_⟩
 exact FG
theorem E3{p:Prop}(h:p:=by
 intro ad zs h j u hu
 obtain⟨b,off,e1,e2⟩:=h j u hu
 grind [Addr.add_lit]):p:=h
theorem mh{P:Program}(w){k:Array Oper}{g:List Oper}{o:Oper}{a:Act}{Q:Exit->Act->World->Prop}(T:o.guard=none)(s x)(t)(r:o.op=Op.call {callee:=Callee.builtin Builtin.append,args:=#[s,x],argTypes:=#[t,t]})(e)(i)(z)(d)(C:P.underlying t=some (.slice e))(D:P.info? e=some i)(J:i.zero=some z)(K:i.size=1)(L:i.bytes=d)(M:z.cells.size=1)(l)(n)(m)(V:a.eval s=.slice l n n)(U:m.length=n)(q:l=none->n=0)(S:qR w l m)(b c)(f)(W:a.eval x = ς b 0 f.length c)(hp:0<f.length)(X:qR w (some ⟨b,0,none⟩) f)(p:∀u∈f,u.oneCell'=true)(A:n+f.length<=1000000)(B:d<=1000)(R:∀y v,v.ownsRow w.1.size e 1 y (n+f.length) (m++f)->w.grownBy v none->wpList P k Q g (a.put o.dst y) v):
  wpList P k Q (o::g) a w:=by
 have v:∀(ad)(zs),qR w (some ad) zs->∀j u,zs[j]?=some u->w.cell? (ad.add j)=some u:=by
  exact E3
 have y:(n+f.length)*d<=140737488355328:=cE (Nat.mul_le_mul A B) G
 exact wpList_append_grows w T s x t r e i z 1 d C D J K L M H l n n m V dT (by rw[U,fY]) dT ⟨b,0,none⟩ f.length c f W (by rw[fY]) (v _ _ X) p G lA y R
theorem p9(w:World)(a)(e):qR (w.alloc (.cells a e)) (some ⟨w.1.size,0,none⟩) a.toList:=by
 intro j u b;grind [World.cell?_alloc_at]
theorem Vf(a:List Value)(m)(k)(h:k<a.length):(List.replicate k m++a.drop k).set k m=List.replicate (k+1) m++a.drop (k+1):=by
 exact Ic
theorem dm.cat{g:Nat}{a:List Value}(h:dm w g a.toArray):qR w (some ⟨g,0,none⟩) a:=by
 intro j u b;refine⟨g,0,rfl,?_⟩;rw[cR,h.cell];simpa using b
def xi(v:Value):Prop:=∃m:UInt8,v=.int .u8 (m.toNat:Int)
def WX(v:Value):Prop:=∃m:Int,v = Y m
def xf(v:Value):Prop:=∃m:ByteArray,v=.string m
def vf(x:jk)(gB:Option Nat)(n:Nat):Prop:=∀b,x.on b->gB=some b\/n<=b
def sM(ok:World->jk->Prop)(base wb j:Nat)(ent:TypeId)(mk:Value->Prop)(gB:Option Nat)(vb:Value)(cs:Array Value)(gu:List jk)(w w':World):Prop:=
 ∃x Q4,mk x.mark/\dm w' wb (cs.setIfInBounds j Q4)/\w'.ownsRow base ent 5 Q4 (gu.length+1) (jU (gu++[x]))/\ok w' x/\iO w w' (λb=>b=wb\/vb.ownBlock=some b\/gB=some b)/\
  (∀b,Q4.ownBlock=some b->vb.ownBlock=some b\/w.1.size<=b)/\∀b,x.on b->b≠wb/\Q4.ownBlock≠some b/\(gB=some b\/w.1.size<=b)
theorem sM.push{ok:World->jk->Prop}{a f j:Nat}{l:TypeId}{D:Value->Prop}{p:Option Nat}{d h:Value}{B:Array Value}{u:List jk}{wr A r:World}{x:jk}{J:List Value}(P:∀k,d.ownBlock=some k->a<=k/\k<w.1.size)(Q:d.ownBlock≠some f)(S:f<w.1.size)(Fr:iO w wr (λb=>p=some b))(q:ok wr x)(v:∀W e,ok W x->(∀b,x.on b->e.1[b]?=W.1[b]?)->ok e x)(t:∀b,x.on b->b<wr.1.size)(T:x.cells=J)(o:vf x p w.1.size)(M:∀g,p=some g->g≠f/\d.ownBlock≠some g)(i:wr.grownBy A d.ownBlock)(k:A.grownBy r d.ownBlock)(L:dm r f B)(C:r.ownsRow a l 5 h (u.length+1) (jU u++J))(g:h.ownBlock=d.ownBlock\/h.ownBlock=some A.1.size)(y:D x.mark):sM ok a f j l D p d B u w (r.setCell (F f j) h):=by
 have U:=Fr.size
 have V:=i.size
 have W:=k.size
 have R:h.ownBlock≠some f:=by
  grind
 have n:∀b,x.on b->b≠f/\d.ownBlock≠some b:=by
  intro b g;rcases o b g with e|e
  .exact M b e
  grind
 refine⟨x,h,y,L.set j h,?_,?_,?_,?_,?_⟩
 .grind [RowKit.Below.heap_setCell,dh,L9]
 .refine v _ _ q (λb g=>?_);have m:=t b g;rw[Below.heap_setCell _ _ _ _ (n b g).1,k.block b G dT,i.block b m dT]
 .refine⟨(k.os.trans i.os).trans Fr.os,(k.tape.trans i.tape).trans Fr.tape,(k.output.trans i.output).trans Fr.output,by rw[World.size_setCell];omega,λb g q=>?_⟩;rw[Below.heap_setCell _ _ _ _ (λe=>q (.inl e)),k.block b G dT,i.block b G dT,Fr.block b g (λe=>q (.inr (.inr e)))]
 .grind
 .intro b m;refine⟨(n b m).1,λe=>?_,o b m⟩;grind
set_option maxHeartbeats 2000000
open Proofs.Tryz
theorem D3{p:Prop}(h:p:=by intro u hu;simp at hu;rcases hu with rfl|rfl|rfl|rfl|rfl<;>rfl):p:=h
variable {n:Nat}{p:Option Pl}{u:Value}{w':World}
theorem Tryz.alE:(prog.info? 57).map (λi=>(i.zero,i.size,i.bytes))=some (some (.agg #[σ,σ,σ,σ,.int .u8 0]),5,104):=by kernel_rfl
theorem fA.set{f:Option Addr}{d:Nat}{e:E}(h:fA w (.slice f n d) p e)(k)(y)(g:k<e.length):∃b a,f=some ⟨b,a,none⟩/\w.c b (a+k)=some (U8 e[k])/\w.z b (a+k)=false/\fA (w.setCell (δ b (a+k)) (U8 y)) (.slice f n d) p (e.set k y)/\CF w (w.setCell (δ b (a+k)) (U8 y)) (Pl.has p):=by
 rcases h with⟨_,_,h⟩|⟨q,i,m,j,l,a,b⟩
 .subst h;simp at g
 .injection m with e1 e2 e3;subst e1 e3;have F:CF w (w.setCell (δ q.g (q.off+k)) (U8 y)) (Pl.has p):=(CF.refl _ _).setCell _ _ _ (λ_=>⟨q,i,rfl,by omega,by omega⟩);refine⟨q.g,q.off,rfl,b k _ (by simp[g]),a.frozen _,.inr ⟨q,i,by rw[eA,e2],by rw[eA];exact j,l,a.cf F,?_⟩,F⟩;rw[List.map_set];exact Js b k _
theorem fA.marked{v:Value}{m:UInt8}(h:fA w v p (List.replicate n m))(r:n<=9223372036854775807):∃s,v=s.val/\s.2.1=n/\lC w (U8 m) s/\∀b,s.on b->∃q,p=some q/\q.g=b:=by
 rcases h with⟨g,rfl,h⟩|⟨q,g,rfl,k,l,o,f⟩
 .refine⟨(none,0,0),rfl,?_,⟨cS _,λj u a=>by simp at a⟩,?_⟩
  .have:=congrArg List.length h;simpa using this.symm
  .rintro b ⟨d,e,_⟩;cases e
 .refine⟨(some ⟨q.g,q.off,none⟩,(List.replicate n m).length,q.cap),rfl,fL,⟨by grind,λj u a=>⟨q.g,q.off,rfl,?_⟩⟩,?_⟩
  .have i:(List.replicate n (U8 m))[j]?=some u:=(by simpa using a);exact f j u dT
  .rintro b ⟨d,e,_⟩;grind
theorem lC.km{s:Sl}(h:lC w u s)(k:KM w w' u):lC w' u s:=by
 refine⟨h.1,λj x f=>?_⟩;obtain⟨b,a,d,e⟩:=h.2 j x f;have:x=u:=dT;subst this;exact⟨b,a,d,k b _ e⟩
theorem KM.refl(w)(u):KM w w u:=λ_ _ h=>h
theorem KM.trans{a b c:World}(h:KM a b u)(k:KM b c u):KM a c u:=λx y e=>k x y (h x y e)
theorem KM.bD{a b:World}(h:a.grownBy b none):KM a b u:=λ_ _ e=>h.cell e Z
theorem fA.km{b:Nat->Nat->Prop}{v:Value}{m:UInt8}(h:fA w v p (List.replicate n m))(k:KM w w' (U8 m))(f:CF w w' b):fA w' v p (List.replicate n m):=by
 rcases h with h|⟨q,o,r,d,g,i,l⟩
 .exact .inl h
 .refine .inr ⟨q,o,r,d,g,i.cf f,λj u a=>?_⟩;have:=l j u a;rw[List.map_replicate]at a;have e:u=U8 m:=dT;subst e;exact k _ _ this
def Pl.blk(p:Option Pl):Option Nat:=p.map (·.g)
theorem Se(h:CF w w' (Pl.has p)):iO w w' (λb=>Pl.blk p=some b):=
 ⟨h.os,h.tape,h.output,h.size,λb d g=>h.block b d (λo e=>by obtain⟨q,f,a,_⟩:=e;exact g (by rw[f,a];rfl))⟩
theorem X2(d A n)(v)(p)(bs)(t)(vb)(cs)(w)(hW:dm w A cs)(D:cs[2]?=some vb)(l:w.ownsRow d 57 5 vb t.length (jU t))(an:vb.ownBlock≠some A)(bc:d<=w.1.size)(hn:Hid (bs.length=n))(cn:n<=100000)(hO:fA w v p bs)(hB:∀g,Pl.blk p=some g->g≠A/\vb.ownBlock≠some g)(cm:(t.length+1)*112<=140737488355328):Calls prog 21 #[N A 2,v] w λe w'=>e=.returned (.tuple #[])/\sM jk.ok d A 2 57 xi (Pl.blk p) vb cs t w w':=by
 obtain⟨i0,J,M,Q,S⟩:=info_parts Tryz.info5
 obtain⟨ie,bo,bk,bl,bm⟩:=info_parts Tryz.alE
 obtain⟨ab,cb,bx⟩:=bA l
 subst bx
 obtain⟨a,g,bz,cc,cd,_,_⟩:=hO.open hn
 subst bz
 have bf:=(hW.cell 2).trans D
 have cl:t.length<=140737488355328:=G
 obtain⟨m,b⟩:∃m:UInt8,m=UInt8.ofNat (t.length % 251):=⟨_,rfl⟩
 have HM:Hid ((t.length:Int) % 251=(m.toNat:Int)):=by show _=_;rw[b];exact Zx _
 clear b
 have HB:=I hB
 clear hB
 go_in
 go_wp2
 rw[HM]
 go_loopw [5] (λi wr=>∃k:Nat,k<=n/\i = Y k/\fA wr (.slice a n g) p (List.replicate k m++bs.drop k)/\CF w wr (Pl.has p)) (λi _=>n-(intOf i).toNat)
 case atStart=>grind [CF.refl]
 case round=>
  obtain⟨k,hk,rfl,r,y⟩:=hrel;by_cases hlt:k<n
  .have U:(k:Int)<(n:Int):=G;have L:(0:Int)<=(k:Int):=G;have gN:k<(List.replicate k m++bs.drop k).length:=(by have h:=hn.o;simp;omega);obtain⟨b,R,x,C,K,f,q⟩:=r.set k m gN;have j:=II bs m k nB;rw[j]at f;subst x;have F2:=y.trans q (λ_ _ _ e=>e);have B:=I f;have T:=I F2;clear r y j f F2 q hO;go_wp2;go_roundw
   case rel=>exact⟨k+1,by omega,by go_num,B.o,T.o⟩
   case measure=>simp[intOf];omega
  .have bp:k=n:=G;subst bp;rw[List.drop_of_length_le kO,gf]at r
   have L:∀W:World,Src prog 1 37 (ς W.1.size 0 1 1) 1 ((List.replicate 1 m).map U8) (W.alloc (.cells #[.int .u8 (m.toNat:Int)] 5)):=
    λW=>rR (P:=prog) underlying37 _ 1 1 (List.replicate 1 m) rfl (dX _ _ _ _ rfl)
   have ao:∀W:World,Src prog 1 37 (ς W.1.size 0 2 2) 2 ((List.replicate 2 m).map U8) (W.alloc (.cells #[.int .u8 (m.toNat:Int),.int .u8 (m.toNat:Int)] 5)):=
    λW=>rR (P:=prog) underlying37 _ 2 2 (List.replicate 2 m) rfl (dX _ _ _ _ rfl)
   have Ey:Hid ((List.replicate k m).length+1<=140737488355328):=(by show _<=_;simp;omega);have U:Hid ((List.replicate k m).length+2<=140737488355328):=(by show _<=_;simp;omega);have C:∀j,Hid (List.replicate k m++List.replicate j m=List.replicate (k+j) m):=λj=>List.replicate_append_replicate;clear bf hO;go_wp2_with (first|(at_builtin;refine nk _ rfl (.tmp 27) (.tmp 29) 37 37 rfl 5 i0 underlying37 J M Q S _ _ p m (List.replicate k m) 1 rfl rfl (r.grown (cy wr _ none)) 1 (L _) Ey ?_;intro v1 w1 x K;have q:=(r.grown (cy wr _ none)).km K x.cf)|(at_builtin;refine nk _ rfl (.tmp 31) (.tmp 34) 37 37 rfl 5 i0 underlying37 J M Q S _ _ p m (List.replicate k m) 2 rfl rfl (q.grown (cy w1 _ none)) 2 (ao _) U ?_;intro v2 w2 B R;have f:=(q.grown (cy w1 _ none)).km R B.cf))
   rw[(C 1).o]at x;rw[(C 2).o]at B;have W:=x.before (cy wr _ none);have X:=B.before (cy w1 _ none);have bb:=(KM.bD (cy wr _ none)).trans K;have V:=(KM.bD (cy w1 _ none)).trans R;clear x B K R q;obtain⟨wo,ca⟩:∃wo,wo=wr:=⟨wr,rfl⟩
   subst ca;go_loopw [8,9] (λo i w3=>∃j:Nat,j<=64/\i = Y j/\aU w2 w3 o p (List.replicate (k+j) m)/\KM w2 w3 (U8 m)) (λ_ i _=>64-(intOf i).toNat)
   case atStart=>grind [aU.refl,KM.refl]
   case round=>
    obtain⟨j,hj,rfl,R3,T⟩:=hrel;by_cases i:j<64
    .obtain⟨p3,x,q⟩:=R3;have vZ:=I q;have B:Hid ((List.replicate (k+j) m).length+1<=140737488355328):=(by show _<=_;simp;omega);clear q;go_wp2_with (at_builtin;refine nk _ rfl _ _ 37 37 rfl 5 i0 underlying37 J M Q S _ _ p3 m (List.replicate (k+j) m) 1 rfl rfl (x.grown (cy wr _ none)) 1 (L _) B ?_;intro v4 w4 R4 q)
     have R:aU w2 w4 v4 p (List.replicate (k+(j+1)) m):=by
      have:=aU.comp vZ (R4.before (cy wr _ none)) Z;rw[List.replicate_append_replicate]at this;exact this
     have K:=T.trans ((KM.bD (cy wr _ none)).trans q);clear R4 q x vZ T;go_wp2;go_roundw
     case rel=>exact⟨j+1,by omega,by go_num,R,K⟩
     case measure=>simp[intOf];omega
    .have Tj:j=64:=G;subst Tj;clear i hj L ao Ey U C;have F1:=W.cf;have F2:=X.cf;have F3:=R3.cf;have FF:=((y.trans F1 (λ_ _ _ e=>e)).trans F2 (λ_ _ _ e=>e)).trans F3 (λ_ _ _ e=>e);have sA:=y.size;have sB:=F1.size;have sC:=F2.size;have sD:=F3.size;have Fr:=Se FF;have Jc:=hW.lt;have af:dm wr A cs:=(by grind [iO.block,Hid.o,dm.kept])
     have FZ:=dh l (λb hb=>Fr.block b (l.lt b hb).2 (λe=>(HB _ e).2 hb));have i:=f.km T F3;obtain⟨p1,o1,_,q1,_⟩:=W;obtain⟨p2,o2,_,q2,_⟩:=X;obtain⟨p3,o3,_,q3,_⟩:=R3;obtain⟨⟨z0,n0,c0⟩,ar,bq,ai,K⟩:=i.marked G;obtain⟨⟨z1,n1,c1⟩,au,bt,aj,ag⟩:=o1.marked G;obtain⟨⟨z2,n2,c2⟩,av,bu,ak,ah⟩:=o2.marked G;obtain⟨⟨z3,n3,c3⟩,ax,YS,al,Jd⟩:=o3.marked G;have ad:=aj.km (V.trans T);have ae:=ak.km T;change Value.slice a k g=.slice z0 n0 c0 at ar;change v1=.slice z1 n1 c1 at au;change v2=.slice z2 n2 c2 at av;change u8=.slice z3 n3 c3 at ax;injection ar with y1 y2 y3;subst y1 y2 y3 au av ax;obtain⟨x,hx⟩:∃x:jk,x=⟨(a,k,g),(z1,n1,c1),(z2,n2,c2),(z3,n3,c3),.int .u8 (m.toNat:Int)⟩:=⟨_,rfl⟩
     have F8:x.ok wr:=(by subst hx;exact⟨ai,ad,ae,al⟩);have HX:Hid (x.cells=[.slice a k g,.slice z1 n1 c1,.slice z2 n2 c2,.slice z3 n3 c3,.int .u8 (m.toNat:Int)]):=(by subst hx;rfl);have az:Hid (xi x.mark):=(by subst hx;exact⟨_,rfl⟩);have ba:vf x (Pl.blk p) w.1.size:=by
      have bn:∀(pp)(B b),(pp=p\/Pl.fresh B pp)->w.1.size<=B->(∃q,pp=some q/\q.g=b)->Pl.blk p=some b\/w.1.size<=b:=by
       rintro pp B b h hB ⟨q,hq,e⟩;rcases h with h|h
       .left;rw[<-h,hq,<-e];rfl
       .right;have:=h q hq;omega
      intro b hb;rw[hx]at hb;rcases hb with h|h|h|h
      .exact bn p w.1.size b (.inl rfl) (cA _) (K b h)
      .grind
      .grind
      grind
     have ui:t.length+1<=maxLen:=lA;have Tk:(t.length+1)*104<=140737488355328:=G;have ch:d<=wr.1.size:=G;have cj:=(af.cell 2).trans D;clear hx ai aj ak al ad ae K ag ah Jd o1 o2 o3 q1 q2 q3 r f i bq bt bu YS F1 F2 F3 FF y bb V T;go_wp2_with (at_builtin;refine dN _ rfl _ _ 29 rfl d 57 ie _ 5 104 underlying29 bo bk bl bm rfl H _ _ _ rfl (FZ.alloc _) ⟨wr.1.size,0,none⟩ 1 1 [.slice a k g,.slice z1 n1 c1,.slice z2 n2 c2,.slice z3 n3 c3,.int .u8 (m.toNat:Int)] rfl rfl (gX wr _ _) D3 G ui Tk iS ?_;intro Q4 w5 b B q;obtain⟨Zw,K,Ma⟩:=bA b;subst Ma;have i:=(af.alloc (.cells #[.slice a k g,.slice z1 n1 c1,.slice z2 n2 c2,.slice z3 n3 c3,.int .u8 (m.toNat:Int)] 57)).grown B (λe=>an e.symm);have Bv:=((i.cell 2).trans D);have ck:=i.frozen 2)
     have R:sM jk.ok d A 2 57 xi (Pl.blk p) (.slice ab t.length cb) cs t w (w5.setCell (F A 2) (.slice Zw (t.length+1) K)):=sM.push l.lt an Jc Fr F8 (by grind [jk.ok.keep]) (λ_ h=>F8.lt h) HX.o ba HB.o (cy wr _ _) B i b q.o az.o;clear q b B i;go_end0;exact⟨rfl,R⟩
def n8(b:Nat):Value:=N b 0
def mr(w:World)(m:Value)(s:Sl):Prop:=s.2.1<=9223372036854775807/\qR w s.1 (List.replicate s.2.1 [σ,m]).flatten
def jk.okD(w:World)(x:jk):Prop:=mr w x.mark x.l/\mr w x.mark x.one/\mr w x.mark x.two/\mr w x.mark x.three
theorem mr.keep{w w':World}{m:Value}{s:Sl}(h:mr w m s)(k:∀b,s.on b->w'.1[b]?=w.1[b]?):mr w' m s:=by
 refine⟨h.1,λj u f=>?_⟩;obtain⟨b,d,g,i⟩:=h.2 j u f;have l:0<s.2.1:=by
  rcases Nat.eq_zero_or_pos s.2.1 with e|e
  .rw[e]at f;simp at f
  .exact e
 refine⟨b,d,g,?_⟩;rw[World.cell?_of_block (w:=w) (w':=w') (a:=⟨b,d+j,none⟩) (k b ⟨d,g,l⟩)];exact i
theorem vy{p:Prop}(h:p:=by cases h:v1.ownBlock<;>simp):p:=h
theorem Tryz.ajq:(prog.info? 3).map (λi=>(i.zero,i.size,i.bytes))=some (some (Y 0),1,8):=by kernel_rfl
theorem Tryz.af0:(prog.info? 60).map (λi=>(i.zero,i.size,i.bytes))=some (some (.agg #[σ,σ,σ,σ,Y 0]),5,104):=by kernel_rfl
theorem Ls{p:Prop}(h:p:=by
 go_wp2
 go_roundw
 case rel=>exact⟨1,by omega,by go_num,.inr ⟨by omega,R.1⟩,R.2⟩
 case measure=>simp[intOf]):p:=h
theorem Q2(l P n)(a)(vs:List Value)(t)(vb)(cs)(B)(w)(hW:dm w P cs)(W:cs[3]?=some vb)(r:w.ownsRow l 60 5 vb t.length (jU t))(ai:vb.ownBlock≠some P)(az:l<=w.1.size)(hn:Hid (vs.length=n))(cm:n<=100000)(ha:Hid (a=none->n=0))(hB:Hid ((n=0/\B=none)\/∃g,B=some g/\a=some ⟨g,0,none⟩/\0<n/\dm w g vs.toArray/\g≠P/\vb.ownBlock≠some g))(cl:(t.length+1)*112<=140737488355328):Calls prog 39 #[N P 2,.slice a n n] w λe b=>e=.returned (.tuple #[])/\sM jk.ok l P 3 60 WX B vb cs t w b:=by
 obtain⟨i0,J,K,L,M⟩:=info_parts Tryz.ajq
 obtain⟨ie,bl,bc,bf,bk⟩:=info_parts Tryz.af0
 obtain⟨ab,cb,bq⟩:=bA r
 subst bq
 have bb:=(hW.cell 3).trans W
 have ck:t.length<=140737488355328:=aZ
 obtain⟨m,b⟩:∃m:Int,m=-1000-(t.length:Int):=⟨_,rfl⟩
 have HM:=I b.symm
 clear b
 obtain⟨w0,b⟩:=aw w
 have T:w.grownBy w0 none:=by rw[b];exact cC _ _
 go_in
 go_wp2
 rw[HM]
 rw[<-b]
 clear b
 have cn:=T.size
 go_loopw [5] (λi wr=>∃k:Nat,k<=n/\i = Y k/\w.grownBy wr B/\(∀g,B=some g->dm wr g (List.replicate k (Y m:Value)++vs.drop k).toArray)) (λi _=>n-(intOf i).toNat)
 case atStart=>
  refine⟨0,cS _,rfl,KP T,?_⟩;intro g b;rcases hB.o with⟨q,v⟩|⟨g',q,v,f,d,_⟩
  .rw[v]at b;cases b
  .rw[q]at b;cases b;simpa using d.grown T Z
 case round=>
  obtain⟨k,hk,rfl,D,C⟩:=hrel;by_cases hlt:k<n
  .obtain⟨g,d,x⟩:∃g,B=some g/\a=some ⟨g,0,none⟩:=by
    rcases hB.o with⟨q,v⟩|⟨g,q,v,_⟩
    .omega
    .exact⟨g,q,v⟩
   have p:=C g d;subst d x;have gN:k<(List.replicate k (Y m:Value)++vs.drop k).length:=(by have h:=hn.o;simp;omega);obtain⟨u,y⟩:∃u,(List.replicate k (Y m:Value)++vs.drop k)[k]?=some u:=⟨_,cN gN⟩
   have f:=(p.cell k).trans (by simpa using y);have A:=p.frozen k;have R:dm (wr.setCell (F g k) (Y m:Value)) g (List.replicate (k+1) (Y m:Value)++vs.drop (k+1)).toArray:=by
    have:=p.set k (Y m:Value);rw[<-Vf vs (Y m:Value) k nB];simpa using this
   have G:=Ac (j:=k) (u:=(Y m:Value)) D;clear C D p y gN;go_wp2;go_roundw
   case rel=>exact⟨k+1,by omega,by go_num,G,λg b=>by cases b;exact R⟩
   case measure=>simp[intOf];omega
  .have bm:k=n:=aZ;subst bm;have zu:qR wr a (List.replicate k (Y m:Value)):=by
    rcases hB.o with⟨q,v⟩|⟨g,q,v,_⟩
    .subst q;intro j u y;simp at y
    .have p:=C g q;rw[List.drop_of_length_le (by rw[hn];omega),gf]at p;rw[v];exact p.cat
   have U:Hid ((List.replicate k (Y m:Value)).length=k):=fL;have ae:k+1<=1000000:=aZ;have ax:k+2<=1000000:=aZ;have f:∀u∈[(Y m:Value)],u.oneCell'=true:=(by intro u y;rw[eC.1 y];rfl);have A:∀u∈[(Y m:Value),(Y m:Value)],u.oneCell'=true:=(by intro u y;simp at y;rw[y];rfl);have H7:=I f;have au:=I A;clear C bb f A;go_wp2_with (first|(at_builtin;refine mh _ rfl (.tmp 26) (.tmp 28) 24 rfl 3 i0 _ 8 underlying24 J K L M rfl a k (List.replicate k (Y m:Value)) rfl U ha (zu.below (cy _ _ _)) wr.1.size 1 [(Y m:Value)] rfl (Nat.succ_pos _) (p9 wr _ _) H7 ae H ?_;intro v1 w1 f d;have V:=aa (cy wr _ none) d;have X:=zu.below V)|(at_builtin;refine mh _ rfl (.tmp 30) (.tmp 33) 24 rfl 3 i0 _ 8 underlying24 J K L M rfl a k (List.replicate k (Y m:Value)) rfl U ha (X.below (cy _ _ _)) w1.1.size 2 [(Y m:Value),(Y m:Value)] rfl (Nat.succ_pos _) (p9 w1 _ _) au ax H ?_;intro v2 S A x;have Q:=aa (cy w1 _ none) x;have mH:=X.below Q))
   have kZ:=f.kept Q vy;have ar:=aa V Q;have bu:=V.size;have bx:=Q.size;have bz:=D.size;clear f d x zu X V Q;obtain⟨wo,bs⟩:∃wo,wo=wr:=⟨wr,rfl⟩
   subst bs;go_loopw [8,9] (λo i w3=>∃j:Nat,j<=64/\i = Y j/\((j=0/\o=.slice a k k)\/(0<j/\w3.ownsRow S.1.size 3 1 o (k+j) (List.replicate (k+j) (Y m:Value))))/\S.grownBy w3 none) (λ_ i _=>64-(intOf i).toNat)
   case atStart=>exact⟨0,by omega,rfl,.inl ⟨rfl,rfl⟩,cC _ _⟩
   case round=>
    obtain⟨j,hj,rfl,ho,f⟩:=hrel;have ca:=f.size;by_cases X:j<64
    .have ba:k+j+1<=maxLen:=lA;have av:(k+j+1)*8<=140737488355328:=aZ;rcases ho with⟨V,bp⟩|⟨V,d⟩
     .subst V bp;have kS:=mH.below f;go_wp2_with (at_builtin;refine mh _ rfl _ _ 24 rfl 3 i0 _ 8 underlying24 J K L M rfl a k (List.replicate k (Y m:Value)) rfl U ha (kS.below (cy _ _ _)) wr.1.size 1 [(Y m:Value)] rfl (Nat.succ_pos _) (p9 wr _ _) H7 ae H ?_;intro v4 w4 jf x)
      have R:w4.ownsRow S.1.size 3 1 v4 (k+1) (List.replicate (k+1) (Y m:Value))/\S.grownBy w4 none:=⟨dw (by rw[<-tT];exact jf) iS,aa (aM f _) x⟩
      clear jf x kS f;exact Ls
     .have Q:=p9 wr #[(Y m:Value)] 3;go_wp2_with (at_builtin;refine fI _ rfl _ _ 24 rfl S.1.size 3 i0 _ 1 8 underlying24 J K L M rfl H _ _ _ rfl (d.alloc _) (some ⟨wr.1.size,0,none⟩) 1 1 [(Y m:Value)] rfl rfl Q pH H7 ba av iS ?_;intro v4 w4 jf x)
      have R:w4.ownsRow S.1.size 3 1 v4 (k+(j+1)) (List.replicate (k+(j+1)) (Y m:Value))/\S.grownBy w4 none:=⟨by rw[<-gC,<-tT (k+j) 1 (Y m:Value)];exact jf,gI (aM f _) x (λi hi=>(d.lt i hi).1)⟩
      clear jf x f d Q;go_wp2;go_roundw
      case rel=>exact⟨j+1,by omega,by go_num,.inr ⟨by omega,R.1⟩,R.2⟩
      case measure=>simp[intOf];omega
    .have Tj:j=64:=aZ;subst Tj;have d:wr.ownsRow S.1.size 3 1 u8 (k+64) (List.replicate (k+64) (Y m:Value)):=by
      rcases ho with⟨h,_⟩|⟨_,h⟩
      .omega
      .exact h
     clear ho X hj;have K3:=aa ar f;have xL:=kZ.kept f vy;have xM:=A.kept f (by cases h:v2.ownBlock<;>simp);have kS:=mH.below f;clear kZ A mH f;have Fo:=iO.bD D;have Fr:=Fo.trans (iO.mY K3 _);have Jc:=hW.lt;have Bj:∀g,B=some g->g≠P/\(Value.slice ab t.length cb).ownBlock≠some g:=by
      intro g b;rcases hB.o with⟨_,v⟩|⟨g',q,_,_,_,i,x⟩
      .rw[v]at b;cases b
      .rw[q]at b;cases b;exact⟨i,x⟩
     have ad:=hW.kept (Fr.block P Jc (λe=>(Bj _ e).1 rfl));have FZ:=dh r (λb hb=>Fr.block b (r.lt b hb).2 (λe=>(Bj _ e).2 hb));have cc:=K3.size;obtain⟨⟨p1,n1,c1⟩,aj,bn,af,i⟩:=nL (n:=k+1) (m:=(Y m:Value)) (by rw[<-tT];exact xL) aZ;obtain⟨⟨p2,n2,c2⟩,ak,bo,ag,Q⟩:=nL (n:=k+2) (m:=(Y m:Value)) (by rw[<-tT];exact xM) aZ;obtain⟨⟨p3,n3,c3⟩,al,YS,ah,Jd⟩:=nL (n:=k+64) (m:=(Y m:Value)) d aZ;change v1=.slice p1 n1 c1 at aj;change v2=.slice p2 n2 c2 at ak;change u8=.slice p3 n3 c3 at al;subst aj ak al;obtain⟨x,hx⟩:∃x:jk,x=⟨(a,k,k),(p1,n1,c1),(p2,n2,c2),(p3,n3,c3),(Y m:Value)⟩:=⟨_,rfl⟩
     have F8:x.ok wr:=(by subst hx;exact⟨⟨by show k<=_;omega,kS⟩,af,ag,ah⟩);have HX:Hid (x.cells=[.slice a k k,.slice p1 n1 c1,.slice p2 n2 c2,.slice p3 n3 c3,(Y m:Value)]):=(by subst hx;rfl);have an:Hid (WX x.mark):=(by subst hx;exact⟨_,rfl⟩);have ao:vf x B w.1.size:=by
      intro b hb;rw[hx]at hb;rcases hb with h|h|h|h
      .obtain⟨bt,e1,e2⟩:=h;rcases hB.o with⟨q,_⟩|⟨g,q,v,_⟩
       .have cd:0<k:=e2;omega
       .have V:a=some ⟨b,bt,none⟩:=e1;rw[v]at V;simp at V;exact .inl (by rw[q,V.1])
      .have:=(i b h).2;simp at this;exact .inr aZ
      .have:=(Q b h).2;simp at this;exact .inr aZ
      .have:=(Jd b h).2;exact .inr aZ
     have ui:t.length+1<=maxLen:=lA;have Tk:(t.length+1)*104<=140737488355328:=aZ;have p:l<=wr.1.size:=aZ;have ch:=(ad.cell 3).trans W;have v:=I Bj;clear hx af ag ah i Q Jd xL xM d kS bn bo YS Bj;go_wp2_with (at_builtin;refine dN _ rfl _ _ 30 rfl l 60 ie _ 5 104 underlying30 bl bc bf bk rfl H _ _ _ rfl (FZ.alloc _) ⟨wr.1.size,0,none⟩ 1 1 [.slice a k k,.slice p1 n1 c1,.slice p2 n2 c2,.slice p3 n3 c3,(Y m:Value)] rfl rfl (gX wr _ _) (by intro u y;simp at y;rcases y with rfl|rfl|rfl|rfl|rfl<;>rfl) aZ ui Tk iS ?_;intro Q4 w5 b q i;obtain⟨Zw,Q,V⟩:=bA b;subst V;have g:=(ad.alloc (.cells #[.slice a k k,.slice p1 n1 c1,.slice p2 n2 c2,.slice p3 n3 c3,(Y m:Value)] 60)).grown q (λe=>ai e.symm);have Bv:=((g.cell 3).trans W);have cj:=g.frozen 3)
     have R:sM jk.ok l P 3 60 WX B (.slice ab t.length cb) cs t w (w5.setCell (F P 3) (.slice Zw (t.length+1) Q)):=sM.push r.lt ai Jc Fr F8 (λ_ _ h k=>jk.ok.keep h k) (λ_ h=>F8.lt h) HX ao v (cy wr _ _) q g b i an.o;clear i b q g;go_end0;exact⟨rfl,R⟩
theorem Tryz.ajt:(prog.info? 9).map (λi=>(i.zero,i.size,i.bytes))=some (some ε,1,16):=by kernel_rfl
theorem Tryz.af1:(prog.info? 64).map (λi=>(i.zero,i.size,i.bytes))=some (some (.agg #[σ,σ,σ,σ,ε]),5,112):=by kernel_rfl
theorem Q1(p S n)(a)(vs:List Value)(d)(vb)(cs)(B)(w)(hW:dm w S cs)(ad:cs[4]?=some vb)(t:w.ownsRow p 64 5 vb d.length (jU d))(ak:vb.ownBlock≠some S)(bb:p<=w.1.size)(hn:Hid (vs.length=n))(cp:n<=100000)(ha:Hid (a=none->n=0))(hB:Hid ((n=0/\B=none)\/∃g,B=some g/\a=some ⟨g,0,none⟩/\0<n/\dm w g vs.toArray/\g≠S/\vb.ownBlock≠some g))(cn:(d.length+1)*112<=140737488355328):Calls prog 38 #[N S 2,.slice a n n] w λe b=>e=.returned (.tuple #[])/\sM jk.ok p S 4 64 xf B vb cs d w b:=by
 obtain⟨i0,J,K,L,Q⟩:=info_parts Tryz.ajt
 obtain⟨ie,bn,bk,bl,bm⟩:=info_parts Tryz.af1
 obtain⟨ab,cb,bt⟩:=bA t
 subst bt
 have bf:=(hW.cell 4).trans ad
 have cm:d.length<=140737488355328:=aZ
 have f:#[Value.int IntKind.u8 ((d.length:Int) % 251),Value.int IntKind.u8 ((d.length:Int) / 251 % 256)].toList=[UInt8.ofNat (d.length % 251),UInt8.ofNat (d.length / 251 % 256)].map U8:=by
  simp only[eN,fR,U8,ez];rw[eI (show d.length % 251<2 ^ 8 by omega),eI (show d.length / 251 % 256<2 ^ 8 by omega)];simp
 have i:At (w.alloc (.cells #[.int .u8 ((d.length:Int) % 251),.int .u8 ((d.length:Int) / 251 % 256)] 5)).drew (some ⟨w.1.size,0,none⟩) [UInt8.ofNat (d.length % 251),UInt8.ofNat (d.length / 251 % 256)]:=dX w 5 _ _ f
 have b:=ek (P:=prog) (w.alloc (.cells #[.int .u8 ((d.length:Int) % 251),.int .u8 ((d.length:Int) / 251 % 256)] 5)).drew 37 9 5 underlying37 underlying5 underlying9 (some ⟨w.1.size,0,none⟩) 2 [UInt8.ofNat (d.length % 251),UInt8.ofNat (d.length / 251 % 256)] i
 simp only[de,List.length_nil,cR]at b
 obtain⟨M,k⟩:∃M:ByteArray,M=⟨[UInt8.ofNat (d.length % 251),UInt8.ofNat (d.length / 251 % 256)].toArray⟩:=⟨_,rfl⟩
 rw[<-k]at b
 clear k f i
 obtain⟨w0,f⟩:=aw ((w.alloc (.cells #[.int .u8 ((d.length:Int) % 251),.int .u8 ((d.length:Int) / 251 % 256)] 5)).drew)
 have V:w.grownBy w0 none:=by rw[f];exact bg (cy w _ _)
 have i:=I f
 clear f
 go_in
 go_wp2_with fail
 go_region
 rw[<-i]
 clear b i
 go_wp2
 have cr:=V.size
 go_loopw [5] (λi wr=>∃k:Nat,k<=n/\i = Y k/\w.grownBy wr B/\(∀g,B=some g->dm wr g (List.replicate k (.string M:Value)++vs.drop k).toArray)) (λi _=>n-(intOf i).toNat)
 case atStart=>
  refine⟨0,cS _,rfl,KP V,?_⟩;intro g b;rcases hB.o with⟨r,v⟩|⟨g',r,v,l,f,_⟩
  .rw[v]at b;cases b
  .rw[r]at b;cases b;simpa using f.grown V Z
 case round=>
  obtain⟨k,hk,rfl,D,C⟩:=hrel;by_cases hlt:k<n
  .obtain⟨g,f,x⟩:∃g,B=some g/\a=some ⟨g,0,none⟩:=by
    rcases hB.o with⟨r,v⟩|⟨g,r,v,_⟩
    .omega
    .exact⟨g,r,v⟩
   have q:=C g f;subst f x;have gN:k<(List.replicate k (.string M:Value)++vs.drop k).length:=(by have h:=hn.o;simp;omega);obtain⟨u,y⟩:∃u,(List.replicate k (.string M:Value)++vs.drop k)[k]?=some u:=⟨_,cN gN⟩
   have l:=(q.cell k).trans (by simpa using y);have A:=q.frozen k;have R:dm (wr.setCell (F g k) (.string M:Value)) g (List.replicate (k+1) (.string M:Value)++vs.drop (k+1)).toArray:=by
    have:=q.set k (.string M:Value);rw[<-Vf vs (.string M:Value) k nB];simpa using this
   have G:=Ac (j:=k) (u:=(.string M:Value)) D;clear C D q y gN;go_wp2;go_roundw
   case rel=>exact⟨k+1,by omega,by go_num,G,λg b=>by cases b;exact R⟩
   case measure=>simp[intOf];omega
  .have bo:k=n:=aZ;subst bo;have zu:qR wr a (List.replicate k (.string M:Value)):=by
    rcases hB.o with⟨r,v⟩|⟨g,r,v,_⟩
    .subst r;intro j u y;simp at y
    .have q:=C g r;rw[List.drop_of_length_le (by rw[hn];omega),gf]at q;rw[v];exact q.cat
   have W:Hid ((List.replicate k (.string M:Value)).length=k):=fL;have ag:k+1<=1000000:=aZ;have ba:k+2<=1000000:=aZ;have l:∀u∈[(.string M:Value)],u.oneCell'=true:=(by intro u y;rw[eC.1 y];rfl);have A:∀u∈[(.string M:Value),(.string M:Value)],u.oneCell'=true:=(by intro u y;simp at y;rw[y];rfl);have H7:=I l;have ax:=I A;clear C bf l A;go_wp2_with (first|(at_builtin;refine mh _ rfl (.tmp 36) (.tmp 38) 62 rfl 9 i0 _ 16 underlying62 J K L Q rfl a k (List.replicate k (.string M:Value)) rfl W ha (zu.below (cy _ _ _)) wr.1.size 1 [(.string M:Value)] rfl (Nat.succ_pos _) (p9 wr _ _) H7 ag H ?_;intro v1 w1 l f;have X:=aa (cy wr _ none) f;have je:=zu.below X)|(at_builtin;refine mh _ rfl (.tmp 40) (.tmp 43) 62 rfl 9 i0 _ 16 underlying62 J K L Q rfl a k (List.replicate k (.string M:Value)) rfl W ha (je.below (cy _ _ _)) w1.1.size 2 [(.string M:Value),(.string M:Value)] rfl (Nat.succ_pos _) (p9 w1 _ _) ax ba H ?_;intro v2 U A x;have T:=aa (cy w1 _ none) x;have mH:=je.below T))
   have kZ:=l.kept T (by cases h:v1.ownBlock<;>simp);have av:=aa X T;have bz:=X.size;have ca:=T.size;have cc:=D.size;clear l f x zu je X T;obtain⟨wo,bu⟩:∃wo,wo=wr:=⟨wr,rfl⟩
   subst bu;go_loopw [8,9] (λo i w3=>∃j:Nat,j<=64/\i = Y j/\((j=0/\o=.slice a k k)\/(0<j/\w3.ownsRow U.1.size 9 1 o (k+j) (List.replicate (k+j) (.string M:Value))))/\U.grownBy w3 none) (λ_ i _=>64-(intOf i).toNat)
   case atStart=>exact⟨0,by omega,rfl,.inl ⟨rfl,rfl⟩,cC _ _⟩
   case round=>
    obtain⟨j,hj,rfl,ho,l⟩:=hrel;have cd:=l.size;by_cases ae:j<64
    .have bc:k+j+1<=maxLen:=lA;have az:(k+j+1)*16<=140737488355328:=aZ;rcases ho with⟨X,bs⟩|⟨X,f⟩
     .subst X bs;have kS:=mH.below l;go_wp2_with (at_builtin;refine mh _ rfl _ _ 62 rfl 9 i0 _ 16 underlying62 J K L Q rfl a k (List.replicate k (.string M:Value)) rfl W ha (kS.below (cy _ _ _)) wr.1.size 1 [(.string M:Value)] rfl (Nat.succ_pos _) (p9 wr _ _) H7 ag H ?_;intro v4 w4 jf x)
      have R:w4.ownsRow U.1.size 9 1 v4 (k+1) (List.replicate (k+1) (.string M:Value))/\U.grownBy w4 none:=⟨dw (by rw[<-tT];exact jf) iS,aa (aM l _) x⟩
      clear jf x kS l;go_wp2;go_roundw
      case rel=>exact⟨1,by omega,by go_num,.inr ⟨by omega,R.1⟩,R.2⟩
      case measure=>simp[intOf]
     .have T:=p9 wr #[(.string M:Value)] 9;go_wp2_with (at_builtin;refine fI _ rfl _ _ 62 rfl U.1.size 9 i0 _ 1 16 underlying62 J K L Q rfl H _ _ _ rfl (f.alloc _) (some ⟨wr.1.size,0,none⟩) 1 1 [(.string M:Value)] rfl rfl T pH H7 bc az iS ?_;intro v4 w4 jf x)
      have R:w4.ownsRow U.1.size 9 1 v4 (k+(j+1)) (List.replicate (k+(j+1)) (.string M:Value))/\U.grownBy w4 none:=⟨by rw[<-gC,<-tT (k+j) 1 (.string M:Value)];exact jf,gI (aM l _) x (λi hi=>(f.lt i hi).1)⟩
      clear jf x l f T;go_wp2;go_roundw
      case rel=>exact⟨j+1,by omega,by go_num,.inr ⟨by omega,R.1⟩,R.2⟩
      case measure=>simp[intOf];omega
    .have Tj:j=64:=aZ;subst Tj;have f:wr.ownsRow U.1.size 9 1 u8 (k+64) (List.replicate (k+64) (.string M:Value)):=by
      rcases ho with⟨h,_⟩|⟨_,h⟩
      .omega
      .exact h
     clear ho ae hj;have K3:=aa av l;have xL:=kZ.kept l (by cases h:v1.ownBlock<;>simp);have xM:=A.kept l (by cases h:v2.ownBlock<;>simp);have kS:=mH.below l;clear kZ A mH l;have Fo:=iO.bD D;have Fr:=Fo.trans (iO.mY K3 _);have Jc:=hW.lt;have Bj:∀g,B=some g->g≠S/\(Value.slice ab d.length cb).ownBlock≠some g:=by
      intro g b;rcases hB.o with⟨_,v⟩|⟨g',r,_,_,_,i,x⟩
      .rw[v]at b;cases b
      .rw[r]at b;cases b;exact⟨i,x⟩
     have af:=hW.kept (Fr.block S Jc (λe=>(Bj _ e).1 rfl));have FZ:=dh t (λb hb=>Fr.block b (t.lt b hb).2 (λe=>(Bj _ e).2 hb));have ch:=K3.size;obtain⟨⟨p1,n1,c1⟩,al,bp,ah,i⟩:=nL (n:=k+1) (m:=(.string M:Value)) (by rw[<-tT];exact xL) aZ;obtain⟨⟨p2,n2,c2⟩,an,bq,ai,T⟩:=nL (n:=k+2) (m:=(.string M:Value)) (by rw[<-tT];exact xM) aZ;obtain⟨⟨p3,n3,c3⟩,ao,YS,aj,Jd⟩:=nL (n:=k+64) (m:=(.string M:Value)) f aZ;change v1=.slice p1 n1 c1 at al;change v2=.slice p2 n2 c2 at an;change u8=.slice p3 n3 c3 at ao;subst al an ao;obtain⟨x,hx⟩:∃x:jk,x=⟨(a,k,k),(p1,n1,c1),(p2,n2,c2),(p3,n3,c3),(.string M:Value)⟩:=⟨_,rfl⟩
     have F8:x.ok wr:=(by subst hx;exact⟨⟨by show k<=_;omega,kS⟩,ah,ai,aj⟩);have HX:Hid (x.cells=[.slice a k k,.slice p1 n1 c1,.slice p2 n2 c2,.slice p3 n3 c3,(.string M:Value)]):=(by subst hx;rfl);have ar:Hid (xf x.mark):=(by subst hx;exact⟨_,rfl⟩);have au:vf x B w.1.size:=by
      intro b hb;rw[hx]at hb;rcases hb with h|h|h|h
      .obtain⟨bx,e1,e2⟩:=h;rcases hB.o with⟨r,_⟩|⟨g,r,v,_⟩
       .have cj:0<k:=e2;omega
       .have X:a=some ⟨b,bx,none⟩:=e1;rw[v]at X;simp at X;exact .inl (by rw[r,X.1])
      .have:=(i b h).2;simp at this;exact .inr aZ
      .have:=(T b h).2;simp at this;exact .inr aZ
      .have:=(Jd b h).2;exact .inr aZ
     have ui:d.length+1<=maxLen:=lA;have Tk:(d.length+1)*112<=140737488355328:=aZ;have q:p<=wr.1.size:=aZ;have ck:=(af.cell 4).trans ad;have v:=I Bj;clear hx ah ai aj i T Jd xL xM f kS bp bq YS Bj;go_wp2_with (at_builtin;refine dN _ rfl _ _ 31 rfl p 64 ie _ 5 112 underlying31 bn bk bl bm rfl H _ _ _ rfl (FZ.alloc _) ⟨wr.1.size,0,none⟩ 1 1 [.slice a k k,.slice p1 n1 c1,.slice p2 n2 c2,.slice p3 n3 c3,(.string M:Value)] rfl rfl (gX wr _ _) (by intro u y;simp at y;rcases y with rfl|rfl|rfl|rfl|rfl<;>rfl) aZ ui Tk iS ?_;intro Q4 w5 b r i;obtain⟨Zw,T,X⟩:=bA b;subst X;have g:=(af.alloc (.cells #[.slice a k k,.slice p1 n1 c1,.slice p2 n2 c2,.slice p3 n3 c3,(.string M:Value)] 64)).grown r (λe=>ak e.symm);have Bv:=((g.cell 4).trans ad);have cl:=g.frozen 4)
     have R:sM jk.ok p S 4 64 xf B (.slice ab d.length cb) cs d w (w5.setCell (F S 4) (.slice Zw (d.length+1) T)):=sM.push t.lt ak Jc Fr F8 (λ_ _ h k=>jk.ok.keep h k) (λ_ h=>F8.lt h) HX au v (cy wr _ _) r g b i ar.o;clear i b r g;go_end0;exact⟨rfl,R⟩
theorem Bp(n)(f)(a)(m)(w)(o:n<=9223372036854775807)(d:qR w f (List.replicate n (Y m:Value))):Calls Tryz.prog 12 #[.slice f n a,Y m] w λe b=>e=.returned (.bool true)/\w=b:=by
 go_enter Tryz.func12,Tryz.ntmps12
 go_wp2
 go_loop [5] (λi=>∃k:Nat,k<=n/\i = Y k) (λi=>n-(intOf i).toNat)
 case atStart=>exact⟨0,cS _,rfl⟩
 case round=>
  obtain⟨k,l,rfl⟩:=hrel;by_cases e:k<n
  .have i:(k:Int)<(n:Int):=G;have h:(0:Int)<=(k:Int):=G;obtain⟨b,j,rfl,g⟩:=d k _ (by rw[List.getElem?_replicate,dQ e]);clear d;exact tW
  .have i:¬ (k:Int)<(n:Int):=G;clear d;exact lR
theorem Bq(n)(f)(a)(M)(w)(m:n<=9223372036854775807)(d:qR w f (List.replicate n (.string M:Value))):Calls Tryz.prog 13 #[.slice f n a,.string M] w λe b=>e=.returned (.bool true)/\w=b:=by
 go_enter Tryz.func13,Tryz.ntmps13
 go_wp2
 go_loop [5] (λi=>∃k:Nat,k<=n/\i = Y k) (λi=>n-(intOf i).toNat)
 case atStart=>exact⟨0,cS _,rfl⟩
 case round=>
  obtain⟨k,l,rfl⟩:=hrel;by_cases e:k<n
  .have i:(k:Int)<(n:Int):=G;have h:(0:Int)<=(k:Int):=G;obtain⟨b,j,rfl,g⟩:=d k _ (by rw[List.getElem?_replicate,dQ e]);clear d;exact tW
  .have i:¬ (k:Int)<(n:Int):=G;clear d;exact lR
theorem yH(n)(f)(a)(m:UInt8)(w)(o:n<=9223372036854775807)(d:qR w f (List.replicate n (.int .u8 (m.toNat:Int):Value))):Calls Tryz.prog 11 #[.slice f n a,.int .u8 (m.toNat:Int)] w λe b=>e=.returned (.bool true)/\w=b:=by
 go_enter Tryz.func11,Tryz.ntmps11
 go_wp2
 go_loop [5] (λi=>∃k:Nat,k<=n/\i = Y k) (λi=>n-(intOf i).toNat)
 case atStart=>exact⟨0,cS _,rfl⟩
 case round=>
  obtain⟨k,l,rfl⟩:=hrel;by_cases e:k<n
  .have i:(k:Int)<(n:Int):=G;have h:(0:Int)<=(k:Int):=G;obtain⟨b,j,rfl,g⟩:=d k _ (by rw[List.getElem?_replicate,dQ e]);clear d;exact tW
  .have i:¬ (k:Int)<(n:Int):=G;clear d;exact lR
