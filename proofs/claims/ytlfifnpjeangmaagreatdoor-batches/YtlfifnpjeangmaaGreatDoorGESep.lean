import Derived.Test.YtlfifnpjeangmaaGreatDoorGERows2
import Derived.Test.YtlfifnpjeangmaaGreatDoorGELaw1
namespace Go.Proofs.YtlfifnpjeangmaaGreatDoor
open Go.RowKit
theorem bZ{w w':World}{base:Nat}{e:TypeId}{size:Nat}{v:Value}{n:Nat}{f:List Value}(h:w.ownsRow base e size v n f)(i:∀b,v.ownBlock=some b->w'.heap[b]?=w.heap[b]?):w'.ownsRow base e size v n f:=by
 refine⟨h.1,?_⟩;rcases h.2 with hn|⟨g,cap,d,rfl,j,c,a⟩
 ·exact .inl hn
 ·exact .inr ⟨g,cap,d,rfl,j,(i g rfl).trans c,a⟩
theorem iZ.refl(w)(ex:Nat->Prop):iZ w w ex:=⟨rfl,rfl,rfl,cy _,λ_ _ _=>rfl⟩
theorem iZ.mono{w w':World}{ex ex':Nat->Prop}(h:iZ w w' ex)(k:∀b,b<w.heap.size->ex b->ex' b):iZ w w' ex':=⟨h.os,h.tape,h.output,h.size,(by grind [iZ.block])⟩
theorem iZ.trans{a b c:World}{ex:Nat->Prop}(h:iZ a b ex)(k:iZ b c λi=>ex i\/a.heap.size<=i):iZ a c ex:=by
 have s:=h.size;refine⟨k.os.trans h.os,k.tape.trans h.tape,k.output.trans h.output,cE h.size k.size,λi d e=>?_⟩;rw[k.block i agE agM,h.block i d e]
theorem iZ.bF{w w':World}{row:Option Nat}(h:w.grownBy w' row):iZ w w' λb=>row=some b:=⟨h.os,h.tape,h.output,h.size,ag8⟩
theorem iZ.lM{w w':World}(h:w.grownBy w' none)(ex:Nat->Prop):iZ w w' ex:=⟨h.os,h.tape,h.output,h.size,ag8⟩
theorem iZ.below{w w':World}{ex:Nat->Prop}{B:Nat}(h:iZ w w' ex)(a:B<=w.heap.size)(c:∀b,ex b->B<=b):Below B w w':=⟨h.os,h.tape,h.output,h.size,(by grind [iZ.block])⟩
theorem iZ.setCell{a w:World}{ex:Nat->Prop}(h:iZ a w ex)(p)(u)(b:ex p.block\/a.heap.size<=p.block):iZ a (w.setCell p u) ex:=
 h.trans ⟨rfl,rfl,rfl,by simp[World.setCell],ahF⟩
theorem iZ.set{a w:World}{ex:Nat->Prop}{g:Nat}(h:iZ a w ex)(b:ex g)(j:Nat)(u):iZ a (w.setCell (g,j) u) ex:=(by grind [iZ.setCell])
section
variable {S:Type}{C:S->Nat->World->Prop}{Dj:S->Nat->Nat->Prop}
def Loc(C:S->Nat->World->Prop)(Dj:S->Nat->Nat->Prop):Prop:=∀s k w w',C s k w->(∀b,Dj s k b->w'.heap[b]?=w.heap[b]?)->C s k w'
structure Sep(C:S->Nat->World->Prop)(Dj:S->Nat->Nat->Prop)(B:Nat)(s:S)(w:World):Prop where
 here:∀k,C s k w
 lt:∀k b,Dj s k b->b<w.heap.size
 base:∀k b,Dj s k b->B<=b
 one:∀j k b,Dj s j b->Dj s k b->j=k
 room:B<=w.heap.size
theorem Sep.grown(L:Loc C Dj){B:Nat}{s:S}{w w':World}(h:Sep C Dj B s w)(g:w.grownBy w' none):Sep C Dj B s w':=
 have z:=g.size
 ⟨λk=>L s k w w' (h.here k) (λb a=>g.block b (h.lt k b a) agI),λk b a=>by have:=h.lt k b a;omega,h.base,h.one,by have:=h.room;omega⟩
end
end Go.Proofs.YtlfifnpjeangmaaGreatDoor
namespace Go.Proofs.YtlfifnpjeangmaaGreatDoor
open Go.RowKit
set_option maxRecDepth 100000
variable {w:World}
structure iw where
 l:Sl
 one:Sl
 two:Sl
 three:Sl
 mark:Value
def iw.cells(x:iw):List Value:=[x.l.val,x.one.val,x.two.val,x.three.val,x.mark]
def ig(l:List iw):List Value:=(l.map iw.cells).flatten
theorem Jg(l)(x):ig (l++[x])=ig l++x.cells:=by simp[ig]
theorem Lc(l):∀(k j)(a:k<l.length),j<5->(ig l)[k*5+j]?=(l[k]).cells[j]?:=by
 induction l with
 |nil=>intro k j a;simp at a
 |cons x l c=>
  intro k j a b;have e:ig (x::l)=x.cells++ig l:=by simp[ig]
  rw[e];cases k with
  |zero=>rw[gf,cN,cW (by show j<5;exact b)];rfl
  |succ k=>
   grind [iw.cells]
def kT(w:World)(m:Value)(s:Sl):Prop:=s.2.1<=9223372036854775807/\qj w s.1 (List.replicate s.2.1 m)
def Sl.on(s:Sl)(b:Nat):Prop:=∃off,s.1=some ⟨b,off,none⟩/\0<s.2.1
def iw.ok(w:World)(x:iw):Prop:=kT w x.mark x.l/\kT w x.mark x.one/\kT w x.mark x.two/\kT w x.mark x.three
def iw.on(x:iw)(b:Nat):Prop:=x.l.on b\/x.one.on b\/x.two.on b\/x.three.on b
theorem kT.keep{w':World}{m:Value}{s:Sl}(h:kT w m s)(k:∀b,s.on b->w'.heap[b]?=w.heap[b]?):kT w' m s:=by
 refine⟨h.1,λj u d=>?_⟩;obtain⟨b,off,c,f⟩:=h.2 j u d;have e:=(cM.1 d).1;rw[fs]at e;refine⟨b,off,c,?_⟩;rw[World.cell?_of_block (w:=w) (w':=w') (a:=⟨b,off+j,none⟩) (k b ⟨off,c,by omega⟩)];exact f
theorem iw.ok.keep{w':World}{x:iw}(h:x.ok w)(k:∀b,x.on b->w'.heap[b]?=w.heap[b]?):x.ok w':=
 ⟨h.1.keep (λb a=>k b (.inl a)),h.2.1.keep (λb a=>k b (.inr (.inl a))),h.2.2.1.keep (λb a=>k b (.inr (.inr (.inl a)))),h.2.2.2.keep (λb a=>k b (.inr (.inr (.inr a))))⟩
theorem aeZ{p:Prop}(h:p:=by
 rw[e1]at e3
 injection e3 with e3
 injection e3 with e3 _ _
 subst e3
 exact World.block_lt_of_cell? w _ e4):p:=h
theorem kT.lt{m:Value}{s:Sl}(h:kT w m s){b:Nat}(c:s.on b):b<w.heap.size:=by
 obtain⟨off,e1,d⟩:=c;obtain⟨e,a,e3,e4⟩:=h.2 0 m (by simp[d]);exact aeZ
theorem aeN{p:Prop}(h:p:=by
 rcases hb with e|e|e|e
 ·exact h.1.lt e
 ·exact h.2.1.lt e
 ·exact h.2.2.1.lt e
 ·exact h.2.2.2.lt e):p:=h
theorem iw.ok.lt{x:iw}(h:x.ok w){b:Nat}(hb:x.on b):b<w.heap.size:=by
 exact aeN
theorem si(n k)(m:Value):List.replicate n m++List.replicate k m=List.replicate (n+k) m:=by rw[List.replicate_append_replicate]
theorem ae4{p:Prop}(h:p:=by
 rintro b ⟨off,e1,e2⟩
 have WZ:ao=some ⟨b,off,none⟩:=e1
 subst WZ
 exact⟨rfl,(h.lt b rfl).1⟩):p:=h
theorem mV{base:Nat}{e:TypeId}{v:Value}{n:Nat}{m:Value}(h:w.ownsRow base e 1 v n (List.replicate n m))(hn:n<=9223372036854775807):
  ∃s,v=s.val/\s.2.1=n/\kT w m s/\∀b,s.on b->v.ownBlock=some b/\base<=b:=by
 obtain⟨ao,cap,a⟩:=bA h
 subst a
 refine⟨(ao,n,cap),rfl,rfl,⟨hn,nA h⟩,?_⟩
 exact ae4
theorem agD{p:Prop}(h:p:=by
 intro ad zs h j u hu
 obtain⟨b,off,e1,e2⟩:=h j u hu
 grind [Addr.add_lit]):p:=h
theorem lN{P:Program}(w){g:Array Oper}{f:List Oper}{o:Oper}{a:Act}{Q:Exit->Act->World->Prop}(M:o.guard=none)(s x)(t)(m:o.op=Op.call {callee:=Callee.builtin Builtin.append,args:=#[s,x],argTypes:=#[t,t]})(e)(i)(z)(bytes)(I:P.underlying t=some (.slice e))(A:P.info? e=some i)(L:i.zero=some z)(H:i.size=1)(C:i.bytes=bytes)(E:z.cells.size=1)(k)(n)(l)(G:a.eval s=.slice k n n)(hn:l.length=n)(p:k=none->n=0)(D:qj w k l)(b c:Nat)(d)(K:a.eval x=.slice (some (b,0)) d.length c)(N:0<d.length)(hy:qj w (some ⟨b,0,none⟩) d)(q:∀u∈d,u.oneCell'=true)(y:n+d.length<=1000000)(J:bytes<=1000)(F:∀r w',w'.ownsRow w.heap.size e 1 r (n+d.length) (l++d)->w.grownBy w' none->wpList P g Q f (a.put o.dst r) w'):
  wpList P g Q (o::f) a w:=by
 have B:∀(ad)(zs),qj w (some ad) zs->∀j u,zs[j]?=some u->w.cell? (ad.add j)=some u:=by
  exact agD
 have v:(n+d.length)*bytes<=140737488355328:=cE (Nat.mul_le_mul y J) agE
 exact wpList_append_grows w M s x t m e i z 1 bytes I A L H C E agF k n n l G agM (by rw[hn,fR]) agM ⟨b,0,none⟩ d.length c d K (by rw[fR]) (B _ _ hy) q agE ag1 v F
theorem oW(w:World)(cs)(e):qj (w.alloc (.cells cs e)) (some ⟨w.heap.size,0,none⟩) cs.toList:=by
 intro j u a;grind [World.cell?_alloc_at]
theorem R7(a:List Value)(m)(k)(h:k<a.length):(List.replicate k m++a.drop k).set k m=List.replicate (k+1) m++a.drop (k+1):=by
 exact aep
theorem dB.cat{g:Nat}{cs:List Value}(h:dB w g cs.toArray):qj w (some ⟨g,0,none⟩) cs:=by
 intro j u a;refine⟨g,0,rfl,?_⟩;rw[cN,h.cell];simpa using a
def Xa(v:Value):Prop:=∃m:UInt8,v=.int .u8 m.toNat
def Ld(v:Value):Prop:=∃m:Int,v = ι m
def Xb(v:Value):Prop:=∃m:ByteArray,v=.string m
def XOn(x:iw)(gB:Option Nat)(n:Nat):Prop:=∀b,x.on b->gB=some b\/n<=b
def qX(ok:World->iw->Prop)(base wb j:Nat)(R9:TypeId)(mk:Value->Prop)(gB:Option Nat)(vb:Value)(cs:Array Value)(fT:List iw)(w w':World):Prop:=
 ∃x OG,mk x.mark/\dB w' wb (cs.setIfInBounds j OG)/\w'.ownsRow base R9 5 OG (fT.length+1) (ig (fT++[x]))/\ok w' x/\iZ w w' (λb=>b=wb\/vb.ownBlock=some b\/gB=some b)/\
  (∀b,OG.ownBlock=some b->vb.ownBlock=some b\/w.heap.size<=b)/\∀b,x.on b->b≠wb/\OG.ownBlock≠some b/\(gB=some b\/w.heap.size<=b)
theorem qX.push{ok:World->iw->Prop}{base c j:Nat}{A:TypeId}{z:Value->Prop}{gB:Option Nat}{a d:Value}{cs:Array Value}{t:List iw}{wr v p:World}{x:iw}{y:List Value}(G:∀k,a.ownBlock=some k->base<=k/\k<w.heap.size)(C:a.ownBlock≠some c)(D:c<w.heap.size)(Fr:iZ w wr (λb=>gB=some b))(q:ok wr x)(s:∀W W',ok W x->(∀b,x.on b->W'.heap[b]?=W.heap[b]?)->ok W' x)(r:∀b,x.on b->b<wr.heap.size)(H:x.cells=y)(o:XOn x gB w.heap.size)(I:∀g,gB=some g->g≠c/\a.ownBlock≠some g)(i:wr.grownBy v a.ownBlock)(h:v.grownBy p a.ownBlock)(E:dB p c cs)(B:p.ownsRow base A 5 d (t.length+1) (ig t++y))(f:d.ownBlock=a.ownBlock\/d.ownBlock=some v.heap.size)(u:z x.mark):qX ok base c j A z gB a cs t w (p.setCell (c,j) d):=by
 have J:=Fr.size
 have L:=i.size
 have s3:=h.size
 have F:d.ownBlock≠some c:=by
  grind
 have l:∀b,x.on b->b≠c/\a.ownBlock≠some b:=by
  intro b f;rcases o b f with e|e
  ·exact I b e
  grind
 refine⟨x,d,u,E.set j d,?_,?_,?_,?_,?_⟩
 ·grind [RowKit.Below.heap_setCell,bZ,Jg]
 ·refine s _ _ q (λb f=>?_);have m:=r b f;rw[Below.heap_setCell _ _ _ _ (l b f).1,h.block b agE agM,i.block b m agM]
 ·refine⟨(h.os.trans i.os).trans Fr.os,(h.tape.trans i.tape).trans Fr.tape,(h.output.trans i.output).trans Fr.output,by rw[World.size_setCell];omega,λb f q=>?_⟩;rw[Below.heap_setCell _ _ _ _ (λe=>q (.inl e)),h.block b agE agM,i.block b agE agM,Fr.block b f (λe=>q (.inr (.inr e)))]
 ·grind
 ·intro b n;refine⟨(l b n).1,λe=>?_,o b n⟩;grind
set_option maxHeartbeats 2000000
open Proofs.Tryz
theorem ahb{p:Prop}(h:p:=by intro u hu;simp at hu;rcases hu with rfl|rfl|rfl|rfl|rfl<;>rfl):p:=h
variable {n:Nat}{p:Option Pl}{u:Value}{w':World}
theorem Tryz.ah1:(prog.info? 57).map (λi=>(i.zero,i.size,i.bytes))=some (some (.agg #[.slice none 0 0,.slice none 0 0,.slice none 0 0,.slice none 0 0,.int .u8 0]),5,104):=by kernel_rfl
theorem Out.set{c:Option Addr}{cap:Nat}{a:List UInt8}(h:Out w (.slice c n cap) p a)(k)(y)(d:k<a.length):∃b off,c=some ⟨b,off,none⟩/\w.cell? ⟨b,off+k,none⟩=some (U8 a[k])/\w.frozen? ⟨b,off+k,none⟩=false/\Out (w.setCell ⟨b,off+k,none⟩ (U8 y)) (.slice c n cap) p (a.set k y)/\CF w (w.setCell ⟨b,off+k,none⟩ (U8 y)) (Pl.has p):=by
 rcases h with⟨_,_,h⟩|⟨q,f,m,j,l,e,i⟩
 ·subst h;simp at d
 ·injection m with e1 e2 e3;subst e1 e3;have F:CF w (w.setCell (q.g,q.off+k) (U8 y)) (Pl.has p):=(CF.refl _ _).setCell _ _ _ (λ_=>⟨q,f,rfl,by omega,by omega⟩);refine⟨q.g,q.off,rfl,i k _ (by simp[d]),e.frozen _,.inr ⟨q,f,by rw[eL,e2],by rw[eL];exact j,l,e.cf F,?_⟩,F⟩;rw[List.map_set];exact G9 i k _
theorem Out.marked{v:Value}{m:UInt8}(h:Out w v p (List.replicate n m))(hn:n<=9223372036854775807):∃s,v=s.val/\s.2.1=n/\kT w (U8 m) s/\∀b,s.on b->∃q,p=some q/\q.g=b:=by
 rcases h with⟨d,rfl,h⟩|⟨q,d,rfl,i,k,l,f⟩
 ·refine⟨(none,0,0),rfl,?_,⟨cS _,λj u a=>by simp at a⟩,?_⟩
  ·have:=congrArg List.length h;simpa using this.symm
  ·rintro b ⟨off,e,_⟩;cases e
 ·refine⟨(some ⟨q.g,q.off,none⟩,(List.replicate n m).length,q.cap),rfl,fs,⟨by grind,λj u a=>⟨q.g,q.off,rfl,?_⟩⟩,?_⟩
  ·have c:(List.replicate n (U8 m))[j]?=some u:=(by simpa using a);exact f j u agM
  ·rintro b ⟨off,e,_⟩;grind
theorem kT.km{s:Sl}(h:kT w u s)(k:KM w w' u):kT w' u s:=by
 refine⟨h.1,λj x a=>?_⟩;obtain⟨b,off,c,d⟩:=h.2 j x a;have:x=u:=agM;subst this;exact⟨b,off,c,k b _ d⟩
theorem KM.refl(w)(u):KM w w u:=λ_ _ h=>h
theorem KM.trans{a b c:World}(h:KM a b u)(k:KM b c u):KM a c u:=λx y e=>k x y (h x y e)
theorem KM.bF{a b:World}(h:a.grownBy b none):KM a b u:=λ_ _ e=>h.cell e agI
theorem Out.km{ex:Nat->Nat->Prop}{v:Value}{m:UInt8}(h:Out w v p (List.replicate n m))(k:KM w w' (U8 m))(f:CF w w' ex):Out w' v p (List.replicate n m):=by
 rcases h with h|⟨q,i,d,b,c,g,l⟩
 ·exact .inl h
 ·refine .inr ⟨q,i,d,b,c,g.cf f,λj u a=>?_⟩;have:=l j u a;rw[List.map_replicate]at a;have e:u=U8 m:=agM;subst e;exact k _ _ this
def Pl.blk(p:Option Pl):Option Nat:=p.map (·.g)
theorem aeP(h:CF w w' (Pl.has p)):iZ w w' (λb=>Pl.blk p=some b):=
 ⟨h.os,h.tape,h.output,h.size,λb a c=>h.block b a (λo e=>by obtain⟨q,f,d,_⟩:=e;exact c (by rw[f,d];rfl))⟩
theorem abl(base A n:Nat)(v)(p)(bs)(r)(vb)(cs)(w)(hW:dB w A cs)(J:cs[2]?=some vb)(f:w.ownsRow base 57 5 vb r.length (ig r))(ah:vb.ownBlock≠some A)(aI:base<=w.heap.size)(hn:Hid (bs.length=n))(aT:n<=100000)(hO:Out w v p bs)(hB:∀g,Pl.blk p=some g->g≠A/\vb.ownBlock≠some g)(a6:(r.length+1)*112<=140737488355328):
  Calls prog 21 #[(A,2),v] w λe w'=>e=.returned (.tuple #[])/\qX iw.ok base A 2 57 Xa (Pl.blk p) vb cs r w w':=by
 obtain⟨i0,C,G,H,F⟩:=info_parts Tryz.info5
 obtain⟨ie,aG,aO,aJ,ay⟩:=info_parts Tryz.ah1
 obtain⟨ab,cb,ax⟩:=bA f
 subst ax
 obtain⟨a,cap,az,aQ,aZ,_,_⟩:=hO.open hn
 subst az
 have aH:=(hW.cell 2).trans J
 have a1:r.length<=140737488355328:=agE
 obtain⟨m,hm⟩:∃m:UInt8,m=UInt8.ofNat (r.length % 251):=⟨_,rfl⟩
 have HM:Hid ((r.length:Int) % 251=(m.toNat:Int)):=by show _=_;rw[hm];exact WV _
 clear hm
 have HB:=hid hB
 clear hB
 go_enter func21,ntmps21
 go_wp2
 rw[HM.o]
 go_loopw [5] (λi wr=>∃k:Nat,k<=n/\i = ι k/\Out wr (.slice a n cap) p (List.replicate k m++bs.drop k)/\CF w wr (Pl.has p)) (λi _=>n-(intOf i).toNat)
 case atStart=>grind [CF.refl]
 case round=>
  obtain⟨k,hk,rfl,l,s⟩:=hrel;by_cases hlt:k<n
  ·have mU:(k:Int)<(n:Int):=agE;have aW:(0:Int)<=(k:Int):=agE;have hkl:k<(List.replicate k m++bs.drop k).length:=(by have h:=hn.o;simp;omega);obtain⟨b,off,aM,aX,aS,c,V⟩:=l.set k m hkl;have z:=FU bs m k ag4;rw[z]at c;subst aM;have F2:=s.trans V (λ_ _ _ e=>e);have FV:=hid c;have p9:=hid F2;clear l s z c F2 V hO;go_wp2;go_roundw
   case rel=>exact⟨k+1,by omega,by go_num,FV.o,p9.o⟩
   case measure=>simp[intOf];omega
  ·have aB:k=n:=agE;subst aB;rw[List.drop_of_length_le agR,fS]at l
   have D:∀W:World,Src prog 1 37 (.slice (some (W,0)) 1 1) 1 ((List.replicate 1 m).map U8) (W.alloc (.cells #[.int .u8 m.toNat] 5)):=
    λW=>sK (P:=prog) underlying37 _ 1 1 (List.replicate 1 m) rfl (fq _ _ _ _ rfl)
   have S:∀W:World,Src prog 1 37 (.slice (some (W,0)) 2 2) 2 ((List.replicate 2 m).map U8) (W.alloc (.cells #[.int .u8 m.toNat,.int .u8 m.toNat] 5)):=
    λW=>sK (P:=prog) underlying37 _ 2 2 (List.replicate 2 m) rfl (fq _ _ _ _ rfl)
   have Dc:Hid ((List.replicate k m).length+1<=140737488355328):=(by show _<=_;simp;omega);have ak:Hid ((List.replicate k m).length+2<=140737488355328):=(by show _<=_;simp;omega);have L:∀j,Hid (List.replicate k m++List.replicate j m=List.replicate (k+j) m):=λj=>List.replicate_append_replicate;clear aH hO;go_wp2_with (first|(at_builtin;refine mJ _ rfl (.tmp 27) (.tmp 29) 37 37 rfl 5 i0 underlying37 C G H F _ _ p m (List.replicate k m) 1 rfl rfl (l.grown (cx wr _ none)) 1 (D _) Dc.o ?_;intro v1 w1 R1 K1;have E:=(l.grown (cx wr _ none)).km K1 R1.cf)|(at_builtin;refine mJ _ rfl (.tmp 31) (.tmp 34) 37 37 rfl 5 i0 underlying37 C G H F _ _ p m (List.replicate k m) 2 rfl rfl (E.grown (cx w1 _ none)) 2 (S _) ak.o ?_;intro v2 w2 R2 K2;have c:=(E.grown (cx w1 _ none)).km K2 R2.cf))
   rw[(L 1).o]at R1;rw[(L 2).o]at R2;have aj:=R1.before (cx wr _ none);have aq:=R2.before (cx w1 _ none);have aE:=(KM.bF (cx wr _ none)).trans K1;have an:=(KM.bF (cx w1 _ none)).trans K2;clear R1 R2 K1 K2 E;obtain⟨wo,aL⟩:∃wo,wo=wr:=⟨wr,rfl⟩
   subst aL;go_loopw [8,9] (λo i w3=>∃j:Nat,j<=64/\i = ι j/\aU w2 w3 o p (List.replicate (k+j) m)/\KM w2 w3 (U8 m)) (λ_ i _=>64-(intOf i).toNat)
   case atStart=>grind [aU.refl,KM.refl]
   case round=>
    obtain⟨j,hj,rfl,R3,N⟩:=hrel;by_cases I:j<64
    ·obtain⟨p3,ag,Z⟩:=R3;have yf:=hid Z;have aN:Hid ((List.replicate (k+j) m).length+1<=140737488355328):=(by show _<=_;simp;omega);clear Z;go_wp2_with (at_builtin;refine mJ _ rfl _ _ 37 37 rfl 5 i0 underlying37 C G H F _ _ p3 m (List.replicate (k+j) m) 1 rfl rfl (ag.grown (cx wr _ none)) 1 (D _) aN.o ?_;intro v4 w4 R4 K4)
     have R:aU w2 w4 v4 p (List.replicate (k+(j+1)) m):=by
      have:=aU.comp yf.o (R4.before (cx wr _ none)) agI;rw[List.replicate_append_replicate]at this;exact this
     have K:=N.trans ((KM.bF (cx wr _ none)).trans K4);clear R4 K4 ag yf N;go_wp2;go_roundw
     case rel=>exact⟨j+1,by omega,by go_num,R,K⟩
     case measure=>simp[intOf];omega
    ·have Pk:j=64:=agE;subst Pk;clear I hj D S Dc ak L;have F1:=aj.cf;have F2:=aq.cf;have F3:=R3.cf;have FF:=((s.trans F1 (λ_ _ _ e=>e)).trans F2 (λ_ _ _ e=>e)).trans F3 (λ_ _ _ e=>e);have sA:=s.size;have sB:=F1.size;have sC:=F2.size;have sD:=F3.size;have Fr:=aeP FF;have FY:=hW.lt;have Xc:dB wr A cs:=(by grind [iZ.block,RowKit.Hid.o,dB.kept])
     have Dk:=bZ f (λb hb=>Fr.block b (f.lt b hb).2 (λe=>(HB.o _ e).2 hb));have av:=c.km N F3;obtain⟨p1,o1,_,q1,_⟩:=aj;obtain⟨p2,o2,_,q2,_⟩:=aq;obtain⟨p3,o3,_,q3,_⟩:=R3;obtain⟨⟨z0,n0,c0⟩,U,aK,ae,ad⟩:=av.marked agE;obtain⟨⟨z1,n1,c1⟩,af,aA,Q,aa⟩:=o1.marked agE;obtain⟨⟨O,n2,c2⟩,ar,aw,ai,al⟩:=o2.marked agE;obtain⟨⟨z3,X,T⟩,au,VY,Xd,FZ⟩:=o3.marked agE;have ao:=Q.km (an.trans N);have Y:=ai.km N;change Value.slice a k cap=.slice z0 n0 c0 at U;change v1=.slice z1 n1 c1 at af;change v2=.slice O n2 c2 at ar;change u8=.slice z3 X T at au;injection U with y1 y2 y3;subst y1 y2 y3 af ar au;obtain⟨x,hx⟩:∃x:iw,x=⟨(a,k,cap),(z1,n1,c1),(O,n2,c2),(z3,X,T),.int .u8 m.toNat⟩:=⟨_,rfl⟩
     have Dl:x.ok wr:=(by subst hx;exact⟨ae,ao,Y,Xd⟩);have HX:Hid (x.cells=[.slice a k cap,.slice z1 n1 c1,.slice O n2 c2,.slice z3 X T,.int .u8 m.toNat]):=(by subst hx;rfl);have aP:Hid (Xa x.mark):=(by subst hx;exact⟨_,rfl⟩);have aF:XOn x (Pl.blk p) w.heap.size:=by
      have aC:∀(pp)(B b),(pp=p\/Pl.fresh B pp)->w.heap.size<=B->(∃q,pp=some q/\q.g=b)->Pl.blk p=some b\/w.heap.size<=b:=by
       rintro pp B b h hB ⟨q,hq,e⟩;rcases h with h|h
       ·left;rw[<-h,hq,<-e];rfl
       ·right;have:=h q hq;omega
      intro b hb;rw[hx]at hb;rcases hb with h|h|h|h
      ·exact aC p w.heap.size b (.inl rfl) (cy _) (ad b h)
      ·grind
      ·grind
      grind
     have sM:r.length+1<=maxLen:=ag1;have Pm:(r.length+1)*104<=140737488355328:=agE;have aV:base<=wr.heap.size:=agE;have aY:=(Xc.cell 2).trans J;clear hx ae Q ai Xd ao Y ad aa al FZ o1 o2 o3 q1 q2 q3 l c av aK aA aw VY F1 F2 F3 FF s aE an N;go_wp2_with (at_builtin;refine dJ _ rfl _ _ 29 rfl base 57 ie _ 5 104 underlying29 aG aO aJ ay rfl agF _ _ _ rfl (Dk.alloc _) ⟨wr.heap.size,0,none⟩ 1 1 [.slice a k cap,.slice z1 n1 c1,.slice O n2 c2,.slice z3 X T,.int .u8 m.toNat] rfl rfl (gJ wr _ _) ahb agE sM Pm ag2 ?_;intro OG w5 d M y;obtain⟨WU,aD,Jh⟩:=bA d;subst Jh;have t:=(Xc.alloc (.cells #[.slice a k cap,.slice z1 n1 c1,.slice O n2 c2,.slice z3 X T,.int .u8 m.toNat] 57)).grown M (λe=>ah e.symm);have KJ:=((t.cell 2).trans J);have aR:=t.frozen 2)
     have R:qX iw.ok base A 2 57 Xa (Pl.blk p) (.slice ab r.length cb) cs r w (w5.setCell (A,2) (.slice WU (r.length+1) aD)):=qX.push f.lt ah FY Fr Dl (by grind [iw.ok.keep]) (λ_ h=>Dl.lt h) HX.o aF HB.o (cx wr _ _) M t d y.o aP.o;clear y d M t;go_end0;exact⟨rfl,R⟩
theorem yZ(n)(d)(cap)(m)(w)(j:n<=9223372036854775807)(c:qj w d (List.replicate n (ι m:Value))):
  Calls Tryz.prog 12 #[.slice d n cap,ι m] w λe w'=>e=.returned (.bool true)/\w=w':=by
 go_enter Tryz.func12,Tryz.ntmps12
 go_wp2
 go_loop [5] (λi=>∃k:Nat,k<=n/\i = ι k) (λi=>n-(intOf i).toNat)
 case atStart=>exact⟨0,cS _,rfl⟩
 case round=>
  obtain⟨k,l,rfl⟩:=hrel;by_cases a:k<n
  ·have f:(k:Int)<(n:Int):=agE;have h:(0:Int)<=(k:Int):=agE;obtain⟨b,off,rfl,g⟩:=c k _ (by rw[List.getElem?_replicate,if_pos a]);clear c;exact aa1
  ·have f:¬ (k:Int)<(n:Int):=agE;clear c;exact aaE
theorem ze(n)(d)(cap)(M)(w)(j:n<=9223372036854775807)(c:qj w d (List.replicate n (.string M:Value))):
  Calls Tryz.prog 13 #[.slice d n cap,.string M] w λe w'=>e=.returned (.bool true)/\w=w':=by
 go_enter Tryz.func13,Tryz.ntmps13
 go_wp2
 go_loop [5] (λi=>∃k:Nat,k<=n/\i = ι k) (λi=>n-(intOf i).toNat)
 case atStart=>exact⟨0,cS _,rfl⟩
 case round=>
  obtain⟨k,l,rfl⟩:=hrel;by_cases a:k<n
  ·have f:(k:Int)<(n:Int):=agE;have h:(0:Int)<=(k:Int):=agE;obtain⟨b,off,rfl,g⟩:=c k _ (by rw[List.getElem?_replicate,if_pos a]);clear c;exact aa1
  ·have f:¬ (k:Int)<(n:Int):=agE;clear c;exact aaE
theorem wP(n)(d)(cap)(m:UInt8)(w)(j:n<=9223372036854775807)(c:qj w d (List.replicate n (.int .u8 m.toNat:Value))):
  Calls Tryz.prog 11 #[.slice d n cap,.int .u8 m.toNat] w λe w'=>e=.returned (.bool true)/\w=w':=by
 go_enter Tryz.func11,Tryz.ntmps11
 go_wp2
 go_loop [5] (λi=>∃k:Nat,k<=n/\i = ι k) (λi=>n-(intOf i).toNat)
 case atStart=>exact⟨0,cS _,rfl⟩
 case round=>
  obtain⟨k,l,rfl⟩:=hrel;by_cases a:k<n
  ·have f:(k:Int)<(n:Int):=agE;have h:(0:Int)<=(k:Int):=agE;obtain⟨b,off,rfl,g⟩:=c k _ (by rw[List.getElem?_replicate,if_pos a]);clear c;exact aa1
  ·have f:¬ (k:Int)<(n:Int):=agE;clear c;exact aaE
structure aeU(w:World)(base:Nat)(R9:TypeId)(v:Value)(l:List iw)(aeV:Value->Prop):Prop where
 row:w.ownsRow base R9 5 v l.length (ig l)
 ok:∀x∈l,x.ok w
 mark:∀x∈l,aeV x.mark
theorem aeU.grown{w w':World}{base:Nat}{c:TypeId}{v:Value}{l:List iw}{p:Value->Prop}(h:aeU w base c v l p)(k:w.grownBy w' none):aeU w' base c v l p:=
 ⟨h.row.kept k (eR _),λx a=>(h.ok x a).keep (λb d=>k.block b ((h.ok x a).lt d) agI),h.mark⟩
section
variable {S:Type}{C:S->Nat->World->Prop}{Dj:S->Nat->Nat->Prop}
end
structure Tz where
 P:World->Prop
 foot:Nat->Prop
 loc:∀w w',P w->(∀b,foot b->w'.heap[b]?=w.heap[b]?)->P w'
def Tz.emp:Tz:=⟨λ_=>True,λ_=>False,λ_ _ _ _=>trivial⟩
structure WD(PP QP:Type) where
 pv:Value
 qv:Value
 bv:Value
 iv:Value
 sv:Value
 dv:Value
 ps:List PP
 qs:List QP
 eb:List iw
 ei:List iw
 es:List iw
 ed:List iw
abbrev WD.cells{PP QP:Type}(d:WD PP QP):Array Value:=#[d.pv,d.qv,d.bv,d.iv,d.sv,d.dv]
structure Ht(PP QP:Type) where
 pas:PP->Tz
 pb:PP->Nat
 qas:QP->Tz
 qb:QP->Nat
def ptrTo(b:Nat):Value:=.pointer (some (b,0))
def lQ(w:World)(m:Value)(s:Sl):Prop:=s.2.1<=9223372036854775807/\qj w s.1 (List.replicate s.2.1 [.slice none 0 0,m]).flatten
def iw.okD(w:World)(x:iw):Prop:=lQ w x.mark x.l/\lQ w x.mark x.one/\lQ w x.mark x.two/\lQ w x.mark x.three
def abm.on(l:List iw)(b:Nat):Prop:=∃x∈l,x.on b
variable {PP QP:Type}(D:Ht PP QP)(base wb:Nat)
def WD.C(d:WD PP QP)(k:Nat)(w:World):Prop:=
 match k with
 |0=>dB w wb d.cells
 |1=>w.ownsRow base 51 1 d.pv d.ps.length (d.ps.map λp=>ptrTo (D.pb p))
 |2=>w.ownsRow base 54 1 d.qv d.qs.length (d.qs.map λq=>ptrTo (D.qb q))
 |3=>w.ownsRow base 57 5 d.bv d.eb.length (ig d.eb)
 |4=>∀x∈d.eb,x.ok w/\Xa x.mark
 |5=>w.ownsRow base 60 5 d.iv d.ei.length (ig d.ei)
 |6=>∀x∈d.ei,x.ok w/\Ld x.mark
 |7=>w.ownsRow base 64 5 d.sv d.es.length (ig d.es)
 |8=>∀x∈d.es,x.ok w/\Xb x.mark
 |9=>w.ownsRow base 68 5 d.dv d.ed.length (ig d.ed)
 |10=>∀x∈d.ed,x.okD w/\Ld x.mark
 |k+11=>if k % 2=0 then ∀p,d.ps[k / 2]?=some p->(D.pas p).P w else ∀q,d.qs[k / 2]?=some q->(D.qas q).P w
def WD.F(d:WD PP QP)(k b:Nat):Prop:=
 match k with
 |0=>b=wb
 |1=>d.pv.ownBlock=some b
 |2=>d.qv.ownBlock=some b
 |3=>d.bv.ownBlock=some b
 |4=>abm.on d.eb b
 |5=>d.iv.ownBlock=some b
 |6=>abm.on d.ei b
 |7=>d.sv.ownBlock=some b
 |8=>abm.on d.es b
 |9=>d.dv.ownBlock=some b
 |10=>abm.on d.ed b
 |k+11=>if k % 2=0 then ∃p,d.ps[k / 2]?=some p/\(D.pas p).foot b else ∃q,d.qs[k / 2]?=some q/\(D.qas q).foot b
theorem lQ.keep{w w':World}{m:Value}{s:Sl}(h:lQ w m s)(k:∀b,s.on b->w'.heap[b]?=w.heap[b]?):lQ w' m s:=by
 refine⟨h.1,λj u c=>?_⟩;obtain⟨b,off,d,g⟩:=h.2 j u c;have f:0<s.2.1:=by
  rcases Nat.eq_zero_or_pos s.2.1 with e|e
  ·rw[e]at c;simp at c
  ·exact e
 refine⟨b,off,d,?_⟩;rw[World.cell?_of_block (w:=w) (w':=w') (a:=⟨b,off+j,none⟩) (k b ⟨off,d,f⟩)];exact g
theorem WD.loc:Loc (WD.C D base wb) (WD.F D wb):=by
 intro d k w w' h c;have row:∀{e:TypeId}{size:Nat}{v:Value}{n:Nat}{i:List Value},w.ownsRow base e size v n i->(∀b,v.ownBlock=some b->w'.heap[b]?=w.heap[b]?)->w'.ownsRow base e size v n i:=λa b=>bZ a b;match k,h,c with
 |0,h,c=>exact dB.kept h (c wb rfl)
 |1,h,c=>exact row h c
 |2,h,c=>exact row h c
 |3,h,c=>exact row h c
 |4,h,c=>exact λx f=>⟨(h x f).1.keep (λb g=>c b ⟨x,f,g⟩),(h x f).2⟩
 |5,h,c=>exact row h c
 |6,h,c=>exact λx f=>⟨(h x f).1.keep (λb g=>c b ⟨x,f,g⟩),(h x f).2⟩
 |7,h,c=>exact row h c
 |8,h,c=>exact λx f=>⟨(h x f).1.keep (λb g=>c b ⟨x,f,g⟩),(h x f).2⟩
 |9,h,c=>exact row h c
 |10,h,c=>exact λx f=>⟨⟨(h x f).1.1.keep (λb g=>c b ⟨x,f,.inl g⟩),(h x f).1.2.1.keep (λb g=>c b ⟨x,f,.inr (.inl g)⟩),(h x f).1.2.2.1.keep (λb g=>c b ⟨x,f,.inr (.inr (.inl g))⟩),(h x f).1.2.2.2.keep (λb g=>c b ⟨x,f,.inr (.inr (.inr g))⟩)⟩,(h x f).2⟩
 |k+11,h,c=>
  simp only[WD.C,WD.F]at h c⊢;by_cases e:k % 2=0
  ·rw[if_pos e]at h⊢;simp only[e,if_true]at c;exact λp l=>(D.pas p).loc w w' (h p l) (λb g=>c b ⟨p,l,g⟩)
  ·rw[if_neg e]at h⊢;simp only[e,if_false]at c;exact λq j=>(D.qas q).loc w w' (h q j) (λb g=>c b ⟨q,j,g⟩)
abbrev Pn(d:WD PP QP)(w:World):Prop:=Sep (WD.C D base wb) (WD.F D wb) base d w
variable {D base wb}
theorem Pn.grown{d:WD PP QP}{w w':World}(h:Pn D base wb d w)(g:w.grownBy w' none):Pn D base wb d w':=Sep.grown (WD.loc D base wb) h g
theorem Pn.below{d:WD PP QP}{w w':World}{ex:Nat->Prop}{a:World}(h:Pn D base wb d a)(g:Below base a w)(f:iZ w w' ex)(c:∀b,ex b->base<=b):Below base a w':=g.trans (f.below (by have:=h.room;have:=g.size;omega) c)
end Go.Proofs.YtlfifnpjeangmaaGreatDoor
namespace Go.Proofs.YtlfifnpjeangmaaGreatDoor
open Go.RowKit
set_option maxRecDepth 100000
variable {PP QP:Type}{D:Ht PP QP}{base wb:Nat}
theorem Dm{base:Nat}{w w':World}(h:w.grownBy w' none)(b:base<=w.heap.size):Below base w w':=⟨h.os,h.tape,h.output,h.size,λk a=>h.block k agE agI⟩
structure More(D:Ht PP QP)(base wb c:Nat)(d:WD PP QP)(w w':World):Prop where
 sep:∃d',Pn D base wb d' w'/\d'.ps=d.ps/\d'.qs=d.qs/\d'.eb.length<=d.eb.length+c/\d'.ei.length<=d.ei.length+c/\d'.es.length<=d.es.length+c/\d'.dv=d.dv/\d'.ed=d.ed
 below:Below base w w'
theorem More.before{c:Nat}{d:WD PP QP}{a w w':World}(h:More D base wb c d w w')(g:a.grownBy w none)(b:base<=a.heap.size):More D base wb c d a w':=⟨h.sep,(Dm g b).trans h.below⟩
theorem More.none{d:WD PP QP}{w w':World}(c)(h:Pn D base wb d w)(g:w.grownBy w' none):More D base wb c d w w':=
 ⟨⟨d,h.grown g,rfl,rfl,by omega,by omega,by omega,rfl,rfl⟩,Dm g h.room⟩
theorem Out.xI{w w':World}{ex:Nat->Prop}{v:Value}{p:Option Pl}{k:List UInt8}(h:Out w v p k)(f:iZ w w' ex)(n:∀q,p=some q->¬ ex q.g):Out w' v p k:=by
 rcases h with h|⟨q,i,t,l,s,d,x⟩
 ·exact .inl h
 ·have c:=f.block q.g d.lt (n q i);obtain⟨b,e,m,o⟩:=d;refine .inr ⟨q,i,t,l,s,⟨b,e,c.trans m,o⟩,λj u r=>?_⟩;rw[World.cell?_of_block (w:=w) (w':=w') (a:=⟨q.g,q.off+j,none⟩) c];exact x j u r
theorem Out.at'{w:World}{d:Option Addr}{n cap:Nat}{p:Option Pl}{b:List UInt8}(h:Out w (.slice d n cap) p b)(hn:Hid (b.length=n)):At w d b:=by
 obtain⟨a,c,e,_,_,f,_⟩:=h.open hn;injection e with e1 e2 e3;subst e1;exact f
theorem Tryz.Ji:(Tryz.prog.info? 48).map (·.size)=some 41:=by kernel_rfl
theorem Dn{P:Program}{g:Array Oper}{b:List Oper}{o:Oper}{a:Act}{w:World}{Q:Exit->Act->World->Prop}(l:o.guard=none)(c)(x)(u:o.op=.load c x)(k)(q:a.eval x=.pointer (some k))(cs)(d)(t:∀j v,cs.toList[j]?=some v->w.cell? (k.add j)=some v)(r:P.underlying c=some d)(z:(match d with|.struct _|.array _ _=>true|_=>false)=true)(p:(P.info? c).map (·.size)=some cs.size)(h:wpList P g Q b (a.put o.dst (.agg cs)) w):wpList P g Q (o::b) a w:=by
 refine wpList_plain l λK y=>?_
 have n:=run_loadCells_list (P:=P) w k cs.toList t
 have f:(loadVar c k).run P w=.ok (.agg cs) w:=by
  cases m:P.info? c with
  |none=>simp[m]at p
  |some i=>
   have s:i.size=cs.size:=(by simpa[m]using p);have e:(isAgg c).run P w=.ok true w:=by
    unfold isAgg;rw[Sem.run_bind,run_underlying r w];cases d<;>simp_all
   simp only[cV,Array.toArray_toList]at n;simp[loadVar,Sem.run_bind,e,sizeOf,typeInfo,m,s,n]
 unfold Oper.wp execOp
 simp only[u,q,Instr.loadAt,Instr.sureAddr,Sem.run_bind,Sem.run_pure,Result.andThen_ok,f]
 exact y _ _ h
set_option maxHeartbeats 2000000
open Proofs.Tryz
theorem ahk{p:Prop}(h:p:=by cases h:v1.ownBlock<;>simp):p:=h
theorem Tryz.agG:(prog.info? 3).map (λi=>(i.zero,i.size,i.bytes))=some (some (ι 0),1,8):=by kernel_rfl
theorem Tryz.adj:(prog.info? 60).map (λi=>(i.zero,i.size,i.bytes))=some (some (.agg #[.slice none 0 0,.slice none 0 0,.slice none 0 0,.slice none 0 0,ι 0]),5,104):=by kernel_rfl
theorem acg{p:Prop}(h:p:=by
 go_wp2
 go_roundw
 case rel=>exact⟨1,by omega,by go_num,.inr ⟨by omega,R.1⟩,R.2⟩
 case measure=>simp[intOf]):p:=h
theorem agH(base L n:Nat)(a)(W:List Value)(s)(vb)(cs)(gB)(w)(hW:dB w L cs)(U:cs[3]?=some vb)(q:w.ownsRow base 60 5 vb s.length (ig s))(ag:vb.ownBlock≠some L)(aC:base<=w.heap.size)(hn:Hid (W.length=n))(aN:n<=100000)(ha:Hid (a=none->n=0))(hB:Hid ((n=0/\gB=none)\/∃g,gB=some g/\a=some ⟨g,0,none⟩/\0<n/\dB w g W.toArray/\g≠L/\vb.ownBlock≠some g))(aV:(s.length+1)*112<=140737488355328):
  Calls prog 39 #[(L,2),.slice a n n] w λe w'=>e=.returned (.tuple #[])/\qX iw.ok base L 3 60 Ld gB vb cs s w w':=by
 obtain⟨i0,C,E,F,D⟩:=info_parts Tryz.agG
 obtain⟨ie,aA,aF,aD,aq⟩:=info_parts Tryz.adj
 obtain⟨ab,cb,an⟩:=bA q
 subst an
 have aB:=(hW.cell 3).trans U
 have aT:s.length<=140737488355328:=agE
 obtain⟨m,hm⟩:∃m:Int,m=-1000-(s.length:Int):=⟨_,rfl⟩
 have HM:=hid hm.symm
 clear hm
 obtain⟨w0,Q⟩:=aw w
 have S:w.grownBy w0 none:=by rw[Q];exact cC _ _
 go_enter func39,ntmps39
 go_wp2
 rw[HM.o]
 rw[<-Q]
 clear Q
 have aO:=S.size
 go_loopw [5] (λi wr=>∃k:Nat,k<=n/\i = ι k/\w.grownBy wr gB/\(∀g,gB=some g->dB wr g (List.replicate k (ι m:Value)++W.drop k).toArray)) (λi _=>n-(intOf i).toNat)
 case atStart=>
  refine⟨0,cS _,rfl,Jb S,?_⟩;intro g A;rcases hB.o with⟨p,r⟩|⟨g',p,r,h3,h4,_⟩
  ·rw[r]at A;cases A
  ·rw[p]at A;cases A;simpa using h4.grown S agI
 case round=>
  obtain⟨k,hk,rfl,I,K⟩:=hrel;by_cases hlt:k<n
  ·obtain⟨g,B,H⟩:∃g,gB=some g/\a=some ⟨g,0,none⟩:=by
    rcases hB.o with⟨p,r⟩|⟨g,p,r,_⟩
    ·omega
    ·exact⟨g,p,r⟩
   have f:=K g B;subst B H;have hkl:k<(List.replicate k (ι m:Value)++W.drop k).length:=(by have h:=hn.o;simp;omega);obtain⟨u,t⟩:∃u,(List.replicate k (ι m:Value)++W.drop k)[k]?=some u:=⟨_,cL hkl⟩
   have aP:=(f.cell k).trans (by simpa using t);have aK:=f.frozen k;have R:dB (wr.setCell (g,k) (ι m:Value)) g (List.replicate (k+1) (ι m:Value)++W.drop (k+1)).toArray:=by
    have:=f.set k (ι m:Value);rw[<-R7 W (ι m:Value) k ag4];simpa using this
   have G:=yX (j:=k) (u:=(ι m:Value)) I;clear K I f t hkl;go_wp2;go_roundw
   case rel=>exact⟨k+1,by omega,by go_num,G,λg A=>by cases A;exact R⟩
   case measure=>simp[intOf];omega
  ·have av:k=n:=agE;subst av;have yg:qj wr a (List.replicate k (ι m:Value)):=by
    rcases hB.o with⟨p,r⟩|⟨g,p,r,_⟩
    ·subst p;intro j u t;simp at t
    ·have f:=K g p;rw[List.drop_of_length_le (by rw[hn.o];omega),fS]at f;rw[r];exact f.cat
   have P:Hid ((List.replicate k (ι m:Value)).length=k):=fs;have ak:k+1<=1000000:=agE;have ao:k+2<=1000000:=agE;have Oc:∀u∈[(ι m:Value)],u.oneCell'=true:=(by intro u t;rw[ew.1 t];rfl);have Od:∀u∈[(ι m:Value),(ι m:Value)],u.oneCell'=true:=(by intro u t;simp at t;rw[t];rfl);have Fg:=hid Oc;have Z0:=hid Od;clear K aB Oc Od;go_wp2_with (first|(at_builtin;refine lN _ rfl (.tmp 26) (.tmp 28) 24 rfl 3 i0 _ 8 underlying24 C E F D rfl a k (List.replicate k (ι m:Value)) rfl P.o ha.o (yg.below (cx _ _ _)) wr.heap.size 1 [(ι m:Value)] rfl (Nat.succ_pos _) (oW wr _ _) Fg.o ak agF ?_;intro v1 w1 y B;have K1:=aa (cx wr _ none) B;have ji:=yg.below K1)|(at_builtin;refine lN _ rfl (.tmp 30) (.tmp 33) 24 rfl 3 i0 _ 8 underlying24 C E F D rfl a k (List.replicate k (ι m:Value)) rfl P.o ha.o (ji.below (cx _ _ _)) w1.heap.size 2 [(ι m:Value),(ι m:Value)] rfl (Nat.succ_pos _) (oW w1 _ _) Z0.o ao agF ?_;intro v2 w2 z H;have K2:=aa (cx w1 _ none) H;have ni:=ji.below K2))
   have kP:=y.kept K2 ahk;have aG:=aa K1 K2;have aI:=K1.size;have aQ:=K2.size;have aU:=I.size;clear y B H yg ji K1 K2;obtain⟨wo,aE⟩:∃wo,wo=wr:=⟨wr,rfl⟩
   subst aE;go_loopw [8,9] (λo i w3=>∃j:Nat,j<=64/\i = ι j/\((j=0/\o=.slice a k k)\/(0<j/\w3.ownsRow w2.heap.size 3 1 o (k+j) (List.replicate (k+j) (ι m:Value))))/\w2.grownBy w3 none) (λ_ i _=>64-(intOf i).toNat)
   case atStart=>exact⟨0,by omega,rfl,.inl ⟨rfl,rfl⟩,cC _ _⟩
   case round=>
    obtain⟨j,hj,rfl,ho,d⟩:=hrel;have aR:=d.size;by_cases T:j<64
    ·have ax:k+j+1<=maxLen:=ag1;have Z4:(k+j+1)*8<=140737488355328:=agE;rcases ho with⟨ad,au⟩|⟨ad,c⟩
     ·subst ad au;have mK:=ni.below d;go_wp2_with (at_builtin;refine lN _ rfl _ _ 24 rfl 3 i0 _ 8 underlying24 C E F D rfl a k (List.replicate k (ι m:Value)) rfl P.o ha.o (mK.below (cx _ _ _)) wr.heap.size 1 [(ι m:Value)] rfl (Nat.succ_pos _) (oW wr _ _) Fg.o ak agF ?_;intro v4 w4 iU v)
      have R:w4.ownsRow w2.heap.size 3 1 v4 (k+1) (List.replicate (k+1) (ι m:Value))/\w2.grownBy w4 none:=⟨dC (by rw[<-si];exact iU) ag2,aa (aM d _) v⟩
      clear iU v mK d;exact acg
     ·have af:=oW wr #[(ι m:Value)] 3;go_wp2_with (at_builtin;refine fF _ rfl _ _ 24 rfl w2.heap.size 3 i0 _ 1 8 underlying24 C E F D rfl agF _ _ _ rfl (c.alloc _) (some ⟨wr.heap.size,0,none⟩) 1 1 [(ι m:Value)] rfl rfl af ahw Fg.o ax Z4 ag2 ?_;intro v4 w4 iU v)
      have R:w4.ownsRow w2.heap.size 3 1 v4 (k+(j+1)) (List.replicate (k+(j+1)) (ι m:Value))/\w2.grownBy w4 none:=⟨by rw[<-gi,<-si (k+j) 1 (ι m:Value)];exact iU,gu (aM d _) v (λi hi=>(c.lt i hi).1)⟩
      clear iU v d c af;go_wp2;go_roundw
      case rel=>exact⟨j+1,by omega,by go_num,.inr ⟨by omega,R.1⟩,R.2⟩
      case measure=>simp[intOf];omega
    ·have Pk:j=64:=agE;subst Pk;have c:wr.ownsRow w2.heap.size 3 1 u8 (k+64) (List.replicate (k+64) (ι m:Value)):=by
      rcases ho with⟨h,_⟩|⟨_,h⟩
      ·omega
      ·exact h
     clear ho T hj;have K3:=aa aG d;have wC:=kP.kept d ahk;have wD:=z.kept d (by cases h:v2.ownBlock<;>simp);have mK:=ni.below d;clear kP z ni d;have Fo:=iZ.bF I;have Fr:=Fo.trans (iZ.lM K3 _);have FY:=hW.lt;have zZ:∀g,gB=some g->g≠L/\(Value.slice ab s.length cb).ownBlock≠some g:=by
      intro g A;rcases hB.o with⟨_,r⟩|⟨g',p,_,_,_,h5,h6⟩
      ·rw[r]at A;cases A
      ·rw[p]at A;cases A;exact⟨h5,h6⟩
     have Xc:=hW.kept (Fr.block L FY (λe=>(zZ _ e).1 rfl));have Dk:=bZ q (λb hb=>Fr.block b (q.lt b hb).2 (λe=>(zZ _ e).2 hb));have aL:=K3.size;obtain⟨⟨p1,n1,c1⟩,ae,ar,Y,N⟩:=mV (n:=k+1) (m:=(ι m:Value)) (by rw[<-si];exact wC) agE;obtain⟨⟨X,n2,c2⟩,ai,al,ah,O⟩:=mV (n:=k+2) (m:=(ι m:Value)) (by rw[<-si];exact wD) agE;obtain⟨⟨p3,n3,Z⟩,aj,VY,Xd,FZ⟩:=mV (n:=k+64) (m:=(ι m:Value)) c agE;change v1=.slice p1 n1 c1 at ae;change v2=.slice X n2 c2 at ai;change u8=.slice p3 n3 Z at aj;subst ae ai aj;obtain⟨x,hx⟩:∃x:iw,x=⟨(a,k,k),(p1,n1,c1),(X,n2,c2),(p3,n3,Z),(ι m:Value)⟩:=⟨_,rfl⟩
     have Dl:x.ok wr:=(by subst hx;exact⟨⟨by show k<=_;omega,mK⟩,Y,ah,Xd⟩);have HX:Hid (x.cells=[.slice a k k,.slice p1 n1 c1,.slice X n2 c2,.slice p3 n3 Z,(ι m:Value)]):=(by subst hx;rfl);have aH:Hid (Ld x.mark):=(by subst hx;exact⟨_,rfl⟩);have az:XOn x gB w.heap.size:=by
      intro b hb;rw[hx]at hb;rcases hb with h|h|h|h
      ·obtain⟨off,e1,e2⟩:=h;rcases hB.o with⟨p,_⟩|⟨g,p,r,_⟩
       ·have aW:0<k:=e2;omega
       ·have WZ:a=some ⟨b,off,none⟩:=e1;rw[r]at WZ;simp at WZ;exact .inl (by rw[p,WZ.1])
      ·have:=(N b h).2;simp at this;exact .inr agE
      ·have:=(O b h).2;simp at this;exact .inr agE
      ·have:=(FZ b h).2;exact .inr agE
     have sM:s.length+1<=maxLen:=ag1;have Pm:(s.length+1)*104<=140737488355328:=agE;have f:base<=wr.heap.size:=agE;have aS:=(Xc.cell 3).trans U;have Z5:=hid zZ;clear hx Y ah Xd N O FZ wC wD c mK ar al VY zZ;go_wp2_with (at_builtin;refine dJ _ rfl _ _ 30 rfl base 60 ie _ 5 104 underlying30 aA aF aD aq rfl agF _ _ _ rfl (Dk.alloc _) ⟨wr.heap.size,0,none⟩ 1 1 [.slice a k k,.slice p1 n1 c1,.slice X n2 c2,.slice p3 n3 Z,(ι m:Value)] rfl rfl (gJ wr _ _) (by intro u t;simp at t;rcases t with rfl|rfl|rfl|rfl|rfl<;>rfl) agE sM Pm ag2 ?_;intro OG w5 l V M;obtain⟨WU,ay,Jh⟩:=bA l;subst Jh;have J:=(Xc.alloc (.cells #[.slice a k k,.slice p1 n1 c1,.slice X n2 c2,.slice p3 n3 Z,(ι m:Value)] 60)).grown V (λe=>ag e.symm);have KJ:=((J.cell 3).trans U);have aJ:=J.frozen 3)
     have R:qX iw.ok base L 3 60 Ld gB (.slice ab s.length cb) cs s w (w5.setCell (L,3) (.slice WU (s.length+1) ay)):=qX.push q.lt ag FY Fr Dl (λ_ _ h k=>iw.ok.keep h k) (λ_ h=>Dl.lt h) HX.o az Z5.o (cx wr _ _) V J l M.o aH.o;clear M l V J;go_end0;exact⟨rfl,R⟩
theorem Tryz.agJ:(prog.info? 9).map (λi=>(i.zero,i.size,i.bytes))=some (some (.string ⟨#[]⟩),1,16):=by kernel_rfl
theorem Tryz.adk:(prog.info? 64).map (λi=>(i.zero,i.size,i.bytes))=some (some (.agg #[.slice none 0 0,.slice none 0 0,.slice none 0 0,.slice none 0 0,.string ⟨#[]⟩]),5,112):=by kernel_rfl
theorem agK(base L n:Nat)(a)(Z:List Value)(c)(vb)(cs)(gB)(w)(hW:dB w L cs)(W:cs[4]?=some vb)(r:w.ownsRow base 64 5 vb c.length (ig c))(ah:vb.ownBlock≠some L)(aF:base<=w.heap.size)(hn:Hid (Z.length=n))(aQ:n<=100000)(ha:Hid (a=none->n=0))(hB:Hid ((n=0/\gB=none)\/∃g,gB=some g/\a=some ⟨g,0,none⟩/\0<n/\dB w g Z.toArray/\g≠L/\vb.ownBlock≠some g))(aY:(c.length+1)*112<=140737488355328):
  Calls prog 38 #[(L,2),.slice a n n] w λe w'=>e=.returned (.tuple #[])/\qX iw.ok base L 4 64 Xb gB vb cs c w w':=by
 obtain⟨i0,C,E,F,D⟩:=info_parts Tryz.agJ
 obtain⟨ie,aD,aI,aG,av⟩:=info_parts Tryz.adk
 obtain⟨ab,cb,ar⟩:=bA r
 subst ar
 have aE:=(hW.cell 4).trans W
 have aW:c.length<=140737488355328:=agE
 have aj:#[Value.int IntKind.u8 ((c.length:Int) % 251),Value.int IntKind.u8 ((c.length:Int) / 251 % 256)].toList=[UInt8.ofNat (c.length % 251),UInt8.ofNat (c.length / 251 % 256)].map U8:=by
  simp only[eE,fy,U8,eo];rw[ez (show c.length % 251<2 ^ 8 by omega),ez (show c.length / 251 % 256<2 ^ 8 by omega)];simp
 have Dx:At (w.alloc (.cells #[.int .u8 ((c.length:Int) % 251),.int .u8 ((c.length:Int) / 251 % 256)] 5)).drew (some ⟨w.heap.size,0,none⟩) [UInt8.ofNat (c.length % 251),UInt8.ofNat (c.length / 251 % 256)]:=fq w 5 _ _ aj
 have Y:=ic (P:=prog) (w.alloc (.cells #[.int .u8 ((c.length:Int) % 251),.int .u8 ((c.length:Int) / 251 % 256)] 5)).drew 37 9 5 underlying37 underlying5 underlying9 (some ⟨w.heap.size,0,none⟩) 2 [UInt8.ofNat (c.length % 251),UInt8.ofNat (c.length / 251 % 256)] Dx
 simp only[de,List.length_nil,cN]at Y
 obtain⟨M,hM⟩:∃M:ByteArray,M=⟨[UInt8.ofNat (c.length % 251),UInt8.ofNat (c.length / 251 % 256)].toArray⟩:=⟨_,rfl⟩
 rw[<-hM]at Y
 clear hM aj Dx
 obtain⟨w0,T⟩:=aw ((w.alloc (.cells #[.int .u8 ((c.length:Int) % 251),.int .u8 ((c.length:Int) / 251 % 256)] 5)).drew)
 have U:w.grownBy w0 none:=by rw[T];exact bg (cx w _ _)
 have ak:=hid T
 clear T
 go_enter func38,ntmps38
 go_wp2_with fail
 go_region
 rw[<-ak.o]
 clear Y ak
 go_wp2
 have aR:=U.size
 go_loopw [5] (λi wr=>∃k:Nat,k<=n/\i = ι k/\w.grownBy wr gB/\(∀g,gB=some g->dB wr g (List.replicate k (.string M:Value)++Z.drop k).toArray)) (λi _=>n-(intOf i).toNat)
 case atStart=>
  refine⟨0,cS _,rfl,Jb U,?_⟩;intro g A;rcases hB.o with⟨q,s⟩|⟨g',q,s,h3,h4,_⟩
  ·rw[s]at A;cases A
  ·rw[q]at A;cases A;simpa using h4.grown U agI
 case round=>
  obtain⟨k,hk,rfl,I,K⟩:=hrel;by_cases hlt:k<n
  ·obtain⟨g,B,H⟩:∃g,gB=some g/\a=some ⟨g,0,none⟩:=by
    rcases hB.o with⟨q,s⟩|⟨g,q,s,_⟩
    ·omega
    ·exact⟨g,q,s⟩
   have l:=K g B;subst B H;have hkl:k<(List.replicate k (.string M:Value)++Z.drop k).length:=(by have h:=hn.o;simp;omega);obtain⟨u,t⟩:∃u,(List.replicate k (.string M:Value)++Z.drop k)[k]?=some u:=⟨_,cL hkl⟩
   have aS:=(l.cell k).trans (by simpa using t);have aO:=l.frozen k;have R:dB (wr.setCell (g,k) (.string M:Value)) g (List.replicate (k+1) (.string M:Value)++Z.drop (k+1)).toArray:=by
    have:=l.set k (.string M:Value);rw[<-R7 Z (.string M:Value) k ag4];simpa using this
   have G:=yX (j:=k) (u:=(.string M:Value)) I;clear K I l t hkl;go_wp2;go_roundw
   case rel=>exact⟨k+1,by omega,by go_num,G,λg A=>by cases A;exact R⟩
   case measure=>simp[intOf];omega
  ·have az:k=n:=agE;subst az;have yg:qj wr a (List.replicate k (.string M:Value)):=by
    rcases hB.o with⟨q,s⟩|⟨g,q,s,_⟩
    ·subst q;intro j u t;simp at t
    ·have l:=K g q;rw[List.drop_of_length_le (by rw[hn.o];omega),fS]at l;rw[s];exact l.cat
   have S:Hid ((List.replicate k (.string M:Value)).length=k):=fs;have ao:k+1<=1000000:=agE;have au:k+2<=1000000:=agE;have Oc:∀u∈[(.string M:Value)],u.oneCell'=true:=(by intro u t;rw[ew.1 t];rfl);have Od:∀u∈[(.string M:Value),(.string M:Value)],u.oneCell'=true:=(by intro u t;simp at t;rw[t];rfl);have Fg:=hid Oc;have Z0:=hid Od;clear K aE Oc Od;go_wp2_with (first|(at_builtin;refine lN _ rfl (.tmp 36) (.tmp 38) 62 rfl 9 i0 _ 16 underlying62 C E F D rfl a k (List.replicate k (.string M:Value)) rfl S.o ha.o (yg.below (cx _ _ _)) wr.heap.size 1 [(.string M:Value)] rfl (Nat.succ_pos _) (oW wr _ _) Fg.o ao agF ?_;intro v1 w1 y B;have K1:=aa (cx wr _ none) B;have ji:=yg.below K1)|(at_builtin;refine lN _ rfl (.tmp 40) (.tmp 43) 62 rfl 9 i0 _ 16 underlying62 C E F D rfl a k (List.replicate k (.string M:Value)) rfl S.o ha.o (ji.below (cx _ _ _)) w1.heap.size 2 [(.string M:Value),(.string M:Value)] rfl (Nat.succ_pos _) (oW w1 _ _) Z0.o au agF ?_;intro v2 w2 z H;have K2:=aa (cx w1 _ none) H;have ni:=ji.below K2))
   have kP:=y.kept K2 (by cases h:v1.ownBlock<;>simp);have aJ:=aa K1 K2;have aL:=K1.size;have aT:=K2.size;have aX:=I.size;clear y B H yg ji K1 K2;obtain⟨wo,aH⟩:∃wo,wo=wr:=⟨wr,rfl⟩
   subst aH;go_loopw [8,9] (λo i w3=>∃j:Nat,j<=64/\i = ι j/\((j=0/\o=.slice a k k)\/(0<j/\w3.ownsRow w2.heap.size 9 1 o (k+j) (List.replicate (k+j) (.string M:Value))))/\w2.grownBy w3 none) (λ_ i _=>64-(intOf i).toNat)
   case atStart=>exact⟨0,by omega,rfl,.inl ⟨rfl,rfl⟩,cC _ _⟩
   case round=>
    obtain⟨j,hj,rfl,ho,f⟩:=hrel;have aU:=f.size;by_cases V:j<64
    ·have aA:k+j+1<=maxLen:=ag1;have Z4:(k+j+1)*16<=140737488355328:=agE;rcases ho with⟨ae,ay⟩|⟨ae,d⟩
     ·subst ae ay;have mK:=ni.below f;go_wp2_with (at_builtin;refine lN _ rfl _ _ 62 rfl 9 i0 _ 16 underlying62 C E F D rfl a k (List.replicate k (.string M:Value)) rfl S.o ha.o (mK.below (cx _ _ _)) wr.heap.size 1 [(.string M:Value)] rfl (Nat.succ_pos _) (oW wr _ _) Fg.o ao agF ?_;intro v4 w4 iU v)
      have R:w4.ownsRow w2.heap.size 9 1 v4 (k+1) (List.replicate (k+1) (.string M:Value))/\w2.grownBy w4 none:=⟨dC (by rw[<-si];exact iU) ag2,aa (aM f _) v⟩
      clear iU v mK f;go_wp2;go_roundw
      case rel=>exact⟨1,by omega,by go_num,.inr ⟨by omega,R.1⟩,R.2⟩
      case measure=>simp[intOf]
     ·have ag:=oW wr #[(.string M:Value)] 9;go_wp2_with (at_builtin;refine fF _ rfl _ _ 62 rfl w2.heap.size 9 i0 _ 1 16 underlying62 C E F D rfl agF _ _ _ rfl (d.alloc _) (some ⟨wr.heap.size,0,none⟩) 1 1 [(.string M:Value)] rfl rfl ag ahw Fg.o aA Z4 ag2 ?_;intro v4 w4 iU v)
      have R:w4.ownsRow w2.heap.size 9 1 v4 (k+(j+1)) (List.replicate (k+(j+1)) (.string M:Value))/\w2.grownBy w4 none:=⟨by rw[<-gi,<-si (k+j) 1 (.string M:Value)];exact iU,gu (aM f _) v (λi hi=>(d.lt i hi).1)⟩
      clear iU v f d ag;go_wp2;go_roundw
      case rel=>exact⟨j+1,by omega,by go_num,.inr ⟨by omega,R.1⟩,R.2⟩
      case measure=>simp[intOf];omega
    ·have Pk:j=64:=agE;subst Pk;have d:wr.ownsRow w2.heap.size 9 1 u8 (k+64) (List.replicate (k+64) (.string M:Value)):=by
      rcases ho with⟨h,_⟩|⟨_,h⟩
      ·omega
      ·exact h
     clear ho V hj;have K3:=aa aJ f;have wC:=kP.kept f (by cases h:v1.ownBlock<;>simp);have wD:=z.kept f (by cases h:v2.ownBlock<;>simp);have mK:=ni.below f;clear kP z ni f;have Fo:=iZ.bF I;have Fr:=Fo.trans (iZ.lM K3 _);have FY:=hW.lt;have zZ:∀g,gB=some g->g≠L/\(Value.slice ab c.length cb).ownBlock≠some g:=by
      intro g A;rcases hB.o with⟨_,s⟩|⟨g',q,_,_,_,h5,h6⟩
      ·rw[s]at A;cases A
      ·rw[q]at A;cases A;exact⟨h5,h6⟩
     have Xc:=hW.kept (Fr.block L FY (λe=>(zZ _ e).1 rfl));have Dk:=bZ r (λb hb=>Fr.block b (r.lt b hb).2 (λe=>(zZ _ e).2 hb));have aP:=K3.size;obtain⟨⟨p1,n1,c1⟩,af,ax,ad,O⟩:=mV (n:=k+1) (m:=(.string M:Value)) (by rw[<-si];exact wC) agE;obtain⟨⟨p2,n2,c2⟩,al,aq,ai,Q⟩:=mV (n:=k+2) (m:=(.string M:Value)) (by rw[<-si];exact wD) agE;obtain⟨⟨p3,n3,c3⟩,an,VY,Xd,FZ⟩:=mV (n:=k+64) (m:=(.string M:Value)) d agE;change v1=.slice p1 n1 c1 at af;change v2=.slice p2 n2 c2 at al;change u8=.slice p3 n3 c3 at an;subst af al an;obtain⟨x,hx⟩:∃x:iw,x=⟨(a,k,k),(p1,n1,c1),(p2,n2,c2),(p3,n3,c3),(.string M:Value)⟩:=⟨_,rfl⟩
     have Dl:x.ok wr:=(by subst hx;exact⟨⟨by show k<=_;omega,mK⟩,ad,ai,Xd⟩);have HX:Hid (x.cells=[.slice a k k,.slice p1 n1 c1,.slice p2 n2 c2,.slice p3 n3 c3,(.string M:Value)]):=(by subst hx;rfl);have aK:Hid (Xb x.mark):=(by subst hx;exact⟨_,rfl⟩);have aC:XOn x gB w.heap.size:=by
      intro b hb;rw[hx]at hb;rcases hb with h|h|h|h
      ·obtain⟨off,e1,e2⟩:=h;rcases hB.o with⟨q,_⟩|⟨g,q,s,_⟩
       ·have aZ:0<k:=e2;omega
       ·have WZ:a=some ⟨b,off,none⟩:=e1;rw[s]at WZ;simp at WZ;exact .inl (by rw[q,WZ.1])
      ·have:=(O b h).2;simp at this;exact .inr agE
      ·have:=(Q b h).2;simp at this;exact .inr agE
      ·have:=(FZ b h).2;exact .inr agE
     have sM:c.length+1<=maxLen:=ag1;have Pm:(c.length+1)*112<=140737488355328:=agE;have l:base<=wr.heap.size:=agE;have aV:=(Xc.cell 4).trans W;have Z5:=hid zZ;clear hx ad ai Xd O Q FZ wC wD d mK ax aq VY zZ;go_wp2_with (at_builtin;refine dJ _ rfl _ _ 31 rfl base 64 ie _ 5 112 underlying31 aD aI aG av rfl agF _ _ _ rfl (Dk.alloc _) ⟨wr.heap.size,0,none⟩ 1 1 [.slice a k k,.slice p1 n1 c1,.slice p2 n2 c2,.slice p3 n3 c3,(.string M:Value)] rfl rfl (gJ wr _ _) (by intro u t;simp at t;rcases t with rfl|rfl|rfl|rfl|rfl<;>rfl) agE sM Pm ag2 ?_;intro OG w5 p X N;obtain⟨WU,aB,Jh⟩:=bA p;subst Jh;have J:=(Xc.alloc (.cells #[.slice a k k,.slice p1 n1 c1,.slice p2 n2 c2,.slice p3 n3 c3,(.string M:Value)] 64)).grown X (λe=>ah e.symm);have KJ:=((J.cell 4).trans W);have aN:=J.frozen 4)
     have R:qX iw.ok base L 4 64 Xb gB (.slice ab c.length cb) cs c w (w5.setCell (L,4) (.slice WU (c.length+1) aB)):=qX.push r.lt ah FY Fr Dl (λ_ _ h k=>iw.ok.keep h k) (λ_ h=>Dl.lt h) HX.o aC Z5.o (cx wr _ _) X J p N.o aK.o;clear N p X J;go_end0;exact⟨rfl,R⟩
end Go.Proofs.YtlfifnpjeangmaaGreatDoor
