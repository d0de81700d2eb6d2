import Derived.Test.YtlfifnpjeangmaaGreatDoorGESeal
namespace Go.Proofs.YtlfifnpjeangmaaGreatDoor
set_option maxHeartbeats 1000000
open Proofs.Tryz Go.RowKit
set_option maxRecDepth 100000
variable {p:Prop}
theorem xt(h:p:=by grind [World.grownBy.block,RowKit.Below.heap_setCell]):p:=h
theorem ue(h:p:=by simp[ByteArray.size]):p:=h
theorem si{P:Program}(w){l:Array Oper}{g:List Oper}{o:Oper}{a:Act}{Q:Exit->Act->World->Prop}(M:o.guard=none)(s x)(t u)(q:o.op=Op.call {callee:=Callee.builtin Builtin.append,args:=#[s,x],argTypes:=#[t,u]})(e)(i)(v:P.underlying t=some (.slice e))(B:P.underlying u=some .string)(y:P.info? e=some i)(D:i.zero=some (.int .u8 0))(J:i.bytes=1)(R:a.eval s = σ)(b:E)(S:a.eval x=.string ⟨b.toArray⟩)(U:b.length<=140737488355328)(L:∀h f,f.ownsRow w.1.size e 1 h b.length (b.map U8)->w.grownBy f none->wpList P l Q g (a.put o.dst h) f):
  wpList P l Q (o::g) a w:=by
 refine wpList_plain M λK m=>?_
 have d:(⟨b.toArray⟩:ByteArray).size=b.length:=ue
 have r:∃h f,(Builtin.append_ #[t,u] o.type #[σ,.string ⟨b.toArray⟩]).run P w=.ok h f/\f.ownsRow w.1.size e 1 h b.length (b.map U8)/\w.grownBy f none:=by
  by_cases C:b=[]
  .subst C;refine⟨σ,w,?_,World.ownsRow_nil _ _ _ _,cC _ _⟩;simp[Builtin.append_,run_underlying v,run_underlying B,sizeOf,typeInfo,y,Builtin.lenOf,Builtin.firstCells,ByteArray.size]
  .have K:=fX.2 C;have A:=run_append_nil_string (P:=P) w t u o.type e i (.int .u8 0) v B y D ⟨b.toArray⟩ (by rw[d];exact K) (by rw[d];omega) (by rw[d,J];omega);rw[d]at A;have p:=grownCap_ge w b.length 0 e;have n:=grownCap_le_maxLen w b.length 0 e kO;refine⟨_,_,A,⟨by simp,.inr ⟨w.1.size,_,_,rfl,cy _,heap_alloc_new w.drew _,p,n,?_,?_⟩⟩,⟨rfl,rfl,rfl,by simp,λk j _=>Below.heap_alloc w.drew _ k j⟩⟩
   .simp[size_zeroCells,Value.cells];omega
   .simp only[fR,Array.toList_append,Array.toList_map];rw[List.take_append_of_le_length Z,cU Z];rfl
 obtain⟨h,f,j,k,T⟩:=r
 unfold Oper.wp
 simp[execOp,q,resolve,invoke,builtin,R,S,j,Result.andThen]
 exact m _ _ (L h f k T)
theorem Jx(h:p:=by
 refine At.some λj hj=>?_
 have hh:∀(C)(fr),(w.drew.alloc (.cells C e fr)).1[w.1.size]?=some (.cells C e fr):=λC fr=>heap_alloc_new w.drew _
 rw[cN,cell_of_row _ _ j _ e _ (hh _ _)]
 unfold bytesRow
 grind):p:=h
theorem p9{P:Program}(w){m:Array Oper}{f:List Oper}{o:Oper}{a:Act}{Q:Exit->Act->World->Prop}(y:o.guard=none)(x)(l i)(p:o.op=Op.convert l i x)(e)(B:P.underlying l=some .string)(u:P.underlying i=some (.slice e))(v:P.underlying e=some (.int .u8))(d)(D:a.eval x=.string ⟨d.toArray⟩)(J:d.length<=140737488355328)(t:∀b g k,d.length<=g->g<=maxLen->At k (some ⟨b,0,none⟩) d->w.grownBy k none->wpList P m Q f (a.put o.dst (ς b 0 d.length g)) k):
  wpList P m Q (o::f) a w:=by
 refine wpList_plain y λK b=>?_
 have q:(⟨d.toArray⟩:ByteArray).size=d.length:=ue
 have r:=run_bytes_of_string (P:=P) w l i e ⟨d.toArray⟩ B u v
 rw[q]at r
 have n:=grownCap_ge w d.length 0 e
 have g:=grownCap_le_maxLen w d.length 0 e kO
 unfold Oper.wp
 simp[execOp,p,D,r,Result.andThen]
 refine b _ _ (t _ _ _ n g ?_ ⟨rfl,rfl,rfl,by simp,λk A _=>Below.heap_alloc w.drew _ k A⟩)
 exact Jx
theorem gU.Xh{w:World}{b:Nat}{e:TypeId}{v:Value}{n:Nat}{d:E}(h:w.ownsRow b e 1 v n (d.map U8))(r:0<n):
  ∃g a,v = ς g 0 n a/\b<=g/\gU w g a d:=by
 obtain⟨o,h⟩:=h
 have p:n=d.length:=by simpa using o.symm
 rcases h with⟨rfl,rfl⟩|⟨g,a,f,rfl,l,m,q,i,j,k⟩
 .omega
 .exact⟨g,a,rfl,l,f,e,m,by simpa using j,i,by omega,by rw[<-p];simpa using k⟩
theorem Xi(w):Calls prog 15 #[.string ⟨([]:E).toArray⟩,.bool true] w λe a=>e=.returned σ/\w=a:=by
 go_in
 exact lO
theorem Lr(h:p:=by
 go_wp2_with (first|(at_builtin;refine si _ rfl _ _ 37 9 rfl 5 i0 underlying37 underlying9 hif hz0 hz2 rfl zs rfl hb ?_;intro v1 w1 hown1 hg1)|(at_builtin;refine bW _ rfl _ _ 37 rfl w.1.size 5 i0 underlying37 hif hz0 hz1 hz2 _ _ _ rfl (hown1.alloc _) (some ⟨w1.1.size,0,none⟩) 1 1 [77] rfl rfl qC (fw w1 _ _ _ rfl) hb1 (by have:=hg1.size;simp;omega) ?_;intro v2 w2 hown2 hg2 _;obtain⟨g,cap,hv,hbg,hbuf⟩:=gU.Xh hown2 G;have G2:=gD (aM hg1 _) hg2 (λi hi=>(hown1.lt i hi).1);subst hv;have hroom:=hbuf.room;simp at hroom;clear hown2 hg2))
 go_ret
 exact⟨g,cap,rfl,hbg,hbuf,G2⟩):p:=h
theorem Xj(zs)(b)(w)(f:zs.length<=140737488351232)(a:Hid (zs.isEmpty=false\/b=false)):Calls prog 15 #[.string ⟨zs.toArray⟩,.bool b] w λe d=>∃g cap,e=.returned (ς g 0 zs.length cap)/\w.1.size<=g/\gU d g cap (zs++[77])/\w.grownBy d none:=by
 obtain⟨i0,hif,hz0,hz1,hz2⟩:=info_parts Tryz.info5
 have hb:zs.length<=140737488355328:=G
 have hb1:zs.length+1<=140737488355328:=G
 rcases a.o with d|e
 .clear a;go_in;exact Lr
 .subst e;clear a;cases d:zs.isEmpty
  all_goals
   go_in
   exact Lr
theorem gU.prefix{w:World}{g a:Nat}{b f:E}(h:gU w g a (b++f)):gU w g a b:=by
 obtain⟨d,e,i,j,k,l,n⟩:=h;refine⟨d,e,i,j,k,by simp at l;omega,?_⟩;have m:(List.map U8 (b++f)).take b.length=b.map U8:=by
  rw[ef,List.take_append_of_le_length Z,cU Z]
 grind
theorem Xk(a)(w)(d:Hid (a=[])):Calls prog 17 #[σ,.string ⟨a.toArray⟩] w λe b=>e=.returned (.bool true)/\w=b:=by
 obtain rfl:=d.o
 have b:=λ(w:World)=>Lib.run_eql_slice_nil (P:=prog) w 37 5 none 0 0 0 0 underlying37
 go_in
 exact lO
theorem yZ{a b:World}{g j:Nat}{u:Value}(h:a.grownBy b (some g)):a.grownBy (b.setCell (F g j) u) (some g):=
 ⟨h.os,h.tape,h.output,by rw[World.size_setCell];exact h.size,xt⟩
theorem Xl(b)(n g a)(w)(x:Hid (b.length=n))(A:n<=140737488351232)(d:gU w g a (b++[77])):Calls prog 17 #[ς g 0 n a,.string ⟨b.toArray⟩] w λe f=>e=.returned (.bool true)/\w.grownBy f (some g):=by
 obtain rfl:=x.o
 have t:=λ(w:World)=>Lib.run_eql_slice_nil (P:=prog) w 37 5 (some ⟨g,0,none⟩) b.length a 0 0 underlying37
 have p:=iq (P:=prog) w 37 9 5 underlying37 underlying5 underlying9 (some ⟨g,0,none⟩) a b d.prefix.at
 have m:w.cell? (F g b.length)=some (.int .u8 77):=by
  have h:=d.cell b.length Z;simpa using h
 have f:=d.room
 simp at f
 have q:=d.maxLen
 unfold maxLen at q
 have o:=d.empty
 go_in
 go_wp2
 go_loopw [7] (λi wr=>∃k:Nat,k<=b.length+1/\i = Y k/\(∃l,l.length=b.length+1/\gU wr g a l)/\w.grownBy wr (some g)) (λi _=>b.length+1-(intOf i).toNat)
 case atStart=>exact⟨0,cS _,rfl,⟨_,by simp,d⟩,cC _ _⟩
 case round=>
  obtain⟨k,y,rfl,⟨l,h,e⟩,i⟩:=hrel;have HB:=I h;clear h p m d o;by_cases h:k<b.length+1
  .have r:=e.cell k (by rw[HB];exact h);have v:=e.frozen k;have R:=e.set k 78;have G:=yZ (j:=k) (u:=.int .u8 ((78:UInt8).toNat:Int)) i;go_wp2;go_roundw
   case rel=>exact⟨k+1,by omega,by go_num,⟨_,by grind [Hid.o],R⟩,G⟩
   case measure=>simp[intOf];omega
  .go_wp2;go_ret;exact⟨rfl,i⟩
theorem rj(h:p:=by simpa using hp):p:=h
variable {wb:Nat}{vb:Value}{w w':World}
abbrev Sl:=Option Addr×Nat×Nat
def Sl.val(s:Sl):Value:=.slice s.1 s.2.1 s.2.2
structure Ent where
 l:Sl
 one:Sl
 two:Sl
 three:Sl
 mark:UInt8
def Ent.cells(x:Ent):List Value:=[x.l.val,x.one.val,x.two.val,x.three.val,.int .u8 (x.mark.toNat:Int)]
def mO(w:World)(wb:Nat)(ab:Option Nat)(m:UInt8)(s:Sl):Prop:=
 s.2.1<=9223372036854775807/\At w s.1 (List.replicate s.2.1 m)/\∀b off,s.1=some ⟨b,off,none⟩->0<s.2.1->b≠wb/\some b≠ab
def Nm(w:World)(wb:Nat)(ab:Option Nat)(x:Ent):Prop:=
 mO w wb ab x.mark x.l/\mO w wb ab x.mark x.one/\mO w wb ab x.mark x.two/\mO w wb ab x.mark x.three
def Xm(l:List Ent):List Value:=(l.map Ent.cells).flatten
def qF(base wb:Nat)(w:World)(l:List Ent)(vb:Value):Prop:=
 w.1[wb]?=some (.cells #[σ,σ,vb,σ,σ,σ] 36 (0,0))/\
 w.ownsRow base 57 5 vb l.length (Xm l)/\vb.ownBlock≠some wb/\(∀x∈l,Nm w wb vb.ownBlock x)/\base<=wb
theorem mO.kept{e d:Option Nat}{m:UInt8}{s:Sl}(h:mO w wb e m s)(p:∀b a,s.1=some ⟨b,a,none⟩->0<s.2.1->w'.1[b]?=w.1[b]?)(i:∀b a,s.1=some ⟨b,a,none⟩->0<s.2.1->some b≠d):mO w' wb d m s:=by
 obtain⟨f,g,o⟩:=h;refine⟨f,?_,fA⟩;intro j k;obtain⟨b,a,l,n⟩:=g j k;grind [World.cell?_of_block]
theorem mO.lt{e:Option Nat}{m:UInt8}{s:Sl}(h:mO w wb e m s)(b a)(j:s.1=some ⟨b,a,none⟩)(hp:0<s.2.1):b<w.1.size:=by
 obtain⟨f,d,g,i⟩:=h.2.1.addr rj;grind
theorem qF.grown{a:Nat}{l:List Ent}(h:qF a wb w l vb)(k:w.grownBy w' none):qF a wb w' l vb:=by
 obtain⟨v,y,n,o,p⟩:=h;have t:wb<w.1.size:=fA;refine⟨oN,tt,n,?_,p⟩;intro x u;obtain⟨g,i,j,m⟩:=o x u;have q:∀s,mO w wb vb.ownBlock x.mark s->mO w' wb vb.ownBlock x.mark s:=λs f=>f.kept (by grind [mO.lt,World.grownBy.block]) (λb d e r=>(f.2.2 b d e r).2);exact⟨q _ g,q _ i,q _ j,q _ m⟩
def Ih(l:List Ent)(g:Nat):Prop:=
 ∀x∈l,∀s,s=x.l\/s=x.one\/s=x.two\/s=x.three->∀off,s.1=some ⟨g,off,none⟩->s.2.1=0
theorem qF.fresh{a:Nat}{l:List Ent}(h:qF a wb w l vb)(g)(o:w.1.size<=g):Ih l g:=by
 intro x i s f b d;obtain⟨j,k,m,n⟩:=h.2.2.2.1 x i;have q:mO w wb vb.ownBlock x.mark s:=by rcases f with rfl|rfl|rfl|rfl<;>assumption
 by_cases e:0<s.2.1
 .have:=q.lt g b d e;omega
 .omega
theorem qF.other{d:Nat}{l:List Ent}{g:Nat}(h:qF d wb w l vb)(k:w.grownBy w' (some g))(hw:g≠wb)(A:vb.ownBlock≠some g)(y:Ih l g):qF d wb w' l vb:=by
 obtain⟨J,r,t,u,v⟩:=h;have B:wb<w.1.size:=fA;refine⟨oN,r.kept k (.inr A),t,?_,v⟩;intro x m;obtain⟨n,o,C,D⟩:=u x m;have q:∀s,(s=x.l\/s=x.one\/s=x.two\/s=x.three)->mO w wb vb.ownBlock x.mark s->mO w' wb vb.ownBlock x.mark s:=λs j i=>
  i.kept (λb a e f=>k.block b (i.lt b a e f) (by simp;intro p;subst p;have:=y x m s j a e;omega)) (λb a e f=>(i.2.2 b a e f).2)
 exact⟨q _ (.inl rfl) n,q _ (.inr (.inl rfl)) o,fA,fA⟩
theorem Xo(n:Nat):((n:Int) % 251)=((UInt8.ofNat (n % 251)).toNat:Int):=by
 rw[eo,ez G];omega
theorem G'(h:p:=by
 rw[List.set_append_right _ _ Z]
 simp only[fs,gE]
 rw[List.drop_eq_getElem_cons h,ej,List.replicate_succ',du]
 rfl):p:=h
theorem FY(a:E)(m)(k)(h:k<a.length):(List.replicate k m++a.drop k).set k m=List.replicate (k+1) m++a.drop (k+1):=by
 exact G'
structure iU(w w':World)(ex:Nat->Prop):Prop where
 os:w'.os=w.os
 tape:w'.tape=w.tape
 output:w'.output=w.output
 size:w.1.size<=w'.1.size
 block:∀k,k<w.1.size->¬ ex k->w'.1[k]?=w.1[k]?
theorem dC{b a:Nat}{e:TypeId}{size:Nat}{v:Value}{n:Nat}{i:List Value}(h:w.ownsRow b e size v n i)(m:a<=b):w.ownsRow a e size v n i:=by
 refine⟨h.1,?_⟩;rcases h.2 with h|⟨g,d,f,j,k,l⟩
 .exact .inl h
 .exact .inr ⟨g,d,f,j,cE m k,l⟩
variable {zs:E}{a:Option Addr}{gB:Option Nat}{w0:World}
def ny(w0 w:World)(a:Option Addr)(cap:Nat)(zs:E)(gB:Option Nat):Prop:=
 (a=none/\cap=0/\zs=[]/\gB=none)\/∃g,a=some ⟨g,0,none⟩/\gB=some g/\w0.1.size<=g/\gU w g cap (zs++[77])
theorem ny.at{b:Nat}(h:ny w0 w a b zs gB):At w a zs:=by
 rcases h with⟨_,_,rfl,_⟩|⟨g,rfl,_,_,h⟩
 .exact At.nil _ _
 .exact h.prefix.at
theorem ny.grown{b:Nat}(h:ny w0 w a b zs gB)(k:w.grownBy w' none):ny w0 w' a b zs gB:=by
 rcases h with h|⟨g,d,e,f,i⟩
 .exact .inl h
 .exact .inr ⟨g,d,e,f,i.grown k Z⟩
theorem ny.none{b:Nat}(h:ny w0 w a b zs gB):a=.none->b=0:=by
 rcases h with⟨_,h,_⟩|⟨g,h,_⟩
 .exact λ_=>h
 grind
theorem ny.old{b:Nat}(h:ny w0 w a b zs gB)(k:Nat)(d:some k=gB):w0.1.size<=k:=by
 rcases h with⟨_,_,_,h⟩|⟨g,_,e,f,_⟩
 .rw[h]at d;cases d
 grind
theorem ny.cap{b:Nat}(h:ny w0 w a b zs gB):zs.length<=b/\b<=9223372036854775807:=by
 rcases h with⟨_,rfl,rfl,_⟩|⟨g,_,_,_,d⟩
 .simp
 .have e:=d.room;have f:=d.maxLen;unfold maxLen at f;simp at e;omega
theorem Dk(zs:E)(d:Bool)(w:World)(k:zs.length<=140737488351232):Calls Tryz.prog 15 #[.string ⟨zs.toArray⟩,.bool d] w λe w'=>∃a b gB,e=.returned (.slice a zs.length b)/\ny w w' a b zs gB/\w.grownBy w' none:=by
 by_cases h:zs.isEmpty=false\/d=false
 .refine(Xj zs d w k h).mono ?_;rintro e w' ⟨g,b,rfl,f,i,j⟩;exact⟨_,b,some g,rfl,.inr ⟨g,rfl,rfl,f,i⟩,j⟩
 .have f:zs=[]:=by simp at h;exact h.1
  have i:d=true:=by simp at h;exact h.2
  subst f i;refine(Xi w).mono ?_;rintro e w' ⟨rfl,rfl⟩;exact⟨none,0,none,rfl,.inl ⟨rfl,rfl,rfl,rfl⟩,cC _ _⟩
theorem Dl(zs:E)(n:Nat)(a:Option Addr)(b:Nat)(gB:Option Nat)(w0 w:World)(d:Hid (zs.length=n))(f:n<=140737488351232)(h:ny w0 w a b zs gB):Calls Tryz.prog 17 #[.slice a n b,.string ⟨zs.toArray⟩] w λe w'=>e=.returned (.bool true)/\w.grownBy w' gB:=by
 rcases h with⟨rfl,rfl,rfl,rfl⟩|⟨g,rfl,rfl,i,e⟩
 .obtain rfl:=d.o;refine(Xk [] w (I rfl)).mono ?_;grind [cC]
 .exact Xl zs n g b w d f e
theorem Lg(h:w0.grownBy w none)(k:w.grownBy w' gB)(a:∀j,some j=gB->w0.1.size<=j):w0.grownBy w' none:=
 (by grind [gD])
def Xp(w:World)(b:Nat)(kind B C:Int)(K D:UInt64)(zs:E):Prop:=
 w.cell? (F b 0)=some (Y kind)/\w.cell? (F b 2)=some (Y B)/\w.cell? (F b 3)=some (Y C)/\w.cell? (F b 4)=some (H (K.toNat:Int))/\w.cell? (F b 5)=some (H (D.toNat:Int))/\w.cell? (F b 7)=some (.string ⟨zs.toArray⟩)
theorem Xp.grown{b:Nat}{d B C:Int}{K D:UInt64}{f:Option Nat}(h:Xp w b d B C K D zs)(k:w.grownBy w' f)(o:f≠some b):Xp w' b d B C K D zs:=by
 obtain⟨g,i,j,l,m,n⟩:=h;have a:some b≠f:=λe=>o e.symm;exact⟨k.cell g a,k.cell i a,k.cell j a,k.cell l a,k.cell m a,k.cell n a⟩
theorem Xp.new(w:World)(a B C:Int)(K D:UInt64)(zs:E)(V W X c9 b d e f g h i j k l m n y o p J L M q P A r t Q u R S v T U x:Value):
  Xp (w.alloc (.cells #[Y a,V,Y B,Y C,H (K.toNat:Int),H (D.toNat:Int),W,.string ⟨zs.toArray⟩,X,c9,b,d,e,f,g,h,i,j,k,l,m,n,y,o,p,J,L,M,q,P,A,r,t,Q,u,R,S,v,T,U,x] 48)) w.1.size a B C K D zs:=by
 refine⟨?_,?_,?_,?_,?_,?_⟩<;>(rw[World.cell?_alloc_at (hn:=rfl)];rfl)
