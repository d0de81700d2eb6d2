import Derived.Test.YticfhckmhcaigaaGreatDoorGESeal
namespace Go.Proofs.YticfhckmhcaigaaGreatDoor
set_option maxHeartbeats 1000000
open Proofs.Tryz Go.RowKit
set_option maxRecDepth 100000
variable {p:Prop}
theorem tD(h:p:=by simp[ByteArray.size]):p:=h
theorem tJ{P:Program}(w){l:Array Oper}{g:List Oper}{o:Oper}{a:Act}{Q:Exit->Act->World->Prop}(M:o.guard=none)(s x)(t u)(q:o.op=Op.call {callee:=Callee.builtin Builtin.append,args:=#[s,x],argTypes:=#[t,u]})(e)(i)(v:P.underlying t=some (.slice e))(B:P.underlying u=some .string)(y:P.info? e=some i)(D:i.zero=some (.int .u8 0))(J:i.bytes=1)(R:a.eval s = σ)(b:E)(S:a.eval x=.string ⟨b.toArray⟩)(U:b.length<=140737488355328)(L:∀h f,f.ownsRow w.1.size e 1 h b.length (b.map U8)->w.grownBy f none->wpList P l Q g (a.put o.dst h) f):
  wpList P l Q (o::g) a w:=by
 refine wpList_plain M λK m=>?_
 have d:(⟨b.toArray⟩:ByteArray).size=b.length:=tD
 have r:∃h f,(Builtin.append_ #[t,u] o.type #[σ,.string ⟨b.toArray⟩]).run P w=.ok h f/\f.ownsRow w.1.size e 1 h b.length (b.map U8)/\w.grownBy f none:=by
  by_cases C:b=[]
  .subst C;refine⟨σ,w,?_,World.ownsRow_nil _ _ _ _,cC _ _⟩;simp[Builtin.append_,run_underlying v,run_underlying B,sizeOf,typeInfo,y,Builtin.lenOf,Builtin.firstCells,ByteArray.size]
  .have K:=gi.2 C;have A:=run_append_nil_string (P:=P) w t u o.type e i (.int .u8 0) v B y D ⟨b.toArray⟩ (by rw[d];exact K) (by rw[d];omega) (by rw[d,J];omega);rw[d]at A;have p:=grownCap_ge w b.length 0 e;have n:=grownCap_le_maxLen w b.length 0 e lA;refine⟨_,_,A,⟨by simp,.inr ⟨w.1.size,_,_,rfl,cA _,heap_alloc_new w.drew _,p,n,?_,?_⟩⟩,⟨rfl,rfl,rfl,by simp,λk j _=>Below.heap_alloc w.drew _ k j⟩⟩
   .simp[size_zeroCells,Value.cells];omega
   .simp only[fY,Array.toList_append,Array.toList_map];rw[List.take_append_of_le_length Z,cW Z];rfl
 obtain⟨h,f,j,k,T⟩:=r
 unfold Oper.wp
 simp[execOp,q,resolve,invoke,builtin,R,S,j,Result.andThen]
 exact m _ _ (L h f k T)
theorem Lw(h:p:=by
 refine At.some λj hj=>?_
 have hh:∀(C)(fr),(w.drew.alloc (.cells C e fr)).1[w.1.size]?=some (.cells C e fr):=λC fr=>heap_alloc_new w.drew _
 rw[cR,cell_of_row _ _ j _ e _ (hh _ _)]
 unfold bytesRow
 grind):p:=h
theorem jw{P:Program}(w){m:Array Oper}{f:List Oper}{o:Oper}{a:Act}{Q:Exit->Act->World->Prop}(y:o.guard=none)(x)(l i)(p:o.op=Op.convert l i x)(e)(B:P.underlying l=some .string)(u:P.underlying i=some (.slice e))(v:P.underlying e=some (.int .u8))(d)(D:a.eval x=.string ⟨d.toArray⟩)(J:d.length<=140737488355328)(t:∀b g k,d.length<=g->g<=maxLen->At k (some ⟨b,0,none⟩) d->w.grownBy k none->wpList P m Q f (a.put o.dst (ς b 0 d.length g)) k):
  wpList P m Q (o::f) a w:=by
 refine wpList_plain y λK b=>?_
 have q:(⟨d.toArray⟩:ByteArray).size=d.length:=tD
 have r:=run_bytes_of_string (P:=P) w l i e ⟨d.toArray⟩ B u v
 rw[q]at r
 have n:=grownCap_ge w d.length 0 e
 have g:=grownCap_le_maxLen w d.length 0 e lA
 unfold Oper.wp
 simp[execOp,p,D,r,Result.andThen]
 refine b _ _ (t _ _ _ n g ?_ ⟨rfl,rfl,rfl,by simp,λk A _=>Below.heap_alloc w.drew _ k A⟩)
 exact Lw
theorem iA.Zp{w:World}{b:Nat}{e:TypeId}{v:Value}{n:Nat}{d:E}(h:w.ownsRow b e 1 v n (d.map U8))(r:0<n):
  ∃g a,v = ς g 0 n a/\b<=g/\iA w g a d:=by
 obtain⟨o,h⟩:=h
 have p:n=d.length:=by simpa using o.symm
 rcases h with⟨rfl,rfl⟩|⟨g,a,f,rfl,l,m,q,i,j,k⟩
 .omega
 .exact⟨g,a,rfl,l,f,e,m,by simpa using j,i,by omega,by rw[<-p];simpa using k⟩
theorem tW(h:p:=by
 go_wp2
 go_round
 case rel=>exact⟨k+1,by omega,by go_num⟩
 case measure=>simp[intOf];omega):p:=h
theorem ad1(a)(m)(n)(h)(f)(w)(l:Hid (a.length=n))(p:n<=9223372036854775807)(j:Hid (∀z∈a,z=m))(g:At w h a):Calls prog 11 #[.slice h n f,.int .u8 (m.toNat:Int)] w λe b=>e=.returned (.bool true)/\w=b:=by
 obtain rfl:=l.o
 go_in
 go_wp2
 go_loop [5] (λi=>∃k:Nat,k<=a.length/\i = Y k) (λi=>a.length-(intOf i).toNat)
 case atStart=>grind
 case round=>
  obtain⟨k,o,rfl⟩:=hrel;by_cases d:k<a.length
  .obtain⟨b,i,rfl,e⟩:=g k d;rw[j _ (eh d)]at e;clear g;exact tW
  .clear g;exact lR
theorem Zq(w):Calls prog 15 #[.string ⟨([]:E).toArray⟩,.bool true] w λe a=>e=.returned σ/\w=a:=by
 go_in
 exact lR
theorem N0(h:p:=by
 go_wp2_with (first|(at_builtin;refine tJ _ rfl _ _ 37 9 rfl 5 i0 underlying37 underlying9 hif hz0 hz2 rfl zs rfl hb ?_;intro v1 w1 hown1 hg1)|(at_builtin;refine bJ _ rfl _ _ 37 rfl w.1.size 5 i0 underlying37 hif hz0 hz1 hz2 _ _ _ rfl (hown1.alloc _) (some ⟨w1.1.size,0,none⟩) 1 1 [77] rfl rfl pH (dX w1 _ _ _ rfl) hb1 (by have:=hg1.size;simp;omega) ?_;intro v2 w2 hown2 hg2 _;obtain⟨g,cap,hv,hbg,hbuf⟩:=iA.Zp hown2 G;have G2:=gI (aM hg1 _) hg2 (λi hi=>(hown1.lt i hi).1);subst hv;have hroom:=hbuf.room;simp at hroom;clear hown2 hg2))
 go_ret
 exact⟨g,cap,rfl,hbg,hbuf,G2⟩):p:=h
theorem Zr(zs)(b)(w)(f:zs.length<=140737488351232)(a:Hid (zs.isEmpty=false\/b=false)):Calls prog 15 #[.string ⟨zs.toArray⟩,.bool b] w λe d=>∃g cap,e=.returned (ς g 0 zs.length cap)/\w.1.size<=g/\iA d g cap (zs++[77])/\w.grownBy d none:=by
 obtain⟨i0,hif,hz0,hz1,hz2⟩:=info_parts Tryz.info5
 have hb:zs.length<=140737488355328:=G
 have hb1:zs.length+1<=140737488355328:=G
 rcases a.o with d|e
 .clear a;go_in;exact N0
 .subst e;clear a;cases d:zs.isEmpty
  all_goals
   go_in
   exact N0
theorem iA.prefix{w:World}{g a:Nat}{b f:E}(h:iA w g a (b++f)):iA w g a b:=by
 obtain⟨d,e,i,j,k,l,n⟩:=h;refine⟨d,e,i,j,k,by simp at l;omega,?_⟩;have m:(List.map U8 (b++f)).take b.length=b.map U8:=by
  rw[ej,List.take_append_of_le_length Z,cW Z]
 grind
theorem Zt(a)(w)(d:Hid (a=[])):Calls prog 17 #[σ,.string ⟨a.toArray⟩] w λe b=>e=.returned (.bool true)/\w=b:=by
 obtain rfl:=d.o
 have b:=λ(w:World)=>Lib.run_eql_slice_nil (P:=prog) w 37 5 none 0 0 0 0 underlying37
 go_in
 exact lR
theorem Ac{a b:World}{g j:Nat}{u:Value}(h:a.grownBy b (some g)):a.grownBy (b.setCell (F g j) u) (some g):=
 ⟨h.os,h.tape,h.output,by rw[World.size_setCell];exact h.size,(by grind [World.grownBy.block,RowKit.Below.heap_setCell])⟩
theorem Zu(b)(n g a)(w)(x:Hid (b.length=n))(A:n<=140737488351232)(d:iA w g a (b++[77])):Calls prog 17 #[ς g 0 n a,.string ⟨b.toArray⟩] w λe f=>e=.returned (.bool true)/\w.grownBy f (some g):=by
 obtain rfl:=x.o
 have t:=λ(w:World)=>Lib.run_eql_slice_nil (P:=prog) w 37 5 (some ⟨g,0,none⟩) b.length a 0 0 underlying37
 have p:=ek (P:=prog) w 37 9 5 underlying37 underlying5 underlying9 (some ⟨g,0,none⟩) a b d.prefix.at
 have m:w.cell? (F g b.length)=some (.int .u8 77):=by
  have h:=d.cell b.length Z;simpa using h
 have f:=d.room
 simp at f
 have q:=d.maxLen
 unfold maxLen at q
 have o:=d.empty
 go_in
 go_wp2
 go_loopw [7] (λi wr=>∃k:Nat,k<=b.length+1/\i = Y k/\(∃l,l.length=b.length+1/\iA wr g a l)/\w.grownBy wr (some g)) (λi _=>b.length+1-(intOf i).toNat)
 case atStart=>exact⟨0,cS _,rfl,⟨_,by simp,d⟩,cC _ _⟩
 case round=>
  obtain⟨k,y,rfl,⟨l,h,e⟩,i⟩:=hrel;have HB:=I h;clear h p m d o;by_cases h:k<b.length+1
  .have r:=e.cell k (by rw[HB];exact h);have v:=e.frozen k;have R:=e.set k 78;have G:=Ac (j:=k) (u:=.int .u8 ((78:UInt8).toNat:Int)) i;go_wp2;go_roundw
   case rel=>exact⟨k+1,by omega,by go_num,⟨_,by grind [Hid.o],R⟩,G⟩
   case measure=>simp[intOf];omega
  .go_wp2;go_ret;exact⟨rfl,i⟩
theorem rI(h:p:=by simpa using hp):p:=h
variable {wb:Nat}{w:World}
abbrev Sl:=Option Addr×Nat×Nat
def Sl.val(s:Sl):Value:=.slice s.1 s.2.1 s.2.2
structure Ent where
 l:Sl
 one:Sl
 two:Sl
 three:Sl
 mark:UInt8
def Ent.cells(x:Ent):List Value:=[x.l.val,x.one.val,x.two.val,x.three.val,.int .u8 (x.mark.toNat:Int)]
def qJ(w:World)(wb:Nat)(ab:Option Nat)(m:UInt8)(s:Sl):Prop:=
 s.2.1<=9223372036854775807/\At w s.1 (List.replicate s.2.1 m)/\∀b off,s.1=some ⟨b,off,none⟩->0<s.2.1->b≠wb/\some b≠ab
def Qc(w:World)(wb:Nat)(ab:Option Nat)(x:Ent):Prop:=
 qJ w wb ab x.mark x.l/\qJ w wb ab x.mark x.one/\qJ w wb ab x.mark x.two/\qJ w wb ab x.mark x.three
def Zv(l:List Ent):List Value:=(l.map Ent.cells).flatten
def C9(base wb:Nat)(w:World)(l:List Ent)(vb:Value):Prop:=
 w.1[wb]?=some (.cells #[σ,σ,vb,σ,σ,σ] 36 (0,0))/\
 w.ownsRow base 57 5 vb l.length (Zv l)/\vb.ownBlock≠some wb/\(∀x∈l,Qc w wb vb.ownBlock x)/\base<=wb
theorem qJ.kept{e:World}{f d:Option Nat}{m:UInt8}{s:Sl}(h:qJ w wb f m s)(q:∀b a,s.1=some ⟨b,a,none⟩->0<s.2.1->e.1[b]?=w.1[b]?)(k:∀b a,s.1=some ⟨b,a,none⟩->0<s.2.1->some b≠d):qJ e wb d m s:=by
 obtain⟨g,i,p⟩:=h;refine⟨g,?_,dT⟩;intro j l;obtain⟨b,a,n,o⟩:=i j l;grind [World.cell?_of_block]
theorem qJ.lt{e:Option Nat}{m:UInt8}{s:Sl}(h:qJ w wb e m s)(b a)(j:s.1=some ⟨b,a,none⟩)(hp:0<s.2.1):b<w.1.size:=by
 obtain⟨f,d,g,i⟩:=h.2.1.addr rI;grind
theorem C9.grown{a:Nat}{g:World}{l:List Ent}{d:Value}(h:C9 a wb w l d)(k:w.grownBy g none):C9 a wb g l d:=by
 obtain⟨A,B,p,r,t⟩:=h;have v:wb<w.1.size:=dT;refine⟨n9,tE,p,?_,t⟩;intro x y;obtain⟨j,m,n,o⟩:=r x y;have q:∀s,qJ w wb d.ownBlock x.mark s->qJ g wb d.ownBlock x.mark s:=λs i=>i.kept (by grind [qJ.lt,World.grownBy.block]) (λb f e u=>(i.2.2 b f e u).2);exact⟨q _ j,q _ m,q _ n,q _ o⟩
theorem Zx(n:Nat):((n:Int) % 251)=((UInt8.ofNat (n % 251)).toNat:Int):=by
 rw[ez,eI G];omega
theorem Ic(h:p:=by
 rw[List.set_append_right _ _ Z]
 simp only[fL,ia]
 rw[List.drop_eq_getElem_cons h,eo,List.replicate_succ',eg]
 rfl):p:=h
theorem II(a:E)(m)(k)(h:k<a.length):(List.replicate k m++a.drop k).set k m=List.replicate (k+1) m++a.drop (k+1):=by
 exact Ic
structure iO(w w':World)(ex:Nat->Prop):Prop where
 os:w'.os=w.os
 tape:w'.tape=w.tape
 output:w'.output=w.output
 size:w.1.size<=w'.1.size
 block:∀k,k<w.1.size->¬ ex k->w'.1[k]?=w.1[k]?
theorem dw{b a:Nat}{e:TypeId}{size:Nat}{v:Value}{n:Nat}{i:List Value}(h:w.ownsRow b e size v n i)(m:a<=b):w.ownsRow a e size v n i:=by
 refine⟨h.1,?_⟩;rcases h.2 with h|⟨g,d,f,j,k,l⟩
 .exact .inl h
 .exact .inr ⟨g,d,f,j,cE m k,l⟩
variable {zs:E}{a:Option Addr}{gB:Option Nat}{w0:World}
def lI(w0 w:World)(a:Option Addr)(cap:Nat)(zs:E)(gB:Option Nat):Prop:=
 (a=none/\cap=0/\zs=[]/\gB=none)\/∃g,a=some ⟨g,0,none⟩/\gB=some g/\w0.1.size<=g/\iA w g cap (zs++[77])
theorem lI.at{b:Nat}(h:lI w0 w a b zs gB):At w a zs:=by
 rcases h with⟨_,_,rfl,_⟩|⟨g,rfl,_,_,h⟩
 .exact At.nil _ _
 .exact h.prefix.at
theorem lI.grown{d:World}{b:Nat}(h:lI w0 w a b zs gB)(k:w.grownBy d none):lI w0 d a b zs gB:=by
 rcases h with h|⟨g,e,f,i,j⟩
 .exact .inl h
 .exact .inr ⟨g,e,f,i,j.grown k Z⟩
theorem lI.none{b:Nat}(h:lI w0 w a b zs gB):a=.none->b=0:=by
 rcases h with⟨_,h,_⟩|⟨g,h,_⟩
 .exact λ_=>h
 grind
theorem lI.old{b:Nat}(h:lI w0 w a b zs gB)(k)(d:some k=gB):w0.1.size<=k:=by
 rcases h with⟨_,_,_,h⟩|⟨g,_,e,f,_⟩
 .rw[h]at d;cases d
 grind
theorem lI.cap{b:Nat}(h:lI w0 w a b zs gB):zs.length<=b/\b<=9223372036854775807:=by
 rcases h with⟨_,rfl,rfl,_⟩|⟨g,_,_,_,d⟩
 .simp
 .have e:=d.room;have f:=d.maxLen;unfold maxLen at f;simp at e;omega
theorem lI.lt{d:Nat}(h:lI w0 w a d zs gB)(k)(b:some k=gB):k<w.1.size:=by
 rcases h with⟨_,_,_,h⟩|⟨g,_,e,_,f⟩
 .rw[h]at b;cases b
 .rw[e]at b;cases b;exact f.lt
theorem rT(zs)(d)(w)(l:zs.length<=140737488351232):Calls prog 15 #[.string ⟨zs.toArray⟩,.bool d] w λe f=>∃a b gB,e=.returned (.slice a zs.length b)/\lI w f a b zs gB/\w.grownBy f none:=by
 by_cases h:zs.isEmpty=false\/d=false
 .refine(Zr zs d w l h).mono ?_;rintro e f ⟨g,b,rfl,i,j,k⟩;exact⟨_,b,some g,rfl,.inr ⟨g,rfl,rfl,i,j⟩,k⟩
 .have i:zs=[]:=by simp at h;exact h.1
  have j:d=true:=by simp at h;exact h.2
  subst i j;refine(Zq w).mono ?_;rintro e f ⟨rfl,rfl⟩;exact⟨none,0,none,rfl,.inl ⟨rfl,rfl,rfl,rfl⟩,cC _ _⟩
theorem rU(zs)(n)(a)(b)(gB)(w0 w)(d:Hid (zs.length=n))(f:n<=140737488351232)(h:lI w0 w a b zs gB):Calls prog 17 #[.slice a n b,.string ⟨zs.toArray⟩] w λe g=>e=.returned (.bool true)/\w.grownBy g gB:=by
 rcases h with⟨rfl,rfl,rfl,rfl⟩|⟨g,rfl,rfl,i,e⟩
 .obtain rfl:=d.o;refine(Zt [] w (I rfl)).mono ?_;grind [cC]
 .exact Zu zs n g b w d f e
theorem Zy{a:World}(h:w0.grownBy w none)(k:w.grownBy a gB)(b:∀j,some j=gB->w0.1.size<=j):w0.grownBy a none:=
 (by grind [gI])
theorem VW(zs)(n)(b)(a)(w)(h:Hid (zs.length=n))(g:n<=140737488355328)(f:At w b zs):Calls prog 16 #[.slice b n a] w λe d=>e=.returned (O ((Pure.iD 0 zs).toNat:Int))/\w=d:=by
 obtain rfl:=h.o
 go_in
 go_wp2_with (go_at_call 43;refine(Nl zs b a _ g f).mono ?_;rintro e d ⟨rfl,rfl⟩)
 go_ret
 exact⟨rfl,rfl⟩
variable {e:Ending}{B:Int}{bs:E}{w':World}
theorem Zz{a:Nat}(h:w.grownBy w' none)(b:a<=w.1.size):Below a w w':=⟨h.os,h.tape,h.output,h.size,λk d=>h.block k G Z⟩
theorem UO(h:wF B=false):B<1\/5<B:=by simp[wF]at h;omega
theorem Rv(h:wF B=true):1<=B/\B<=5:=by simp[wF]at h;omega
theorem fA.uE{d:Nat->Prop}{v:Value}{p:Option Pl}(h:fA w v p bs)(f:iO w w' d)(t:∀q,p=some q->¬ d q.g):fA w' v p bs:=by
 rcases h with h|⟨q,k,r,l,m,g,n⟩
 .exact .inl h
 .have i:=f.block q.g g.lt (t q k);obtain⟨b,e,x,y⟩:=g;refine .inr ⟨q,k,r,l,m,⟨b,e,i.trans x,y⟩,λj u o=>?_⟩;rw[World.cell?_of_block (w:=w) (w':=w') (a:=⟨q.g,q.off+j,none⟩) i];exact n j u o
theorem iA.o{g n:Nat}(h:iA w g n bs)(a:Hid (bs.length=n)):fA w (ς g 0 n n) (some ⟨g,0,n⟩) bs:=by
 obtain⟨b,d⟩:=fA.buf h;exact .inr ⟨_,rfl,by rw[a],by rw[a];exact cA _,h.maxLen,by simpa using b,d⟩
theorem fA.at'{d:Option Addr}{n b:Nat}{p:Option Pl}(h:fA w (.slice d n b) p bs)(g:Hid (bs.length=n)):At w d bs:=by
 obtain⟨a,c,e,_,_,f,_⟩:=h.open g;injection e with e1 e2 e3;subst e1;exact f
theorem NH(a x)(v)(w)(b:wF x=false):Calls prog 22 #[O a,Y x,v] w λe w'=>e=.returned (.tuple #[σ,Y 1])/\w=w':=by
 go_in
 go_wp2_with (go_at_call 46;refine(Ro a x v _ b).mono ?_;rintro e w' ⟨rfl,rfl⟩)
 exact lP
def UQ(S:E)(ec:Int)(w:World)(e:Ending)(w':World):Prop:=∃v p,e=.returned (.tuple #[v,Y ec])/\fA w' v p S/\Pl.fresh w.1.size p/\w.grownBy w' none/\(ec≠0->v = σ)
def UR(S:E)(ec:Int)(w:World)(e:Ending)(w':World):Prop:=∃a c,e=.returned (.tuple #[.slice a S.length c,Y ec])/\At w' a S/\w.grownBy w' none
theorem UQ.bad{a:Int}(h:e=.returned (.tuple #[σ,Y a])/\w.grownBy w' none):UQ [] a w e w':=⟨_,none,h.1,fA.nil _,(λq b=>by cases b),h.2,λ_=>rfl⟩
theorem UR.bad{a:Int}(h:e=.returned (.tuple #[σ,Y a])/\w.grownBy w' none):UR [] a w e w':=⟨none,0,h.1,At.nil _ _,h.2⟩
theorem stays{v:Value}(h:e=.returned v/\w=w'):e=.returned v/\w.grownBy w' none:=⟨h.1,by rw[h.2];exact cC _ _⟩
def KT(K D:UInt64)(B:Int)(zs S:E)(ec:Int):Prop:=
 (∀(W:World)(a:Option Addr)(cap:Nat),At W a zs->zs.length<=cap->Calls prog 19 #[O (K.toNat:Int),Y B,O (D.toNat:Int),.slice a zs.length cap] W (UQ S ec W))/\
 ∀(W:World)(b cap:Nat),At W (some ⟨b,0,none⟩) zs->zs.length<=cap->cap<=9223372036854775807->Calls prog 20 #[O (K.toNat:Int),Y B,O (D.toNat:Int),ς b 0 zs.length cap] W (UR S ec W)
def KU(K:UInt64)(B:Int)(zs S:E)(ec:Int):Prop:=
 (∀(W:World)(a:Option Addr)(cap:Nat),At W a zs->zs.length<=cap->Calls prog 22 #[O (K.toNat:Int),Y B,.slice a zs.length cap] W (UQ S ec W))/\
 ∀(W:World)(b cap:Nat),At W (some ⟨b,0,none⟩) zs->zs.length<=cap->cap<=9223372036854775807->Calls prog 23 #[O (K.toNat:Int),Y B,ς b 0 zs.length cap] W (UR S ec W)
theorem D1(h:wF B=true):B=((UInt64.ofNat B.toNat).toNat:Int):=by
 have:=Rv h;rw[Pure.lG _ G,Int.toNat_of_nonneg G]
theorem ZA(K D)(B)(i):∃S a,KT K D B i S a/\S.length<=100000:=by
 by_cases f:wF B=true
 .have j:=Rv f;have p:=I (D1 f);by_cases r:i.length<=200
  .have l:Hid ((Pure.eB K (UInt64.ofNat B.toNat) D i).length=i.length+16):=Pure.bR ..;refine⟨Pure.eB K (UInt64.ofNat B.toNat) D i,0,⟨λW a d h _=>(Zk K _ D B a i _ d W f p (I rfl) r h).mono ?_,λW b d h _ _=>(Zo K _ D B i _ _ d W j.1 j.2 p (I rfl) r (I pH) h).mono ?_⟩,by rw[l.o];omega⟩
   .rintro e u ⟨g,rfl,o,t,k⟩;exact⟨_,_,rfl,t.o l,λq n=>by injection n with n;subst n;exact o,k,λh=>absurd rfl h⟩
   .rintro e u ⟨a,c,rfl,m,k⟩;exact⟨a,c,by rw[l.o],m,k⟩
  .exact⟨[],1,⟨λW a d _ _=>(Rq _ _ B a _ d W f G).mono λ_ _ h=>.bad (stays h),λW b d _ _ _=>(Ru _ _ B _ _ d W j.1 j.2 G).mono λ_ _ h=>.bad (stays h)⟩,by simp⟩
 .have f:wF B=false:=by simpa using f
  exact⟨[],1,⟨λW a d _ _=>(VS _ _ B _ W f).mono λ_ _ h=>.bad (stays h),λW b d _ _ _=>(VV _ _ B _ W (UO f)).mono λ_ _ h=>.bad (stays h)⟩,by simp⟩
theorem ZB(K)(B)(g):∃S a,KU K B g S a/\S.length<=100000:=by
 by_cases i:wF B=true
 .have j:=Rv i;have m:=I (D1 i);by_cases t:g.length<16\/216<g.length
  .exact⟨[],3,⟨λW a d _ _=>(KR _ B a _ d W i t).mono λ_ _ h=>.bad (stays h),λW b d _ _ _=>(KS _ B _ _ d W j.1 j.2 t).mono λ_ _ h=>.bad (stays h)⟩,by simp⟩
  .obtain⟨M,n⟩:∃M,g.length=M+16:=⟨g.length-16,by omega⟩
   have R:=λW b d (h:At W (some ⟨b,0,none⟩) g) (f:g.length<=d) (e:d<=9223372036854775807)=>NG K _ B b 0 g M d W j.1 j.2 m n G G e h;rw[<-n]at R;cases l:Pure.opens K (UInt64.ofNat B.toNat) g
   .exact⟨[],3,⟨λW a d h k=>(Rs K _ B a g _ d W i m (I rfl) G G k h l).mono λ_ _ h=>.bad h,λW b d h f e=>(R W b d h f e).mono λ_ _ h=>.bad ⟨h.2.1 l,h.2.2⟩⟩,by simp⟩
   .have r:(Pure.dI K (UInt64.ofNat B.toNat) g).length=M:=(by rw[Pure.jd,n];omega);refine⟨Pure.dI K (UInt64.ofNat B.toNat) g,0,⟨λW a d h k=>(Nv K _ B a g _ d W i m (I rfl) G G k h l).mono ?_,λW b d h f e=>(R W b d h f e).mono ?_⟩,by rw[r];omega⟩
    .rintro e u ⟨v,p,rfl,o,f,k⟩;exact⟨v,p,rfl,o,f,k,λh=>absurd rfl h⟩
    .rintro e u ⟨q,_,k⟩;obtain⟨a,c,f,o⟩:=q l;exact⟨a,c,by rw[r];exact f,o,k⟩
 .have i:wF B=false:=by simpa using i
  exact⟨[],1,⟨λW a d _ _=>(NH _ B _ W i).mono λ_ _ h=>.bad (stays h),λW b d _ _ _=>(NF _ B _ W (UO i)).mono λ_ _ h=>.bad (stays h)⟩,by simp⟩
theorem Tryz.KV:(Tryz.prog.info? 48).map (·.size)=some 41:=by kernel_rfl
theorem EC{P:Program}{k:Array Oper}{b:List Oper}{o:Oper}{a:Act}{w:World}{Q:Exit->Act->World->Prop}(m:o.guard=none)(f)(x)(u:o.op=.load f x)(l)(A:a.eval x=.pointer (some l))(e)(d)(t:∀j v,e.toList[j]?=some v->w.cell? (l.add j)=some v)(y:P.underlying f=some d)(B:(match d with|.struct _|.array _ _=>true|_=>false)=true)(p:(P.info? f).map (·.size)=some e.size)(h:wpList P k Q b (a.put o.dst (.agg e)) w):wpList P k Q (o::b) a w:=by
 refine wpList_plain m λK r=>?_
 have q:=run_loadCells_list (P:=P) w l e.toList t
 have j:(loadVar f l).run P w=.ok (.agg e) w:=by
  cases n:P.info? f with
  |none=>simp[n]at p
  |some i=>
   have v:i.size=e.size:=(by simpa[n]using p);have g:(isAgg f).run P w=.ok true w:=by
    unfold isAgg;rw[Sem.run_bind,run_underlying y w];cases d<;>simp_all
   simp only[cV,Array.toArray_toList]at q;simp[loadVar,Sem.run_bind,g,sizeOf,typeInfo,n,v,q]
 unfold Oper.wp execOp
 simp only[u,A,Instr.loadAt,Instr.sureAddr,Sem.run_bind,Sem.run_pure,Result.andThen_ok,j]
 exact r _ _ h
