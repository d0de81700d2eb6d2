import Derived.Test.YtlfifnpjeangmaaGreatDoorGESeal
namespace Go.Proofs.YtlfifnpjeangmaaGreatDoor
set_option maxHeartbeats 1000000
open Proofs.Tryz Go.RowKit
set_option maxRecDepth 100000
variable {p:Prop}
theorem ahD(h:p:=by grind [World.grownBy.block,RowKit.Below.heap_setCell]):p:=h
theorem aii(h:p:=by simp[ByteArray.size]):p:=h
theorem rY{P:Program}(w){g:Array Oper}{c:List Oper}{o:Oper}{a:Act}{Q:Exit->Act->World->Prop}(H:o.guard=none)(s x)(t u)(h:o.op=Op.call {callee:=Callee.builtin Builtin.append,args:=#[s,x],argTypes:=#[t,u]})(e)(i)(v:P.underlying t=some (.slice e))(r:P.underlying u=some .string)(p:P.info? e=some i)(A:i.zero=some (.int .u8 0))(B:i.bytes=1)(E:a.eval s=.slice none 0 0)(zs:List UInt8)(G:a.eval x=.string zs)(I:zs.length<=140737488355328)(D:∀d w',w'.ownsRow w.heap.size e 1 d zs.length (zs.map U8)->w.grownBy w' none->wpList P g Q c (a.put o.dst d) w'):
  wpList P g Q (o::c) a w:=by
 refine wpList_plain H λK j=>?_
 have b:(⟨zs.toArray⟩:ByteArray).size=zs.length:=aii
 have key:∃d w',(Builtin.append_ #[t,u] o.type #[.slice none 0 0,.string zs]).run P w=.ok d w'/\w'.ownsRow w.heap.size e 1 d zs.length (zs.map U8)/\w.grownBy w' none:=by
  by_cases q:zs=[]
  ·subst q;refine⟨.slice none 0 0,w,?_,World.ownsRow_nil _ _ _ _,cC _ _⟩;simp[Builtin.append_,run_underlying v,run_underlying r,sizeOf,typeInfo,p,Builtin.lenOf,Builtin.firstCells,ByteArray.size]
  ·have C:=fX.2 q;have n:=run_append_nil_string (P:=P) w t u o.type e i (.int .u8 0) v r p A ⟨zs.toArray⟩ (by rw[b];exact C) (by rw[b];omega) (by rw[b,B];omega);rw[b]at n;have m:=grownCap_ge w zs.length 0 e;have l:=grownCap_le_maxLen w zs.length 0 e ag1;refine⟨_,_,n,⟨by simp,.inr ⟨w.heap.size,_,_,rfl,cy _,heap_alloc_new w.drew _,m,l,?_,?_⟩⟩,⟨rfl,rfl,rfl,by simp,λk y _=>Below.heap_alloc w.drew _ k y⟩⟩
   ·simp[size_zeroCells,Value.cells];omega
   ·simp only[fR,Array.toList_append,Array.toList_map];rw[List.take_append_of_le_length agI,cU agI];rfl
 obtain⟨d,w',f,z,F⟩:=key
 unfold Oper.wp
 simp[execOp,h,resolve,invoke,builtin,E,G,f,Result.andThen]
 exact j _ _ (D d w' z F)
theorem ab9(h:p:=by
 refine At.some λj hj=>?_
 have hh:∀(C)(fr),(w.drew.alloc (.cells C e fr)).heap[w.heap.size]?=some (.cells C e fr):=λC fr=>heap_alloc_new w.drew _
 rw[cN,cell_of_row _ _ j _ e _ (hh _ _)]
 unfold bytesRow
 grind):p:=h
theorem pX{P:Program}(w){g:Array Oper}{c:List Oper}{o:Oper}{a:Act}{Q:Exit->Act->World->Prop}(y:o.guard=none)(x)(f d)(i:o.op=Op.convert f d x)(e)(u:P.underlying f=some .string)(v:P.underlying d=some (.slice e))(r:P.underlying e=some (.int .u8))(zs)(t:a.eval x=.string ⟨zs.toArray⟩)(A:zs.length<=140737488355328)(z:∀b cap w',zs.length<=cap->cap<=maxLen->At w' (some ⟨b,0,none⟩) zs->w.grownBy w' none->wpList P g Q c (a.put o.dst (.slice (some ⟨b,0,none⟩) zs.length cap)) w'):
  wpList P g Q (o::c) a w:=by
 refine wpList_plain y λK l=>?_
 have p:(⟨zs.toArray⟩:ByteArray).size=zs.length:=aii
 have q:=run_bytes_of_string (P:=P) w f d e ⟨zs.toArray⟩ u v r
 rw[p]at q
 have m:=grownCap_ge w zs.length 0 e
 have n:=grownCap_le_maxLen w zs.length 0 e ag1
 unfold Oper.wp
 simp[execOp,i,t,q,Result.andThen]
 refine l _ _ (z _ _ _ m n ?_ ⟨rfl,rfl,rfl,by simp,λk s _=>Below.heap_alloc w.drew _ k s⟩)
 exact ab9
theorem Buf.WN{w:World}{base:Nat}{e:TypeId}{v:Value}{n:Nat}{f:List UInt8}(h:w.ownsRow base e 1 v n (f.map U8))(m:0<n):
  ∃g cap,v=.slice (some ⟨g,0,none⟩) n cap/\base<=g/\Buf w g cap f:=by
 obtain⟨i,h⟩:=h
 have hn:n=f.length:=by simpa using i.symm
 rcases h with⟨rfl,rfl⟩|⟨g,cap,a,rfl,j,l,k,b,d,c⟩
 ·omega
 ·exact⟨g,cap,rfl,j,a,e,l,by simpa using d,b,by omega,by rw[<-hn];simpa using c⟩
theorem aa1(h:p:=by
 go_wp2
 go_round
 case rel=>exact⟨k+1,by omega,by go_num⟩
 case measure=>simp[intOf];omega):p:=h
theorem abj(zs)(m)(n)(f)(cap)(w)(hn:Hid (zs.length=n))(h:n<=9223372036854775807)(g:Hid (∀z∈zs,z=m))(d:At w f zs):
  Calls prog 11 #[.slice f n cap,.int .u8 m.toNat] w λe w'=>e=.returned (.bool true)/\w=w':=by
 obtain rfl:=hn.o
 go_enter func11,ntmps11
 go_wp2
 go_loop [5] (λi=>∃k:Nat,k<=zs.length/\i = ι k) (λi=>zs.length-(intOf i).toNat)
 case atStart=>grind
 case round=>
  obtain⟨k,j,rfl⟩:=hrel;by_cases a:k<zs.length
  ·obtain⟨b,off,rfl,c⟩:=d k a;rw[g.o _ (ef a)]at c;clear d;exact aa1
  ·clear d;exact aaE
theorem WO(w):
  Calls prog 15 #[.string ⟨([]:List UInt8).toArray⟩,.bool true] w λe w'=>e=.returned (.slice none 0 0)/\w=w':=by
 go_enter func15,ntmps15
 exact aaE
theorem aaK(h:p:=by
 go_wp2_with (first|(at_builtin;refine rY _ rfl _ _ 37 9 rfl 5 i0 underlying37 underlying9 hif hz0 hz2 rfl zs rfl hb ?_;intro v1 w1 hown1 hg1)|(at_builtin;refine bV _ rfl _ _ 37 rfl w.heap.size 5 i0 underlying37 hif hz0 hz1 hz2 _ _ _ rfl (hown1.alloc _) (some ⟨w1.heap.size,0,none⟩) 1 1 [77] rfl rfl ahw (fq w1 _ _ _ rfl) hb1 (by have:=hg1.size;simp;omega) ?_;intro v2 w2 hown2 hg2 _;obtain⟨g,cap,hv,hbg,hbuf⟩:=Buf.WN hown2 agE;have G2:=gu (aM hg1 _) hg2 (λi hi=>(hown1.lt i hi).1);subst hv;have hroom:=hbuf.room;simp at hroom;clear hown2 hg2))
 go_ret
 exact⟨g,cap,rfl,hbg,hbuf,G2⟩):p:=h
theorem WQ(zs)(b)(w)(d:zs.length<=140737488351232)(a:Hid (zs.isEmpty=false\/b=false)):
  Calls prog 15 #[.string ⟨zs.toArray⟩,.bool b] w λe w'=>∃g cap,e=.returned (.slice (some ⟨g,0,none⟩) zs.length cap)/\w.heap.size<=g/\Buf w' g cap (zs++[77])/\w.grownBy w' none:=by
 obtain⟨i0,hif,hz0,hz1,hz2⟩:=info_parts Tryz.info5
 have hb:zs.length<=140737488355328:=agE
 have hb1:zs.length+1<=140737488355328:=agE
 rcases a.o with c|hn
 ·clear a;go_enter func15,ntmps15;exact aaK
 ·subst hn;clear a;cases c:zs.isEmpty
  all_goals
   go_enter func15,ntmps15
   exact aaK
theorem Buf.prefix{w:World}{g cap:Nat}{a c:List UInt8}(h:Buf w g cap (a++c)):Buf w g cap a:=by
 obtain⟨b,e,d,f,i,j,l⟩:=h;refine⟨b,e,d,f,i,by simp at j;omega,?_⟩;have k:(List.map U8 (a++c)).take a.length=a.map U8:=by
  rw[eg,List.take_append_of_le_length agI,cU agI]
 grind
theorem WR(zs)(w)(a:Hid (zs=[])):
  Calls prog 17 #[.slice none 0 0,.string ⟨zs.toArray⟩] w λe w'=>e=.returned (.bool true)/\w=w':=by
 obtain rfl:=a.o
 have b:=λ(w:World)=>Lib.run_eql_slice_nil (P:=prog) w 37 5 none 0 0 0 0 underlying37
 go_enter func17,ntmps17
 exact aaE
theorem yX{a b:World}{g j:Nat}{u:Value}(h:a.grownBy b (some g)):a.grownBy (b.setCell (g,j) u) (some g):=
 ⟨h.os,h.tape,h.output,by rw[World.size_setCell];exact h.size,ahD⟩
theorem WS(zs)(n g cap:Nat)(w)(hn:Hid (zs.length=n))(y:n<=140737488351232)(b:Buf w g cap (zs++[77])):
  Calls prog 17 #[.slice (some (g,0)) n cap,.string ⟨zs.toArray⟩] w λe w'=>e=.returned (.bool true)/\w.grownBy w' (some g):=by
 obtain rfl:=hn.o
 have x:=λ(w:World)=>Lib.run_eql_slice_nil (P:=prog) w 37 5 (some ⟨g,0,none⟩) zs.length cap 0 0 underlying37
 have r:=ic (P:=prog) w 37 9 5 underlying37 underlying5 underlying9 (some ⟨g,0,none⟩) cap zs b.prefix.at
 have m:w.cell? (g,zs.length)=some (.int .u8 77):=by
  have h:=b.cell zs.length agI;simpa using h
 have a:=b.room
 simp at a
 have p:=b.maxLen
 unfold maxLen at p
 have q:=b.empty
 go_enter func17,ntmps17
 go_wp2
 go_loopw [7] (λi wr=>∃k:Nat,k<=zs.length+1/\i = ι k/\(∃s,s.length=zs.length+1/\Buf wr g cap s)/\w.grownBy wr (some g)) (λi _=>zs.length+1-(intOf i).toNat)
 case atStart=>exact⟨0,cS _,rfl,⟨_,by simp,b⟩,cC _ _⟩
 case round=>
  obtain⟨k,z,rfl,⟨s,f,c⟩,d⟩:=hrel;have HB:=hid f;clear f r m b q;by_cases l:k<zs.length+1
  ·have t:=c.cell k (by rw[HB.o];exact l);have v:=c.frozen k;have R:=c.set k 78;have G:=yX (j:=k) (u:=.int .u8 ((78:UInt8).toNat:Int)) d;go_wp2;go_roundw
   case rel=>exact⟨k+1,by omega,by go_num,⟨_,by grind [RowKit.Hid.o],R⟩,G⟩
   case measure=>simp[intOf];omega
  ·go_wp2;go_ret;exact⟨rfl,d⟩
theorem ahr(h:p:=by simpa using hp):p:=h
variable {wb:Nat}{w:World}
abbrev Sl:=Option Addr×Nat×Nat
def Sl.val(s:Sl):Value:=.slice s.1 s.2.1 s.2.2
structure Ent where
 l:Sl
 one:Sl
 two:Sl
 three:Sl
 mark:UInt8
def Ent.cells(x:Ent):List Value:=[x.l.val,x.one.val,x.two.val,x.three.val,.int .u8 x.mark.toNat]
def pY(w:World)(wb:Nat)(ab:Option Nat)(m:UInt8)(s:Sl):Prop:=
 s.2.1<=9223372036854775807/\At w s.1 (List.replicate s.2.1 m)/\∀b off,s.1=some ⟨b,off,none⟩->0<s.2.1->b≠wb/\some b≠ab
def ahZ(w:World)(wb:Nat)(ab:Option Nat)(x:Ent):Prop:=
 pY w wb ab x.mark x.l/\pY w wb ab x.mark x.one/\pY w wb ab x.mark x.two/\pY w wb ab x.mark x.three
def WT(l:List Ent):List Value:=(l.map Ent.cells).flatten
def Inv(base wb:Nat)(w:World)(l:List Ent)(vb:Value):Prop:=
 w.heap[wb]?=some (.cells #[.slice none 0 0,.slice none 0 0,vb,.slice none 0 0,.slice none 0 0,.slice none 0 0] 36 (0,0))/\
 w.ownsRow base 57 5 vb l.length (WT l)/\vb.ownBlock≠some wb/\(∀x∈l,ahZ w wb vb.ownBlock x)/\base<=wb
theorem pY.kept{w':World}{g a:Option Nat}{m:UInt8}{s:Sl}(h:pY w wb g m s)(l:∀b off,s.1=some ⟨b,off,none⟩->0<s.2.1->w'.heap[b]?=w.heap[b]?)(c:∀b off,s.1=some ⟨b,off,none⟩->0<s.2.1->some b≠a):pY w' wb a m s:=by
 obtain⟨e,f,n⟩:=h;refine⟨e,?_,agM⟩;intro j d;obtain⟨b,off,k,i⟩:=f j d;grind [World.cell?_of_block]
theorem pY.lt{c:Option Nat}{m:UInt8}{s:Sl}(h:pY w wb c m s)(b off)(f:s.1=some ⟨b,off,none⟩)(hp:0<s.2.1):b<w.heap.size:=by
 obtain⟨e,a,d,g⟩:=h.2.1.addr ahr;grind
theorem Inv.grown{base:Nat}{w':World}{l:List Ent}{a:Value}(h:Inv base wb w l a)(k:w.grownBy w' none):Inv base wb w' l a:=by
 obtain⟨t,u,n,r,j⟩:=h;have g:wb<w.heap.size:=agM;refine⟨ag8,ahC,n,?_,j⟩;intro x f;obtain⟨d,m,i,p⟩:=r x f;have q:∀s,pY w wb a.ownBlock x.mark s->pY w' wb a.ownBlock x.mark s:=λs c=>c.kept (by grind [pY.lt,World.grownBy.block]) (λb off e o=>(c.2.2 b off e o).2);exact⟨q _ d,q _ m,q _ i,q _ p⟩
theorem WV(n:Nat):((n:Int) % 251)=((UInt8.ofNat (n % 251)).toNat:Int):=by
 rw[eo,ez agE];omega
theorem aep(h:p:=by
 rw[List.set_append_right _ _ agI]
 simp only[fs,gE]
 rw[List.drop_eq_getElem_cons h,ej,List.replicate_succ',du]
 rfl):p:=h
theorem FU(zs:List UInt8)(m)(k)(h:k<zs.length):(List.replicate k m++zs.drop k).set k m=List.replicate (k+1) m++zs.drop (k+1):=by
 exact aep
structure iZ(w w':World)(ex:Nat->Prop):Prop where
 os:w'.os=w.os
 tape:w'.tape=w.tape
 output:w'.output=w.output
 size:w.heap.size<=w'.heap.size
 block:∀k,k<w.heap.size->¬ ex k->w'.heap[k]?=w.heap[k]?
theorem dC{base a:Nat}{e:TypeId}{size:Nat}{v:Value}{n:Nat}{c:List Value}(h:w.ownsRow base e size v n c)(f:a<=base):w.ownsRow a e size v n c:=by
 refine⟨h.1,?_⟩;rcases h.2 with h|⟨g,cap,b,d,i,j⟩
 ·exact .inl h
 ·exact .inr ⟨g,cap,b,d,cE f i,j⟩
variable {zs:List UInt8}{a:Option Addr}{gB:Option Nat}{w' w0:World}
def nk(w0 w:World)(a:Option Addr)(cap:Nat)(zs:List UInt8)(gB:Option Nat):Prop:=
 (a=none/\cap=0/\zs=[]/\gB=none)\/∃g,a=some ⟨g,0,none⟩/\gB=some g/\w0.heap.size<=g/\Buf w g cap (zs++[77])
theorem nk.at{cap:Nat}(h:nk w0 w a cap zs gB):At w a zs:=by
 rcases h with⟨_,_,rfl,_⟩|⟨g,rfl,_,_,h⟩
 ·exact At.nil _ _
 ·exact h.prefix.at
theorem nk.grown{cap:Nat}(h:nk w0 w a cap zs gB)(k:w.grownBy w' none):nk w0 w' a cap zs gB:=by
 rcases h with h|⟨g,b,e,c,d⟩
 ·exact .inl h
 ·exact .inr ⟨g,b,e,c,d.grown k agI⟩
theorem nk.none{cap:Nat}(h:nk w0 w a cap zs gB):a=.none->cap=0:=by
 rcases h with⟨_,h,_⟩|⟨g,h,_⟩
 ·exact λ_=>h
 grind
theorem nk.old{cap:Nat}(h:nk w0 w a cap zs gB)(k)(b:some k=gB):w0.heap.size<=k:=by
 rcases h with⟨_,_,_,h⟩|⟨g,_,c,d,_⟩
 ·rw[h]at b;cases b
 grind
theorem nk.cap{cap:Nat}(h:nk w0 w a cap zs gB):zs.length<=cap/\cap<=9223372036854775807:=by
 rcases h with⟨_,rfl,rfl,_⟩|⟨g,_,_,_,b⟩
 ·simp
 ·have c:=b.room;have d:=b.maxLen;unfold maxLen at d;simp at c;omega
theorem Dg(zs)(b)(w)(f:zs.length<=140737488351232):
  Calls Tryz.prog 15 #[.string ⟨zs.toArray⟩,.bool b] w λe w'=>∃a cap gB,e=.returned (.slice a zs.length cap)/\nk w w' a cap zs gB/\w.grownBy w' none:=by
 by_cases h:zs.isEmpty=false\/b=false
 ·refine(WQ zs b w f h).mono ?_;rintro e w' ⟨g,cap,rfl,c,d,i⟩;exact⟨_,cap,some g,rfl,.inr ⟨g,rfl,rfl,c,d⟩,i⟩
 ·have c:zs=[]:=by simp at h;exact h.1
  have d:b=true:=by simp at h;exact h.2
  subst c d;refine(WO w).mono ?_;rintro e w' ⟨rfl,rfl⟩;exact⟨none,0,none,rfl,.inl ⟨rfl,rfl,rfl,rfl⟩,cC _ _⟩
theorem Dh(zs)(n)(a)(cap)(gB)(w0 w)(hn:Hid (zs.length=n))(b:n<=140737488351232)(h:nk w0 w a cap zs gB):
  Calls Tryz.prog 17 #[.slice a n cap,.string ⟨zs.toArray⟩] w λe w'=>e=.returned (.bool true)/\w.grownBy w' gB:=by
 rcases h with⟨rfl,rfl,rfl,rfl⟩|⟨g,rfl,rfl,d,c⟩
 ·obtain rfl:=hn.o;refine(WR [] w (hid rfl)).mono ?_;grind [cC]
 ·exact WS zs n g cap w hn b c
theorem K9(h:w0.grownBy w none)(k:w.grownBy w' gB)(b:∀j,some j=gB->w0.heap.size<=j):w0.grownBy w' none:=
 (by grind [gu])
def aeO(w:World)(b:Nat)(kind B C:Int)(K D:UInt64)(zs:List UInt8):Prop:=
 w.cell? (b,0)=some (ι kind)/\w.cell? (b,2)=some (ι B)/\w.cell? (b,3)=some (ι C)/\w.cell? (b,4)=some (υ K.toNat)/\w.cell? (b,5)=some (υ D.toNat)/\w.cell? (b,7)=some (.string zs)
theorem aeO.grown{b:Nat}{d B C:Int}{K D:UInt64}{row:Option Nat}(h:aeO w b d B C K D zs)(k:w.grownBy w' row)(i:row≠some b):aeO w' b d B C K D zs:=by
 obtain⟨m,j,n,l,g,f⟩:=h;have c:some b≠row:=λe=>i e.symm;exact⟨k.cell m c,k.cell j c,k.cell n c,k.cell l c,k.cell g c,k.cell f c⟩
end Go.Proofs.YtlfifnpjeangmaaGreatDoor
