import Derived.Test.YtlfifnpjeangmaaGreatDoorProg
import Derived.Test.YtlfifnpjeangmaaGreatDoorGELaws
import Derived.Deep.RegionLaw
import Derived.Deep.DeepCutAuto
namespace Go.Proofs.YtlfifnpjeangmaaGreatDoor
open Go.RowKit
set_option maxRecDepth 100000
variable {P:Program}{p:Prop}
theorem Tryz.info5:(Tryz.prog.info? 5).map (λi=>(i.zero,i.size,i.bytes))=some (some (.int .u8 0),1,1):=by kernel_rfl
theorem fw(w:World)(e)(b)(a)(h:b.toList=a.map U8):At (w.alloc (.cells b e)) (some ⟨w.1.size,0,none⟩) a:=by
 intro j f;refine⟨w.1.size,0,rfl,?_⟩;have d:b[j]?=some (U8 a[j]):=by
  rw[<-Array.getElem?_toList,h];simp[f]
 rw[cN,World.cell?_alloc_at (hn:=rfl)];exact d
theorem E6(h:p:=by
 unfold Oper.wp
 simp[execOp,hop,resolve,invoke,builtin,hs,hx,hrun,Result.andThen]
 exact hK v' w' r1 r2 r3):p:=h
theorem Dg{g:Array Oper}{o:Oper}{a:Act}{w:World}{K:Act->World->Prop}{Q:Exit->Act->World->Prop}{E:Prop}(B:o.guard=none)(s x)(t)(hop:o.op=Op.call {callee:=Callee.builtin Builtin.append,args:=#[s,x],argTypes:=#[t,t]})(b)(e)(i)(p:P.underlying t=some (.slice e))(q:P.info? e=some i)(r:i.zero=some (.int .u8 0))(u:i.size=1)(y:i.bytes=1)(v)(n)(l)(hs:a.eval s=v)(f:w.ownsRow b e 1 v n (l.map U8))(h)(m c)(j)(hx:a.eval x=.slice h m c)(C:j.length=m)(k:h=none->c=0)(D:At w h j)(A:n+m<=140737488355328)(d:b<=w.1.size)(hK:∀v' w',w'.ownsRow b e 1 v' (n+m) ((l++j).map U8)->w.grownBy w' v.ownBlock->Hid (v'.ownBlock=v.ownBlock\/v'.ownBlock=some w.1.size)->K (a.put o.dst v') w'):
  if Region.wanted o (yielded g a.tmps)=true then Oper.wp P o a w K Q else E:=by
 have hw:Region.wanted o (yielded g a.tmps)=true:=by simp[Region.wanted,B]
 rw[dT hw]
 obtain⟨v',w',hrun,r1,r2,r3⟩:=xH (P:=P) w b t o.type e i p q r u y v n l f h m c j C k D A d
 exact E6
theorem bA{w:World}{a:Nat}{e:TypeId}{size:Nat}{v:Value}{n:Nat}{f:List Value}(h:w.ownsRow a e size v n f):∃b c,v=.slice b n c:=by
 rcases h.2 with⟨rfl,rfl⟩|⟨g,b,d,rfl,_⟩
 .exact⟨none,0,rfl⟩
 .exact⟨_,b,rfl⟩
theorem qX(w)(h)(t D e)(i)(z)(size f)(L:P.underlying t=some (.slice e))(K:P.info? e=some i)(T:i.zero=some z)(l:i.size=size)(A:i.bytes=f)(U:z.cells.size=size)(R:0<size)(v)(n)(M)(k:w.ownsRow h e size v n M)(r)(m c)(a)(C:a.length=m*size)(d:∀j u,a[j]?=some u->w.cell? (r.add j)=some u)(V:∀u∈a,u.oneCell'=true)(hm:0<m)(y:n+m<=maxLen)(b:(n+m)*f<=140737488355328)(p:h<=w.1.size):
  ∃u J,(Builtin.append_ #[t,t] D #[v,.slice (some r) m c]).run P w=.ok u J/\J.ownsRow h e size u (n+m) (M++a)/\w.grownBy J v.ownBlock/\(u.ownBlock=v.ownBlock\/u.ownBlock=some w.1.size):=by
 obtain⟨u,J,hrun,r1,r2,_⟩:=run_append_own (P:=P) w h t D e i z size f L K T l A U R v n M k r m c a C d V y b p
 refine⟨u,J,hrun,r1,r2,?_⟩
 subst l
 subst A
 have X:n+m<=9223372036854775807:=by simp only[maxLen]at y;omega
 rcases k.2 with⟨rfl,rfl⟩|⟨g,o,x,rfl,ab,hg,W,ae,Q,S⟩
 .have q:m*i.bytes<=140737488355328:=by simpa using b
  have hr:=run_append_nil (P:=P) w t D e i z L K T r m c a C d hm G G;exact vt
 .by_cases j:n+m<=o
  .have B:n*i.size+a.length<=x.size:=(by rw[C,Q,<-Nat.add_mul];exact Nat.mul_le_mul_right _ j);have hr:=run_append_room (P:=P) w t D e i L K g n o x hg r m c a C d V j B;rw[hr]at hrun;injection hrun with ha _;subst ha;exact .inl rfl
  .have q:=k.cells (g:=g) rfl;have hr:=run_append_grow (P:=P) w t D e i z L K T ⟨g,0,none⟩ n o M k.1 q r m c a C d G G (growslice_fits G b);exact vt
theorem dJ(w){q:Array Oper}{h:List Oper}{o:Oper}{a:Act}{Q:Exit->Act->World->Prop}(J:o.guard=none)(s x)(t)(hop:o.op=Op.call {callee:=Callee.builtin Builtin.append,args:=#[s,x],argTypes:=#[t,t]})(f)(e)(i)(z)(size d)(S:P.underlying t=some (.slice e))(L:P.info? e=some i)(T:i.zero=some z)(l:i.size=size)(y:i.bytes=d)(B:z.cells.size=size)(A:0<size)(v)(n)(C)(hs:a.eval s=v)(p:w.ownsRow f e size v n C)(r)(m c)(b)(hx:a.eval x=.slice (some r) m c)(M:b.length=m*size)(k:∀j u,b[j]?=some u->w.cell? (r.add j)=some u)(D:∀u∈b,u.oneCell'=true)(R:0<m)(u:n+m<=maxLen)(g:(n+m)*d<=140737488355328)(j:f<=w.1.size)(hK:∀v' w',w'.ownsRow f e size v' (n+m) (C++b)->w.grownBy w' v.ownBlock->Hid (v'.ownBlock=v.ownBlock\/v'.ownBlock=some w.1.size)->wpList P q Q h (a.put o.dst v') w'):
  wpList P q Q (o::h) a w:=by
 refine wpList_plain J λK hK'=>?_
 obtain⟨v',w',hrun,r1,r2,r3⟩:=qX (P:=P) w f t o.type e i z size d S L T l y B A v n C p r m c b M k D R u g j
 exact Gw
theorem gL(w:World)(e)(a:List Value):∀j u,a[j]?=some u->(w.alloc (.cells a.toArray e)).cell? ((⟨w.1.size,0,none⟩:Addr).add j)=some u:=by
 grind [Addr.add_lit,World.cell?_alloc_at]
set_option maxHeartbeats 400000
open Proofs.Tryz
theorem vu(h:p:=by
 clear hc
 go_wp2
 go_ret
 exact⟨Ci (by rw[cU G]),rfl⟩):p:=h
theorem uy(h)(a)(f)(d)(w)(l:a.length<=140737488355328)(hc:At w f a):Calls prog 79 #[H (h.toNat:Int),.slice f a.length d] w λe b=>e=.returned (H ((Pure.fG h a).toNat:Int))/\w=b:=by
 go_in
 go_wp2
 go_loop [0,6,9] (λb _ i=>∃k:Nat,k<=a.length/\i = Y k/\b = H ((Pure.fG h (a.take k)).toNat:Int)) (λ_ _ i=>a.length-(intOf i).toNat)
 case atStart=>exact⟨0,cS _,rfl,rfl⟩
 case round=>
  obtain⟨k,j,rfl,rfl⟩:=hrel;by_cases e:k<a.length
  .obtain⟨b,i,rfl,g⟩:=hc k e;clear hc;go_wp2;go_round
   case rel=>exact⟨k+1,by omega,by go_num,(by grind [lL,K6,Pure.Da])⟩
   case measure=>simp[intOf];omega
  .exact vu
theorem K7(h)(a)(f)(d)(w)(l:a.length<=140737488355328)(hc:At w f a):Calls prog 125 #[H (h.toNat:Int),.slice f a.length d] w λe b=>e=.returned (H ((Pure.joinL h a).toNat:Int))/\w=b:=by
 go_in
 go_wp2
 go_loop [5,7,11] (λb _ i=>∃k:Nat,k<=a.length/\i = Y k/\b = H ((Pure.joinL h (a.take k)).toNat:Int)) (λ_ _ i=>a.length-(intOf i).toNat)
 case atStart=>exact⟨0,cS _,rfl,rfl⟩
 case round=>
  obtain⟨k,j,rfl,rfl⟩:=hrel;by_cases e:k<a.length
  .obtain⟨b,i,rfl,g⟩:=hc k e;clear hc;go_wp2;go_round
   case rel=>exact⟨k+1,by omega,by go_num,(by grind [De,lL,Pure.uw])⟩
   case measure=>simp[intOf];omega
  .exact vu
def o0(c:Int):Bool:=decide (1<=c/\c<=5)
theorem lO(h:p:=by
 go_wp2
 go_ret
 exact⟨rfl,rfl⟩):p:=h
theorem Ak(c)(w):Calls prog 80 #[Y c] w λe a=>e=.returned (.bool (o0 c))/\w=a:=by
 by_cases h:1<=c
 .by_cases a:c<=5
  .go_in;go_wp2;go_ret;exact⟨by simp[o0,h,a],rfl⟩
  .have b:o0 c=false:=(by simp[o0];omega);go_in;exact lO
 .have b:o0 c=false:=by simp[o0];omega
  go_in;exact lO
theorem WV(b)(d)(a)(w)(h:b.length<=140737488355328)(g:At w d b):Calls prog 43 #[.slice d b.length a] w λe f=>e=.returned (H ((Pure.fG 0 b).toNat:Int))/\w=f:=by
 go_in
 go_wp2_with (go_at_call 79;refine(uy 0 b d a _ h g).mono ?_;rintro e f ⟨rfl,rfl⟩)
 go_ret
 exact⟨rfl,rfl⟩
theorem Lp(h:p:=by
 go_wp2
 go_loopw [0,8] (λo i wr=>∃k:Nat,k<=size/\i = Y ((size:Int)-1-k)/\o = ς g 0 (bs.length+k) cap/\gU wr g cap (bs++Pure.pI v size k)/\w.grownBy wr (some g)) (λ_ i _=>(intOf i+1).toNat)
 case atStart=>grind [cC,Pure.tJ]
 case round=>
  obtain⟨k,hk,rfl,rfl,hbr,hgr⟩:=hrel
  by_cases hlt:k<size
  .go_wp2_with (at_builtin;refine rW _ rfl _ _ 37 rfl 5 i0 underlying37 hi hz1 g _ cap (bs++Pure.pI v size k) [Pure.dW v (size-1-k)] rfl (hbr.alloc _) ?c1 ⟨wr.1.size,0,none⟩ 1 1 rfl rfl ?c2 ?c3 ?_)
   case c1=>simp[Pure.jW]
   case c2=>exact xY _ _ _ _
   case c3=>simp[Pure.jW];omega
   .intro w1 hb1 hg1
    have R:gU w1 g cap (bs++Pure.pI v size (k+1))/\w.grownBy w1 (some g):=⟨by rw[Pure.mU];omega,aa (aM hgr _) hg1⟩
    clear hb1 hg1 hbr hgr hb
    go_wp2
    go_roundw
    case rel=>grind
    case measure=>simp[intOf];omega
  .have hks:k=size:=G
   subst hks
   go_wp2
   go_ret
   exact⟨rfl,hbr,hgr⟩):p:=h
theorem uz(g cap)(bs)(v)(size n)(w)(hb:gU w g cap bs)(b:n=bs.length)(h:size<=8)(f:bs.length+size<=cap):Calls prog 124 #[ς g 0 n cap,H (v.toNat:Int),Y size] w λe a=>e=.returned (ς g 0 (n+size) cap)/\gU a g cap (bs++Pure.be v size)/\w.grownBy a (some g):=by
 subst b
 obtain⟨i0,hi,a,hz1,d⟩:=info_parts Tryz.info5
 go_in
 exact Lp
theorem xI(g cap)(bs)(v)(size n)(w)(hb:gU w g cap bs)(b:n=bs.length)(h:size<=8)(f:bs.length+size<=cap)(x)(d:x=v.toNat)(j:v.toNat<9223372036854775808):Calls prog 150 #[ς g 0 n cap,Y x,Y size] w λe a=>e=.returned (ς g 0 (n+size) cap)/\gU a g cap (bs++Pure.be v size)/\w.grownBy a (some g):=by
 subst b d
 obtain⟨i0,hi,a,hz1,e⟩:=info_parts Tryz.info5
 go_in
 exact Lp
theorem tz(h:p:=by simp[Program.elem,ht]):p:=h
theorem tn(h:p:=by rw[he];exact ht):p:=h
variable {zs:E}
def sl(ao:Option Addr)(cap l:Nat):Option Addr:=if cap=l then ao else ao.map (·.add l)
theorem At.part{w:World}{e:Option Addr}(h:At w e zs)(a l)(i:zs.length<=a):At w (sl e a l) (zs.drop l):=by
 intro j f;rw[dr]at f;obtain⟨b,g,rfl,d⟩:=h (l+j) G;grind [Addr.add_lit,sl]
theorem At.sub{w:World}{b:Option Addr}(h:At w b zs)(a l k)(d:zs.length<=a):At w (sl b a l) ((zs.drop l).take k):=(h.part a l d).take k
theorem IT(h:p:=by
 have he:P.elem t=e:=tz
 have ht':P.underlying t=some (.slice (P.elem t)):=tn
 rw[run_sliceAt_slice w t _ _ _ _ ht',run_slice_l w t _ n cap ht' .i64 (l:Int) G G,he]
 simp[sizeOf,typeInfo,hi,hs,sliced,sl]):p:=h
theorem xJ(t e)(i)(ht:P.underlying t=some (.slice e))(hi:P.info? e=some i)(hs:i.size=1)(a)(n cap l:Nat)(b:l<=n)(w):(Instr.sliceAt t (.slice a n cap) (some (Y (l:Int))) none none).run P w=.ok (.slice (sl a cap l) (n-l) (cap-l)) w:=by
 exact IT
theorem Ly(t e)(i)(ht:P.underlying t=some (.slice e))(f:P.info? e=some i)(g:i.size=1)(d)(n a h:Nat)(k:h<=a)(w):(Instr.sliceAt t (.slice d n a) none (some (Y (h:Int))) none).run P w=.ok (.slice d h a) w:=by
 have he:P.elem t=e:=tz;have b:P.underlying t=some (.slice (P.elem t)):=tn;rw[run_sliceAt_slice w t _ _ _ _ b,run_slice_h w t _ n a b .i64 (h:Int) G G,he];cases d with
 |none=>simp[sizeOf,typeInfo,f,g,sliced]
 |some j=>simp[sizeOf,typeInfo,f,g,sliced,Addr.add]
theorem kZ(t e)(i)(ht:P.underlying t=some (.slice e))(hi:P.info? e=some i)(hs:i.size=1)(a)(n cap)(h:Hid (zs.length=n))(f:n<=cap)(l:Nat)(x)(d:x=(l:Int))(g:l<=n):∃b,(∀w,(Instr.sliceAt t (.slice a n cap) (some (Y x)) none none).run P w=.ok (.slice b (n-l) (cap-l)) w)/\∀w,At w a zs->At w b (zs.drop l):=by
 subst d;refine⟨sl a cap l,λw=>?_,(by grind [At.part,Hid.o])⟩;exact IT
theorem yV(t e)(i)(ht:P.underlying t=some (.slice e))(g:P.info? e=some i)(j:i.size=1)(d)(n a)(l:Hid (zs.length=n))(f:n<=a)(h:Nat)(x)(k:x=(h:Int))(m:h<=n):∃b,(∀w,(Instr.sliceAt t (.slice d n a) none (some (Y x)) none).run P w=.ok (.slice b h a) w)/\∀w,At w d zs->At w b (zs.take h):=by
 subst k;refine⟨sl d a 0,λw=>?_,λw b=>by simpa using b.sub a 0 h (by rw[l.o];exact f)⟩;have he:P.elem t=e:=tz;have b:P.underlying t=some (.slice (P.elem t)):=tn;rw[run_sliceAt_slice w t _ _ _ _ b,run_slice_h w t _ n a b .i64 (h:Int) G G,he];simp[sizeOf,typeInfo,g,j,sliced,sl]
theorem Kd(h:p:=by
 have he:P.elem t=e:=tz
 have ht':P.underlying t=some (.slice (P.elem t)):=tn
 rw[run_sliceAt_slice w t _ _ _ _ ht',run_slice_lh w t _ n cap ht' .i64 .i64 (l:Int) (h:Int) G G G,he]
 simp[sizeOf,typeInfo,hi,hs,sliced,sl]):p:=h
theorem Dj(t e)(i)(ht:P.underlying t=some (.slice e))(hi:P.info? e=some i)(hs:i.size=1)(a)(n cap)(m:Hid (zs.length=n))(g:n<=cap)(l h:Nat)(x y)(d:x=(l:Int))(f:y=(h:Int))(k:l<=h)(j:h<=n):∃b,(∀w,(Instr.sliceAt t (.slice a n cap) (some (Y x)) (some (Y y)) none).run P w=.ok (.slice b (h-l) (cap-l)) w)/\∀w,At w a zs->At w b ((zs.drop l).take (h-l)):=by
 subst d f;refine⟨sl a cap l,λw=>?_,(by grind [At.sub,Hid.o])⟩;exact Kd
