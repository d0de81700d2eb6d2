import Derived.Test.YtlfifnpjeangmaaGreatDoorProg
import Derived.Test.YtlfifnpjeangmaaGreatDoorGELaws
import Derived.Deep.RegionLaw
import Derived.Deep.DeepCutAuto
namespace Go.Proofs.YtlfifnpjeangmaaGreatDoor
open Go.RowKit
set_option maxRecDepth 100000
variable {P:Program}{p:Prop}
theorem Tryz.info5:(Tryz.prog.info? 5).map (λi=>(i.zero,i.size,i.bytes))=some (some (.int .u8 0),1,1):=by kernel_rfl
theorem fq(w:World)(e)(cs)(a)(h:cs.toList=a.map U8):At (w.alloc (.cells cs e)) (some ⟨w.heap.size,0,none⟩) a:=by
 intro j b;refine⟨w.heap.size,0,rfl,?_⟩;have c:cs[j]?=some (U8 a[j]):=by
  rw[<-Array.getElem?_toList,h];simp[b]
 rw[cN,World.cell?_alloc_at (hn:=rfl)];exact c
theorem aeT(h:p:=by
 unfold Oper.wp
 simp[execOp,hop,resolve,invoke,builtin,hs,hx,hrun,Result.andThen]
 exact hK v' w' r1 r2 r3):p:=h
theorem Db{f:Array Oper}{o:Oper}{a:Act}{w:World}{K:Act->World->Prop}{Q:Exit->Act->World->Prop}{E:Prop}(z:o.guard=none)(s x)(t)(hop:o.op=Op.call {callee:=Callee.builtin Builtin.append,args:=#[s,x],argTypes:=#[t,t]})(base)(e)(i)(l:P.underlying t=some (.slice e))(u:P.info? e=some i)(y:i.zero=some (.int .u8 0))(A:i.size=1)(r:i.bytes=1)(v)(n)(j)(hs:a.eval s=v)(d:w.ownsRow base e 1 v n (j.map U8))(g)(m c)(h)(hx:a.eval x=.slice g m c)(q:h.length=m)(k:g=none->c=0)(hy:At w g h)(p:n+m<=140737488355328)(b:base<=w.heap.size)(hK:∀v' w',w'.ownsRow base e 1 v' (n+m) ((j++h).map U8)->w.grownBy w' v.ownBlock->Hid (v'.ownBlock=v.ownBlock\/v'.ownBlock=some w.heap.size)->K (a.put o.dst v') w'):
  if Region.wanted o (yielded f a.tmps)=true then Oper.wp P o a w K Q else E:=by
 have hw:Region.wanted o (yielded f a.tmps)=true:=by simp[Region.wanted,z]
 rw[if_pos hw]
 obtain⟨v',w',hrun,r1,r2,r3⟩:=xD (P:=P) w base t o.type e i l u y A r v n j d g m c h q k hy p b
 exact aeT
theorem bA{w:World}{base:Nat}{e:TypeId}{size:Nat}{v:Value}{n:Nat}{a:List Value}(h:w.ownsRow base e size v n a):∃d c,v=.slice d n c:=by
 rcases h.2 with⟨rfl,rfl⟩|⟨g,cap,b,rfl,_⟩
 ·exact⟨none,0,rfl⟩
 ·exact⟨_,cap,rfl⟩
theorem qU(w)(base)(t B e)(i)(z)(size bytes)(C:P.underlying t=some (.slice e))(D:P.info? e=some i)(H:i.zero=some z)(h:i.size=size)(s:i.bytes=bytes)(I:z.cells.size=size)(G:0<size)(v)(n)(E)(f:w.ownsRow base e size v n E)(p)(m c)(a)(x:a.length=m*size)(d:∀j u,a[j]?=some u->w.cell? (p.add j)=some u)(L:∀u∈a,u.oneCell'=true)(M:0<m)(A:n+m<=maxLen)(b:(n+m)*bytes<=140737488355328)(l:base<=w.heap.size):
  ∃q w',(Builtin.append_ #[t,t] B #[v,.slice (some p) m c]).run P w=.ok q w'/\w'.ownsRow base e size q (n+m) (E++a)/\w.grownBy w' v.ownBlock/\(q.ownBlock=v.ownBlock\/q.ownBlock=some w.heap.size):=by
 obtain⟨q,w',hrun,N,S,_⟩:=run_append_own (P:=P) w base t B e i z size bytes C D H h s I G v n E f p m c a x d L A b l
 refine⟨q,w',hrun,N,S,?_⟩
 subst h
 subst s
 have R:n+m<=9223372036854775807:=by simp only[maxLen]at A;omega
 rcases f.2 with⟨rfl,rfl⟩|⟨g,cap,r,rfl,T,U,K,Q,F,J⟩
 ·have O:m*i.bytes<=140737488355328:=by simpa using b
  have hr:=run_append_nil (P:=P) w t B e i z C D H p m c a x d M agE agE;exact adP
 ·by_cases k:n+m<=cap
  ·have y:n*i.size+a.length<=r.size:=(by rw[x,F,<-Nat.add_mul];exact Nat.mul_le_mul_right _ k);have hr:=run_append_room (P:=P) w t B e i C D g n cap r U p m c a x d L k y;rw[hr]at hrun;injection hrun with ha _;subst ha;exact .inl rfl
  ·have o:=f.cells (g:=g) rfl;have hr:=run_append_grow (P:=P) w t B e i z C D H ⟨g,0,none⟩ n cap E f.1 o p m c a x d agE agE (growslice_fits agE b);exact adP
theorem dJ(w){l:Array Oper}{f:List Oper}{o:Oper}{a:Act}{Q:Exit->Act->World->Prop}(J:o.guard=none)(s x)(t)(hop:o.op=Op.call {callee:=Callee.builtin Builtin.append,args:=#[s,x],argTypes:=#[t,t]})(base)(e)(i)(z)(size bytes)(G:P.underlying t=some (.slice e))(H:P.info? e=some i)(F:i.zero=some z)(h:i.size=size)(r:i.bytes=bytes)(A:z.cells.size=size)(y:0<size)(v)(n)(C)(hs:a.eval s=v)(p:w.ownsRow base e size v n C)(q)(m c)(b)(hx:a.eval x=.slice (some q) m c)(E:b.length=m*size)(g:∀j u,b[j]?=some u->w.cell? (q.add j)=some u)(I:∀u∈b,u.oneCell'=true)(D:0<m)(B:n+m<=maxLen)(d:(n+m)*bytes<=140737488355328)(k:base<=w.heap.size)(hK:∀v' w',w'.ownsRow base e size v' (n+m) (C++b)->w.grownBy w' v.ownBlock->Hid (v'.ownBlock=v.ownBlock\/v'.ownBlock=some w.heap.size)->wpList P l Q f (a.put o.dst v') w'):
  wpList P l Q (o::f) a w:=by
 refine wpList_plain J λK hK'=>?_
 obtain⟨v',w',hrun,r1,r2,r3⟩:=qU (P:=P) w base t o.type e i z size bytes G H F h r A y v n C p q m c b E g I D B d k
 exact aev
theorem gJ(w:World)(e)(cs:List Value):∀j u,cs[j]?=some u->(w.alloc (.cells cs.toArray e)).cell? ((⟨w.heap.size,0,none⟩:Addr).add j)=some u:=by
 grind [Addr.add_lit,World.cell?_alloc_at]
set_option maxHeartbeats 400000
open Proofs.Tryz
theorem adI(h:p:=by
 clear hc
 go_wp2
 go_ret
 exact⟨Ce (by rw[cU agE]),rfl⟩):p:=h
theorem uo(h)(zs)(c)(cap)(w)(g:zs.length<=140737488355328)(hc:At w c zs):
  Calls prog 79 #[υ h.toNat,.slice c zs.length cap] w λe w'=>e=.returned (υ ((Pure.iG h zs).toNat:Int))/\w=w':=by
 go_enter func79,ntmps79
 go_wp2
 go_loop [0,6,9] (λf _ i=>∃k:Nat,k<=zs.length/\i = ι k/\f = υ ((Pure.iG h (zs.take k)).toNat:Int)) (λ_ _ i=>zs.length-(intOf i).toNat)
 case atStart=>exact⟨0,cS _,rfl,rfl⟩
 case round=>
  obtain⟨k,j,rfl,rfl⟩:=hrel;by_cases a:k<zs.length
  ·obtain⟨b,off,rfl,d⟩:=hc k a;clear hc;go_wp2;go_round
   case rel=>exact⟨k+1,by omega,by go_num,(by grind [lL,KS,Pure.CW])⟩
   case measure=>simp[intOf];omega
  ·exact adI
theorem KT(h)(zs)(c)(cap)(w)(g:zs.length<=140737488355328)(hc:At w c zs):
  Calls prog 125 #[υ h.toNat,.slice c zs.length cap] w λe w'=>e=.returned (υ ((Pure.joinL h zs).toNat:Int))/\w=w':=by
 go_enter func125,ntmps125
 go_wp2
 go_loop [5,7,11] (λf _ i=>∃k:Nat,k<=zs.length/\i = ι k/\f = υ ((Pure.joinL h (zs.take k)).toNat:Int)) (λ_ _ i=>zs.length-(intOf i).toNat)
 case atStart=>exact⟨0,cS _,rfl,rfl⟩
 case round=>
  obtain⟨k,j,rfl,rfl⟩:=hrel;by_cases a:k<zs.length
  ·obtain⟨b,off,rfl,d⟩:=hc k a;clear hc;go_wp2;go_round
   case rel=>exact⟨k+1,by omega,by go_num,(by grind [CZ,lL,Pure.um])⟩
   case measure=>simp[intOf];omega
  ·exact adI
def Wy(c:Int):Bool:=decide (1<=c/\c<=5)
theorem aaE(h:p:=by
 go_wp2
 go_ret
 exact⟨rfl,rfl⟩):p:=h
theorem wL(c)(w):
  Calls prog 80 #[ι c] w λe w'=>e=.returned (.bool (Wy c))/\w=w':=by
 by_cases h:1<=c
 ·by_cases a:c<=5
  ·go_enter func80,ntmps80;go_wp2;go_ret;exact⟨by simp[Wy,h,a],rfl⟩
  ·have b:Wy c=false:=(by simp[Wy];omega);go_enter func80,ntmps80;exact aaE
 ·have b:Wy c=false:=by simp[Wy];omega
  go_enter func80,ntmps80;exact aaE
theorem Wz(zs)(a)(cap)(w)(c:zs.length<=140737488355328)(b:At w a zs):
  Calls prog 43 #[.slice a zs.length cap] w λe w'=>e=.returned (υ ((Pure.iG 0 zs).toNat:Int))/\w=w':=by
 go_enter func43,ntmps43
 go_wp2_with (go_at_call 79;refine(uo 0 zs a cap _ c b).mono ?_;rintro e w' ⟨rfl,rfl⟩)
 go_ret
 exact⟨rfl,rfl⟩
theorem aaC(h:p:=by
 go_wp2
 go_loopw [0,8] (λo i wr=>∃k:Nat,k<=size/\i = ι ((size:Int)-1-k)/\o=.slice (some ⟨g,0,none⟩) (bs.length+k) cap/\Buf wr g cap (bs++Pure.pF v size k)/\w.grownBy wr (some g)) (λ_ i _=>(intOf i+1).toNat)
 case atStart=>grind [cC,Pure.tF]
 case round=>
  obtain⟨k,hk,rfl,rfl,hbr,hgr⟩:=hrel
  by_cases hlt:k<size
  ·go_wp2_with (at_builtin;refine rU _ rfl _ _ 37 rfl 5 i0 underlying37 hi hz1 g _ cap (bs++Pure.pF v size k) [Pure.dW v (size-1-k)] rfl (hbr.alloc _) ?c1 ⟨wr.heap.size,0,none⟩ 1 1 rfl rfl ?c2 ?c3 ?_)
   case c1=>simp[Pure.jV]
   case c2=>exact xV _ _ _ _
   case c3=>simp[Pure.jV];omega
   ·intro w1 hb1 hg1
    have R:Buf w1 g cap (bs++Pure.pF v size (k+1))/\w.grownBy w1 (some g):=⟨by rw[Pure.mQ];omega,aa (aM hgr _) hg1⟩
    clear hb1 hg1 hbr hgr hb
    go_wp2
    go_roundw
    case rel=>grind
    case measure=>simp[intOf];omega
  ·have hks:k=size:=agE
   subst hks
   go_wp2
   go_ret
   exact⟨rfl,hbr,hgr⟩):p:=h
theorem uq(g cap:Nat)(bs)(v)(size n)(w)(hb:Buf w g cap bs)(hn:n=bs.length)(c:size<=8)(d:bs.length+size<=cap):
  Calls prog 124 #[.slice (some (g,0)) n cap,υ v.toNat,ι size] w λe w'=>e=.returned (.slice (some (g,0)) (n+size) cap)/\Buf w' g cap (bs++Pure.be v size)/\w.grownBy w' (some g):=by
 subst hn
 obtain⟨i0,hi,b,hz1,a⟩:=info_parts Tryz.info5
 go_enter func124,ntmps124
 exact aaC
theorem xE(g cap:Nat)(bs)(v)(size n)(w)(hb:Buf w g cap bs)(hn:n=bs.length)(f:size<=8)(d:bs.length+size<=cap)(x)(b:x=v.toNat)(h:v.toNat<9223372036854775808):
  Calls prog 150 #[.slice (some (g,0)) n cap,ι x,ι size] w λe w'=>e=.returned (.slice (some (g,0)) (n+size) cap)/\Buf w' g cap (bs++Pure.be v size)/\w.grownBy w' (some g):=by
 subst hn b
 obtain⟨i0,hi,c,hz1,a⟩:=info_parts Tryz.info5
 go_enter func150,ntmps150
 exact aaC
theorem ahm(h:p:=by simp[Program.elem,ht]):p:=h
theorem ahG(h:p:=by rw[he];exact ht):p:=h
variable {zs:List UInt8}
def sl(ao:Option Addr)(cap l:Nat):Option Addr:=if cap=l then ao else ao.map (·.add l)
theorem At.part{w:World}{c:Option Addr}(h:At w c zs)(cap l)(e:zs.length<=cap):At w (sl c cap l) (zs.drop l):=by
 intro j d;rw[dr]at d;obtain⟨b,off,rfl,a⟩:=h (l+j) agE;grind [Addr.add_lit,sl]
theorem At.sub{w:World}{a:Option Addr}(h:At w a zs)(cap l k)(b:zs.length<=cap):At w (sl a cap l) ((zs.drop l).take k):=(h.part cap l b).take k
theorem abI(h:p:=by
 have he:P.elem t=e:=ahm
 have ht':P.underlying t=some (.slice (P.elem t)):=ahG
 rw[run_sliceAt_slice w t _ _ _ _ ht',run_slice_l w t _ n cap ht' .i64 (l:Int) agE agE,he]
 simp[sizeOf,typeInfo,hi,hs,sliced,sl]):p:=h
theorem xG(t e)(i)(ht:P.underlying t=some (.slice e))(hi:P.info? e=some i)(hs:i.size=1)(a)(n cap l)(b:l<=n)(w):(Instr.sliceAt t (.slice a n cap) (some (ι (l:Int))) none none).run P w=.ok (.slice (sl a cap l) (n-l) (cap-l)) w:=by
 exact abI
theorem slice_head(t e)(i)(ht:P.underlying t=some (.slice e))(c:P.info? e=some i)(d:i.size=1)(b)(n cap h)(g:h<=cap)(w):(Instr.sliceAt t (.slice b n cap) none (some (ι (h:Int))) none).run P w=.ok (.slice b h cap) w:=by
 have he:P.elem t=e:=ahm;have a:P.underlying t=some (.slice (P.elem t)):=ahG;rw[run_sliceAt_slice w t _ _ _ _ a,run_slice_h w t _ n cap a .i64 (h:Int) agE agE,he];cases b with
 |none=>simp[sizeOf,typeInfo,c,d,sliced]
 |some f=>simp[sizeOf,typeInfo,c,d,sliced,Addr.add]
theorem kY(t e)(i)(ht:P.underlying t=some (.slice e))(hi:P.info? e=some i)(hs:i.size=1)(a)(n cap)(g:Hid (zs.length=n))(f:n<=cap)(l:Nat)(x)(c:x=(l:Int))(d:l<=n):∃b,(∀w,(Instr.sliceAt t (.slice a n cap) (some (ι x)) none none).run P w=.ok (.slice b (n-l) (cap-l)) w)/\∀w,At w a zs->At w b (zs.drop l):=by
 subst c;refine⟨sl a cap l,λw=>?_,(by grind [At.part,RowKit.Hid.o])⟩;exact abI
theorem yT(t e)(i)(ht:P.underlying t=some (.slice e))(g:P.info? e=some i)(j:i.size=1)(b)(n cap)(l:Hid (zs.length=n))(k:n<=cap)(h:Nat)(x)(f:x=(h:Int))(m:h<=n):∃d,(∀w,(Instr.sliceAt t (.slice b n cap) none (some (ι x)) none).run P w=.ok (.slice d h cap) w)/\∀w,At w b zs->At w d (zs.take h):=by
 subst f;refine⟨sl b cap 0,λw=>?_,λw c=>by simpa using c.sub cap 0 h (by rw[l.o];exact k)⟩;have he:P.elem t=e:=ahm;have a:P.underlying t=some (.slice (P.elem t)):=ahG;rw[run_sliceAt_slice w t _ _ _ _ a,run_slice_h w t _ n cap a .i64 (h:Int) agE agE,he];simp[sizeOf,typeInfo,g,j,sliced,sl]
theorem abB(h:p:=by
 have he:P.elem t=e:=ahm
 have ht':P.underlying t=some (.slice (P.elem t)):=ahG
 rw[run_sliceAt_slice w t _ _ _ _ ht',run_slice_lh w t _ n cap ht' .i64 .i64 (l:Int) (h:Int) agE agE agE,he]
 simp[sizeOf,typeInfo,hi,hs,sliced,sl]):p:=h
theorem Df(t e)(i)(ht:P.underlying t=some (.slice e))(hi:P.info? e=some i)(hs:i.size=1)(a)(n cap)(j:Hid (zs.length=n))(g:n<=cap)(l h:Nat)(x y)(c:x=(l:Int))(hy:y=(h:Int))(d:l<=h)(f:h<=n):∃b,(∀w,(Instr.sliceAt t (.slice a n cap) (some (ι x)) (some (ι y)) none).run P w=.ok (.slice b (h-l) (cap-l)) w)/\∀w,At w a zs->At w b ((zs.drop l).take (h-l)):=by
 subst c hy;refine⟨sl a cap l,λw=>?_,(by grind [At.sub,RowKit.Hid.o])⟩;exact abB
end Go.Proofs.YtlfifnpjeangmaaGreatDoor
