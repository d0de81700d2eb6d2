import Derived.Test.YtlfifnpjeangmaaGreatDoorGEBoxA
import Derived.Test.YtlfifnpjeangmaaGreatDoorGEShelf
namespace Go.Proofs.YtlfifnpjeangmaaGreatDoor
set_option maxHeartbeats 1000000
open Proofs.Tryz Go.RowKit
set_option maxRecDepth 100000
variable {p:Prop}
theorem ag0(h:p:=by grind [RowKit.Hid.o]):p:=h
theorem aiu(h:p:=by rw[Box.num,if_neg (by rw[hn.o];omega)]):p:=h
theorem Dr(v)(c:-9223372036854775808<=v)(a:v<=9223372036854775807):∃m:Nat,IntKind.u64.wrap (bits .xor .i64 v (v / 9223372036854775808))=(m:Int)/\(m:Int)=if v<0 then -v-1 else v:=by
 by_cases h:v<0
 ·refine⟨(-v-1).toNat,?_,by rw[if_pos h];omega⟩;have e:v / 9223372036854775808=-1:=agE;have b:bits .xor .i64 v (-1)=-v-1:=by
   show IntKind.i64.wrap ((BitVec.ofInt 64 v ^^^ BitVec.ofInt 64 (-1)).toNat:Int)=_;have a:BitVec.ofInt 64 (-1)=BitVec.allOnes 64:=agF;rw[a,BitVec.xor_allOnes,BitVec.toNat_not,BitVec.toNat_ofInt,IntKind.wrap_i64];omega
  grind [IntKind.wrap_u64]
 ·refine⟨v.toNat,?_,by rw[if_neg h];omega⟩;have e:v / 9223372036854775808=0:=agE;have b:bits .xor .i64 v 0=v:=by
   show IntKind.i64.wrap ((BitVec.ofInt 64 v ^^^ BitVec.ofInt 64 0).toNat:Int)=_;have a:BitVec.ofInt 64 0=0#64:=agF;rw[a,BitVec.xor_zero,BitVec.toNat_ofInt,IntKind.wrap_i64];omega
  grind [IntKind.wrap_u64]
theorem aaR(h:p:=by
 go_wp2_with fail
 rw[HM.o]
 refine(Go.Proofs.Tryz.bits_Len64 (m:Int) _ agE agE).mono ?_
 rintro e w' ⟨rfl,rfl⟩
 rw[Int.toNat_natCast]
 generalize Lib.bitLen m=bl at *
 go_wp2
 go_ret
 refine⟨bD ?_,rfl⟩
 rw[<-HS.o]
 omega):p:=h
theorem vD(v)(w)(f:-9223372036854775808<=v)(c:v<=9223372036854775807):
  Calls prog 192 #[ι v] w λe w'=>e=.returned (ι (Box.size v:Int))/\w=w':=by
 obtain⟨m,d,a⟩:=Dr v f c
 have HS:=hid (Box.Ai v f c m a)
 have b:m<18446744073709551616:=by split at a<;>omega
 have g:=(Box.bitLen_le (k:=64) b).2 b
 have HM:=hid d
 clear d a
 go_enter func192,ntmps192
 exact aaR
theorem Xh(l)(k:Nat)(v)(h:(k:Int) % 18446744073709551616=v % 18446744073709551616):
  ((l.foldl (λn b=>n*256+b.toNat) k:Nat):Int) % 18446744073709551616=Box.ja v l % 18446744073709551616:=by
 induction l generalizing k v with
 |nil=>exact h
 |cons b l a=>exact a (k*256+b.toNat) (v*256+(b.toNat:Int)) agE
theorem Xi(l)(b:1<=l.length)(a:l.length<=8)(h)(d:IntKind.u64.wrap (Box.sign (l.getD 0 0))=(h.toNat:Int)):
  IntKind.i64.wrap ((Pure.joinL h (l.drop 1)).toNat:Int)=Box.val l:=by
 rw[Pure.pG]
 have c:=Box.uu b a
 grind [Xh,IntKind.wrap_u64,IntKind.wrap_i64,Box.val]
theorem abv(x)(h)(zs)(n)(a)(cap)(w)(nq)(d:Hid (IntKind.u64.wrap x=h.toNat))(r)(f:Hid (IntKind.i64.wrap ((Pure.joinL h zs).toNat:Int)=r))(hn:Hid (zs.length=n))(c:n<=140737488355328)(g:At w a zs):
  Calls prog 191 #[ι x,.slice a n cap] (w.drewN nq) λe b=>e=.returned (ι r)/\∃m,b=w.drewN m:=
 (TA x h zs n a cap _ d r f hn c (g.drewN nq)).mono agM
theorem Lm(b):IntKind.i8.wrap (b.toNat:Int)=Box.sign b:=by
 have:=b.toNat_lt;unfold Box.sign;simp[IntKind.wrap,IntKind.bits,IntKind.signed];split<;>omega
theorem aez(h:p:=by
 clear jK hc
 go_enter func154,ntmps154
 go_wp2
 go_ret2
 exact⟨ag0,λ_=>rfl,⟨0,rfl⟩⟩):p:=h
theorem Dt(zs)(n)(t)(cap)(w)(hn:Hid (zs.length=n))(M:n<=140737488355328)(d:n<=cap)(hc:At w t zs):
  Calls prog 154 #[.slice t n cap] w λe w'=>
   (∀v,Box.num zs=some v->e=.returned (.tuple #[ι v,.bool true]))/\
   (Box.num zs=none->e=.returned (.tuple #[ι 0,.bool false]))/\∃m,w'=w.drewN m:=by
 by_cases h1:1<=n
 ·by_cases y:n<=8
  ·have s:0<zs.length:=ah2;have g:=Box.uu (l:=zs) agE (by rw[hn.o];exact y);obtain⟨b,off,rfl,k⟩:=hc 0 s;have L:Hid (zs.getD 0 0=zs[0]):=(by show _=_;grind);rw[ft]at k;generalize c:zs[0]=z0 at *;clear c;obtain⟨J,E,c,r,C⟩:=info_parts Tryz.info5;have x:0<n:=h1;have B:(0:Int)<(n:Int):=agE;have a:¬ ((n:Int)<1):=agE;have K:¬ ((8:Int)<(n:Int)):=agE;obtain⟨u,A,p⟩:=kY 37 5 J underlying37 E r (some ⟨b,off,none⟩) n cap hn d 1 1 rfl h1;replace p:=p _ hc;have I:Hid ((zs.drop 1).length=n-1):=(by show _=_;rw[dr,hn.o]);have j:=Box.rZ z0;have D:Hid (IntKind.u64.wrap (Box.sign z0)=(((UInt64.ofNat (IntKind.u64.wrap (Box.sign z0)).toNat).toNat:Nat):Int)):=by
    show _=_;grind [Pure.mR,IntKind.wrap_u64]
   have F:Hid (IntKind.i64.wrap ((Pure.joinL (UInt64.ofNat (IntKind.u64.wrap (Box.sign z0)).toNat) (zs.drop 1)).toNat:Int)=Box.val zs):=
    (by grind [RowKit.Hid.o,Xi])
   have i:n-1<=140737488355328:=agE;clear hc s;generalize z:UInt64.ofNat (IntKind.u64.wrap (Box.sign z0)).toNat=hd at *;clear z;have G:Hid (IntKind.u64.wrap (IntKind.i64.wrap (IntKind.i8.wrap (z0.toNat:Int)))=(hd.toNat:Int)):=by
    grind [Lm,wrap_small]
   clear D j;go_enter func154,ntmps154;go_wp2_with fail;go_quiet (first|(go_at_call 191;exact abv (IntKind.i64.wrap (IntKind.i8.wrap (z0.toNat:Int))) hd (zs.drop 1) (n-1) u (cap-1) w _ G _ F I i p))
   by_cases q:Box.size (Box.val zs)=n
   ·have jK:Box.num zs=some (Box.val zs):=(by rw[Box.num,if_pos ag0]);have f:=hid jK;have H:((Box.size (Box.val zs):Int) != (n:Int))=false:=(by rw[q];simp);clear jK q;go_wp2_with (go_at_call 192;refine(vD _ _ g.1 g.2).mono ?_;rintro e w' ⟨rfl,rfl⟩)
    go_ret2;exact⟨λv h=>by rw[f.o]at h;simp only[fp]at h;rw[<-h];rfl,ag0,⟨_,rfl⟩⟩
   ·have jK:Box.num zs=none:=(by rw[Box.num,if_neg ag0]);have f:=hid jK;have H:((Box.size (Box.val zs):Int) != (n:Int))=true:=(by rw[fj];omega);clear jK q;go_wp2_with (go_at_call 192;refine(vD _ _ g.1 g.2).mono ?_;rintro e w' ⟨rfl,rfl⟩)
    go_ret2;exact⟨ag0,λ_=>rfl,⟨_,rfl⟩⟩
  ·have jK:Box.num zs=none:=aiu;have f:=hid jK;have a:¬ ((n:Int)<1):=agE;have K:((8:Int)<(n:Int)):=agE;exact aez
 ·have jK:Box.num zs=none:=aiu;have f:=hid jK;have a:((n:Int)<1):=agE;exact aez
def Low(B:Nat)(w:World)(ao:Option Addr)(zs:List UInt8):Prop:=∀w',Below B w w'->At w' ao zs
theorem Low.on{B:Nat}{w a:World}{b:Option Addr}{zs:List UInt8}(h:Low B w b zs)(d:Below B w a):Low B a b zs:=λw' c=>h w' (d.trans c)
theorem Du{l:List UInt8}{v:Int}(h:Box.num l=some v):-9223372036854775808<=v/\v<=9223372036854775807:=by
 unfold Box.num at h;split at h
 ·rename_i hc;simp only[fp]at h;rw[<-h];exact Box.uu hc.1 hc.2.1
 ·simp at h
abbrev Cf(w:World):Prop:=Lib.TabIs Tryz.prog w zg .u64 Lib.pow10Tab
end Go.Proofs.YtlfifnpjeangmaaGreatDoor
