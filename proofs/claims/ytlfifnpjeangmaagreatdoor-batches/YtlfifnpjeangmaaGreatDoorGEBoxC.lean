import Derived.Test.YtlfifnpjeangmaaGreatDoorGEBoxA
import Derived.Test.YtlfifnpjeangmaaGreatDoorGEShelf
namespace Go.Proofs.YtlfifnpjeangmaaGreatDoor
set_option maxHeartbeats 1000000
open Proofs.Tryz Go.RowKit
set_option maxRecDepth 100000
variable {p:Prop}
theorem tw(h:p:=by grind [Hid.o]):p:=h
theorem xv(h:p:=by rw[Box.num,cZ (by rw[hn];omega)]):p:=h
theorem Du(v)(d:-9223372036854775808<=v)(a:v<=9223372036854775807):∃m:Nat,IntKind.u64.wrap (bits .xor .i64 v (v / 9223372036854775808))=(m:Int)/\(m:Int)=if v<0 then -v-1 else v:=by
 by_cases h:v<0
 .refine⟨(-v-1).toNat,?_,by rw[dT h];omega⟩;have e:v / 9223372036854775808=-1:=G;have b:bits .xor .i64 v (-1)=-v-1:=by
   show IntKind.i64.wrap ((BitVec.ofInt 64 v ^^^ BitVec.ofInt 64 (-1)).toNat:Int)=_;have a:BitVec.ofInt 64 (-1)=BitVec.allOnes 64:=O;rw[a,BitVec.xor_allOnes,BitVec.toNat_not,BitVec.toNat_ofInt,IntKind.wrap_i64];omega
  grind [IntKind.wrap_u64]
 .refine⟨v.toNat,?_,by rw[cZ h];omega⟩;have e:v / 9223372036854775808=0:=G;have b:bits .xor .i64 v 0=v:=by
   show IntKind.i64.wrap ((BitVec.ofInt 64 v ^^^ BitVec.ofInt 64 0).toNat:Int)=_;have a:BitVec.ofInt 64 0=0#64:=O;rw[a,BitVec.xor_zero,BitVec.toNat_ofInt,IntKind.wrap_i64];omega
  grind [IntKind.wrap_u64]
theorem Bm(h:p:=by
 go_wp2_with fail
 rw[HM]
 refine(Go.Proofs.Tryz.bits_Len64 (m:Int) _ G G).mono ?_
 rintro e w' ⟨rfl,rfl⟩
 rw[Int.toNat_natCast]
 generalize Lib.bitLen m=bl at *
 go_wp2
 go_ret
 refine⟨bD ?_,rfl⟩
 rw[<-HS]
 omega):p:=h
theorem vH(v)(w)(d:-9223372036854775808<=v)(f:v<=9223372036854775807):Calls prog 192 #[Y v] w λe w'=>e=.returned (Y (Box.size v:Int))/\w=w':=by
 obtain⟨m,g,a⟩:=Du v d f
 have HS:=I (Box.Am v d f m a)
 have b:m<18446744073709551616:=by split at a<;>omega
 have h:=(Box.bitLen_le (k:=64) b).2 b
 have HM:=I g
 clear g a
 go_in
 exact Bm
theorem XC(l)(k:Nat)(v)(h:(k:Int) % 18446744073709551616=v % 18446744073709551616):
  ((l.foldl (λn b=>n*256+b.toNat) k:Nat):Int) % 18446744073709551616=Box.ja v l % 18446744073709551616:=by
 induction l generalizing k v with
 |nil=>exact h
 |cons b l a=>exact a (k*256+b.toNat) (v*256+(b.toNat:Int)) G
theorem XD(l)(a:1<=l.length)(b:l.length<=8)(h)(e:IntKind.u64.wrap (Box.sign (l.getD 0 0))=(h.toNat:Int)):
  IntKind.i64.wrap ((Pure.joinL h (l.drop 1)).toNat:Int)=Box.val l:=by
 rw[Pure.pJ]
 have d:=Box.uA a b
 grind [XC,IntKind.wrap_u64,IntKind.wrap_i64,Box.val]
theorem TX(x)(h)(b)(n)(d)(a)(w)(nq)(l:Hid (IntKind.u64.wrap x=h.toNat))(r)(k:Hid (IntKind.i64.wrap ((Pure.joinL h b).toNat:Int)=r))(j:Hid (b.length=n))(i:n<=140737488355328)(g:At w d b):Calls prog 191 #[Y x,.slice d n a] (w.drewN nq) λe f=>e=.returned (Y r)/\∃m,f=w.drewN m:=
 (TP x h b n d a _ l r k j i (g.drewN nq)).mono fA
theorem Lx(b):IntKind.i8.wrap (b.toNat:Int)=Box.sign b:=by
 have:=b.toNat_lt;unfold Box.sign;simp[IntKind.wrap,IntKind.bits,IntKind.signed];split<;>omega
theorem Hk(h:p:=by
 clear jL hc
 go_in
 go_wp2
 go_ret2
 exact⟨tw,λ_=>rfl,⟨0,rfl⟩⟩):p:=h
theorem Dv(a)(n)(A)(d)(w)(hn:Hid (a.length=n))(hl:n<=140737488355328)(f:n<=d)(hc:At w A a):Calls prog 154 #[.slice A n d] w λe y=>
   (∀v,Box.num a=some v->e=.returned (.tuple #[Y v,.bool true]))/\
   (Box.num a=none->e=.returned (.tuple #[Y 0,.bool false]))/\∃m,y=w.drewN m:=by
 by_cases h1:1<=n
 .by_cases M:n<=8
  .have B:0<a.length:=sf;have k:=Box.uA (l:=a) G (by rw[hn];exact M);obtain⟨b,x,rfl,m⟩:=hc 0 B;have X:Hid (a.getD 0 0=a[0]):=(by show _=_;grind);rw[ft]at m;generalize i:a[0]=z0 at *;clear i;obtain⟨V,P,i,t,U⟩:=info_parts Tryz.info5;have Q:0<n:=h1;have R:(0:Int)<(n:Int):=G;have g:¬ ((n:Int)<1):=G;have D:¬ ((8:Int)<(n:Int)):=G;obtain⟨L,T,u⟩:=kZ 37 5 V underlying37 P t (some ⟨b,x,none⟩) n d hn f 1 1 rfl h1;replace u:=u _ hc;have C:Hid ((a.drop 1).length=n-1):=(by show _=_;rw[dr,hn]);have r:=Box.sj z0;have K:Hid (IntKind.u64.wrap (Box.sign z0)=(((UInt64.ofNat (IntKind.u64.wrap (Box.sign z0)).toNat).toNat:Nat):Int)):=by
    show _=_;grind [Pure.mV,IntKind.wrap_u64]
   have J:Hid (IntKind.i64.wrap ((Pure.joinL (UInt64.ofNat (IntKind.u64.wrap (Box.sign z0)).toNat) (a.drop 1)).toNat:Int)=Box.val a):=
    (by grind [Hid.o,XD])
   have p:n-1<=140737488355328:=G;clear hc B;generalize h:UInt64.ofNat (IntKind.u64.wrap (Box.sign z0)).toNat=hd at *;clear h;have W:Hid (IntKind.u64.wrap (IntKind.i64.wrap (IntKind.i8.wrap (z0.toNat:Int)))=(hd.toNat:Int)):=by
    grind [Lx,BC]
   clear K r;go_in;go_wp2_with fail;go_quiet (first|(go_at_call 191;exact TX (IntKind.i64.wrap (IntKind.i8.wrap (z0.toNat:Int))) hd (a.drop 1) (n-1) L (d-1) w _ W _ J C p u))
   by_cases q:Box.size (Box.val a)=n
   .have jL:Box.num a=some (Box.val a):=(by rw[Box.num,dT tw]);have j:=I jL;have S:((Box.size (Box.val a):Int) != (n:Int))=false:=(by rw[q];simp);clear jL q;go_wp2_with (go_at_call 192;refine(vH _ _ k.1 k.2).mono ?_;rintro e y ⟨rfl,rfl⟩)
    go_ret2;exact⟨λv h=>by rw[j]at h;simp only[fp]at h;rw[<-h];rfl,tw,⟨_,rfl⟩⟩
   .have jL:Box.num a=none:=(by rw[Box.num,cZ tw]);have j:=I jL;have S:((Box.size (Box.val a):Int) != (n:Int))=true:=(by rw[fj];omega);clear jL q;go_wp2_with (go_at_call 192;refine(vH _ _ k.1 k.2).mono ?_;rintro e y ⟨rfl,rfl⟩)
    go_ret2;exact⟨tw,λ_=>rfl,⟨_,rfl⟩⟩
  .have jL:Box.num a=none:=xv;have j:=I jL;have g:¬ ((n:Int)<1):=G;have D:((8:Int)<(n:Int)):=G;exact Hk
 .have jL:Box.num a=none:=xv;have j:=I jL;have g:((n:Int)<1):=G;exact Hk
variable {zs:E}{B:Nat}{ao:Option Addr}{w:World}
def pT(B:Nat)(w:World)(ao:Option Addr)(zs:E):Prop:=∀w',Below B w w'->At w' ao zs
theorem pT.here(h:pT B w ao zs):At w ao zs:=h w (Below.refl _ _)
theorem pT.on{a:World}(h:pT B w ao zs)(d:Below B w a):pT B a ao zs:=λe b=>h e (d.trans b)
theorem pT.part{a:Option Addr}{e:E}(h:pT B w ao zs)(g:∀d,At d ao zs->At d a e):pT B w a e:=λb f=>g b (h b f)
theorem At.low(h:At w ao zs):pT w.1.size w ao zs:=by
 intro i f j g;obtain⟨b,a,e,d⟩:=h j g;exact⟨b,a,e,(f.cell (p:=⟨b,a+j,.none⟩) (World.block_lt_of_cell? w _ d)).trans d⟩
theorem Dw{l:E}{v:Int}(h:Box.num l=some v):-9223372036854775808<=v/\v<=9223372036854775807:=by
 unfold Box.num at h;split at h
 .rename_i hc;simp only[fp]at h;rw[<-h];exact Box.uA hc.1 hc.2.1
 .simp at h
abbrev Cj(w:World):Prop:=Lib.TabIs Tryz.prog w zi .u64 Lib.pow10Tab
