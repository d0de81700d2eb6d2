import Derived.Test.YticfhckmhcaigaaGreatDoorGEBoxA
import Derived.Test.YticfhckmhcaigaaGreatDoorGEShelf
namespace Go.Proofs.YticfhckmhcaigaaGreatDoor
set_option maxHeartbeats 1000000
open Proofs.Tryz Go.RowKit
set_option maxRecDepth 100000
variable {p:Prop}
theorem pS(h:p:=by grind [Hid.o]):p:=h
theorem yW(h:p:=by rw[Box.num,b' (by rw[hn];omega)]):p:=h
theorem EL(v)(d:-9223372036854775808<=v)(a:v<=9223372036854775807):∃m:Nat,IntKind.u64.wrap (bits .xor .i64 v (v / 9223372036854775808))=(m:Int)/\(m:Int)=if v<0 then -v-1 else v:=by
 by_cases h:v<0
 .refine⟨(-v-1).toNat,?_,by rw[dQ h];omega⟩;have e:v / 9223372036854775808=-1:=G;have b:bits .xor .i64 v (-1)=-v-1:=by
   show IntKind.i64.wrap ((BitVec.ofInt 64 v ^^^ BitVec.ofInt 64 (-1)).toNat:Int)=_;have a:BitVec.ofInt 64 (-1)=BitVec.allOnes 64:=H;rw[a,BitVec.xor_allOnes,BitVec.toNat_not,BitVec.toNat_ofInt,IntKind.wrap_i64];omega
  grind [IntKind.wrap_u64]
 .refine⟨v.toNat,?_,by rw[b' h];omega⟩;have e:v / 9223372036854775808=0:=G;have b:bits .xor .i64 v 0=v:=by
   show IntKind.i64.wrap ((BitVec.ofInt 64 v ^^^ BitVec.ofInt 64 0).toNat:Int)=_;have a:BitVec.ofInt 64 0=0#64:=H;rw[a,BitVec.xor_zero,BitVec.toNat_ofInt,IntKind.wrap_i64];omega
  grind [IntKind.wrap_u64]
theorem CL(h:p:=by
 go_wp2_with fail
 rw[HM]
 refine(Go.Proofs.Tryz.bits_Len64 (m:Int) _ G G).mono ?_
 rintro e w' ⟨rfl,rfl⟩
 rw[Int.toNat_natCast]
 generalize Lib.bitLen m=bl at *
 go_wp2
 go_ret
 refine⟨bE ?_,rfl⟩
 rw[<-HS]
 omega):p:=h
theorem wL(v)(w)(d:-9223372036854775808<=v)(f:v<=9223372036854775807):Calls prog 192 #[Y v] w λe w'=>e=.returned (Y (Box.size v:Int))/\w=w':=by
 obtain⟨m,g,a⟩:=EL v d f
 have HS:=I (Box.BB v d f m a)
 have b:m<18446744073709551616:=by split at a<;>omega
 have h:=(Box.bitLen_le (k:=64) b).2 b
 have HM:=I g
 clear g a
 go_in
 exact CL
theorem ZP(l)(k:Nat)(v)(h:(k:Int) % 18446744073709551616=v % 18446744073709551616):
  ((l.foldl (λn b=>n*256+b.toNat) k:Nat):Int) % 18446744073709551616=Box.jm v l % 18446744073709551616:=by
 induction l generalizing k v with
 |nil=>exact h
 |cons b l a=>exact a (k*256+b.toNat) (v*256+(b.toNat:Int)) G
theorem ZQ(l)(a:1<=l.length)(b:l.length<=8)(h)(e:IntKind.u64.wrap (Box.sign (l.getD 0 0))=(h.toNat:Int)):
  IntKind.i64.wrap ((Pure.joinL h (l.drop 1)).toNat:Int)=Box.val l:=by
 rw[Pure.qj]
 have d:=Box.rV a b
 grind [ZP,IntKind.wrap_u64,IntKind.wrap_i64,Box.val]
theorem Xs(x)(h)(b)(n)(d)(a)(w)(nq)(l:Hid (IntKind.u64.wrap x=h.toNat))(r)(k:Hid (IntKind.i64.wrap ((Pure.joinL h b).toNat:Int)=r))(j:Hid (b.length=n))(i:n<=140737488355328)(g:At w d b):Calls prog 191 #[Y x,.slice d n a] (w.drewN nq) λe f=>e=.returned (Y r)/\∃m,f=w.drewN m:=
 (VZ x h b n d a _ l r k j i (g.drewN nq)).mono dT
theorem NY(b):IntKind.i8.wrap (b.toNat:Int)=Box.sign b:=by
 have:=b.toNat_lt;unfold Box.sign;simp[IntKind.wrap,IntKind.bits,IntKind.signed];split<;>omega
theorem Hj(h:p:=by
 clear fV hc
 go_in
 go_wp2
 go_ret2
 exact⟨pS,λ_=>rfl,⟨0,rfl⟩⟩):p:=h
theorem wM(a)(n)(A)(d)(w)(hn:Hid (a.length=n))(hl:n<=140737488355328)(f:n<=d)(hc:At w A a):Calls prog 154 #[.slice A n d] w λe y=>
   (∀v,Box.num a=some v->e=.returned (.tuple #[Y v,.bool true]))/\
   (Box.num a=none->e=.returned (.tuple #[Y 0,.bool false]))/\∃m,y=w.drewN m:=by
 by_cases h1:1<=n
 .by_cases M:n<=8
  .have B:0<a.length:=sz;have k:=Box.rV (l:=a) G (by rw[hn];exact M);obtain⟨b,x,rfl,m⟩:=hc 0 B;have X:Hid (a.getD 0 0=a[0]):=(by show _=_;grind);rw[fN]at m;generalize i:a[0]=z0 at *;clear i;obtain⟨V,P,i,t,U⟩:=info_parts Tryz.info5;have Q:0<n:=h1;have R:(0:Int)<(n:Int):=G;have g:¬ ((n:Int)<1):=G;have K:¬ ((8:Int)<(n:Int)):=G;obtain⟨L,T,u⟩:=lH 37 5 V underlying37 P t (some ⟨b,x,none⟩) n d hn f 1 1 rfl h1;replace u:=u _ hc;have C:Hid ((a.drop 1).length=n-1):=(by show _=_;rw[ef,hn]);have r:=Box.tK z0;have J:Hid (IntKind.u64.wrap (Box.sign z0)=(((UInt64.ofNat (IntKind.u64.wrap (Box.sign z0)).toNat).toNat:Nat):Int)):=by
    show _=_;grind [Pure.lG,IntKind.wrap_u64]
   have D:Hid (IntKind.i64.wrap ((Pure.joinL (UInt64.ofNat (IntKind.u64.wrap (Box.sign z0)).toNat) (a.drop 1)).toNat:Int)=Box.val a):=
    (by grind [Hid.o,ZQ])
   have p:n-1<=140737488355328:=G;clear hc B;generalize h:UInt64.ofNat (IntKind.u64.wrap (Box.sign z0)).toNat=hd at *;clear h;have W:Hid (IntKind.u64.wrap (IntKind.i64.wrap (IntKind.i8.wrap (z0.toNat:Int)))=(hd.toNat:Int)):=by
    grind [NY,C']
   clear J r;go_in;go_wp2_with fail;go_quiet (first|(go_at_call 191;exact Xs (IntKind.i64.wrap (IntKind.i8.wrap (z0.toNat:Int))) hd (a.drop 1) (n-1) L (d-1) w _ W _ D C p u))
   by_cases q:Box.size (Box.val a)=n
   .have fV:Box.num a=some (Box.val a):=(by rw[Box.num,dQ pS]);have j:=I fV;have S:((Box.size (Box.val a):Int) != (n:Int))=false:=(by rw[q];simp);clear fV q;go_wp2_with (go_at_call 192;refine(wL _ _ k.1 k.2).mono ?_;rintro e y ⟨rfl,rfl⟩)
    go_ret2;exact⟨λv h=>by rw[j]at h;simp only[ey]at h;rw[<-h];rfl,pS,⟨_,rfl⟩⟩
   .have fV:Box.num a=none:=(by rw[Box.num,b' pS]);have j:=I fV;have S:((Box.size (Box.val a):Int) != (n:Int))=true:=(by rw[fs];omega);clear fV q;go_wp2_with (go_at_call 192;refine(wL _ _ k.1 k.2).mono ?_;rintro e y ⟨rfl,rfl⟩)
    go_ret2;exact⟨pS,λ_=>rfl,⟨_,rfl⟩⟩
  .have fV:Box.num a=none:=yW;have j:=I fV;have g:¬ ((n:Int)<1):=G;have K:((8:Int)<(n:Int)):=G;exact Hj
 .have fV:Box.num a=none:=yW;have j:=I fV;have g:((n:Int)<1):=G;exact Hj
variable {zs:E}{B:Nat}{ao:Option Addr}{a b w:World}
def oE(B:Nat)(w:World)(ao:Option Addr)(zs:E):Prop:=∀w',Below B w w'->At w' ao zs
theorem oE.here(h:oE B w ao zs):At w ao zs:=h w (Below.refl _ _)
theorem oE.on{a:World}(h:oE B w ao zs)(d:Below B w a):oE B a ao zs:=λe b=>h e (d.trans b)
theorem oE.part{a:Option Addr}{e:E}(h:oE B w ao zs)(g:∀d,At d ao zs->At d a e):oE B w a e:=λb f=>g b (h b f)
theorem At.low(h:At w ao zs):oE w.1.size w ao zs:=by
 intro i f j g;obtain⟨b,a,e,d⟩:=h j g;exact⟨b,a,e,(f.cell (p:=⟨b,a+j,.none⟩) (World.block_lt_of_cell? w _ d)).trans d⟩
theorem vw{c:World}{d:Option Nat}(h:Below B a b)(k:b.grownBy c d)(f:∀i,d=some i->B<=i)(e:B<=b.1.size):Below B a c:=
 h.trans ⟨k.os,k.tape,k.output,k.size,n9⟩
theorem rF(h:Below B a b)(d:B<=b.1.size)(o):Below B a (b.alloc o):=vw h (cy b o none) Z d
theorem rG(h:Below B a b)(n):Below B a (b.drewN n):=h.trans ⟨rfl,rfl,rfl,cA _,λ_ _=>rfl⟩
theorem ZV{k:Nat}(h:k<zs.length):Box.hex (zs.take (k+1))=Box.hex (zs.take k)++[Box.NI (zs[k].toNat / 16),Box.NI (zs[k].toNat % 16)]:=by
 rw[jV h,Box.ED];rfl
theorem ZW(m)(h:m<16)(a:m<(⟨#[48,49,50,51,52,53,54,55,56,57,97,98,99,100,101,102]⟩:ByteArray).size):(⟨#[48,49,50,51,52,53,54,55,56,57,97,98,99,100,101,102]⟩:ByteArray)[m]=Box.NI m:=by
 have:∀m:Fin 16,(⟨#[48,49,50,51,52,53,54,55,56,57,97,98,99,100,101,102]⟩:ByteArray)[m.val]'(m.isLt)=Box.NI m.val:=by decide
 exact this ⟨m,h⟩
theorem ZX(z:UInt8):bits .and .u8 (z.toNat:Int) 15=((z.toNat % 16:Nat):Int):=by
 have:∀z:Fin 256,bits .and .u8 (z.val:Int) 15=((z.val % 16:Nat):Int):=by decide +kernel
 exact this ⟨z.toNat,z.toNat_lt⟩
theorem RV(z:UInt8)(a b)(d:a=z.toNat / 16)(e:b=z.toNat % 16)(f:a<(⟨#[48,49,50,51,52,53,54,55,56,57,97,98,99,100,101,102]⟩:ByteArray).size)(g:b<(⟨#[48,49,50,51,52,53,54,55,56,57,97,98,99,100,101,102]⟩:ByteArray).size):
  (#[Value.int .u8 (((⟨#[48,49,50,51,52,53,54,55,56,57,97,98,99,100,101,102]⟩:ByteArray)[a]).toNat:Int),Value.int .u8 (((⟨#[48,49,50,51,52,53,54,55,56,57,97,98,99,100,101,102]⟩:ByteArray)[b]).toNat:Int)]:Array Value).toList=[Box.NI (z.toNat / 16),Box.NI (z.toNat % 16)].map U8:=by
 have:=z.toNat_lt
 subst d e
 rw[ZW _ G,ZW _ G]
 rfl
theorem Lc(B)(M)(f)(m zs)(n)(ao)(u)(w)(a:w.ownsRow B 5 1 M f (m.map U8))(L:B<=w.1.size)(Q:Hid (zs.length=n))(r:oE B w ao zs)(W:f+(2*n+2)<=140737488355328):Calls prog 128 #[M,.slice ao n u] w λe b=>∃o,e=.returned o/\b.ownsRow B 5 1 o (f+(2*n+2)) ((m++(34::Box.hex zs++[34])).map U8)/\Below B w b:=by
 obtain⟨J,e,g,j,l⟩:=info_parts Tryz.info5
 go_in
 go_wp2_with (at_builtin;refine bJ _ rfl _ _ 37 rfl B 5 J underlying37 e g j l _ _ _ rfl (a.alloc _) (some ⟨w.1.size,0,none⟩) 1 1 [34] rfl rfl ?c1 ?c2 ?c3 ?c4 ?_)
 case c1=>intro h;cases h
 case c2=>exact dX w _ _ _ rfl
 case c3=>omega
 case c4=>simp;omega
 intro v1 w1 C b _;have V:=vw (rF (Below.refl _ _) L _) b (λi q=>(a.lt i q).1) iS;clear a b;go_wp2;go_loopw [0,6,12] (λo _ i wr=>∃k:Nat,k<=n/\i = Y k/\wr.ownsRow B 5 1 o (f+1+2*k) ((m++[34]++Box.hex (zs.take k)).map U8)/\Below B w wr) (λ_ _ i _=>n-(intOf i).toNat)
 case atStart=>grind [Box.hex]
 case round=>
  obtain⟨k,X,rfl,a,d⟩:=hrel;have o:=cE L d.size;by_cases A:k<n
  .have t:k<zs.length:=(by rw[Q];exact A);obtain⟨b,S,rfl,x⟩:=r wr d k t;have hz:=(zs[k]).toNat_lt;generalize D:zs[k]=z at *;have q1:(0:Int)<=(z.toNat:Int) / 16:=G;have q2:(z.toNat:Int) / 16<16:=G;have q3:(0:Int)<=bits .and .u8 (z.toNat:Int) 15:=(by rw[ZX];omega);have q4:bits .and .u8 (z.toNat:Int) 15<16:=(by rw[ZX];omega);have v:f+1+2*k+2<=140737488355328:=G;go_wp2_with fail;go_region_law (first|(refine wD rfl _ _ 37 rfl B 5 J underlying37 e g j l u0 (f+1+2*k) _ ?s1 (a.alloc _) (some ⟨wr.1.size,0,none⟩) 2 2 [Box.NI (z.toNat / 16),Box.NI (z.toNat % 16)] ?s2 rfl ?s3 ?s4 v ?s5 ?_;(case s1=>first|rfl|simp[Act.eval,Act.put]);(case s2=>first|rfl|simp[Act.eval,Act.put]);(case s3=>intro h;cases h);(case s4=>exact dX wr _ _ _ (RV z _ _ G (by rw[ZX];omega) _ _));(case s5=>simp;omega);intro T P U K p))
   all_goals
    have R:P.ownsRow B 5 1 T (f+1+2*(k+1)) ((m++[34]++Box.hex (zs.take (k+1))).map U8)/\Below B w P:=by
     refine⟨?_,vw (rF d o _) (iZ K) (λi q=>(a.lt i q).1) iS⟩;grind [ZV]
    clear U K p a d x D
    go_wp2
    go_roundw
    case rel=>grind
    case measure=>simp[intOf];omega
  .have y:k=n:=G;subst y;go_wp2_with (at_builtin;refine bJ _ rfl _ _ 37 rfl B 5 J underlying37 e g j l _ _ _ rfl (a.alloc _) (some ⟨wr.1.size,0,none⟩) 1 1 [34] rfl rfl ?c1 ?c2 ?c3 ?c4 ?_)
   case c1=>intro h;cases h
   case c2=>exact dX wr _ _ _ rfl
   case c3=>omega
   case c4=>simp;omega
   intro t v b h _;have p:=vw (rF d o _) h (λi q=>(a.lt i q).1) iS;have R:v.ownsRow B 5 1 t (f+(2*k+2)) ((m++(34::Box.hex zs++[34])).map U8):=by
    grind [Hid.o]
   clear a b h d;go_wp2;go_ret;exact⟨_,rfl,R,p⟩
abbrev vh(B:Nat)(w:World):Prop:=Lib.TabBelow prog B w tL .u64 Lib.pow10Tab
theorem IJ(l):Lib.byteCells l=l.map U8:=by
 simp[Lib.byteCells,U8]
theorem vz{l:E}{v:Int}(h:Box.num l=some v):-9223372036854775808<=v/\v<=9223372036854775807:=by
 unfold Box.num at h;split at h
 .rename_i hc;simp only[ey]at h;rw[<-h];exact Box.rV hc.1 hc.2.1
 .simp at h
theorem yS(B n)(i)(j:-9223372036854775808<=i)(k:i<=9223372036854775807)(f)(g)(w)(b:w.ownsRow B 5 1 f n (g.map U8))(l:B<=w.1.size)(a:n+21<=140737488355328)(d:vh B w):Calls prog 155 #[f,Y i,Y 10] w λe h=>∃o,e=.returned o/\h.ownsRow B 5 1 o (n+(Lib.itoa i).length) ((g++Lib.itoa i).map U8)/\Below B w h:=
 (Go.Proofs.Tryz.strconv_AppendInt_10 B n i j k f _ w b l a d).mono (by grind [IJ])
theorem EN(B)(r)(p)(q zs)(n)(ao)(f)(w)(b:w.ownsRow B 5 1 r p (q.map U8))(u:B<=w.1.size)(C:Hid (zs.length=n))(A:n<=140737488355328)(k:n<=f)(g:At w ao zs)(x:p+21<=140737488355328)(d:vh B w):Calls prog 127 #[r,.slice ao n f] w λe a=>
   (∀v,Box.num zs=some v->∃o,e=.returned (.tuple #[o,.bool true])/\a.ownsRow B 5 1 o (p+(Lib.itoa v).length) ((q++Lib.itoa v).map U8))/\
   (Box.num zs=none->∃o,e=.returned (.tuple #[o,.bool false]))/\Below B w a:=by
 have a:=wM zs n ao f w C A k g
 cases j:Box.num zs with
 |none=>
  rw[j]at a;clear j g;go_in;go_wp2_with fail;refine a.mono ?_;rintro e D ⟨_,h,m,rfl⟩;obtain rfl:=h trivial;clear a h;go_wp2_with fail;refine(yS B p 0 G G r q (w.drewN m) b u x (d.on (rG (Below.refl _ _) m))).mono ?_;rintro e J ⟨o,rfl,y,i⟩;go_wp2;go_ret2;exact⟨λv h=>by simp at h,λ_=>⟨_,rfl⟩,(rG (Below.refl _ _) m).trans i⟩
 |some v=>
  have l:=vz j;rw[j]at a;clear j g;go_in;go_wp2_with fail;refine a.mono ?_;rintro e D ⟨t,_,m,rfl⟩;obtain rfl:=t v rfl;clear a t;go_wp2_with fail;refine(yS B p v l.1 l.2 r q (w.drewN m) b u x (d.on (rG (Below.refl _ _) m))).mono ?_;rintro e J ⟨o,rfl,y,i⟩;go_wp2;go_ret2;refine⟨λt h=>?_,(λh=>by simp at h),(rG (Below.refl _ _) m).trans i⟩;simp only[ey]at h;subst h;exact⟨_,rfl,y⟩
def lenOf:Value->Nat
 |.slice _ n _=>n
 |_=>0
def Ld(d:Nat):Prop:=
 ∀(B:Nat)(sv:Value)(n0:Nat)(bs zs:E)(n:Nat)(ao:Option Addr)(cap:Nat)(w:World),w.ownsRow B 5 1 sv n0 (bs.map U8)->B<=w.1.size->Hid (zs.length=n)->n<=100000->n<=cap->cap<=9223372036854775807->oE B w ao zs->n0<=100000000*(999-d)->vh B w->
  Calls prog 87 #[sv,.slice ao n cap,Y (d:Int)] w λe w'=>
   (∀t r,Box.gJ d zs=some (t,r)->∃o a2 c2,e=.returned (.tuple #[o,.slice a2 r.length c2,.bool true])/\w'.ownsRow B 5 1 o (n0+t.length) ((bs++t).map U8)/\(∀w0,At w0 ao zs->At w0 a2 r)/\r.length<=c2/\c2<=cap)/\
   (Box.gJ d zs=none->∃o v,e=.returned (.tuple #[o,v,.bool false]))/\Below B w w'
theorem IK(a)(v)(w):Calls prog 129 #[a,v,Y 0] w λe b=>e=.returned (.tuple #[σ,.bool false])/\w=b:=by
 go_in
 go_wp2
 go_ret2
 exact⟨rfl,rfl⟩
theorem Kg(h:p:=by
 obtain⟨o,v,rfl⟩:=k2 hsh
 have HN:Hid (Box.rW (Box.gJ d) zs=none):=by grind [Box.uF]
 clear k1 k2 hsh
 go_wp2
 go_ret2
 exact⟨pS,λ_=>⟨_,rfl⟩,B3⟩):p:=h
theorem GG(h:p:=by
 show _=_
 rw[HA,Box.xU (Box.jK d) hsh,Option.map_map]
 first|rfl|(congr 1;funext x;simp)):p:=h
theorem IL(d:Nat)(hd:d<=8)(ih:Ld d)(B)(sv)(p)(Q zs)(n)(W)(k)(w)(b:w.ownsRow B 5 1 sv p (Q.map U8))(hB:B<=w.1.size)(X:Hid (zs.length=n))(hl:n<=100000)(S:n<=k)(al:k<=9223372036854775807)(q:oE B w W zs)(hb:p<=100000000*(998-d))(u:vh B w):Calls prog 129 #[sv,.slice W n k,Y ((d:Int)+1)] w λe a=>
   (∀ts,Box.rW (Box.gJ d) zs=some ts->∃o,e=.returned (.tuple #[o,.bool true])/\a.ownsRow B 5 1 o (p+((Box.commas ts).length+2)) ((Q++(123::Box.commas ts++[125])).map U8))/\
   (Box.rW (Box.gJ d) zs=none->∃o,e=.returned (.tuple #[o,.bool false]))/\Below B w a:=by
 obtain⟨i0,A,C,D,J⟩:=info_parts Tryz.info5
 have an:(((d:Int)+1)==0)=false:=dT
 go_in
 go_wp2_with (at_builtin;refine bJ _ rfl _ _ 37 rfl B 5 i0 underlying37 A C D J _ _ _ rfl (b.alloc _) (some ⟨w.1.size,0,none⟩) 1 1 [123] rfl rfl ?c1 ?c2 ?c3 ?c4 ?_)
 case c1=>intro h;cases h
 case c2=>exact dX w _ _ _ rfl
 case c3=>omega
 case c4=>simp;omega
 intro v1 w1 af a _;have B1:=vw (rF (Below.refl _ _) hB _) a (λi U=>(b.lt i U).1) iS;clear b a;go_wp2;go_loopw [0,1,7,8] (λo i _ f wr=>∃(a:E) (done:List E) (P:Option Addr) (M:Nat),i=.slice P a.length M/\a.length<=n/\a.length<=M/\M<=k/\(∀g,At g W zs->At g P a)/\f=.bool (decide (done=[]))/\Hid (Box.rW (Box.gJ d) zs=(Box.rW (Box.gJ d) a).map (done++·))/\(Box.commas done).length+22*a.length<=22*n/\wr.ownsRow B 5 1 o (p+1+(Box.commas done).length) ((Q++[123]++Box.commas done).map U8)/\Below B w wr) (λ_ i _ _ _=>lenOf i)
 case atStart=>exact⟨zs,[],W,k,by rw[X],by rw[X];omega,by rw[X.o];exact S,cA _,λ_ h=>h,rfl,by show _=_;cases Box.rW (Box.gJ d) zs<;>rfl,by simp[Box.commas,X.o],by grind [Box.commas],B1⟩
 case round=>
  obtain⟨a,done,P,M,rfl,au,V,ak,Ns,rfl,HA,aj,b,j⟩:=hrel;have y:=cE hB j.size;by_cases h0:0<a.length
  .have ar:((0:Int)<(a.length:Int)):=G;by_cases f:done=[]
   .subst f;go_wp2_with fail;refine(ih B u0 (p+1+(Box.commas []).length) (Q++[123]++Box.commas []) a a.length P M _ b y (I rfl) G V G ((q.part Ns).on j) (by simp[Box.commas];omega) (u.on j)).mono ?_;rintro e w3 ⟨k1,k2,B3⟩;replace B3:=j.trans B3;cases hsh:Box.gJ d a with
    |none=>
     exact Kg
    |some tr=>
     obtain⟨t,r⟩:=tr;obtain⟨o,a2,c2,rfl,m,ag,R,ae⟩:=k1 t r hsh;have ab:=Box.jK d a t r hsh;have ai:=Box.zt d a t r hsh;have IM:Hid (Box.rW (Box.gJ d) zs=(Box.rW (Box.gJ d) r).map ([t]++·)):=by
      exact GG
     have vZ:Hid (Box.commas [t]=t):=by
      show _=_;rfl
     clear k1 k2 hsh;go_wp2;grind [Box.commas,lenOf]
   .have T:decide (done=[])=false:=(by simpa using f);rw[T];go_wp2_with (at_builtin;refine bJ _ rfl _ _ 37 rfl B 5 i0 underlying37 A C D J _ _ _ rfl (b.alloc _) (some ⟨wr.1.size,0,none⟩) 1 1 [44] rfl rfl ?c1 ?c2 ?c3 ?c4 ?_)
    case c1=>intro h;cases h
    case c2=>exact dX wr _ _ _ rfl
    case c3=>omega
    case c4=>simp;omega
    intro v2 w2 g l _;have L:=vw (rF j y _) l (λi U=>(b.lt i U).1) iS;have ad:=cE hB L.size;clear b l T;go_wp2_with fail;refine(ih B v2 (p+1+(Box.commas done).length+1) (Q++[123]++Box.commas done++[44]) a a.length P M _ (by simpa using g) ad (I rfl) G V G ((q.part Ns).on L) G (u.on L)).mono ?_;rintro e w3 ⟨k1,k2,B3⟩;replace B3:=L.trans B3;cases hsh:Box.gJ d a with
    |none=>
     exact Kg
    |some tr=>
     obtain⟨t,r⟩:=tr;obtain⟨o,a2,c2,rfl,m,ag,R,ae⟩:=k1 t r hsh;have ab:=Box.jK d a t r hsh;have ai:=Box.zt d a t r hsh;have IM:Hid (Box.rW (Box.gJ d) zs=(Box.rW (Box.gJ d) r).map ((done++[t])++·)):=by
      exact GG
     have vZ:Hid (Box.commas (done++[t])=Box.commas done++44::t):=by
      show _=_;rw[Box.wI,b' f]
     clear k1 k2 hsh;go_wp2;go_roundw
     case rel=>
      refine⟨r,done++[t],a2,c2,rfl,by omega,R,by omega,dT,by simp,IM,?_,?_,B3⟩
      .rw[vZ];simp;omega
      .rw[vZ];rw[cF,de,show p+1+((Box.commas done).length+(t.length+1))=p+1+(Box.commas done).length+1+t.length from by omega];simpa using m
     grind [lenOf]
  .have ah:a=[]:=dT;subst ah;have e:Hid (Box.rW (Box.gJ d) zs=some done):=(by grind [Box.NJ]);simp only[List.length_nil]at *;go_wp2_with (at_builtin;refine bJ _ rfl _ _ 37 rfl B 5 i0 underlying37 A C D J _ _ _ rfl (b.alloc _) (some ⟨wr.1.size,0,none⟩) 1 1 [125] rfl rfl ?c1 ?c2 ?c3 ?c4 ?_)
   case c1=>intro h;cases h
   case c2=>exact dX wr _ _ _ rfl
   case c3=>omega
   case c4=>simp;omega
   intro v2 w2 g l _;have L:=vw (rF j y _) l (λi U=>(b.lt i U).1) iS;clear b l;go_wp2;go_ret2;refine⟨λts h=>?_,pS,L⟩;rw[e]at h;simp only[ey]at h;subst h;refine⟨_,rfl,?_⟩;rw[show p+((Box.commas done).length+2)=p+1+(Box.commas done).length+1 from by omega];simpa using g
def RX(d:Nat)(inner:E->Option (List E)):Prop:=
 ∀(B:Nat)(sv:Value)(n0:Nat)(bs zs:E)(n:Nat)(ao:Option Addr)(cap:Nat)(w:World),w.ownsRow B 5 1 sv n0 (bs.map U8)->B<=w.1.size->Hid (zs.length=n)->n<=100000->n<=cap->cap<=9223372036854775807->oE B w ao zs->n0<=100000000*(999-d)->vh B w->
  Calls prog 129 #[sv,.slice ao n cap,Y (d:Int)] w λe w'=>
   (∀ts,inner zs=some ts->∃o,e=.returned (.tuple #[o,.bool true])/\w'.ownsRow B 5 1 o (n0+((Box.commas ts).length+2)) ((bs++(123::Box.commas ts++[125])).map U8))/\
   (inner zs=none->∃o,e=.returned (.tuple #[o,.bool false]))/\Below B w w'
theorem We:RX 0 (λ_=>none):=by
 intro B d f e g n b a w _ _ _ _ _ _ _ _ _;exact(IK d (.slice b n a) w).mono (by grind [RowKit.Below.refl])
theorem Wh(d)(o:d<=8)(p:Ld d):RX (d+1) (Box.rW (Box.gJ d)):=by
 intro B r q e t n b a w f g h i j k l u m;have:=IL d o p B r q e t n b a w f g h i j k l G m;rw[show(((d+1:Nat)):Int)=(d:Int)+1 from by omega];exact this
theorem Le{a:UInt8}{k:Nat}(h:a.toNat=k):((a.toNat:Int)==(k:Int))=true:=by rw[db];omega
theorem Ft(h:p:=by
 go_wp2
 go_ret3
 exact⟨λt r h=>by rw[HP]at h;simp at h,λ_=>⟨_,_,rfl⟩,Bm.trans B2⟩):p:=h
theorem Ag(d)(hd:d<=8)(f:E->Option (List E))(hl:RX d f)(b:∀u,Box.gJ d u=match Box.cut u with|none=>none|some (a,i,r)=>(Box.piece f a i).map (·,r)):Ld d:=by
 intro B S R Q u n ao ab w M hB hn ak L ae x hb P
 have hcut:=UW u n ao ab w hn G L ae x.here
 have HS:=I (b u)
 clear b
 cases k:Box.cut u with
 |none=>
  rw[k]at HS hcut;clear k;go_in;go_wp2_with fail;refine hcut.mono ?_;rintro e b ⟨_,q,m,rfl⟩;obtain rfl:=q trivial;clear q hcut;go_wp2;go_ret3;exact⟨λt r h=>by rw[HS]at h;simp at h,λ_=>⟨_,_,rfl⟩,rG (Below.refl _ _) _⟩
 |some ai=>
  obtain⟨a,i,r⟩:=ai;have ad:=Box.gK k;rw[hn]at ad;rw[k]at HS hcut;clear k;go_in;go_wp2_with fail;refine hcut.mono ?_;rintro e w1 ⟨p,_,m,rfl⟩;obtain⟨U,W,V,X,rfl,af,J,aj,D,C,y⟩:=p a i r rfl;clear p hcut;have A:B<=(w.drewN m).1.size:=hB;have g:(w.drewN m).ownsRow B 5 1 S R (Q.map U8):=M;have Bm:Below B w (w.drewN m):=rG (Below.refl _ _) m;have T:=(x.part af).on Bm;have l:=P.on Bm;by_cases t2:a.toNat=2
  .have q2:((a.toNat:Int)==2)=true:=Le t2;have HP:Hid (Box.gJ d u=((Box.num i).map Lib.itoa).map (·,r)):=(by grind [Box.piece,Box.leaf]);go_wp2_with fail;refine(EN B S R Q i i.length U W _ g A (I rfl) G J T.here G l).mono ?_;rintro e w2 ⟨p,q,B2⟩;cases j:Box.num i with
   |none=>
    obtain⟨o,rfl⟩:=q j;rw[j]at HP;clear p q j;exact Ft
   |some v=>
    obtain⟨o,rfl,b⟩:=p v j;rw[j]at HP;clear p q j;go_wp2;go_ret3;refine⟨λt r' h=>?_,(λh=>by rw[HP]at h;simp at h),Bm.trans B2⟩;rw[HP]at h;simp only[Option.map_some,ey,Prod.mk.injEq]at h;obtain⟨rfl,rfl⟩:=h;exact⟨_,V,X,rfl,b,D,C,y⟩
  .have q2:((a.toNat:Int)==2)=false:=dT;by_cases t4:a.toNat=4
   .have q4:((a.toNat:Int)==4)=true:=Le t4;have HP:Hid (Box.gJ d u=some (34::Box.hex i++[34],r)):=(by grind [Box.piece,Box.leaf]);go_wp2_with fail;refine(Lc B S R Q i i.length U W _ g A (I rfl) T G).mono ?_;rintro e w2 ⟨o,rfl,b,B2⟩;go_wp2;go_ret3;refine⟨λt r' h=>?_,(λh=>by rw[HP]at h;simp at h),Bm.trans B2⟩;rw[HP]at h;simp only[ey,Prod.mk.injEq]at h;obtain⟨rfl,rfl⟩:=h;refine⟨_,V,X,rfl,?_,D,C,y⟩;rw[show(34::Box.hex i++[34]:E).length=2*i.length+2 from by simp[Box.zq]];exact b
   .have q4:((a.toNat:Int)==4)=false:=dT;by_cases ah:a.toNat=48
    .have ag:((a.toNat:Int)==48)=true:=Le ah;have HP:Hid (Box.gJ d u=((f i).map λv=>123::Box.commas v++[125]).map (·,r)):=(by grind [Box.piece]);go_wp2_with fail;refine(hl B S R Q i i.length U W _ g A (I rfl) G J G T hb l).mono ?_;rintro e w2 ⟨p,q,B2⟩;cases j:f i with
     |none=>
      obtain⟨o,rfl⟩:=q j;rw[j]at HP;clear p q j;exact Ft
     |some v=>
      obtain⟨o,rfl,b⟩:=p v j;rw[j]at HP;clear p q j;go_wp2;go_ret3;refine⟨λt r' h=>?_,(λh=>by rw[HP]at h;simp at h),Bm.trans B2⟩;rw[HP]at h;simp only[Option.map_some,ey,Prod.mk.injEq]at h;obtain⟨rfl,rfl⟩:=h;refine⟨_,V,X,rfl,?_,D,C,y⟩;rw[show(123::Box.commas v++[125]:E).length=(Box.commas v).length+2 from by simp];exact b
    .have ag:((a.toNat:Int)==48)=false:=dT;have HP:Hid (Box.gJ d u=none):=(by grind [Box.leaf,Box.piece]);go_wp2_with fail;go_ret3;exact⟨λt r h=>by rw[HP]at h;simp at h,λ_=>⟨_,_,rfl⟩,Bm⟩
theorem ZZ(d)(b:d<=8):Ld d:=by
 induction d with
 |zero=>
  refine Ag 0 b _ We λe=>?_;rw[Box.gJ];cases Box.cut e with
  |none=>rfl
  |some a=>
   obtain⟨g,i,r⟩:=a;simp only[Box.piece];split
   .rename_i h;simp[Box.leaf,h]
   .rfl
 |succ d f=>exact Ag (d+1) b _ (Wh d G (f G)) λe=>by rw[Box.gJ];rfl
abbrev lZ(w:World):Prop:=Lib.TabIs prog w tL .u64 Lib.pow10Tab
theorem Wi(d)(n)(q)(b)(w)(L:Hid (d.length=n))(K:n<=100000)(i:n<=b)(x:b<=9223372036854775807)(u:At w q d)(j:lZ w):Calls prog 48 #[.slice q n b] w λe l=>
   (∀t,Box.whole d=some t->e=.returned (.tuple #[.string ⟨t.toArray⟩,.bool true]))/\
   (Box.whole d=none->e=.returned (.tuple #[ε,.bool false]))/\Below w.1.size w l:=by
 have a:=ZZ 8 G w.1.size σ 0 [] d n q b w (World.ownsRow_nil _ _ _ _) (cA _) L K i x u.low G (Lib.tabBelow_of_tabIs j)
 have p:Hid (Box.whole d=match Box.gJ 8 d with|some (t,[])=>some t|_=>none):=rfl
 cases m:Box.gJ 8 d with
 |none=>
  rw[m]at p a;clear m;go_in;go_wp2_with fail;refine a.mono ?_;rintro e l ⟨_,f,g⟩;obtain⟨o,v,rfl⟩:=f trivial;clear f a;go_wp2;go_ret2;exact⟨pS,λ_=>rfl,g⟩
 |some Q=>
  obtain⟨t,r⟩:=Q;rw[m]at p a;clear m;by_cases y:r.length=0
  .have v:r=[]:=dT;subst v;go_in;go_wp2_with fail;refine a.mono ?_;rintro e l ⟨k,_,g⟩;obtain⟨o,A,C,rfl,f,_,_,_⟩:=k t [] rfl;clear k a y;rw[List.nil_append,cR]at f;obtain⟨B,D,rfl,_,_,_,M⟩:=ig f;have J:=ek (P:=prog) l 37 9 5 underlying37 underlying5 underlying9 B D t M;simp only[List.length_nil];go_wp2;go_ret2;refine⟨λR h=>?_,pS,g⟩;rw[p]at h;simp only[ey]at h;subst h;rfl
  .have h:(0:Int)<(r.length:Int):=G;have f:Hid (Box.whole d=none):=by
    grind
   go_in;go_wp2_with fail;refine a.mono ?_;rintro e l ⟨k,_,g⟩;obtain⟨o,A,C,rfl,_,_,_,_⟩:=k t r rfl;clear k a y;go_wp2;go_ret2;exact⟨pS,λ_=>rfl,g⟩
def mW(l:List UInt8):Option (List UInt8):=if l.length<=300 then Box.whole l else none
def jB(l:E):Value:=
 match mW l with
 |some t=>.tuple #[.string ⟨t.toArray⟩,.int .i64 0]
 |none=>.tuple #[.string ⟨#[]⟩,.int .i64 2]
theorem Wj(d)(n)(j)(b)(w)(o:Hid (d.length=n))(f:n<=b)(m:b<=9223372036854775807)(k:At w j d)(g:lZ w):Calls prog 24 #[.slice j n b] w λe p=>e=.returned (jB d)/\Below w.1.size w p:=by
 by_cases h:n<=300
 .have r:¬ ((300:Int)<(n:Int)):=G;have a:=Wi d n j b w o G f m k g;have HS:Hid (jB d=match Box.whole d with|some t=>.tuple #[.string ⟨t.toArray⟩,Y 0]|none=>.tuple #[ε,Y 2]):=by
   show _=_;rw[jB,mW,dQ (by rw[o];exact h)]
  cases i:Box.whole d with
  |none=>
   rw[i]at HS a;clear i;go_in;go_wp2_with fail;refine a.mono ?_;rintro e p ⟨_,q,l⟩;obtain rfl:=q trivial;clear q a;go_wp2;go_ret2;exact⟨by rw[HS];rfl,l⟩
  |some t=>
   rw[i]at HS a;clear i;go_in;go_wp2_with fail;refine a.mono ?_;rintro e p ⟨q,_,l⟩;obtain rfl:=q t rfl;clear q a;go_wp2;go_ret2;exact⟨by rw[HS];rfl,l⟩
 .have r:((300:Int)<(n:Int)):=G;have HS:Hid (jB d=.tuple #[ε,Y 2]):=by
   show _=_;rw[jB,mW,b' (by rw[o];exact h)]
  go_in;go_wp2;go_ret2;exact⟨by rw[HS];rfl,Below.refl _ _⟩
