import Derived.Test.YteknelimjfgmaaaGreatDoorGJHead
import Derived.Test.YteknelimjfgmaaaGreatDoorGJIns
import Derived.BigQuiet
namespace Go.Proofs.YteknelimjfgmaaaGreatDoor
set_option maxHeartbeats 2000000
open Proofs.Tryz Go.RowKit
set_option maxRecDepth 100000
theorem IZ (h:UInt64) (zs:List UInt8) (ao:Option Addr) (cap n:Nat) (w:World) (hn:Hid (zs.length=n)) (hl:n<=140737488355328) (hc:At w ao zs) :
  Calls prog 81 #[.int .u64 (h.toNat:Int),.slice ao n cap] w fun e w'=>e = .returned (.int .u64 ((Pure.ic h zs).toNat:Int))/\w=w':=by
 obtain rfl:=hn.o
 exact sV h zs ao cap w hl hc
theorem VM {p:Prop} (h:p:=by
 go_wp2
 go_loopw [0,8] (fun o i wr=>∃ k:Nat,k<=size/\i = .int .i64 ((size:Int)-1-k)/\aU w wr o p (bs++Pure.oh v size k)) (fun _ i _=>(intOf i+1).toNat)
 case atStart=>exact ⟨0,cE _,by go_num,by simpa[Pure.rY] using aU.refl hb⟩
 case round=>
  obtain ⟨k,hk,rfl,hbr⟩:=hrel
  by_cases hlt:k<size
  ·obtain ⟨p1,ho1,(HC:Hid _)⟩:=hbr
   have hsrc:∀ x,x=((Pure.dW v (size-1-k)).toNat:Int)->Src prog 1 37 (.slice (some ⟨wr.heap.size,0,none⟩) 1 1) 1 ([Pure.dW v (size-1-k)].map U8) (wr.alloc (.cells #[.int .u8 x] 5)):=by
    intro x hx
    refine rE (P:=prog) underlying37 _ 1 1 [Pure.dW v (size-1-k)] rfl ?_
    exact fG _ _ _ _ (by rw[hx];rfl)
   go_wp2_with (at_builtin;refine dK _ rfl _ _ 37 37 rfl 5 i0 underlying37 hi hz0 hz1 hz2 _ _ p1 _ [Pure.dW v (size-1-k)] rfl rfl (ho1.grown (aE _ _ _)) 1 (hsrc _ ?c1) ?c2 ?_)
   case c1=>exact mZ v _
   case c2=>simp[Pure.jD];omega
   ·intro v1 w1 R1
    have R:=aU.comp HC.o (R1.before (aE _ _ _)) aft
    have R2:aU w w1 v1 p (bs++Pure.oh v size (k+1)):=by rw[Pure.lW];simpa only [cR] using R
    clear R R1 ho1 hb HC
    go_wp2
    go_roundw
    case rel=>exact ⟨k+1,by omega,by go_num,R2⟩
    case measure=>simp[intOf];omega
  ·have hks:k=size:=by omega
   subst hks
   go_wp2
   go_ret
   exact ⟨_,rfl,hbr⟩):p:=h
theorem xW (ov:Value) (p:Option Pl) (bs:List UInt8) (v:UInt64) (size:Nat) (w:World) (hb:Out w ov p bs) (hs:size<=8) (hl:bs.length<=1000000) :
  Calls prog 126 #[ov,.int .u64 (v.toNat:Int),.int .i64 size] w fun e w'=>∃ v',e = .returned v'/\aU w w' v' p (bs++Pure.be v size):=by
 obtain ⟨i0,hi,hz0,hz1,hz2⟩:=info_parts Tryz.info5
 go_enter func126,ntmps126
 exact VM
theorem Out.buf {w:World} {g cap:Nat} {bs:List UInt8} (h:Buf w g cap bs):Live w g cap/\w.rangeAt g 0 (bs.map U8):=by
 have h0:=h;obtain ⟨cur,e,h1,h2,_⟩:=h;exact ⟨⟨cur,e,h1,by omega⟩,At.range h0.at⟩
theorem PI (head:UInt64) (ao:Option Addr) (p:Option Pl) (A zs:List UInt8) (fr n cap:Nat) (w:World) (hv:Out w (.slice ao n cap) p (A++zs)) (hA:Hid (A.length=fr)) (hN:Hid ((A++zs).length=n)) (hl:n<=900000) :
  Calls prog 124 #[.slice (sl ao cap fr) (n-fr) (cap-fr),.int .u64 (head.toNat:Int)] w fun e w'=>e = .returned (.tuple #[])/\Out w' (.slice ao n cap) p (A++Pure.veil head zs)/\CF w w' (Pl.has p):=by
 have hlen:(A++zs).length=A.length+zs.length:=bj
 rw[hA.o,hN.o] at hlen
 by_cases hz:zs=[]
 ·subst hz;rw[List.length_nil] at hlen;rw[show n-fr=0 from by omega];refine (EK _ _ head w).mono ?_;rintro e w' ⟨rfl,g⟩;refine ⟨rfl,?_,CF.bN g _⟩;have:=hv.grown g;simpa[Pure.veil] using this
 ·have hzp:=fL.2 hz;rcases hv with ⟨_,_,h⟩ | ⟨q,hp,hvv,h1,h2,h3,h4⟩
  ·rw[List.append_eq_nil_iff] at h;exact absurd h.2 hz
  ·injection hvv with e1 e2 e3;subst e1 e3;have hs:sl (some ⟨q.g,q.off,none⟩) q.cap fr=some ⟨q.g,q.off+fr,none⟩:=by
    rw[sl,if_neg (by have:=hN.o;omega)];simp[Addr.add_lit]
   have h4b:q.off+fr+(n-fr)<=q.off+q.cap:=(by have:=hN.o;omega);have hrz:w.rangeAt q.g (q.off+fr) (zs.map U8):=by
    have:=qU (cs:=A.map U8) (ds:=zs.map U8) (by rw[<-cW];exact h4);rw[cw,hA.o] at this;exact this
   have LF:w.rangeAt q.g q.off (A.map U8):=wW (ds:=zs.map U8) (by rw[<-cW];exact h4);rw[hs];refine (Oy q.g (q.off+fr) (q.cap-fr) (n-fr) head zs w (h3.mono h4b) (hid afp) afp hrz).mono ?_;rintro e w' ⟨rfl,r1,r2⟩;have r3:CF w w' (Pl.has p):=r2.mono (fun b o _ e=>⟨q,hp,e.1,by omega,by have:=e.2;have:=hN.o;omega⟩);refine ⟨rfl,.inr ⟨q,hp,?_,?_,h2,h3.cf r3,?_⟩,r3⟩
   ·rw[e2];simp[Pure.gq]
   ·have:=h1;rw[bj] at this ⊢;rw[Pure.gq];exact this
   ·rw[cW];refine mi (r2.range LF (fun j hj e=>?_)) (by rw[cw,hA.o];exact r1);rw[cw,hA.o] at hj;omega
theorem SC (key use draw:UInt64) (x:Int) (ov:Value) (p:Option Pl) (A zs:List UInt8) (fr:Nat) (ii:Int) (w:World) (hv:Out w ov p (A++zs)) (hA:Hid (A.length=fr)) (hii:ii=fr) (hu:Hid (x=use.toNat)) (Xn:use.toNat<9223372036854775808) (hl:(A++zs).length<=900000) :
  Calls prog 83 #[ov,.int .i64 ii,.int .u64 (key.toNat:Int),.int .i64 x,.int .u64 (draw.toNat:Int)] w fun e w'=>∃ v',e = .returned v'/\aU w w' v' p (A++Pure.fq key use draw zs):=by
 subst hii
 obtain ⟨i0,hi,hz0,hz1,hz2⟩:=info_parts Tryz.info5
 obtain ⟨n,hn⟩:=aq ((A++zs).length)
 have HN:=hid hn
 have hzl:zs.length=n-fr:=by have:=hA.o;rw[bj] at hn;omega
 have HZ:=hid hzl
 have hfn:fr<=n:=by have:=hA.o;rw[bj] at hn;omega
 rw[hn] at hl
 clear hn hzl
 obtain ⟨ao,cap,hvv,hc1,hc2,hat,hnc⟩:=hv.open HN
 subst hvv
 have hsl:=wJ (P:=prog) 37 5 i0 underlying37 hi hz1 ao n cap fr hfn
 have Zn:∀ w,At w ao (A++zs)->At w (sl ao cap fr) zs:=fun w h=>by
  have:=h.part cap fr (by rw[HN.o];exact hc1);rw[show (A++zs).drop fr=zs from by rw[<-hA.o];simp] at this;exact this
 clear hi hz0 hz1 hz2
 go_enter func83,ntmps83
 go_wp2_with fail
 refine (xU key use draw x w hu.o Xn).mono ?_
 rintro e w1 ⟨rfl,hg1⟩
 have hv1:=hv.grown hg1
 have lM:=Zn w1 (hat.below hg1)
 clear hat Zn hv
 go_wp2_with fail
 refine (IZ (Pure.head key use draw) zs _ _ (n-fr) w1 HZ afp lM).mono ?_
 rintro e w2 ⟨rfl,rfl⟩
 go_wp2_with fail
 refine (PI (Pure.head key use draw) ao p A zs fr n cap w1 hv1 hA HN hl).mono ?_
 rintro e w3 ⟨rfl,hv3,F3⟩
 have G3:CF w w3 (Pl.has p):=CF.before hg1 F3
 clear lM hv1 F3 hsl
 go_wp2_with fail
 refine (sW w3.heap.size 8 [] draw 8 0 _ (Buf.new w3 _ _ 8 rfl afq) rfl afp aft).mono ?_
 rintro e w4 ⟨rfl,hb4,hg4⟩
 have G4:w3.grownBy w4 none:=Gi (aE w3 _ none) hg4 (bd _)
 have hv4:=hv3.grown G4
 obtain ⟨hL4,hr4⟩:=Out.buf hb4
 have adv:=hv3.Sa
 have HLT:=hid (fun (q:Pl) (hq:p=some q)=>(Nat.ne_of_lt (adv q hq)).symm)
 have HL2:=hid (show (A++Pure.veil (Pure.head key use draw) zs).length+8<=1000000 from by have:=HN.o;rw[bj] at this ⊢;rw[Pure.gq];omega)
 clear hb4 hg4 adv hv3
 go_wp2_with fail
 refine (BC _ p A (Pure.veil (Pure.head key use draw) zs) (Pure.be draw 8) fr _ w3.heap.size 0 8 8 w4 hv4 hA rfl (hid (Pure.bX _ _)) afp hL4 (by simpa using hr4) HLT.o HL2.o).mono ?_
 rintro e w5 ⟨v5,rfl,R5⟩
 have R5':=R5
 obtain ⟨p5,ho5,PK⟩:=R5'
 have HC:=hid PK
 have HL5:=hid (show (A++Pure.be draw 8++Pure.veil (Pure.head key use draw) zs).length<=1000000 from by have:=HL2.o;simp only[bj] at this ⊢;rw[Pure.bX];omega)
 clear hv4 hL4 hr4 PK R5 HLT
 go_wp2_with fail
 refine (xW v5 p5 _ (Pure.ic (Pure.head key use draw) zs) 8 w5 ho5 afp HL5.o).mono ?_
 rintro e w6 ⟨v6,rfl,R6⟩
 have R:=(aU.comp HC.o R6 aft).from (G3.grown G4)
 clear R6 ho5 HC G3 G4
 go_wp2
 go_ret
 exact ⟨v6,rfl,by simpa[Pure.fq,List.append_assoc] using R⟩
theorem SE (h:UInt64) (zs:List UInt8) (n:Nat) (ao:Option Addr) (cap:Nat) (w:World) (hn:zs.length=n) (hl:n<=140737488355328) (hc:At w ao zs) :
  Calls prog 81 #[.int .u64 (h.toNat:Int),.slice ao n cap] w fun e w'=>e = .returned (.int .u64 ((Pure.ic h zs).toNat:Int))/\w=w':=by
 subst hn
 exact sV h zs ao cap w hl hc
theorem Ma (h:UInt64) (zs:List UInt8) (n:Nat) (ao:Option Addr) (cap:Nat) (w:World) (hn:zs.length=n) (hl:n<=140737488355328) (hc:At w ao zs) :
  Calls prog 127 #[.int .u64 (h.toNat:Int),.slice ao n cap] w fun e w'=>e = .returned (.int .u64 ((Pure.joinL h zs).toNat:Int))/\w=w':=by
 subst hn
 exact IW h zs ao cap w hl hc
theorem SF (h:UInt64) (zs:List UInt8) (n:Nat) (ao:Option Addr) (cap:Nat) (w:World) (nq:Nat) (hn:Hid (zs.length=n)) (hl:n<=140737488355328) (hc:At w ao zs) :
  Calls prog 81 #[.int .u64 (h.toNat:Int),.slice ao n cap] (w.drewN nq) fun e w''=>e = .returned (.int .u64 ((Pure.ic h zs).toNat:Int))/\∃ m,w''=w.drewN m:=
 (SE h zs n ao cap _ hn hl (hc.drewN nq)).mono fun _ _ ⟨h1,h2⟩=>⟨h1,nq,h2.symm⟩
theorem aao (h:UInt64) (zs:List UInt8) (n:Nat) (ao:Option Addr) (cap:Nat) (w:World) (nq:Nat) (hn:Hid (zs.length=n)) (hl:n<=140737488355328) (hc:At w ao zs) :
  Calls prog 127 #[.int .u64 (h.toNat:Int),.slice ao n cap] (w.drewN nq) fun e w''=>e = .returned (.int .u64 ((Pure.joinL h zs).toNat:Int))/\∃ m,w''=w.drewN m:=
 (Ma h zs n ao cap _ hn hl (hc.drewN nq)).mono fun _ _ ⟨h1,h2⟩=>⟨h1,nq,h2.symm⟩
theorem Out.empty {w:World} {ao:Option Addr} {n cap:Nat} {p:Option Pl} {bs:List UInt8} (h:Out w (.slice ao n cap) p bs):Out w (.slice ao 0 cap) p []:=by
 rcases h with ⟨h1,h2,_⟩ | ⟨q,h1,h2,h3,h4,h5,_⟩
 ·injection h2 with e1 e2 e3;subst e1 e3;exact .inl ⟨h1,rfl,rfl⟩
 ·injection h2 with e1 e2 e3;subst e1 e3;exact .inr ⟨q,h1,rfl,cE _,h4,h5,fun j u hu=>by simp at hu⟩
theorem Mc (head:UInt64) (ao:Option Addr) (p:Option Pl) (zs:List UInt8) (n cap:Nat) (w:World) (hv:Out w (.slice ao n cap) p zs) (hN:Hid (zs.length=n)) (hl:n<=900000) :
  Calls prog 124 #[.slice ao n cap,.int .u64 (head.toNat:Int)] w fun e w'=>e = .returned (.tuple #[])/\Out w' (.slice ao n cap) p (Pure.veil head zs)/\CF w w' (Pl.has p):=by
 rcases hv with ⟨hp,hvv,h⟩ | ⟨q,hp,hvv,h1,h2,h3,h4⟩
 ·injection hvv with e1 e2 e3;subst e1 e2 e3 h;refine (EK _ _ head w).mono ?_;rintro e w' ⟨rfl,g⟩;exact ⟨rfl,.inl ⟨hp,rfl,rfl⟩,CF.bN g _⟩
 ·injection hvv with e1 e2 e3;subst e1 e3;refine (Oy q.g q.off q.cap n head zs w (h3.mono afp) hN afp h4).mono ?_;rintro e w' ⟨rfl,r1,r2⟩;have r3:CF w w' (Pl.has p):=r2.mono (fun b o _ e=>⟨q,hp,e.1,e.2.1,by have:=e.2.2;omega⟩);exact ⟨rfl,.inr ⟨q,hp,by rw[Pure.gq,<-e2],by rw[Pure.gq];exact h1,h2,h3.cf r3,r1⟩,r3⟩
theorem acr {p:Prop} (h:p:=by
 go_wp2_with (go_at_call 82;refine (vN _ _).mono ?_;rintro e w' ⟨rfl,rfl⟩)
 go_ret2
 exact ⟨rfl,rfl⟩):p:=h
theorem adw (rv:Value) (key x:Int) (v:Value) (w:World) (hx:Sy x=false) :
  Calls prog 86 #[rv,.int .u64 key,.int .i64 x,v] w fun e w'=>e = .returned (.tuple #[.slice none 0 0,.int .i64 1])/\w=w':=by
 go_enter func86,ntmps86
 exact acr
theorem PM (rv:Value) (key x:Int) (ao:Option Addr) (n cap:Nat) (w:World) (hx:Sy x=true) (hn:n<16\/216<n) :
  Calls prog 86 #[rv,.int .u64 key,.int .i64 x,.slice ao n cap] w fun e w'=>e = .returned (.tuple #[.slice none 0 0,.int .i64 3])/\w=w':=by
 rcases hn with hn | hn
 ·go_enter func86,ntmps86;exact acr
 ·have h16:¬ n<16:=by omega
  go_enter func86,ntmps86;exact acr
theorem SG (rv:Value) (p:Option Pl) (rb:List UInt8) (key use:UInt64) (x:Int) (ao:Option Addr) (zs:List UInt8) (L cap:Nat) (w:World) (hR:Out w rv p rb) (hx:Sy x=true) (hu:Hid (x=use.toNat)) (hL:Hid (zs.length=L)) (h16:16<=L) (anI:L<=216) (hcap:L<=cap) (hz:At w ao zs)
  (hsep:∀ b off,ao=some ⟨b,off,none⟩->∀ j,j<zs.length->¬ Pl.has p b (off+j)) :
  Calls prog 86 #[rv,.int .u64 (key.toNat:Int),.int .i64 x,.slice ao L cap] w fun e w'=>
   (Pure.opens key use zs=true->∃ v',e = .returned (.tuple #[v',.int .i64 0])/\aU w w' v' p (Pure.eP key use zs))/\
   (Pure.opens key use zs=false->e = .returned (.tuple #[.slice none 0 0,.int .i64 3])/\CF w w' (Pl.has p)):=by
 obtain ⟨i0,hi,hz0,hz1,hz2⟩:=info_parts Tryz.info5
 obtain ⟨ra,aap,hrv,hr1,hr2,_,_⟩:=hR.open (hid rfl)
 have hR0:Out w (.slice ra 0 aap) p []:=by rw[hrv] at hR;exact hR.empty
 obtain ⟨rn,hrn⟩:=aq rb.length
 rw[hrn] at hrv hr1
 subst hrv
 clear hrn hR
 have hv:use.toNat<9223372036854775808:=by have:=hu.o;simp[Sy] at hx;omega
 obtain ⟨a1,hs1,lM⟩:=xV (P:=prog) 37 5 i0 underlying37 hi hz1 ao L cap hL hcap 8 (8:Int) rfl afp
 obtain ⟨a2,hs2,zq⟩:=BD (P:=prog) 37 5 i0 underlying37 hi hz1 ao L cap hL hcap 8 (L-8) (8:Int) ((L:Int)-8) rfl afp afp afp
 obtain ⟨a3,hs3,zt⟩:=kD (P:=prog) 37 5 i0 underlying37 hi hz1 ao L cap hL hcap (L-8) ((L:Int)-8) afp afp
 rw[show L-(L-8)=8 from by omega] at hs3
 have ahu:=hid hsep
 clear hsep
 go_enter func86,ntmps86
 go_wp2_with (go_at_call 82;refine (vN _ _).mono ?_;rintro e w' ⟨rfl,rfl⟩)
 refine (Ma 0 (zs.take 8) 8 _ _ _ (by rw[cG,hL.o];omega) afp (lM _ hz)).mono ?_
 rintro e w' ⟨rfl,rfl⟩
 go_wp2_with fail
 refine (xU key use (Pure.jk zs) x _ hu.o hv).mono ?_
 rintro e w1 ⟨rfl,hg1⟩
 have hz1':=hz.below hg1
 have hR1:=hR0.grown hg1
 clear hs1 lM hR0
 go_wp2_with fail
 have hl2:((zs.drop 8).take (L-8-8)).length=L-8-8:=by have h:=hL.o;simp;omega
 have HL2:=hid hl2
 have hsrc:=rE (P:=prog) (w:=w1.drew) underlying37 a2 (L-8-8) (cap-8) ((zs.drop 8).take (L-8-8)) hl2 (zq _ hz1')
 have HB2:=hid (show ([]:List UInt8).length+((zs.drop 8).take (L-8-8)).length<=140737488355328 from by rw[hl2];simp;omega)
 clear hl2 zq
 go_region_law (first|(refine Ay rfl _ _ 37 37 rfl 5 i0 underlying37 hi hz0 hz1 hz2 (.slice ra 0 aap) (.slice a2 (L-8-8) (cap-8)) p [] ((zs.drop 8).take (L-8-8)) ?s1 ?s2 hR1.drew _ hsrc HB2.o ?_;(case s1=>first | rfl | simp[Act.eval,Act.put]);(case s2=>first | rfl | simp[Act.eval,Act.put]);intro v2 w2 R2))
 all_goals
  rw[List.nil_append] at R2
  obtain ⟨p2,ho2,hc2⟩:=R2
  obtain ⟨va,vc,hvv,hv1,hv2,_,_⟩:=ho2.open HL2
  subst hvv
  have DZ:=hid (show CF w1 w2 (Pl.has p)/\(p2=p\/Pl.fresh w1.heap.size p2)/\∀ q,p=some q->((zs.drop 8).take (L-8-8)).length<=q.cap->p2=p from ⟨hc2.1.dG,hc2.2⟩)
  clear hc2 hsrc hs2 HB2
  go_wp2_with fail
  refine (Mc (Pure.head key use (Pure.jk zs)) va p2 _ _ vc w2 ho2 HL2 afp).mono ?_
  rintro e w3 ⟨rfl,ho3,hf3⟩
  have hpl:Pure.eP key use zs=Pure.veil (Pure.head key use (Pure.jk zs)) ((zs.drop 8).take (L-8-8)):=by unfold Pure.eP;rw[hL.o,show L-16=L-8-8 from by omega]
  rw[<-hpl] at ho3
  have R3:aU w1 w3 (.slice va (L-8-8) vc) p (Pure.eP key use zs):=aU.comp DZ.o ⟨p2,ho3,hf3,.inl rfl,fun _ _ _=>rfl⟩ (by rw[hpl,Pure.gq];exact bd _)
  have R:=hid (R3.before hg1)
  have hF:=R.o.cf
  have hz3:At w3 ao zs:=hz.cf hF ahu.o
  have hend:At w3 a3 (zs.drop (L-8)):=zt _ hz3
  have hdl:Hid ((zs.drop (L-8)).length=8):=by have h:=hL.o;show _=_;simp;omega
  have adx:Hid ((Pure.eP key use zs).length=L-8-8):=by have h:=hL.o;show _=_;rw[Pure.kC];omega
  obtain ⟨_,_,hvq,_,_,ady⟩:=ho3.shape
  rw[adx.o] at hvq
  injection hvq with e1 e2 e3
  subst e1
  clear e2 e3
  have adz:=ady.1
  have hle:L-8-8<=140737488355328:=by omega
  have h8:8<=140737488355328:=by omega
  clear hpl ho2 DZ hf3 R3 hz3 zt ady ho3 HL2
  cases ho:Pure.opens key use zs
  all_goals
   have hbn:=Pure.Pz key use zs L hL.o _ ho
   have HO:=hid ho
   clear ho
   go_wp2_with fail
   go_quiet (first|(go_at_call 81;exact SF (Pure.head key use (Pure.jk zs)) (Pure.eP key use zs) (L-8-8) _ _ w3 _ adx hle adz)|(go_at_call 127;refine aao 0 (zs.drop (L-8)) 8 _ _ w3 _ hdl h8 hend))
   go_wp2
   go_ret2
   first
    | exact ⟨fun h=>absurd (HO.o.symm.trans h) afq,fun _=>⟨rfl,hF.drewN _⟩⟩
    | exact ⟨fun _=>⟨_,rfl,R.o.drewN _⟩,fun h=>absurd (HO.o.symm.trans h) afq⟩
theorem EM (zs:List UInt8) (n:Nat) (ao:Option Addr) (cap:Nat) (w:World) (hn:Hid (zs.length=n)) (hl:n<=140737488355328) (hc:At w ao zs) :
  Calls prog 20 #[.slice ao n cap] w fun e w'=>e = .returned (.int .u64 ((Pure.ic 0 zs).toNat:Int))/\w=w':=by
 obtain rfl:=hn.o
 go_enter func20,ntmps20
 go_wp2
 go_loop [3,4] (fun hh i=>∃ k:Nat,k<=zs.length/\i = .int .i64 k/\hh = .int .u64 ((Pure.ic 0 (zs.take k)).toNat:Int)) (fun _ i=>zs.length-(intOf i).toNat)
 case atStart=>exact ⟨0,cE _,rfl,rfl⟩
 case round=>
  obtain ⟨k,hk,rfl,rfl⟩:=hrel;by_cases hlt:k<zs.length
  ·obtain ⟨b,off,rfl,hck⟩:=hc k hlt;clear hc;go_wp2;go_round
   case rel=>exact ⟨k+1,by omega,by go_num,qQ (by rw[kN hlt,Pure.Bt];exact Gj _ _)⟩
   case measure=>simp[intOf];omega
  ·exact acM
theorem uM (zs:List UInt8) (n:Nat) (ao:Option Addr) (cap:Nat) (w:World) (hn:Hid (zs.length=n)) (hl:n<=140737488355328) (hc:At w ao zs) :
  Calls prog 87 #[.slice ao n cap] w fun e w'=>e = .returned (.int .u64 ((Pure.joinL 0 zs).toNat:Int))/\w=w':=by
 obtain rfl:=hn.o
 go_enter func87,ntmps87
 go_wp2
 go_loop [3,4] (fun hh i=>∃ k:Nat,k<=zs.length/\i = .int .i64 k/\hh = .int .u64 ((Pure.joinL 0 (zs.take k)).toNat:Int)) (fun _ i=>zs.length-(intOf i).toNat)
 case atStart=>exact ⟨0,cE _,rfl,rfl⟩
 case round=>
  obtain ⟨k,hk,rfl,rfl⟩:=hrel;by_cases hlt:k<zs.length
  ·obtain ⟨b,off,rfl,hck⟩:=hc k hlt;clear hc;go_wp2;go_round
   case rel=>exact ⟨k+1,by omega,by go_num,qQ (by rw[kN hlt,Pure.sS];exact L8 _ _)⟩
   case measure=>simp[intOf];omega
  ·exact acM
theorem aac {p:Prop} (h:p:=by
 go_wp2
 go_loopw [3,4] (fun o i wr=>∃ k:Nat,k<=8/\i = .int .i64 ((7:Int)-k)/\wr.ownsRow w.heap.size 5 1 o k ((Pure.oh v 8 k).map U8)/\w.grownBy wr none) (fun _ i _=>(intOf i+1).toNat)
 case atStart=>exact ⟨0,by omega,rfl,World.ownsRow_nil _ _ _ _,bh _ _⟩
 case round=>
  obtain ⟨k,hk,rfl,hown,hgr⟩:=hrel
  have hsz:=hgr.size
  by_cases hlt:k<8
  ·go_wp2_with (at_builtin;refine wpList_append_own _ rfl _ _ 37 rfl w.heap.size 5 i0 (.int .u8 0) 1 1 underlying37 hi hz0 hz1 hz2 rfl afq _ _ _ rfl (hown.alloc _) ⟨wr.heap.size,0,none⟩ 1 1 ([Pure.dW v (7-k)].map U8) rfl rfl ?c1 ?c2 ?c3 ?c4 ?c5 ?_)
   case c1=>exact xR _ _ _ _
   case c2=>exact nU _
   case c3=>unfold maxLen;omega
   case c4=>omega
   case c5=>simp;omega
   ·intro v' w1 hown' hg1 _
    have R:w1.ownsRow w.heap.size 5 1 v' (k+1) ((Pure.oh v 8 (k+1)).map U8)/\w.grownBy w1 none:=⟨by rw[Pure.lW,cW];exact hown',iw (aR hgr _) hg1 (fun i hi=>(hown.lt i hi).1)⟩
    clear hown hown' hg1 hgr
    go_wp2
    go_roundw
    case rel=>exact ⟨k+1,by omega,by go_num,R.1,R.2⟩
    case measure=>simp[intOf];omega
  ·have WS:k=8:=by omega
   subst WS
   go_wp2
   go_ret
   exact ⟨_,rfl,hown,hgr⟩):p:=h
theorem ni (v:UInt64) (w:World) :
  Calls prog 84 #[.int .u64 (v.toNat:Int)] w fun e w'=>∃ o,e = .returned o/\w'.ownsRow w.heap.size 5 1 o 8 ((Pure.be v 8).map U8)/\w.grownBy w' none:=by
 obtain ⟨i0,hi,hz0,hz1,hz2⟩:=info_parts Tryz.info5
 go_enter func84,ntmps84
 exact aac
theorem zu (xs ys:List UInt8) (n m:Nat) (ao bo:Option Addr) (ca cb:Nat) (w:World) (hn:Hid (xs.length=n)) (hm:Hid (ys.length=m)) (hl:n<=140737488355328) (ha:At w ao xs) (hb:At w bo ys) :
  Calls prog 88 #[.slice ao n ca,.slice bo m cb] w fun e w'=>e = .returned (.bool (xs==ys))/\w.grownBy w' none:=by
 obtain rfl:=hn.o
 obtain rfl:=hm.o
 by_cases hlen:xs.length=ys.length
 ·have HL:Hid (xs.length=ys.length):=hlen;have hne:((xs.length:Int) != (ys.length:Int))=false:=by rw[hlen];simp
  clear hlen;go_enter func88,ntmps88;go_wp2;go_loopw [5] (fun i wr=>∃ k:Nat,k<=xs.length/\i = .int .i64 k/\xs.take k=ys.take k/\w.grownBy wr none) (fun i _=>xs.length-(intOf i).toNat)
  case atStart=>exact ⟨0,cE _,rfl,by simp,bh _ _⟩
  case round=>
   obtain ⟨k,hk,rfl,htk,hgr⟩:=hrel;have HT:Hid (xs.take k=ys.take k):=htk;clear htk;by_cases hlt:k<xs.length
   ·have hlt2:k<ys.length:=(by rw[<-HL.o];exact hlt);obtain ⟨b,off,rfl,hck⟩:=(ha.below hgr) k hlt;obtain ⟨b2,anJ,rfl,anK⟩:=(hb.below hgr) k hlt2;clear ha hb;by_cases he:xs[k]=ys[k]
    ·have hq:(((xs[k]).toNat:Int) != ((ys[k]).toNat:Int))=false:=(by rw[he];simp);have HE:Hid (xs[k]=ys[k]):=he;clear he;go_wp2_with fail;go_quiet (fail)
     go_wp2;go_roundw
     case rel=>exact ⟨k+1,by omega,by go_num,by rw[kN hlt,kN hlt2,HT.o,HE.o],aY hgr _⟩
     case measure=>simp[intOf];omega
    ·have hq:(((xs[k]).toNat:Int) != ((ys[k]).toNat:Int))=true:=by
      rw[fj];intro h;exact he (UInt8.toNat_inj.1 afp)
     have hf:(xs==ys)=false:=by
      rw[cg];intro h;subst h;exact he rfl
     clear he;go_wp2_with fail;go_quiet (fail)
     go_wp2;go_ret;exact ⟨by rw[hf];rfl,aY hgr _⟩
   ·have ht:(xs==ys)=true:=by
     have h:=HT.o;rw[cV afp,cV (by rw[<-HL.o];omega)] at h;rw[h];simp
    clear ha hb;go_wp2;go_ret;exact ⟨by rw[ht];rfl,hgr⟩
 ·have hne:((xs.length:Int) != (ys.length:Int))=true:=by rw[fj];omega
  have hf:(xs==ys)=false:=by rw[cg];intro h;exact hlen (by rw[h])
  clear hlen;go_enter func88,ntmps88;go_wp2;go_ret;exact ⟨rfl,bh _ _⟩
def Items (w:World) (b:Nat) (l:List (Option Addr×Nat×List UInt8)):Prop:=
 ∀ j,(hj:j<l.length)->w.cell? ⟨b,j,none⟩=some (.slice (l[j]).1 (l[j]).2.2.length (l[j]).2.1)/\At w (l[j]).1 (l[j]).2.2/\((l[j]).1=none->(l[j]).2.1=0)
def cat (l:List (Option Addr×Nat×List UInt8)):List UInt8:=(l.map fun x=>x.2.2).flatten
theorem I1 (l:List (Option Addr×Nat×List UInt8)) (k:Nat) (h:k<l.length):cat (l.take (k+1))=cat (l.take k)++(l[k]).2.2:=by
 unfold cat;rw[ee h,cW,List.flatten_append];simp only[dj,eV,dk,List.flatten_nil,fg]
theorem aar (l:List (Option Addr×Nat×List UInt8)) (k:Nat):(cat (l.take k)).length<=(cat l).length:=by
 conv=>rhs;rw[<-ey k l]
 unfold cat;rw[cW,List.flatten_append,bj];omega
theorem Items.grown {w w':World} {b:Nat} {l:List (Option Addr×Nat×List UInt8)} (h:Items w b l) (k:w.grownBy w' none):Items w' b l:=by
 intro j hj;obtain ⟨h1,h2,h3⟩:=h j hj;exact ⟨k.cell h1 aft,h2.below k,h3⟩
theorem abG {p:Prop} (h:p:=by
 go_wp2
 go_roundw
 case rel=>exact ⟨k+1,by omega,by go_num,R.1,R.2⟩
 case measure=>simp[intOf];omega):p:=h
theorem Md (b cap m:Nat) (l:List (Option Addr×Nat×List UInt8)) (w:World) (hm:Hid (l.length=m)) (zm:m<=140737488355328) (hl:(cat l).length<=140737488355328) (hi:Items w b l) :
  Calls prog 85 #[.slice (some ⟨b,0,none⟩) m cap] w fun e w'=>∃ o,e = .returned o/\w'.ownsRow w.heap.size 5 1 o (cat l).length ((cat l).map U8)/\w.grownBy w' none:=by
 obtain ⟨i0,hif,hz0,hz1,hz2⟩:=info_parts Tryz.info5
 go_enter func85,ntmps85
 go_wp2
 go_loopw [3,4] (fun o i wr=>∃ k:Nat,k<=m/\i = .int .i64 k/\wr.ownsRow w.heap.size 5 1 o (cat (l.take k)).length ((cat (l.take k)).map U8)/\w.grownBy wr none) (fun _ i _=>m-(intOf i).toNat)
 case atStart=>exact ⟨0,by omega,rfl,World.ownsRow_nil _ _ _ _,bh _ _⟩
 case round=>
  obtain ⟨k,hk,rfl,hown,hgr⟩:=hrel;have hsz:=hgr.size;by_cases hlt:k<m
  ·have hlt':k<l.length:=(by rw[hm.o];exact hlt);obtain ⟨hc,hat,hnc⟩:=(hi.grown hgr) k hlt';have hle:=aar l (k+1);rw[I1 l k hlt',bj] at hle;have hbd:(cat (l.take k)).length+((l[k]).2.2).length<=140737488355328:=(by omega);have HN:Hid ((l[k]).1=none->(l[k]).2.1=0):=hnc;clear hnc hle hi;go_wp2_with (at_builtin;refine bU _ rfl _ _ 37 rfl w.heap.size 5 i0 underlying37 hif hz0 hz1 hz2 _ _ _ rfl hown _ _ _ ((l[k]).2.2) rfl rfl HN.o hat hbd hsz ?_)
   intro v' w1 hown' hg1 _;have R:w1.ownsRow w.heap.size 5 1 v' (cat (l.take (k+1))).length ((cat (l.take (k+1))).map U8)/\w.grownBy w1 none:=⟨by rw[I1 l k hlt',bj,cW];exact hown',iw hgr hg1 (fun i hi=>(hown.lt i hi).1)⟩
   clear hown hown' hg1 hgr hat hbd HN hc;exact abG
  ·have Sb:k=m:=(by omega);subst Sb;clear hi;have hown2:wr.ownsRow w.heap.size 5 1 u3 (cat l).length ((cat l).map U8):=by
    rw[cV (by rw[hm.o];omega)] at hown;exact hown
   clear hown;go_wp2;go_ret;exact ⟨_,rfl,hown2,hgr⟩
theorem I4 (b cap m:Nat) (l:List (Option Addr×Nat×List UInt8)) (J:List UInt8) (w:World) (hm:Hid (l.length=m)) (hJ:Hid (cat l=J)) (zm:m<=140737488355328) (hl:J.length<=140737488355328) (hi:Items w b l) :
  Calls prog 85 #[.slice (some ⟨b,0,none⟩) m cap] w fun e w'=>∃ o,e = .returned o/\w'.ownsRow w.heap.size 5 1 o J.length (J.map U8)/\w.grownBy w' none:=by
 obtain rfl:=hJ.o
 exact Md b cap m l w hm zm hl hi
theorem afG {p:Prop} (h:p:=by rw[hn.o];omega):p:=h
theorem afP {p:Prop} (h:p:=by cases h:u9.ownBlock <;> simp):p:=h
theorem afQ {p:Prop} (h:p:=by intro h;cases h):p:=h
theorem aas (u:UInt64):Pure.be u 2=[Pure.dW u 1,Pure.dW u 0]:=rfl
theorem SH (w:World) (e:TypeId) (a0 a1 a2 a3:Option Addr) (c0 c1 c2 c3 l0 l1 l2 l3:Nat) (z0 z1 z2 z3:List UInt8) (h0:At w a0 z0) (h1:At w a1 z1) (h2:At w a2 z2) (h3:At w a3 z3)
  (n0:Hid (a0=none->c0=0)) (n1:Hid (a1=none->c1=0)) (n2:Hid (a2=none->c2=0)) (n3:Hid (a3=none->c3=0)) (e0:z0.length=l0) (e1:z1.length=l1) (e2:z2.length=l2) (e3:z3.length=l3) :
  Items (w.alloc (.cells #[.slice a0 l0 c0,.slice a1 l1 c1,.slice a2 l2 c2,.slice a3 l3 c3] e)) w.heap.size [(a0,c0,z0),(a1,c1,z1),(a2,c2,z2),(a3,c3,z3)]:=by
 subst e0 e1 e2 e3
 have g:∀ o,w.grownBy (w.alloc o) none:=fun o=>aE w o none
 intro j hj
 match j,hj with
 | 0,_=>exact ⟨by rw[World.cell?_alloc_at (hn:=rfl)];rfl,h0.below (g _),n0⟩
 | 1,_=>exact ⟨by rw[World.cell?_alloc_at (hn:=rfl)];rfl,h1.below (g _),n1⟩
 | 2,_=>exact ⟨by rw[World.cell?_alloc_at (hn:=rfl)];rfl,h2.below (g _),n2⟩
 | 3,_=>exact ⟨by rw[World.cell?_alloc_at (hn:=rfl)];rfl,h3.below (g _),n3⟩
theorem EN (key use draw:UInt64) (l:List UInt8):Pure.ic 0 (cat [(none,0,Pure.be key 8),(none,0,Pure.be use 1),(none,0,Pure.be draw 8),(none,0,l)])=Pure.ic (Pure.head key use draw) l:=by
 simp only[cat,dj,eV,dk,List.flatten_nil,fg];rw[Pure.head,Pure.Bu,<-Pure.Gg];simp
theorem PO {P:Program} {ops:Array Oper} {o:Oper} {a:Act} {w:World} {K:Act->World->Prop} {Q:Exit->Act->World->Prop} {E:Prop}
  (hg:o.guard=none) (f:FuncId) (xs:Array Operand) (ats:Array TypeId) (hop:o.op=Op.call {callee:=Callee.value (Operand.func f),args:=xs,argTypes:=ats})
  (fn:Func) (hf:P.funcs[f]?=some fn) (hname:(fn.name == "runtime.NumGoroutine")=false) (hbody:fn.body.isNone=false) (vs:Array Value) (hv:#[]++xs.map a.eval++#[]=vs) {R:Ending->World->Prop} (hc:Calls P f vs w R)
  (hK:∀ e w',R e w'->∃ v,e = .returned v/\K (a.put o.dst v) w') :
  if Region.wanted o (yielded ops a.tmps)=true then Oper.wp P o a w K Q else E:=by
 have hw:Region.wanted o (yielded ops a.tmps)=true:=by simp[Region.wanted,hg]
 rw[if_pos hw]
 have hx:execOp a.eval o=callFunc f (#[]++xs.map a.eval++#[]):=by
  obtain ⟨dst,op,type,pos,after,guard⟩:=o;simp only at hop hg;subst hop hg;rfl
 have hr:(callFunc f (#[]++xs.map a.eval++#[])).run P w = .ok (.enter f vs) w:=by
  rw[hv];have h1:¬ fn.name = "runtime.NumGoroutine":=by simpa using hname
  have h2:¬ fn.body=none:=by intro h;simp[h] at hbody
  simp[callFunc,hf,h1,h2]
 unfold Oper.wp
 rw[hx,hr,Oper.upon_enter]
 refine hc.mono ?_
 intro e w' h
 obtain ⟨v,rfl,h2⟩:=hK e w' h
 exact h2
theorem aat {w:World} {base:Nat} {e:TypeId} {v:Value} {h:UInt64} (hown:w.ownsRow base e 1 v 8 ((Pure.be h 8).map U8)) :
  ∃ b off cap,v = .slice (some ⟨b,off,none⟩) 8 cap/\w.cell? ⟨b,off,none⟩=some (.int .u8 ((Pure.dW h 7).toNat:Int)):=by
 obtain ⟨ao,cap,hv,_,_,_,hat⟩:=iI hown
 obtain ⟨b,off,h1,h2⟩:=hat 0 (by rw[Pure.bX];omega)
 subst h1
 exact ⟨b,off,cap,hv,h2⟩
theorem I5 (x y:UInt8):bits .xor .u8 (x.toNat:Int) (y.toNat:Int)=((x ^^^ y).toNat:Int):=by
 rw[u8_xor_nat _ _ x.toNat_lt y.toNat_lt,UInt8.toNat_xor]
theorem adA:(f84.name == "runtime.NumGoroutine")=false:=by kernel_rfl
theorem adB:f84.body.isNone=false:=by kernel_rfl
theorem SI (n:Nat):IntKind.u8.wrap ((n:Int) / 256)=(((UInt8.ofNat (n / 256)).toNat:Nat):Int):=by
 have h:(UInt8.ofNat (n / 256)).toNat=n / 256 % 256:=by rw[ec]
 rw[h];show ((n:Int) / 256) % 256=_;omega
theorem aeC {p:Prop} (h:p:=by
 have h:=hu.o
 have e:(Pure.dW use 0).toNat=use.toNat % 256:=by simp[Pure.dW]
 rw[e];omega):p:=h
theorem EO (key use draw:UInt64) (x:Int) (zs:List UInt8) (n:Nat) (ao:Option Addr) (cap:Nat) (w:World) (hx:1<=x/\x<=5) (hu:Hid (x=use.toNat)) (hn:Hid (zs.length=n)) (hl:n<=8388608) (hnc:ao=none->cap=0) (hz:At w ao zs) :
  Calls prog 47 #[.int .u64 (key.toNat:Int),.int .i64 x,.int .u64 (draw.toNat:Int),.slice ao n cap] w fun e w'=>
   ∃ o,e = .returned o/\w'.ownsRow w.heap.size 5 1 o (n+16) ((Pure.fq key use draw zs).map U8)/\w.grownBy w' none:=by
 obtain ⟨i0,hif,hz0,hz1,hz2⟩:=info_parts Tryz.info5
 obtain ⟨hx1,hx2⟩:=hx
 go_enter func47,ntmps47
 go_wp2_with fail
 refine (ni draw _).mono ?_
 rintro e w1 ⟨o1,rfl,hown1,hg1⟩
 go_wp2_with fail
 refine (ni key _).mono ?_
 rintro e w2 ⟨o2,rfl,hown2,hg2⟩
 obtain ⟨ak,ck,hv,_,_,hcn,adC⟩:=iI hown2
 subst hv
 obtain ⟨bk,Sc,ahv,hbk2⟩:=adC.addr (by rw[Pure.bX];omega)
 subst ahv
 have hne0:Hid (o1.ownBlock≠some bk):=by
  intro h;have h1:=(hown1.lt bk h).2;have h2:=(hown2.lt bk rfl).1;omega
 have rG:w2.ownsRow w.heap.size 5 1 o1 8 ((Pure.be draw 8).map U8):=hown1.kept hg2 (by cases h:o1.ownBlock <;> simp)
 have G2:=aa hg1 hg2
 clear hown1 hown2 hg1 hg2
 go_wp2
 go_loopw [9,11,12] (fun o i _ wr=>∃ k:Nat,k<=n/\i = .int .i64 k/\wr.ownsRow w.heap.size 5 1 o (8+k) ((Pure.be draw 8++Pure.veil (Pure.head key use draw) (zs.take k)).map U8)/\At wr (some ⟨bk,Sc,none⟩) (Pure.be key 8)/\w.grownBy wr none/\Hid (o.ownBlock≠some bk)/\bk<wr.heap.size) (fun _ i _ _=>n-(intOf i).toNat)
 case atStart=>exact ⟨0,by omega,rfl,by simpa[Pure.veil] using rG,adC,G2,hne0,hbk2⟩
 case round=>
  obtain ⟨k,hk,rfl,hown,hak,hgr,adD,hbk⟩:=hrel;by_cases hlt:k<n
  ·have eU:x=((Pure.dW use 0).toNat:Int):=by
    exact aeC
   have HU:Hid (x=((Pure.dW use 0).toNat:Int)):=eU;clear eU;go_wp2_with fail;refine (ni draw _).mono ?_;rintro e w3 ⟨o3,rfl,hown3,hg3⟩;obtain ⟨ad,cd,hv,_,_,hdn,SK⟩:=iI hown3;subst hv;clear hown3;have hau:At w3 (some ⟨wr.heap.size,0,none⟩) (Pure.be use 1):=(fG wr _ #[.int .u8 x] _ (by rw[HU.o];rfl)).below hg3;have SN:At w3 (some ⟨bk,Sc,none⟩) (Pure.be key 8):=(hak.below (aE wr _ none)).below hg3;have hwr:wr.heap.size<w3.heap.size:=(by have:=hg3.size;simp at this;omega);obtain ⟨J,HJ⟩:∃ J,Hid (cat [(some ⟨bk,Sc,none⟩,ck,Pure.be key 8),(some ⟨wr.heap.size,0,none⟩,1,Pure.be use 1),(ad,cd,Pure.be draw 8),(some ⟨w3.heap.size,0,none⟩,2,Pure.be (UInt64.ofNat k) 2)]=J):=⟨_,rfl⟩
   have HJl:Hid (J.length=19):=(by show _=_;rw[<-HJ.o];simp[cat,Pure.bX]);have HJh:Hid (Pure.ic 0 J=Pure.ic (Pure.head key use draw) (Pure.be (UInt64.ofNat k) 2)):=(by show _=_;rw[<-HJ.o];exact EN key use draw _);have hJb:J.length<=140737488355328:=(by rw[HJl.o];omega);have e2:#[Value.int IntKind.u8 (((UInt8.ofNat (k / 256)).toNat:Nat):Int),Value.int IntKind.u8 ((k:Int) % 256)].toList=(Pure.be (UInt64.ofNat k) 2).map U8:=by
    have e1:(UInt64.ofNat k).toNat=k:=Pure.lX k afp;have b1:(Pure.dW (UInt64.ofNat k) 1).toNat=k / 256 % 256:=(by simp[Pure.dW,e1]);have b0:(Pure.dW (UInt64.ofNat k) 0).toNat=k % 256:=(by simp[Pure.dW,e1]);rw[aas];simp only[dj,eV,U8,b1,b0];rw[show (UInt8.ofNat (k / 256)).toNat=k / 256 % 256 from by rw[ec],show ((k:Int) % 256)=((k % 256:Nat):Int) from by omega]
   have hI:Items ((w3.alloc (Obj.cells #[Value.int IntKind.u8 (((UInt8.ofNat (k / 256)).toNat:Nat):Int),Value.int IntKind.u8 ((k:Int) % 256)] 5)).alloc (Obj.cells #[Value.slice (some ⟨bk,Sc,none⟩) 8 ck,Value.slice (some ⟨wr.heap.size,0,none⟩) 1 1,Value.slice ad 8 cd,Value.slice (some ⟨w3.heap.size,0,none⟩) 2 2] 37)) (w3.heap.size+1) [(some ⟨bk,Sc,none⟩,ck,Pure.be key 8),(some ⟨wr.heap.size,0,none⟩,1,Pure.be use 1),(ad,cd,Pure.be draw 8),(some ⟨w3.heap.size,0,none⟩,2,Pure.be (UInt64.ofNat k) 2)]:=by
    have g:=aE w3 (Obj.cells #[Value.int IntKind.u8 (((UInt8.ofNat (k / 256)).toNat:Nat):Int),Value.int IntKind.u8 ((k:Int) % 256)] 5) none;have h:=SH (w3.alloc (Obj.cells #[Value.int IntKind.u8 (((UInt8.ofNat (k / 256)).toNat:Nat):Int),Value.int IntKind.u8 ((k:Int) % 256)] 5)) 37 (some ⟨bk,Sc,none⟩) (some ⟨wr.heap.size,0,none⟩) ad (some ⟨w3.heap.size,0,none⟩) ck 1 cd 2 8 1 8 2 _ _ _ _ (SN.below g) (hau.below g) (SK.below g) (fG w3 _ _ _ e2) hcn afQ hdn afQ (Pure.bX _ _) (Pure.bX _ _) (Pure.bX _ _) (Pure.bX _ _);rw[ch] at h;exact h
   clear e2;have hwr:=SI k;go_wp2_with fail;refine (I4 (w3.heap.size+1) 4 4 _ J _ (by show List.length _=4;rfl) HJ afp hJb hI).mono ?_;rintro e w4 ⟨o4,rfl,si,hg4⟩;obtain ⟨aj,cj,hv,_,_,_,SQ⟩:=iI si;subst hv;have G4:w.grownBy w4 none:=aa (aR (aR (aa (aR hgr _) hg3) _) _) hg4;have anM:bk<w4.heap.size:=(by have h1:=hg3.size;have h2:=hg4.size;simp at h1 h2;omega);have K4:wr.grownBy w4 none:=aa (aR (aR (aa (aE wr _ _) hg3) _) _) hg4;have hown5:w4.ownsRow w.heap.size 5 1 u9 (8+k) ((Pure.be draw 8++Pure.veil (Pure.head key use draw) (zs.take k)).map U8):=hown.kept K4 afP;have adG:=hak.below K4;clear si hI SK hau SN hown hak hgr hg3 hg4 hwr;go_wp2_with fail;refine (EM J J.length _ _ _ (hid rfl) hJb SQ).mono ?_;rintro e w' ⟨rfl,rfl⟩;rw[HJh.o];have hlz:k<zs.length:=(by rw[hn.o];exact hlt);obtain ⟨bz,oz,rfl,hcz⟩:=(hz.below G4) k hlz;go_wp2_with fail;have hbd:8+k+1<=140737488355328:=(by omega);have aau:=G4.size;go_region_law (first|(refine PO rfl 84 _ _ rfl f84 func84 adA adB #[.int .u64 ((Pure.ic (Pure.head key use draw) (Pure.be (UInt64.ofNat k) 2)).toNat:Int)] (by first | rfl | simp[Act.eval,Act.put]) (ni _ _) ?_;rintro e w5 ⟨o5,rfl,hown6,wY⟩;refine ⟨_,rfl,?_⟩;obtain ⟨b5,anN,c5,hv5,PK⟩:=aat hown6;subst hv5;have ahx:w5.cell? ⟨bz,oz+k,none⟩=some (.int .u8 (zs[k].toNat:Int)):=wY.cell hcz aft;have K5:=iN wY;have wK:w5.ownsRow w.heap.size 5 1 u9 (8+k) ((Pure.be draw 8++Pure.veil (Pure.head key use draw) (zs.take k)).map U8):=hown5.kept K5 afP;have hsz5:w4.heap.size<=w5.heap.size:=K5.size)|(refine BB rfl _ _ 37 rfl w.heap.size 5 i0 underlying37 hif hz0 hz1 hz2 u9 (8+k) _ ?s1 (wK.alloc _) (some ⟨w5.heap.size,0,none⟩) 1 1 [zs[k] ^^^ Pure.mask (Pure.head key use draw) k] ?s2 rfl ?s3 ?s4 hbd ?s5 ?_;(case s1=>first | rfl | simp[Act.eval,Act.put]);(case s2=>first | rfl | simp[Act.eval,Act.put]);(case s3=>intro h;cases h);(case s4=>exact fG w5 _ _ _ (by rw[I5];rfl));(case s5=>simp;omega);intro v' w6 I6 hg8 hblk))
   all_goals
    have R:w6.ownsRow w.heap.size 5 1 v' (8+(k+1)) ((Pure.be draw 8++Pure.veil (Pure.head key use draw) (zs.take (k+1))).map U8)/\At w6 (some ⟨bk,Sc,none⟩) (Pure.be key 8)/\w.grownBy w6 none/\Hid (v'.ownBlock≠some bk)/\bk<w6.heap.size:=by
     refine ⟨?_,?_,?_,?_,?_⟩
     ·rw[Pure.EI _ zs k hlz,<-cR];exact I6
     ·exact ((adG.below K5).below (aE _ _ _)).grown hg8 (fun b off h _=>by simp at h;intro e;exact adD.o (by rw[<-e,h.1]))
     ·exact iw (aR (aa G4 K5) _) hg8 (fun i hi=>(wK.lt i hi).1)
     ·intro h;rcases hblk.o with h1 | h1
      ·exact adD.o (h1 ▸ h)
      ·rw[h1] at h;simp at h;omega
     ·have:=hg8.size;simp at this;omega
    clear I6 hg8 hblk wK ahx PK hown6 wY K5 hown5 adG hcz G4 K4 SQ
    go_wp2
    go_roundw
    case rel=>exact ⟨k+1,by omega,by go_num,R.1,R.2.1,R.2.2.1,R.2.2.2.1,R.2.2.2.2⟩
    case measure=>simp[intOf];omega
  ·have hkn:k=n:=(by omega);subst hkn;have eU:x=((Pure.dW use 0).toNat:Int):=by
    exact aeC
   have HU:Hid (x=((Pure.dW use 0).toNat:Int)):=eU;clear eU;have hown0:wr.ownsRow w.heap.size 5 1 u9 (8+k) ((Pure.be draw 8++Pure.veil (Pure.head key use draw) zs).map U8):=by
    rw[cV afG] at hown;exact hown
   have hzr:=hz.below hgr;clear hown;go_wp2_with fail;refine (ni draw _).mono ?_;rintro e w3 ⟨o3,rfl,hown3,hg3⟩;obtain ⟨ad,cd,hv,_,_,hdn,SK⟩:=iI hown3;subst hv;clear hown3;have hau:At w3 (some ⟨wr.heap.size,0,none⟩) (Pure.be use 1):=(fG wr _ #[.int .u8 x] _ (by rw[HU.o];rfl)).below hg3;have SN:At w3 (some ⟨bk,Sc,none⟩) (Pure.be key 8):=(hak.below (aE wr _ none)).below hg3;have hz3:At w3 ao zs:=(hzr.below (aE wr _ none)).below hg3;obtain ⟨J,HJ⟩:∃ J,Hid (cat [(some ⟨bk,Sc,none⟩,ck,Pure.be key 8),(some ⟨wr.heap.size,0,none⟩,1,Pure.be use 1),(ad,cd,Pure.be draw 8),(ao,cap,zs)]=J):=⟨_,rfl⟩
   have hJb:J.length<=140737488355328:=by
    have h:=hn.o;rw[<-HJ.o];simp[cat,Pure.bX];omega
   have HJh:Hid (Pure.ic 0 J=Pure.ic (Pure.head key use draw) zs):=by show _=_;rw[<-HJ.o];exact EN key use draw _
   have hI:Items (w3.alloc (Obj.cells #[Value.slice (some ⟨bk,Sc,none⟩) 8 ck,Value.slice (some ⟨wr.heap.size,0,none⟩) 1 1,Value.slice ad 8 cd,Value.slice ao k cap] 37)) w3.heap.size [(some ⟨bk,Sc,none⟩,ck,Pure.be key 8),(some ⟨wr.heap.size,0,none⟩,1,Pure.be use 1),(ad,cd,Pure.be draw 8),(ao,cap,zs)]:=
    SH w3 37 (some ⟨bk,Sc,none⟩) (some ⟨wr.heap.size,0,none⟩) ad ao ck 1 cd cap 8 1 8 k _ _ _ _ SN hau SK hz3 hcn afQ hdn hnc (Pure.bX _ _) (Pure.bX _ _) (Pure.bX _ _) hn.o
   clear hnc;go_wp2_with fail;refine (I4 w3.heap.size 4 4 _ J _ (by show List.length _=4;rfl) HJ afp hJb hI).mono ?_;rintro e w4 ⟨o4,rfl,si,hg4⟩;obtain ⟨aj,cj,hv,_,_,_,SQ⟩:=iI si;subst hv;have G4:w.grownBy w4 none:=aa (aR (aa (aR hgr _) hg3) _) hg4;have K4:wr.grownBy w4 none:=aa (aR (aa (aE wr _ _) hg3) _) hg4;have hown5:w4.ownsRow w.heap.size 5 1 u9 (8+k) ((Pure.be draw 8++Pure.veil (Pure.head key use draw) zs).map U8):=hown0.kept K4 afP;clear si hI SK hau SN hown0 hak hgr hg3 hg4 hz3 hzr K4;go_wp2_with fail;refine (EM J J.length _ _ _ (hid rfl) hJb SQ).mono ?_;rintro e w' ⟨rfl,rfl⟩;rw[HJh.o];clear SQ;go_wp2_with fail;refine (ni _ _).mono ?_;rintro e w5 ⟨o5,rfl,hown6,wY⟩;obtain ⟨ah,c5,hv5,_,_,hhn,wZ⟩:=iI hown6;subst hv5;have wK:w5.ownsRow w.heap.size 5 1 u9 (8+k) ((Pure.be draw 8++Pure.veil (Pure.head key use draw) zs).map U8):=hown5.kept wY afP;have hsz5:w.heap.size<=w5.heap.size:=br G4.size wY.size;have hbd:8+k+8<=140737488355328:=(by omega);have H8:Hid ((Pure.be (Pure.ic (Pure.head key use draw) zs) 8).length=8):=Pure.bX _ _;have G5:=aa G4 wY;clear hown6 hown5 wY G4;go_wp2_with (at_builtin;refine bU _ rfl _ _ 37 rfl w.heap.size 5 i0 underlying37 hif hz0 hz1 hz2 _ _ _ rfl wK _ _ _ (Pure.be (Pure.ic (Pure.head key use draw) zs) 8) rfl H8.o hhn.o wZ hbd hsz5 ?_;intro v' w6 I6 hg8 _)
   have R:w6.ownsRow w.heap.size 5 1 v' (k+16) ((Pure.fq key use draw zs).map U8)/\w.grownBy w6 none:=by
    refine ⟨?_,iw G5 hg8 (fun i hi=>(wK.lt i hi).1)⟩;rw[show k+16=8+k+8 from by omega];exact I6
   clear I6 hg8 wK wZ G5;go_wp2;go_ret;exact ⟨_,rfl,R.1,R.2⟩
theorem uN (key use draw:UInt64) (x:Int) (zs:List UInt8) (n:Nat) (ao:Option Addr) (cap:Nat) (w:World) (hx:1<=x/\x<=5) (hu:Hid (x=use.toNat)) (hn:Hid (zs.length=n)) (hl:n<=1000) (hnc:ao=none->cap=0) (hz:At w ao zs) :
  Calls prog 47 #[.int .u64 (key.toNat:Int),.int .i64 x,.int .u64 (draw.toNat:Int),.slice ao n cap] w fun e w'=>
   ∃ o,e = .returned o/\w'.ownsRow w.heap.size 5 1 o (n+16) ((Pure.fq key use draw zs).map U8)/\w.grownBy w' none:=
 EO key use draw x zs n ao cap w hx hu hn (br hl afq) hnc hz
theorem xX {P:Program} (t e:TypeId) (i:TypeInfo) (ht:P.underlying t=some (.slice e)) (hi:P.info? e=some i) (hs:i.size=1) (b off len cap l h:Nat) (y z:Int) (hy:y=(l:Int)) (hz:z=(h:Int)) (hl:l<=h) (hh:h<=cap) (hlc:l<cap) (w:World) :
  (Instr.sliceAt t (.slice (some ⟨b,off,none⟩) len cap) (some (.int .i64 y)) (some (.int .i64 z)) none).run P w = .ok (.slice (some ⟨b,off+l,none⟩) (h-l) (cap-l)) w:=by
 subst hy hz
 have he:P.elem t=e:=by simp[Program.elem,ht]
 have ht':P.underlying t=some (.slice (P.elem t)):=by rw[he];exact ht
 have hcl:cap≠l:=by omega
 rw[run_sliceAt_slice w t _ _ _ _ ht',run_slice_lh w t _ len cap ht' .i64 .i64 (l:Int) (h:Int) afp afp afp,he]
 simp[sizeOf,typeInfo,hi,hs,sliced,hcl,Addr.add_lit]
theorem acP {p:Prop} (h:p:=by
 go_ret2
 exact ⟨rfl,rfl⟩):p:=h
theorem I7 (key:Int) (x:Int) (ao:Option Addr) (n cap:Nat) (w:World) (hn:n<16) :
  Calls Tryz.prog 49 #[.int .u64 key,.int .i64 x,.slice ao n cap] w fun e w'=>e = .returned (.tuple #[.slice none 0 0,.bool false])/\w=w':=by
 go_enter Tryz.func49,Tryz.ntmps49
 go_wp2
 exact acP
end Go.Proofs.YteknelimjfgmaaaGreatDoor
