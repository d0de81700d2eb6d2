/-
  
  
  
-/
import Derived.Test.YtpibgolaaaemnaaGreatDoorGUHead
import Derived.Test.YtpibgolaaaemnaaGreatDoorGUIns
import Derived.Test.YtpibgolaaaemnaaGreatDoorGUBase
import Derived.Deep.RegionWith
import Derived.Deep.QuietTactic
import Derived.BigQuiet
namespace Go.Proofs.YtpibgolaaaemnaaGreatDoor
open Go.RowKit
set_option maxRecDepth 100000
theorem Gj (h:UInt64) (zs:List UInt8) (ao:Option Addr) (cap n:Nat) (w:World) (hn:Hid (zs.length=n)) (hl:n≤140737488355328) (hc:At w ao zs) :
  Calls Tryz.prog 109 #[.int .u64 (h.toNat:Int),.slice ao n cap] w fun e w'=>e = .returned (.int .u64 ((Pure.lQ h zs).toNat:Int))∧w=w':=by
 obtain rfl:=hn.out
 exact qj h zs ao cap w hl hc
set_option maxHeartbeats 1000000 in
theorem vZ (ov:Value) (p:Option Pl) (bs:List UInt8) (v:UInt64) (size:Nat) (w:World) (hb:Out w ov p bs) (hs:size≤8) (hl:bs.length≤1000000) :
  Calls Tryz.prog 112 #[ov,.int .u64 (v.toNat:Int),.int .i64 size] w fun e w'=>∃ v',e = .returned v'∧aI w w' v' p (bs++Pure.be v size):=by
 obtain ⟨i0,hi,hz0,hz1,hz2⟩:=info_parts Tryz.info5
 go_enter Tryz.func112,Tryz.ntmps112
 go_wp2
 go_loopw [0,8] (fun o i wr=>∃ k:Nat,k≤size∧i = .int .i64 ((size:Int)-1-k)∧aI w wr o p (bs++Pure.oC v size k)) (fun _ i _=>(intOf i+1).toNat)
 case atStart=>exact ⟨0,Nat.zero_le _,by go_num,by simpa[Pure.oZ] using aI.refl hb⟩
 case round=>
  obtain ⟨k,hk,rfl,hbr⟩:=hrel
  by_cases hlt:k<size
  ·obtain ⟨p1,ho1,hcomp⟩:=hbr
   have HC:=hid hcomp
   clear hcomp
   have hsrc:∀ x,x=((Pure.fO v (size-1-k)).toNat:Int)→Src Tryz.prog 1 25 (.slice (some ⟨wr.heap.size,0,none⟩) 1 1) 1 ([Pure.fO v (size-1-k)].map U8) (wr.alloc (.cells #[.int .u8 x] 5)):=by
    intro x hx
    refine qp (P:=Tryz.prog) Tryz.underlying25 _ 1 1 [Pure.fO v (size-1-k)] rfl ?_
    exact eQ _ _ _ _ (by rw[hx];rfl)
   go_wp2_with (at_builtin;refine bY _ rfl _ _ 25 25 rfl 5 i0 Tryz.underlying25 hi hz0 hz1 hz2 _ _ p1 _ [Pure.fO v (size-1-k)] rfl rfl (ho1.grown (World.grownBy_alloc _ _ _)) 1 (hsrc _ ?c1) ?c2 ?_)
   case c1=>exact kU v _
   case c2=>simp[Pure.iI];omega
   ·intro v1 w1 R1
    have R:=aI.comp HC.out (R1.before (World.grownBy_alloc _ _ _)) (by simp)
    have R2:aI w w1 v1 p (bs++Pure.oC v size (k+1)):=by rw[Pure.mG];simpa only [List.append_assoc] using R
    clear R R1 ho1 hb HC
    go_wp2
    go_roundw
    case rel=>exact ⟨k+1,by omega,by go_num,R2⟩
    case measure=>simp[intOf];omega
  ·have hks:k=size:=by omega
   subst hks
   go_wp2
   go_ret
   exact ⟨_,rfl,hbr⟩
theorem Out.buf {w:World} {g cap:Nat} {bs:List UInt8} (h:Buf w g cap bs):Live w g cap∧w.rangeAt g 0 (bs.map U8):=by
 have h0:=h
 obtain ⟨cur,e,h1,h2,_⟩:=h
 exact ⟨⟨cur,e,h1,by omega⟩,At.range h0.at⟩
theorem NP (head:UInt64) (ao:Option Addr) (p:Option Pl) (A zs:List UInt8) (fr n cap:Nat) (w:World) (hv:Out w (.slice ao n cap) p (A++zs)) (hA:Hid (A.length=fr)) (hN:Hid ((A++zs).length=n)) (hl:n≤900000) :
  Calls Tryz.prog 110 #[.slice (sl ao cap fr) (n-fr) (cap-fr),.int .u64 (head.toNat:Int)] w fun e w'=>e = .returned (.tuple #[])∧Out w' (.slice ao n cap) p (A++Pure.veil head zs)∧CF w w' (Pl.has p):=by
 have hlen:(A++zs).length=A.length+zs.length:=List.length_append
 rw[hA.out,hN.out] at hlen
 by_cases hz:zs=[]
 ·subst hz
  rw[List.length_nil] at hlen
  rw[show n-fr=0 from by omega]
  refine (Di _ _ head w).mono ?_
  rintro e w' ⟨rfl,g⟩
  refine ⟨rfl,?_,CF.aW g _⟩
  have:=hv.grown g
  simpa[Pure.veil] using this
 ·have hzp:=List.length_pos_iff.2 hz
  rcases hv with ⟨_,_,h⟩ | ⟨q,hp,hvv,h1,h2,h3,h4⟩
  ·rw[List.append_eq_nil_iff] at h;exact absurd h.2 hz
  ·injection hvv with e1 e2 e3
   subst e1 e3
   have hs:sl (some ⟨q.g,q.off,none⟩) q.cap fr=some ⟨q.g,q.off+fr,none⟩:=by
    rw[sl,if_neg (by have:=hN.out;omega)]
    simp[Addr.add_lit]
   have h4b:q.off+fr+(n-fr)≤q.off+q.cap:=by have:=hN.out;omega
   have hrz:w.rangeAt q.g (q.off+fr) (zs.map U8):=by
    have:=nV (cs:=A.map U8) (ds:=zs.map U8) (by rw[←List.map_append];exact h4)
    rw[List.length_map,hA.out] at this
    exact this
   have JV:w.rangeAt q.g q.off (A.map U8):=uP (ds:=zs.map U8) (by rw[←List.map_append];exact h4)
   rw[hs]
   refine (MB q.g (q.off+fr) (q.cap-fr) (n-fr) head zs w (h3.mono h4b) (hid (by omega)) (by omega) hrz).mono ?_
   rintro e w' ⟨rfl,r1,r2⟩
   have r3:CF w w' (Pl.has p):=r2.mono (fun b o _ e=>⟨q,hp,e.1,by omega,by have:=e.2;have:=hN.out;omega⟩)
   refine ⟨rfl,.inr ⟨q,hp,?_,?_,h2,h3.cf r3,?_⟩,r3⟩
   ·rw[e2];simp[Pure.eu]
   ·have:=h1;rw[List.length_append] at this ⊢;rw[Pure.eu];exact this
   ·rw[List.map_append]
    refine jZ (r2.range JV (fun j hj e=>?_)) (by rw[List.length_map,hA.out];exact r1)
    rw[List.length_map,hA.out] at hj
    omega
set_option maxHeartbeats 2000000 in
theorem Gl (key use draw:UInt64) (x:Int) (ov:Value) (p:Option Pl) (A zs:List UInt8) (fr:Nat) (ii:Int) (w:World) (hv:Out w ov p (A++zs)) (hA:Hid (A.length=fr)) (hii:ii=fr) (hu:Hid (x=use.toNat)) (Vq:use.toNat<9223372036854775808) (hl:(A++zs).length≤900000) :
  Calls Tryz.prog 74 #[ov,.int .i64 ii,.int .u64 (key.toNat:Int),.int .i64 x,.int .u64 (draw.toNat:Int)] w fun e w'=>∃ v',e = .returned v'∧aI w w' v' p (A++Pure.dK key use draw zs):=by
 subst hii
 obtain ⟨i0,hi,hz0,hz1,hz2⟩:=info_parts Tryz.info5
 obtain ⟨n,hn⟩:∃ n,(A++zs).length=n:=⟨_,rfl⟩
 have HN:=hid hn
 have hzl:zs.length=n-fr:=by have:=hA.out;rw[List.length_append] at hn;omega
 have HZ:=hid hzl
 have hfn:fr≤n:=by have:=hA.out;rw[List.length_append] at hn;omega
 rw[hn] at hl
 clear hn hzl
 obtain ⟨ao,cap,hvv,hc1,hc2,hat,hnc⟩:=hv.open HN
 subst hvv
 have hsl:=Co (P:=Tryz.prog) 25 5 i0 Tryz.underlying25 hi hz1 ao n cap fr hfn
 have zU:∀ w,At w ao (A++zs)→At w (sl ao cap fr) zs:=fun w h=>by
  have:=h.part cap fr (by rw[HN.out];exact hc1)
  rw[show (A++zs).drop fr=zs from by rw[←hA.out];simp] at this
  exact this
 clear hi hz0 hz1 hz2
 go_enter Tryz.func74,Tryz.ntmps74
 go_wp2_with fail
 refine (vY key use draw x w hu.out Vq).mono ?_
 rintro e w1 ⟨rfl,hg1⟩
 have hv1:=hv.grown hg1
 have nO:=zU w1 (hat.below hg1)
 clear hat zU hv
 go_wp2_with fail
 refine (Gj (Pure.head key use draw) zs _ _ (n-fr) w1 HZ (by omega) nO).mono ?_
 rintro e w2 ⟨rfl,rfl⟩
 go_wp2_with fail
 refine (NP (Pure.head key use draw) ao p A zs fr n cap w1 hv1 hA HN hl).mono ?_
 rintro e w3 ⟨rfl,hv3,F3⟩
 have G3:CF w w3 (Pl.has p):=CF.before hg1 F3
 clear nO hv1 F3 hsl
 go_wp2_with fail
 refine (ql w3.heap.size 8 [] draw 8 0 _ (Buf.new w3 _ _ 8 rfl (by decide)) rfl (by omega) (by simp)).mono ?_
 rintro e w4 ⟨rfl,hb4,hg4⟩
 have G4:w3.grownBy w4 none:=Es (World.grownBy_alloc w3 _ none) hg4 (Nat.le_refl _)
 have hv4:=hv3.grown G4
 obtain ⟨hL4,hr4⟩:=Out.buf hb4
 have abb:=hv3.Et
 have HLT:=hid (fun (q:Pl) (hq:p=some q)=>(Nat.ne_of_lt (abb q hq)).symm)
 have HL2:=hid (show (A++Pure.veil (Pure.head key use draw) zs).length+8≤1000000 from by have:=HN.out;rw[List.length_append] at this ⊢;rw[Pure.eu];omega)
 clear hb4 hg4 abb hv3
 go_wp2_with fail
 refine (zS _ p A (Pure.veil (Pure.head key use draw) zs) (Pure.be draw 8) fr _ w3.heap.size 0 8 8 w4 hv4 hA rfl (hid (Pure.di _ _)) (by omega) hL4 (by simpa using hr4) HLT.out HL2.out).mono ?_
 rintro e w5 ⟨v5,rfl,R5⟩
 have R5':=R5
 obtain ⟨p5,ho5,hc5⟩:=R5'
 have HC:=hid hc5
 have HL5:=hid (show (A++Pure.be draw 8++Pure.veil (Pure.head key use draw) zs).length≤1000000 from by have:=HL2.out;simp only[List.length_append] at this ⊢;rw[Pure.di];omega)
 clear hv4 hL4 hr4 hc5 R5 HLT
 go_wp2_with fail
 refine (vZ v5 p5 _ (Pure.lQ (Pure.head key use draw) zs) 8 w5 ho5 (by omega) HL5.out).mono ?_
 rintro e w6 ⟨v6,rfl,R6⟩
 have R:=(aI.comp HC.out R6 (by simp)).from (G3.grown G4)
 clear R6 ho5 HC G3 G4
 go_wp2
 go_ret
 exact ⟨v6,rfl,by simpa[Pure.dK,List.append_assoc] using R⟩
theorem Buf.rZ {w:World} {g cap:Nat} {cur:Array Value} {e:TypeId} {bs:List UInt8} (h:w.heap[g]?=some (.cells cur e (0,0))) (hs:cur.size=cap) (hm:cap≤Go.maxLen) (hl:bs.length≤cap) (hr:w.rangeAt g 0 (bs.map U8)):Buf w g cap bs:=by
 refine ⟨cur,e,h,hs,hm,hl,?_⟩
 apply List.ext_getElem?
 intro j
 by_cases hj:j<bs.length
 ·have h1:=hr j (U8 bs[j]) (by simp[hj])
  rw[Nat.zero_add,cell_of_row w g j cur e (0,0) h] at h1
  rw[List.getElem?_take_of_lt hj,Array.getElem?_toList,h1]
  simp[hj]
 ·rw[List.getElem?_eq_none (by simp;omega),List.getElem?_eq_none (by simp;omega)]
set_option maxHeartbeats 400000 in
theorem Vr (key use draw:UInt64) (x:Int) (ao:Option Addr) (zs:List UInt8) (cap:Nat) (w:World) (hx:zt x=true) (hu:x=use.toNat) (hl:zs.length≤200) (hz:At w ao zs) :
  Calls Tryz.prog 50 #[.int .u64 (key.toNat:Int),.int .i64 x,.int .u64 (draw.toNat:Int),.slice ao zs.length cap] w fun e w'=>
   ∃ g,e = .returned (.tuple #[.slice (some ⟨g,0,none⟩) (zs.length+16) (zs.length+16),.int .i64 0])∧w.heap.size≤g∧Buf w' g (zs.length+16) (Pure.dK key use draw zs)∧w.grownBy w' none:=by
 obtain ⟨i0,hi,hz0,hz1,hz2⟩:=info_parts Tryz.info5
 have hmk:∀ w,(Instr.makeSlice 25 (.int .i64 0) (.int .i64 ((zs.length:Int)+16))).run Tryz.prog w = .ok (.slice (some ⟨w.heap.size,0,none⟩) 0 (zs.length+16)) (w.alloc (.cells (madeCells #[.int .u8 0] (zs.length+16)) 5)):=
  fun w=>by have:=zO (P:=Tryz.prog) 25 5 i0 Tryz.underlying25 hi hz0 hz1 hz2 (zs.length+16) (by omega) w;simpa using this
 have hv:use.toNat<9223372036854775808:=by simp[zt] at hx;omega
 have HU:Hid (x=use.toNat):=hu
 obtain ⟨W,hW⟩:∃ W,W=w.alloc (.cells (madeCells #[.int .u8 0] (zs.length+16)) 5):=⟨_,rfl⟩
 have hblk:W.heap[w.heap.size]?=some (.cells (madeCells #[.int .u8 0] (zs.length+16)) 5 (0,0)):=by rw[hW];exact heap_alloc_new w _
 have hG:w.grownBy W none:=by rw[hW];exact World.grownBy_alloc w _ none
 have hmz:(madeCells #[Value.int .u8 0] (zs.length+16)).size=zs.length+16:=by simp[madeCells]
 have hO:Out W (.slice (some ⟨w.heap.size,0,none⟩) 0 (zs.length+16)) (some ⟨w.heap.size,0,zs.length+16⟩) []:=
  .inr ⟨_,rfl,rfl,Nat.zero_le _,by show zs.length+16≤maxLen;unfold maxLen;omega,⟨_,_,hblk,by show 0+(zs.length+16)≤_;rw[hmz];omega⟩,fun j u hu=>by simp at hu⟩
 have hsrc:=qp (P:=Tryz.prog) (w:=W) Tryz.underlying25 ao zs.length cap zs rfl (hz.below hG)
 have abe:=hmk w
 rw[←hW] at abe
 have HBK:=hid hblk
 clear hu hmk hW hblk
 go_enter Tryz.func50,Tryz.ntmps50
 go_wp2_with (first|(go_at_call 73;refine (pE _ _).mono ?_;rintro e w' ⟨rfl,rfl⟩)|(at_builtin;refine bY _ rfl _ _ 25 25 rfl 5 i0 Tryz.underlying25 hi hz0 hz1 hz2 _ _ _ [] zs rfl rfl hO _ hsrc (by simp;omega) ?_;intro v1 w1 R1))
 rw[List.nil_append] at R1
 obtain ⟨p1,ho1,hf1,he1,hs1⟩:=R1
 have hp1:=hs1 _ rfl (by show zs.length≤zs.length+16;omega)
 subst hp1
 refine (Gl key use draw x v1 _ [] zs 0 _ w1 (by simpa using ho1) (hid rfl) rfl HU hv (by simp;omega)).mono ?_
 rintro e w2 ⟨v2,rfl,R2⟩
 obtain ⟨p2,ho2,hf2,he2,hs2⟩:=R2
 have hp2:=hs2 _ rfl (by show ([]++Pure.dK key use draw zs).length≤zs.length+16;rw[List.nil_append,Pure.bO];omega)
 subst hp2
 rw[List.nil_append] at ho2
 have F:CF W w2 (Pl.has (some ⟨w.heap.size,0,zs.length+16⟩)):=hf1.trans hf2 (fun _ _ _ e=>e)
 have RR:Hid (v2 = .slice (some ⟨w.heap.size,0,none⟩) (zs.length+16) (zs.length+16)∧Buf w2 w.heap.size (zs.length+16) (Pure.dK key use draw zs)∧w.grownBy w2 none):=by
  rcases ho2 with ⟨h,_⟩ | ⟨q,hq,hv2,h1,h2,h3,h4⟩
  ·cases h
  ·injection hq with hq
   subst hq
   obtain ⟨cur',k1,k2,_⟩:=F.cells _ _ _ _ HBK.out
   refine ⟨by rw[hv2,Pure.bO],Buf.rZ k1 (by rw[k2,hmz]) h2 h1 h4,?_⟩
   refine ((CF.aW hG (fun _ _=>False)).trans F (fun b o hb e=>?_)).gb (fun _ _ _ e=>e)
   obtain ⟨q,hq,e1,_⟩:=e
   injection hq with hq
   subst hq
   exact absurd hb (by rw[e1];exact Nat.lt_irrefl _)
 clear ho2 hf2 he2 hs2 F ho1 hf1 he1 hs1 hO hsrc abe HBK hG
 obtain ⟨rfl,B2,G2⟩:=RR.out
 go_wp2
 go_ret2
 exact ⟨w.heap.size,rfl,Nat.le_refl _,B2,G2⟩
theorem QH (h:UInt64) (zs:List UInt8) (n:Nat) (ao:Option Addr) (cap:Nat) (w:World) (hn:zs.length=n) (hl:n≤140737488355328) (hc:At w ao zs) :
  Calls Tryz.prog 109 #[.int .u64 (h.toNat:Int),.slice ao n cap] w fun e w'=>e = .returned (.int .u64 ((Pure.lQ h zs).toNat:Int))∧w=w':=by
 subst hn
 exact qj h zs ao cap w hl hc
theorem Kc (h:UInt64) (zs:List UInt8) (n:Nat) (ao:Option Addr) (cap:Nat) (w:World) (hn:zs.length=n) (hl:n≤140737488355328) (hc:At w ao zs) :
  Calls Tryz.prog 152 #[.int .u64 (h.toNat:Int),.slice ao n cap] w fun e w'=>e = .returned (.int .u64 ((Pure.joinL h zs).toNat:Int))∧w=w':=by
 subst hn
 exact Gf h zs ao cap w hl hc
theorem QL (h:UInt64) (zs:List UInt8) (n:Nat) (ao:Option Addr) (cap:Nat) (w:World) (nq:Nat) (hn:Hid (zs.length=n)) (hl:n≤140737488355328) (hc:At w ao zs) :
  Calls Tryz.prog 109 #[.int .u64 (h.toNat:Int),.slice ao n cap] (w.drewN nq) fun e w''=>e = .returned (.int .u64 ((Pure.lQ h zs).toNat:Int))∧∃ m,w''=w.drewN m:=
 (QH h zs n ao cap _ hn hl (hc.drewN nq)).mono fun _ _ ⟨h1,h2⟩=>⟨h1,nq,h2.symm⟩
theorem Yv (h:UInt64) (zs:List UInt8) (n:Nat) (ao:Option Addr) (cap:Nat) (w:World) (nq:Nat) (hn:Hid (zs.length=n)) (hl:n≤140737488355328) (hc:At w ao zs) :
  Calls Tryz.prog 152 #[.int .u64 (h.toNat:Int),.slice ao n cap] (w.drewN nq) fun e w''=>e = .returned (.int .u64 ((Pure.joinL h zs).toNat:Int))∧∃ m,w''=w.drewN m:=
 (Kc h zs n ao cap _ hn hl (hc.drewN nq)).mono fun _ _ ⟨h1,h2⟩=>⟨h1,nq,h2.symm⟩
end Go.Proofs.YtpibgolaaaemnaaGreatDoor
namespace Go.Proofs.YtpibgolaaaemnaaGreatDoor
open Go.RowKit
set_option maxRecDepth 100000
theorem Out.empty {w:World} {ao:Option Addr} {n cap:Nat} {p:Option Pl} {bs:List UInt8} (h:Out w (.slice ao n cap) p bs):Out w (.slice ao 0 cap) p []:=by
 rcases h with ⟨h1,h2,_⟩ | ⟨q,h1,h2,h3,h4,h5,_⟩
 ·injection h2 with e1 e2 e3;subst e1 e3;exact .inl ⟨h1,rfl,rfl⟩
 ·injection h2 with e1 e2 e3;subst e1 e3;exact .inr ⟨q,h1,rfl,Nat.zero_le _,h4,h5,fun j u hu=>by simp at hu⟩
theorem Kq (head:UInt64) (ao:Option Addr) (p:Option Pl) (zs:List UInt8) (n cap:Nat) (w:World) (hv:Out w (.slice ao n cap) p zs) (hN:Hid (zs.length=n)) (hl:n≤900000) :
  Calls Tryz.prog 110 #[.slice ao n cap,.int .u64 (head.toNat:Int)] w fun e w'=>e = .returned (.tuple #[])∧Out w' (.slice ao n cap) p (Pure.veil head zs)∧CF w w' (Pl.has p):=by
 rcases hv with ⟨hp,hvv,h⟩ | ⟨q,hp,hvv,h1,h2,h3,h4⟩
 ·injection hvv with e1 e2 e3
  subst e1 e2 e3 h
  refine (Di _ _ head w).mono ?_
  rintro e w' ⟨rfl,g⟩
  exact ⟨rfl,.inl ⟨hp,rfl,rfl⟩,CF.aW g _⟩
 ·injection hvv with e1 e2 e3
  subst e1 e3
  refine (MB q.g q.off q.cap n head zs w (h3.mono (by omega)) hN (by omega) h4).mono ?_
  rintro e w' ⟨rfl,r1,r2⟩
  have r3:CF w w' (Pl.has p):=r2.mono (fun b o _ e=>⟨q,hp,e.1,e.2.1,by have:=e.2.2;omega⟩)
  exact ⟨rfl,.inr ⟨q,hp,by rw[Pure.eu,←e2],by rw[Pure.eu];exact h1,h2,h3.cf r3,r1⟩,r3⟩
set_option maxHeartbeats 400000 in
theorem aby (rv:Value) (key x:Int) (v:Value) (w:World) (hx:zt x=false) :
  Calls Tryz.prog 107 #[rv,.int .u64 key,.int .i64 x,v] w fun e w'=>e = .returned (.tuple #[.slice none 0 0,.int .i64 1])∧w=w':=by
 go_enter Tryz.func107,Tryz.ntmps107
 go_wp2_with (go_at_call 73;refine (pE _ _).mono ?_;rintro e w' ⟨rfl,rfl⟩)
 go_ret2
 exact ⟨rfl,rfl⟩
set_option maxHeartbeats 400000 in
theorem Dz (rv:Value) (key x:Int) (ao:Option Addr) (n cap:Nat) (w:World) (hx:zt x=true) (hn:n<16∨216<n) :
  Calls Tryz.prog 107 #[rv,.int .u64 key,.int .i64 x,.slice ao n cap] w fun e w'=>e = .returned (.tuple #[.slice none 0 0,.int .i64 3])∧w=w':=by
 rcases hn with hn | hn
 ·go_enter Tryz.func107,Tryz.ntmps107
  go_wp2_with (go_at_call 73;refine (pE _ _).mono ?_;rintro e w' ⟨rfl,rfl⟩)
  go_ret2
  exact ⟨rfl,rfl⟩
 ·have h16:¬ n<16:=by omega
  go_enter Tryz.func107,Tryz.ntmps107
  go_wp2_with (go_at_call 73;refine (pE _ _).mono ?_;rintro e w' ⟨rfl,rfl⟩)
  go_ret2
  exact ⟨rfl,rfl⟩
set_option maxHeartbeats 1000000 in
theorem Ao (rv:Value) (p:Option Pl) (rb:List UInt8) (key use:UInt64) (x:Int) (ao:Option Addr) (zs:List UInt8) (L cap:Nat) (w:World) (hR:Out w rv p rb) (hx:zt x=true) (hu:Hid (x=use.toNat)) (hL:Hid (zs.length=L)) (h16:16≤L) (Ap:L≤216) (hcap:L≤cap) (hz:At w ao zs)
  (hsep:∀ b off,ao=some ⟨b,off,none⟩→∀ j,j<zs.length→¬ Pl.has p b (off+j)) :
  Calls Tryz.prog 107 #[rv,.int .u64 (key.toNat:Int),.int .i64 x,.slice ao L cap] w fun e w'=>
   (Pure.opens key use zs=true→∃ v',e = .returned (.tuple #[v',.int .i64 0])∧aI w w' v' p (Pure.gy key use zs))∧
   (Pure.opens key use zs=false→e = .returned (.tuple #[.slice none 0 0,.int .i64 3])∧CF w w' (Pl.has p)):=by
 obtain ⟨i0,hi,hz0,hz1,hz2⟩:=info_parts Tryz.info5
 obtain ⟨ra,YF,hrv,hr1,hr2,_,_⟩:=hR.open (hid rfl)
 have hR0:Out w (.slice ra 0 YF) p []:=by rw[hrv] at hR;exact hR.empty
 obtain ⟨rn,hrn⟩:∃ rn,rb.length=rn:=⟨_,rfl⟩
 rw[hrn] at hrv hr1
 subst hrv
 clear hrn hR
 have hv:use.toNat<9223372036854775808:=by have:=hu.out;simp[zt] at hx;omega
 have n16:¬ L<16:=by omega
 have hs0:=slice_head (P:=Tryz.prog) 25 5 i0 Tryz.underlying25 hi hz1 ra rn YF 0 (Nat.zero_le _)
 obtain ⟨a1,hs1,nO⟩:=Gi (P:=Tryz.prog) 25 5 i0 Tryz.underlying25 hi hz1 ao L cap hL hcap 8 (8:Int) rfl (by omega)
 obtain ⟨a2,hs2,NW⟩:=zT (P:=Tryz.prog) 25 5 i0 Tryz.underlying25 hi hz1 ao L cap hL hcap 8 (L-8) (8:Int) ((L:Int)-8) rfl (by omega) (by omega) (by omega)
 obtain ⟨a3,hs3,Cu⟩:=jL (P:=Tryz.prog) 25 5 i0 Tryz.underlying25 hi hz1 ao L cap hL hcap (L-8) ((L:Int)-8) (by omega) (by omega)
 rw[show L-(L-8)=8 from by omega] at hs3
 have afD:=hid hsep
 clear hsep
 go_enter Tryz.func107,Tryz.ntmps107
 go_wp2_with (go_at_call 73;refine (pE _ _).mono ?_;rintro e w' ⟨rfl,rfl⟩)
 refine (Kc 0 (zs.take 8) 8 _ _ _ (by rw[List.length_take,hL.out];omega) (by omega) (nO _ hz)).mono ?_
 rintro e w' ⟨rfl,rfl⟩
 go_wp2_with fail
 refine (vY key use (Pure.qf zs) x _ hu.out hv).mono ?_
 rintro e w1 ⟨rfl,hg1⟩
 have hz1':=hz.below hg1
 have XJ:=hR0.grown hg1
 clear hs1 nO hR0
 go_wp2_with fail
 have hl2:((zs.drop 8).take (L-8-8)).length=L-8-8:=by have h:=hL.out;simp;omega
 have HL2:=hid hl2
 have hsrc:=qp (P:=Tryz.prog) (w:=w1.drew) Tryz.underlying25 a2 (L-8-8) (cap-8) ((zs.drop 8).take (L-8-8)) hl2 (NW _ hz1')
 have HB2:=hid (show ([]:List UInt8).length+((zs.drop 8).take (L-8-8)).length≤140737488355328 from by rw[hl2];simp;omega)
 clear hl2 NW
 go_region_law (first|(refine yX rfl _ _ 25 25 rfl 5 i0 Tryz.underlying25 hi hz0 hz1 hz2 (.slice ra 0 YF) (.slice a2 (L-8-8) (cap-8)) p [] ((zs.drop 8).take (L-8-8)) ?s1 ?s2 XJ.drew _ hsrc HB2.out ?_;(case s1=>first | rfl | simp[Act.eval,Act.put]);(case s2=>first | rfl | simp[Act.eval,Act.put]);intro v2 w2 R2))
 all_goals
  rw[List.nil_append] at R2
  obtain ⟨p2,ho2,hc2⟩:=R2
  obtain ⟨va,vc,hvv,hv1,hv2,_,_⟩:=ho2.open HL2
  subst hvv
  have Kr:=hid (show CF w1 w2 (Pl.has p)∧(p2=p∨Pl.fresh w1.heap.size p2)∧∀ q,p=some q→((zs.drop 8).take (L-8-8)).length≤q.cap→p2=p from ⟨hc2.1.bM,hc2.2⟩)
  clear hc2 hsrc hs0 hs2 HB2
  go_wp2_with fail
  refine (Kq (Pure.head key use (Pure.qf zs)) va p2 _ _ vc w2 ho2 HL2 (by omega)).mono ?_
  rintro e w3 ⟨rfl,ho3,hf3⟩
  have hpl:Pure.gy key use zs=Pure.veil (Pure.head key use (Pure.qf zs)) ((zs.drop 8).take (L-8-8)):=by unfold Pure.gy;rw[hL.out,show L-16=L-8-8 from by omega]
  rw[←hpl] at ho3
  have R3:aI w1 w3 (.slice va (L-8-8) vc) p (Pure.gy key use zs):=aI.comp Kr.out ⟨p2,ho3,hf3,.inl rfl,fun _ _ _=>rfl⟩ (by rw[hpl,Pure.eu];exact Nat.le_refl _)
  have R:=hid (R3.before hg1)
  have hF:=R.out.cf
  have hz3:At w3 ao zs:=hz.cf hF afD.out
  have hend:At w3 a3 (zs.drop (L-8)):=Cu _ hz3
  have hdl:Hid ((zs.drop (L-8)).length=8):=by have h:=hL.out;show _=_;simp;omega
  have abz:Hid ((Pure.gy key use zs).length=L-8-8):=by have h:=hL.out;show _=_;rw[Pure.ni];omega
  obtain ⟨_,_,hvq,_,_,abA⟩:=ho3.shape
  rw[abz.out] at hvq
  injection hvq with e1 e2 e3
  subst e1
  clear e2 e3
  have abB:=abA.1
  have hle:L-8-8≤140737488355328:=by omega
  have h8:8≤140737488355328:=by omega
  clear hpl ho2 Kr hf3 R3 hz3 Cu abA ho3 HL2
  cases ho:Pure.opens key use zs
  all_goals
   have hbn:=Pure.NK key use zs L hL.out _ ho
   have HO:=hid ho
   clear ho
   go_wp2_with fail
   go_quiet (first|(go_at_call 109;exact QL (Pure.head key use (Pure.qf zs)) (Pure.gy key use zs) (L-8-8) _ _ w3 _ abz hle abB)|(go_at_call 152;refine Yv 0 (zs.drop (L-8)) 8 _ _ w3 _ hdl h8 hend))
   go_wp2
   go_ret2
   first
    | exact ⟨fun h=>absurd (HO.out.symm.trans h) (by decide),fun _=>⟨rfl,hF.drewN _⟩⟩
    | exact ⟨fun _=>⟨_,rfl,R.out.drewN _⟩,fun h=>absurd (HO.out.symm.trans h) (by decide)⟩
theorem wH {b o:Nat}:¬ Pl.has none b o:=by rintro ⟨q,hq,_⟩;cases hq
theorem aI.nil {w w':World} {v:Value} {bs:List UInt8} (h:aI w w' v none bs):∃ p,Out w' v p bs∧Pl.fresh w.heap.size p∧w.grownBy w' none:=by
 obtain ⟨p,h1,h2,h3,_⟩:=h
 refine ⟨p,h1,?_,h2.gb (fun _ _ _=>wH)⟩
 rcases h3 with h3 | h3
 ·rw[h3];intro q hq;cases hq
 ·exact h3
set_option maxHeartbeats 400000 in
theorem GL (key x:Int) (ao:Option Addr) (n cap:Nat) (w:World) (hx:zt x=true) (hn:n<16∨216<n) :
  Calls Tryz.prog 70 #[.int .u64 key,.int .i64 x,.slice ao n cap] w fun e w'=>e = .returned (.tuple #[.slice none 0 0,.int .i64 3])∧w=w':=by
 have H:=hid hn
 clear hn
 go_enter Tryz.func70,Tryz.ntmps70
 go_wp2_with (go_at_call 107;refine (Dz _ _ _ _ _ _ _ hx H.out).mono ?_;rintro e w' ⟨rfl,rfl⟩)
 go_ret2
 exact ⟨rfl,rfl⟩
set_option maxHeartbeats 400000 in
theorem Kt (key use:UInt64) (x:Int) (ao:Option Addr) (zs:List UInt8) (L cap:Nat) (w:World) (hx:zt x=true) (hu:Hid (x=use.toNat)) (hL:Hid (zs.length=L)) (h16:16≤L) (Ap:L≤216) (hcap:L≤cap) (hz:At w ao zs) (ho:Hid (Pure.opens key use zs=true)) :
  Calls Tryz.prog 70 #[.int .u64 (key.toNat:Int),.int .i64 x,.slice ao L cap] w fun e w'=>∃ v p,e = .returned (.tuple #[v,.int .i64 0])∧Out w' v p (Pure.gy key use zs)∧Pl.fresh w.heap.size p∧w.grownBy w' none:=by
 go_enter Tryz.func70,Tryz.ntmps70
 go_wp2_with fail
 refine (Ao _ none [] key use x ao zs L cap w (Out.nil w) hx hu hL h16 Ap hcap hz (fun _ _ _ _ _=>wH)).mono ?_
 rintro e w1 ⟨h1,_⟩
 obtain ⟨v,rfl,h2⟩:=h1 ho.out
 obtain ⟨p,h3,h4,h5⟩:=h2.nil
 clear h1 h2
 go_wp2
 go_ret2
 exact ⟨v,p,rfl,h3,h4,h5⟩
set_option maxHeartbeats 400000 in
theorem Ob (key use:UInt64) (x:Int) (ao:Option Addr) (zs:List UInt8) (L cap:Nat) (w:World) (hx:zt x=true) (hu:Hid (x=use.toNat)) (hL:Hid (zs.length=L)) (h16:16≤L) (Ap:L≤216) (hcap:L≤cap) (hz:At w ao zs) (ho:Hid (Pure.opens key use zs=false)) :
  Calls Tryz.prog 70 #[.int .u64 (key.toNat:Int),.int .i64 x,.slice ao L cap] w fun e w'=>e = .returned (.tuple #[.slice none 0 0,.int .i64 3])∧w.grownBy w' none:=by
 go_enter Tryz.func70,Tryz.ntmps70
 go_wp2_with fail
 refine (Ao _ none [] key use x ao zs L cap w (Out.nil w) hx hu hL h16 Ap hcap hz (fun _ _ _ _ _=>wH)).mono ?_
 rintro e w1 ⟨_,h1⟩
 obtain ⟨rfl,h2⟩:=h1 ho.out
 have G:=h2.gb (fun _ _ _=>wH)
 clear h1 h2
 go_wp2
 go_ret2
 exact ⟨rfl,G⟩
end Go.Proofs.YtpibgolaaaemnaaGreatDoor
namespace Go.Proofs.YtpibgolaaaemnaaGreatDoor
open Go.RowKit
set_option maxRecDepth 100000
set_option maxHeartbeats 400000 in
theorem Rk (key use draw:UInt64) (x:Int) (ao:Option Addr) (zs:List UInt8) (n cap:Nat) (w:World) (hx:zt x=true) (hu:Hid (x=use.toNat)) (hn:Hid (zs.length=n)) (hl:n≤200) (hz:At w ao zs) :
  Calls Tryz.prog 38 #[.int .u64 (key.toNat:Int),.int .i64 x,.int .u64 (draw.toNat:Int),.slice ao n cap] w fun e w'=>
   ∃ g,e = .returned (.tuple #[.slice (some ⟨g,0,none⟩) (n+16) (n+16),.int .i64 0])∧w.heap.size≤g∧Buf w' g (n+16) (Pure.dK key use draw zs)∧w.grownBy w' none:=by
 obtain rfl:=hn.out
 go_enter Tryz.func38,Tryz.ntmps38
 go_wp2_with (go_at_call 50;refine (Vr key use draw x ao zs cap _ hx hu.out hl hz).mono ?_;rintro e w' ⟨g,rfl,h1,h2,h3⟩)
 go_ret2
 exact ⟨g,rfl,h1,h2,h3⟩
set_option maxHeartbeats 400000 in
theorem EO (key x:Int) (ao:Option Addr) (n cap:Nat) (w:World) (hx:zt x=true) (hn:n<16∨216<n) :
  Calls Tryz.prog 47 #[.int .u64 key,.int .i64 x,.slice ao n cap] w fun e w'=>e = .returned (.tuple #[.slice none 0 0,.int .i64 3])∧w=w':=by
 have H:Hid (n<16∨216<n):=hn
 clear hn
 go_enter Tryz.func47,Tryz.ntmps47
 go_wp2_with (go_at_call 70;refine (GL key x ao n cap _ hx H.out).mono ?_;rintro e w' ⟨rfl,rfl⟩)
 go_ret2
 exact ⟨rfl,rfl⟩
set_option maxHeartbeats 400000 in
theorem yC (key use:UInt64) (x:Int) (ao:Option Addr) (zs:List UInt8) (L cap:Nat) (w:World) (hx:zt x=true) (hu:Hid (x=use.toNat)) (hL:Hid (zs.length=L)) (h16:16≤L) (Ap:L≤216) (hcap:L≤cap) (hz:At w ao zs) (ho:Hid (Pure.opens key use zs=true)) :
  Calls Tryz.prog 47 #[.int .u64 (key.toNat:Int),.int .i64 x,.slice ao L cap] w fun e w'=>∃ v p,e = .returned (.tuple #[v,.int .i64 0])∧Out w' v p (Pure.gy key use zs)∧Pl.fresh w.heap.size p∧w.grownBy w' none:=by
 go_enter Tryz.func47,Tryz.ntmps47
 go_wp2_with fail
 refine (Kt key use x ao zs L cap _ hx hu hL h16 Ap hcap hz ho).mono ?_
 rintro e w1 ⟨v,p,rfl,h3,h4,h5⟩
 go_wp2
 go_ret2
 exact ⟨v,p,rfl,h3,h4,h5⟩
set_option maxHeartbeats 400000 in
theorem Ku (key use:UInt64) (x:Int) (ao:Option Addr) (zs:List UInt8) (L cap:Nat) (w:World) (hx:zt x=true) (hu:Hid (x=use.toNat)) (hL:Hid (zs.length=L)) (h16:16≤L) (Ap:L≤216) (hcap:L≤cap) (hz:At w ao zs) (ho:Hid (Pure.opens key use zs=false)) :
  Calls Tryz.prog 47 #[.int .u64 (key.toNat:Int),.int .i64 x,.slice ao L cap] w fun e w'=>e = .returned (.tuple #[.slice none 0 0,.int .i64 3])∧w.grownBy w' none:=by
 go_enter Tryz.func47,Tryz.ntmps47
 go_wp2_with fail
 refine (Ob key use x ao zs L cap _ hx hu hL h16 Ap hcap hz ho).mono ?_
 rintro e w1 ⟨rfl,h3⟩
 go_wp2
 go_ret2
 exact ⟨rfl,h3⟩
end Go.Proofs.YtpibgolaaaemnaaGreatDoor
