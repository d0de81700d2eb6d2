import Derived.Test.YteknelimjfgmaaaGreatDoorGJPFirB
namespace Go.Proofs.YteknelimjfgmaaaGreatDoor
set_option maxHeartbeats 2000000
open Proofs.Tryz Go.RowKit
set_option maxRecDepth 100000
variable {b:Nat} {w:World}
theorem Tryz.Vf:(prog.info? 233).map (·.size)=some 3:=by kernel_rfl
theorem FP (h:Live w b 3):(∃ d,w.cell? ⟨b,0,none⟩=some d)/\(∃ d,w.cell? ⟨b,1,none⟩=some d)/\(∃ d,w.cell? ⟨b,2,none⟩=some d)/\w.frozen? ⟨b,0,none⟩=false/\w.frozen? ⟨b,1,none⟩=false/\w.frozen? ⟨b,2,none⟩=false:=by
 have hc:∀ j,j<3->∃ v,w.cell? ⟨b,j,none⟩=some v:=fun j hj=>bw.1 (h.some j hj);exact ⟨hc 0 afq,hc 1 afq,hc 2 afq,h.frozen 0,h.frozen 1,h.frozen 2⟩
theorem fC (h:Live w b 3) (x y z:Value):(((w.setCell ⟨b,0,none⟩ x).setCell ⟨b,1,none⟩ y).setCell ⟨b,2,none⟩ z).rangeAt b 0 [x,y,z]:=jg [x,y,z] 0 w b 3 h (bd 3)
theorem qm {x y z:Value} (h:w.rangeAt b 0 [x,y,z]):(loadVar 233 ⟨b,0,none⟩).run prog w = .ok (.agg #[x,y,z]) w:=ji h 233 _ underlying233 rfl Tryz.Vf
abbrev yX:Array Value:=#[.string ⟨#[]⟩,.int .i64 0,.slice none 0 0]
def Dk (w:World) (o:Option (List UInt8×Int×List UInt8)) (s:List UInt8) (n:Int) (z:Value):Prop:=∀ q,o=some q->s=q.1/\n=q.2.1/\vg w z q.2.2/\q.2.2.length<=100000
theorem rR (w:World) (s:List UInt8) (n:Int) (z:Value):Dk w none s n z:=fun _ h=>by cases h
theorem aaa {p:Prop} (h:p:=by
 go_wp2_with fail
 go_region
 go_wp2
 (try simp only[Exit.inBlock,Exit.then])
 refine bodyPost_ret (aJ results110 _ _ _ (w.heap.size+1) rfl _ (qm (fC Az.o _ _ _))) rfl ?_
 have GF:=fun x y z=>bD (az (g:=w.heap.size+1) (j:=2) (u:=z) (az (g:=w.heap.size+1) (j:=1) (u:=y) (az (g:=w.heap.size+1) (j:=0) (u:=x) mf.o afp) afp) afp)
 exact ⟨p0.ins,v,_,by rw[uU.o];rfl,JG.o.1,rfl,HFin.o _ (GF _ _ _),GF _ _ _⟩):p:=h
theorem aaU {p:Prop} (h:p:=by
 go_wp2
 refine bodyPost_ret (aJ results110 _ _ _ (w.heap.size+1) rfl _ (qm (fC qN.o _ _ _))) rfl ?_
 exact ⟨[],0,_,by rw[HO.o];rfl,fM,rfl,by rw[HO.o];exact rR _ _ _ _,az (az (az jC.o afp) afp) afp⟩):p:=h
theorem yY (p:Pc) (w:World) (h:At w p.ad p.ins) (hc:p.ins.length<=p.cap) (hm:p.cap<=maxLen) (hl:p.ins.length<=100000) :
  Calls prog 110 #[.agg #[.int .u8 (p.tag.toNat:Int),.slice p.ad p.ins.length p.cap]] w fun e w'=>∃ s n z,e = .returned (.tuple #[.agg #[.string ⟨s.toArray⟩,.int .i64 n,z],.bool (gD p.pair).isSome])/\In64 n/\z.oneCell'=true/\Dk w' (gD p.pair) s n z/\w.grownBy w' none:=by
 have HR:Hid (gD p.pair=(if p.tag.toNat=48 then Box.dH p.ins else none).bind pG):=rfl
 obtain ⟨O,hO⟩:=aq (gD p.pair)
 rw[hO] at HR ⊢
 clear hO
 have G0:=aR (aE w (.cells #[.int .u8 (p.tag.toNat:Int),.slice p.ad p.ins.length p.cap] 117) none) (.cells yX 233)
 have HP:=hid (pO p.ins (.slice p.ad p.ins.length p.cap) _ ⟨p.ad,p.cap,rfl,hc,hm,h.below G0⟩ hl)
 have HB:=hid ((dX.new w #[.int .u8 (p.tag.toNat:Int),.slice p.ad p.ins.length p.cap] 117).alloc (.cells yX 233))
 have HC:Hid (Live ((w.alloc (.cells #[.int .u8 (p.tag.toNat:Int),.slice p.ad p.ins.length p.cap] 117)).alloc (.cells yX 233)) (w.heap.size+1) 3):=by
  have h:=Live.new (w.alloc (.cells #[.int .u8 (p.tag.toNat:Int),.slice p.ad p.ins.length p.cap] 117)) yX 233;rw[ch] at h;exact h
 have HG:=hid G0
 have HL:=hid hl
 have aiS:Hid (vg w (.slice p.ad p.ins.length p.cap) p.ins):=⟨p.ad,p.cap,rfl,hc,hm,h⟩
 clear G0 h hc hm hl
 obtain ⟨cl,hcl⟩:=aq (Box.dH p.ins)
 rw[hcl] at HR HP
 have Fb:=hid hcl
 clear hcl
 go_enter func110,ntmps110
 go_wp2_with fail
 refine HP.o.mono ?_
 rintro e w1 ⟨x,rfl,h1,h2,h3⟩
 clear HP
 have jC:=hid (aa HG.o h3)
 have hB1:=HB.o.grown h3 aft
 have qN:=hid (HC.o.grown h3)
 have t0:=hB1.cell 0
 simp only[cx,ct] at t0
 obtain ⟨⟨e0,k0⟩,⟨e1,k1⟩,⟨e2,k2⟩,f0,f1,f2⟩:=FP qN.o
 clear HG HB h3 HC hB1
 cases cl with
 | none=>
  have HO:Hid (O=none):=by
   show _=_;rw[HR.o];split <;> rfl
  obtain rfl:=h2 rfl;clear h1 h2 HR;simp only[Option.isSome_none];exact aaU
 | some ps=>
  obtain ⟨l,hv,hps,hsrc,_⟩:=h1 ps rfl;clear h1 h2;simp only[cY];by_cases ht:p.tag.toNat=48
  ·have hb:((p.tag.toNat:Int) != 48)=false:=(by rw[eN];omega);rw[if_pos ht] at HR;clear ht;by_cases h2:l.length=3
   ·obtain ⟨p0,p1,p2,rfl⟩:=Ci h2;have HO:Hid (O=(di p0.pair).bind fun s=>(bF p1.pair).bind fun n=>(iX p2.pair).bind fun z=>some (s,n,z)):=by
     show _=_;rw[HR.o,<-hps];rfl
    obtain ⟨g,c,rfl,mY⟩:=hv.some aft;have c0:w1.cell? ⟨g,0,none⟩=some (.int .u8 (p0.tag.toNat:Int)):=mY.tag 0 aft;have c1:w1.cell? ⟨g,1,none⟩=some (.slice p0.ad p0.ins.length p0.cap):=mY.ins 0 aft;have AL:=hid mY;have HZ:Hid (∀ W,w.grownBy W none->vg W (.slice p2.ad p2.ins.length p2.cap) p2.ins):=fun W hW=>hsrc p2 aft W (aiS.o.grown hW);clear hsrc;have hq:=Fb.o;rw[<-hps] at hq;have HL0:Hid (p0.ins.length<=100000):=br (Box.kS hq (p0.tag,p0.ins) (by simp[Pc.pair])) HL.o;have HL2:Hid (p2.ins.length<=100000):=br (Box.kS hq (p2.tag,p2.ins) (by simp[Pc.pair])) HL.o;have HN:=hid (pQ p0 w1 (mY.2 p0 aft).1 (br HL0.o afq));obtain ⟨N,hN⟩:=aq (di p0.pair);have HNi:Hid (∀ y,N=some y->y=p0.ins):=by
     intro y hy;rw[hy] at hN;unfold di at hN;split at hN
     ·injection hN with hN;exact hN.symm
     ·cases hN
    rw[hN] at HN HO;clear HR hps h2 hv mY hN hq;simp only[cN,List.length_nil];go_wp2_with (go_at_call 98;refine HN.o.mono ?_;clear HN;rintro e w2 ⟨rfl,hg2⟩;have mY:=AL.o.grown hg2;have c2:w2.cell? ⟨g,2,none⟩=some (.int .u8 (p1.tag.toNat:Int)):=mY.tag 1 aft;have c3:w2.cell? ⟨g,3,none⟩=some (.slice p1.ad p1.ins.length p1.cap):=mY.ins 1 aft;have HG2:=hid (aa jC.o hg2);have DZ:=hid (qN.o.grown hg2);have HV:=hid (sH p1 w2 (mY.2 p1 aft).1);have QY:=hid mY;clear AL mY hg2 jC qN t0 k0 k1 k2 f0 f1 f2 c0 c1)
    refine HV.o.mono ?_;rintro e w3 ⟨v,rfl,hv,hg3⟩;have mY:=QY.o.grown hg3;have d2:w3.cell? ⟨g,4,none⟩=some (.int .u8 (p2.tag.toNat:Int)):=mY.tag 2 aft;have d3:w3.cell? ⟨g,5,none⟩=some (.slice p2.ad p2.ins.length p2.cap):=mY.ins 2 aft;have mf:=hid (aa HG2.o hg3);have Az:=hid (DZ.o.grown hg3);obtain ⟨⟨e0,k0⟩,⟨e1,k1⟩,⟨e2,k2⟩,f0,f1,f2⟩:=FP Az.o;have JG:Hid (In64 v/\∀ y,bF p1.pair=some y->v=y):=hv;obtain ⟨M,hM⟩:=aq (bF p1.pair);rw[hM] at JG HO ⊢;obtain ⟨t2,ht2⟩:=aq p2.tag.toNat;have HX:Hid (O.isSome=(N.isSome && M.isSome && decide (t2=4))/\∀ q,O=some q->p0.ins=q.1/\v=q.2.1/\p2.ins=q.2.2):=by
     show _/\_;rw[HO.o];show _=_/\_;cases N with
     | none=>exact ⟨rfl,fun q hq=>by cases hq⟩
     | some s=>
      cases M with
      | none=>exact ⟨rfl,fun q hq=>by cases hq⟩
      | some y=>
       show (Option.bind (if p2.tag.toNat=4 then some p2.ins else none) _).isSome=_/\∀ q,(Option.bind (if p2.tag.toNat=4 then some p2.ins else none) _)=_->_;rw[ht2];by_cases h4:t2=4
       ·rw[if_pos h4];refine ⟨by simp[h4],fun q hq=>?_⟩;injection hq with hq;subst hq;exact ⟨(HNi.o s rfl).symm,JG.o.2 y rfl,rfl⟩
       ·rw[if_neg h4];exact ⟨by simp[h4],fun q hq=>by cases hq⟩
    rw[ht2] at d2;clear HV QY mY hg3 hv HG2 DZ c2 c3 hM ht2 HO HNi;have HFin:Hid (∀ W:World,w.grownBy W none->Dk W O p0.ins v (.slice p2.ad p2.ins.length p2.cap)):=by
     intro W hW q hq;obtain ⟨q1,q2,q3⟩:=HX.o.2 q hq;exact ⟨q1,q2,by rw[<-q3];exact HZ.o W hW,by rw[<-q3];exact HL2.o⟩
    have rW:=hid HX.o.1;clear HX HZ;obtain ⟨bn,hbn⟩:=aq N.isSome;obtain ⟨bm,hbm⟩:=aq M.isSome;rw[hbn,hbm] at rW;rw[hbn,hbm];clear hbn hbm;cases bn with
    | false=>
     have uU:Hid (O.isSome=false):=rW.o;clear rW;exact aaa
    | true=>
     cases bm with
     | false=>
      have uU:Hid (O.isSome=false):=rW.o;clear rW;exact aaa
     | true=>
      by_cases h4:t2=4
      ·have hb4:((t2:Int)==4)=true:=(by rw[cL];omega);have uU:Hid (O.isSome=true):=(by show _=_;rw[rW.o];simp[h4]);clear rW h4;exact aaa
      ·have hb4:((t2:Int)==4)=false:=(by rw[cg];omega);have uU:Hid (O.isSome=false):=(by show _=_;rw[rW.o];simp[h4]);clear rW h4;exact aaa
   ·have HO:Hid (O=none):=by
     show _=_;rw[HR.o,<-hps];exact Ep _ (by rw[cw];exact h2)
    obtain ⟨ao,c,rfl,_⟩:=hv;obtain ⟨n,hn⟩:=aq l.length;rw[hn] at h2 ⊢;have b2:((n:Int) != 3)=true:=(by rw[fj];omega);clear HR hps h2 hn hsrc;exact aaU
  ·have hb:((p.tag.toNat:Int) != 48)=true:=(by rw[fj];omega);have HO:Hid (O=none):=by
    show _=_;rw[HR.o,if_neg ht];rfl
   obtain ⟨ao,c,rfl,_⟩:=hv;clear HR hps ht hsrc;exact aaU
theorem Vj (l:List UInt8):(QJ l).cells.toArray=#[.int .i64 (OT l).1,.int .u64 ((Uv l).1.toNat:Int),.string ⟨(Bg l).1.toArray⟩,.int .i64 (uJ l 0),.int .i64 (uJ l 1),.int .i64 (uJ l 2),.int .i64 (uJ l 3)]:=by
 unfold QJ;generalize (OT l).1=a0;generalize (Uv l).1=a1;generalize (Bg l).1=a2;generalize uJ l 0=a3;generalize uJ l 1=a4;generalize uJ l 2=a5;generalize uJ l 3=a6;rfl
theorem Vk (l:List UInt8):(Sk l).bG.toArray=#[.string ⟨(IL l).1.toArray⟩,.int .i64 (Hd l 0),.int .i64 (Hd l 1)]:=by
 unfold Sk;generalize (IL l).1=a0;generalize Hd l 0=a1;generalize Hd l 1=a2;rfl
theorem Hw (rv:Value) (p:Option Pl) (rb:List UInt8) (key:UInt64) (ao:Option Addr) (z:List UInt8) (n cap:Nat) (w:World) (hR:Out w rv p rb) (hn:Hid (z.length=n)) (hcap:n<=cap) (hz:At w ao z) (hsep:∀ b off,ao=some ⟨b,off,none⟩->∀ j,j<z.length->¬ Pl.has p b (off+j)) :
  Calls Tryz.prog 220 #[rv,.int .u64 (key.toNat:Int),.slice ao n cap] w fun e w'=>e = .returned (.tuple #[.agg (QJ (dD key 2 z)).cells.toArray,.bool (gK (M4 (dD key 2 z)))])/\CF w w' (Pl.has p):=by
 have h:=CY rv p rb key ao z n cap w hR hn hcap hz hsep
 rw[<-Vj] at h
 exact h
theorem Kz (rv:Value) (p:Option Pl) (rb:List UInt8) (key:UInt64) (ao:Option Addr) (z:List UInt8) (n cap:Nat) (w:World) (hR:Out w rv p rb) (hn:Hid (z.length=n)) (hcap:n<=cap) (hz:At w ao z) (hsep:∀ b off,ao=some ⟨b,off,none⟩->∀ j,j<z.length->¬ Pl.has p b (off+j)) :
  Calls Tryz.prog 221 #[rv,.int .u64 (key.toNat:Int),.slice ao n cap] w fun e w'=>e = .returned (.tuple #[.agg (Sk (dD key 4 z)).bG.toArray,.bool (gK (OQ (dD key 4 z)))])/\CF w w' (Pl.has p):=by
 have h:=Ex rv p rb key ao z n cap w hR hn hcap hz hsep
 rw[<-Vk] at h
 exact h
theorem H7 (key use:UInt64) (x:Int) (b off:Nat) (zs:List UInt8) (M cap:Nat) (w:World) (hx1:1<=x) (hx2:x<=5) (hu:Hid (x=use.toNat)) (hL:Hid (zs.length=M+16)) (apm:M<=900) (hcap:M+16<=cap) (hcm:cap<=9223372036854775807) (hz:At w (some ⟨b,off,none⟩) zs) :
  Calls prog 49 #[.int .u64 (key.toNat:Int),.int .i64 x,.slice (some ⟨b,off,none⟩) (M+16) cap] w fun e w'=>
   (Pure.opens key use zs=true->∃ g c,e = .returned (.tuple #[.slice (some ⟨g,8,none⟩) M c,.bool true])/\At w' (some ⟨g,8,none⟩) (Pure.eP key use zs)/\M<=c/\c<=maxLen)/\
   (Pure.opens key use zs=false->e = .returned (.tuple #[.slice none 0 0,.bool false]))/\w.grownBy w' none:=by
 obtain ⟨i0,hif,hz0,hz1,hz2⟩:=info_parts Tryz.info5
 have hsl:∀ w,(Instr.sliceAt 37 (.slice (some ⟨b,off,none⟩) (M+16) cap) (some (.int .i64 8)) (some (.int .i64 ((M:Int)+16-8))) none).run prog w = .ok (.slice (some ⟨b,off+8,none⟩) M (cap-8)) w:=by
  intro w;have h:=xX (P:=prog) 37 5 i0 underlying37 hif hz1 b off (M+16) cap 8 (M+8) 8 ((M:Int)+16-8) afp afp afp afp afp w;rw[show M+8-8=M from by omega] at h;exact h
 have HM:Hid (((zs.drop 8).take M).length=M):=by have h:=hL.o;show _=_;simp;omega
 have HP:Hid ((Pure.eP key use zs).length=M):=by have h:=hL.o;show _=_;rw[Pure.kC,h];omega
 have HS:Hid ((Pure.fq key use (Pure.jk zs) (Pure.eP key use zs)).length=M+16):=by show _=_;rw[Pure.dz,HP.o]
 have hl1:M<=1000:=by omega
 have hl2:M+16<=140737488355328:=by omega
 go_enter func49,ntmps49
 go_wp2_with fail
 refine (uM (zs.take 8) 8 _ _ _ (by have h:=hL.o;show _=_;rw[cG];omega) afp (hz.take 8)).mono ?_
 rintro e w' ⟨rfl,rfl⟩
 go_wp2_with fail
 refine (uN key use (Pure.jk zs) x ((zs.drop 8).take M) M (some ⟨b,off+8,none⟩) (cap-8) _ ⟨hx1,hx2⟩ hu HM hl1 afQ ((hz.drop 8).take _)).mono ?_
 rintro e w1 ⟨o1,rfl,hown1,hg1⟩
 obtain ⟨g,c1,hv,hc1,apn,lM⟩:∃ g c,o1 = .slice (some ⟨g,0,none⟩) (M+16) c/\M+16<=c/\c<=maxLen/\At w1 (some ⟨g,0,none⟩) (Pure.fq key use (Pure.jk zs) ((zs.drop 8).take M)):=by
  obtain ⟨ao,cap,hv,h1,h2,_,h4⟩:=iI hown1;rcases hown1.2 with ⟨hv',_⟩ | ⟨g,cap',cur,hv',_⟩
  ·rw[hv] at hv';simp at hv'
  ·rw[hv] at hv';simp at hv';obtain ⟨rfl,rfl⟩:=hv';exact ⟨g,cap,hv,h1,h2,h4⟩
 subst hv
 have hsl2:∀ w,(Instr.sliceAt 37 (.slice (some ⟨g,0,none⟩) (M+16) c1) (some (.int .i64 8)) (some (.int .i64 ((M:Int)+16-8))) none).run prog w = .ok (.slice (some ⟨g,8,none⟩) M (c1-8)) w:=by
  intro w;have h:=xX (P:=prog) 37 5 i0 underlying37 hif hz1 g 0 (M+16) c1 8 (M+8) 8 ((M:Int)+16-8) afp afp afp afp afp w;rw[show M+8-8=M from by omega,cC] at h;exact h
 have zq:At w1 (some ⟨g,8,none⟩) (Pure.eP key use zs):=by
  have h:=(lM.drop 8).take M;have e:((Pure.fq key use (Pure.jk zs) ((zs.drop 8).take M)).drop 8).take M=Pure.eP key use zs:=by
   have hh:=Pure.aam key use (Pure.jk zs) ((zs.drop 8).take M);rw[HM.o] at hh;rw[hh];unfold Pure.eP;rw[hL.o,Nat.add_sub_cancel]
  rw[e,cC] at h;exact h
 clear hown1 lM hsl
 go_wp2_with fail
 refine (uN key use (Pure.jk zs) x (Pure.eP key use zs) M (some ⟨g,8,none⟩) (c1-8) _ ⟨hx1,hx2⟩ hu HP hl1 afQ zq).mono ?_
 rintro e w2 ⟨o2,rfl,hown2,hg2⟩
 obtain ⟨a2,c2,hv,_,_,_,zt⟩:=iI hown2
 subst hv
 have G2:=aa hg1 hg2
 have hz2':=hz.below G2
 have Ef:=zq.below hg2
 clear hown2 hg1 hg2 zq hsl2
 go_wp2_with fail
 refine (zu (Pure.fq key use (Pure.jk zs) (Pure.eP key use zs)) zs (M+16) (M+16) _ _ _ _ _ HS hL hl2 zt hz2').mono ?_
 rintro e w3 ⟨rfl,hg3⟩
 have G3:=aa G2 hg3
 have wZ:=Ef.below hg3
 clear G2 hg3 Ef zt hz2'
 rw[Pure.LZ key use zs (by rw[hL.o];omega)]
 cases ho:Pure.opens key use zs
 all_goals
  have HO:=hid ho
  clear ho
  go_wp2
  go_ret2
  first
   | exact ⟨fun h=>absurd h (by rw[HO.o];decide),fun _=>rfl,G3⟩
   | exact ⟨fun _=>⟨g,c1-8,rfl,wZ,by omega,by omega⟩,fun h=>absurd h (by rw[HO.o];decide),G3⟩
theorem wh (key use:UInt64) (x:Int) (zs:List UInt8) (v:Value) (w:World) (hx1:1<=x) (hx2:x<=5) (hu:x=use.toNat) (hl:zs.length<=900) (h:vg w v zs) :
  Calls prog 49 #[.int .u64 (key.toNat:Int),.int .i64 x,v] w fun e w'=>∃ o,e = .returned (.tuple #[o,.bool (eH key use zs).isSome])/\(∀ l,eH key use zs=some l->Has w' o l/\l.length<=900)/\(eH key use zs=none->o = .slice none 0 0)/\w.grownBy w' none:=by
 obtain ⟨ao,cap,rfl,h2,h3,h5⟩:=h
 by_cases hs:zs.length<16
 ·refine (I7 _ x ao zs.length cap w hs).mono ?_;rintro e w' ⟨q1,rfl⟩;have ho:eH key use zs=none:=by unfold eH;rw[if_neg (fun h=>by omega)]
  rw[ho];exact ⟨_,q1,fun l hl=>(by cases hl),fun _=>rfl,bh _ _⟩
 ·obtain ⟨b,off,rfl,_⟩:=h5.addr afp;obtain ⟨M,hM⟩:∃ M,zs.length=M+16:=⟨zs.length-16,by omega⟩
  rw[hM] at h2 ⊢;refine (H7 key use x b off zs M cap w hx1 hx2 (hid hu) (hid hM) afp h2 (by unfold maxLen at h3;omega) h5).mono ?_;rintro e w' ⟨q1,q2,q3⟩;cases ho:Pure.opens key use zs with
  | false=>
   have hn:eH key use zs=none:=(by unfold eH;rw[if_neg (fun h=>by rw[ho] at h;exact absurd h.2 afq)]);rw[hn];exact ⟨_,q2 ho,fun l hl=>(by cases hl),fun _=>rfl,q3⟩
  | true=>
   have hn:eH key use zs=some (Pure.eP key use zs):=(by unfold eH;rw[if_pos ⟨by omega,ho⟩]);have hlen:(Pure.eP key use zs).length=M:=(by rw[Pure.kC,hM];omega);rw[hn];obtain ⟨g,c,r1,r2,r3,r4⟩:=q1 ho;refine ⟨_,r1,fun l hl'=>?_,fun h=>(by cases h),q3⟩;injection hl' with hl';subst hl';refine ⟨⟨some ⟨g,8,none⟩,c,by rw[hlen],by rw[hlen];exact r3,r4,fun h=>(by cases h),r2⟩,by omega⟩
theorem Pm:∀ (es:List BE) (l:List UInt8),((BE.ny es l).isSome=false->BE.find es l=none)/\∀ i (hi:i<es.length),BE.ny es l=some i->BE.find es l=some es[i]:=by
 intro es l;unfold BE.ny BE.find;induction es with
 | nil=>exact ⟨fun _=>rfl,fun i hi=>absurd hi aft⟩
 | cons e es ih=>
  rw[List.findIdx?_cons,List.find?_cons];cases h:(e.name==l) with
  | true=>
   simp only[ez];refine ⟨fun n=>by simp at n,fun i hi hn=>?_⟩;have:i=0:=by simpa using hn.symm
   subst this;rfl
  | false=>
   simp only[fh,eC];refine ⟨fun n=>ih.1 (by simpa using n),fun i hi hn=>?_⟩;rw[Option.map_eq_some_iff] at hn;obtain ⟨j,hj,rfl⟩:=hn;have hj2:j<es.length:=(by simpa using hi);rw[ih.2 j hj2 hj];rfl
theorem NS (g:Nat) (es:List BE) (l:List UInt8) (w:World) (h:bY w g 2 es) (hs:es.Pairwise (fun x y=>Op.bytesLess x.name y.name=true)) :
  Calls prog 280 #[.pointer (some ⟨g,2,none⟩),.string ⟨l.toArray⟩] w fun e w'=>e = .returned (xw (BE.find es l))/\w.grownBy w' none:=by
 refine (TP g 2 es l _ w h hs (hid rfl)).mono ?_
 rintro e w' ⟨h1,h2,h3⟩
 refine ⟨?_,h3⟩
 have hf:=Pm es l
 cases ha:BE.ny es l with
 | none=>
  rw[hf.1 (by rw[ha];rfl)];exact h1 (by rw[ha];rfl)
 | some i=>
  obtain ⟨hi,_⟩:=Bb ha;rw[hf.2 i hi ha];exact h2 i hi ha
theorem H9 (g:Nat) (es:List BE) (l:List UInt8) (w:World) (h:bY w g 2 es) (hs:es.Pairwise (fun x y=>Op.bytesLess x.name y.name=true)) :
  Calls prog 279 #[.pointer (some ⟨g,0,none⟩),.string ⟨l.toArray⟩] w fun e w'=>e = .returned (xw (BE.find es l))/\w.grownBy w' none:=by
 have G0:=aE w (.cells noEntry 126) none
 have hB:=NS g es l _ (h.grown G0) hs
 obtain ⟨x,hx⟩:=aq (BE.find es l)
 rw[hx] at hB
 rw[hx]
 obtain ⟨v0,v1,v2,v3,v4,v5,v6,v7,hv⟩:=iZ x
 unfold xw at hB ⊢
 rw[hv] at hB
 rw[hv]
 obtain ⟨bx,hbx⟩:=aq x.isSome
 rw[hbx] at hB
 rw[hbx]
 have HB:=hid hB
 have HG:=hid G0
 have HL:=hid (Live.new w noEntry 126)
 clear hB G0 hv hbx hx h hs
 go_enter func279,ntmps279
 go_wp2_with (first|(go_at_call 280;refine HB.o.mono ?_;clear HB;rintro e w1 ⟨rfl,g1⟩;have jC:=hid (aa HG.o g1);have hL:=HL.o.grown g1;clear g1;obtain ⟨⟨d0,q0⟩,⟨d1,q1⟩,⟨d2,q2⟩,⟨d3,q3⟩,⟨d4,q4⟩,⟨d5,q5⟩,⟨d6,q6⟩,⟨d7,q7⟩,f0,f1,f2,f3,f4,f5,f6,f7⟩:=nI hL))
 refine bodyPost_ret (aJ results279 _ _ _ w.heap.size rfl _ (ji (oD w1 w.heap.size _ _ _ _ _ _ _ _ q0 q1 q2 q3 q4 q5 q6 q7) 126 _ underlying126 rfl Tryz.l9)) rfl ⟨rfl,?_⟩
 repeat refine az ?_ (bd _)
 exact jC.o
theorem KV (g:Nat) (es:List BE) (hs:es.Pairwise (fun x y=>Op.bytesLess x.name y.name=true)):Finds (findF 210) (fun W=>bY W g 2 es) (fun _ _=>False) (fun b y=>¬ (b=g/\2<=y/\y<163)) (.pointer (some ⟨g,0,none⟩)) es:=
 ⟨fun W hW l=>(H9 g es l W hW hs).mono fun _ _ ⟨a,b⟩=>⟨a,hW.grown b,CF.bN b _⟩,fun _ _ hW k=>hW.cf k (fun _ h1 h2 e=>e ⟨rfl,h1,h2⟩)⟩
theorem NT (g:Nat):∀ W,(method 520 210 (.pointer (some ⟨g,0,none⟩)) "Find").run prog W = .ok (findF 210,.pointer (some ⟨g,0,none⟩)) W:=fun _=>by kernel_rfl
end Go.Proofs.YteknelimjfgmaaaGreatDoor
