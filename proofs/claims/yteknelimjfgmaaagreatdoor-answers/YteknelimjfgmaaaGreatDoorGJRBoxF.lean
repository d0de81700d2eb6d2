import Derived.Test.YteknelimjfgmaaaGreatDoorGJRBoxA
import Derived.Test.YteknelimjfgmaaaGreatDoorGJBoxA
import Derived.Test.YteknelimjfgmaaaGreatDoorGJBlk
namespace Go.Proofs.YteknelimjfgmaaaGreatDoor
set_option maxHeartbeats 4000000
open Proofs.Tryz Go.RowKit
set_option maxRecDepth 100000
variable {zs:List UInt8} {w:World}
abbrev uS:Array Value:=#[.int .u8 0,.slice none 0 0]
theorem vR {g:Nat} {x y:Value} (h:dX w g #[x,y]):(loadVar 117 ⟨g,0,none⟩).run prog w = .ok (.agg #[x,y]) w:=
 h.load 117 _ underlying117 rfl afv
theorem zY (n:Nat) (ao:Option Addr) (cap:Nat) (w:World) (h:n<2) :
  Calls prog 51 #[.slice ao n cap] w fun e w'=>e = .returned (.tuple #[.agg uS,.slice none 0 0,.bool false])/\w.grownBy w' none:=by
 have h':(n:Int)<2:=by omega
 go_enter func51,ntmps51
 go_wp2
 (try simp only[Exit.inBlock,Exit.then])
 refine bodyPost_ret (nV rfl _ _ _ w.heap.size rfl (.agg uS) (vR ?_)) rfl ?_
 ·exact (dX.new w _ _).alloc _
 ·exact ⟨rfl,aR (aE w _ none) _⟩
theorem PZ (zs:List UInt8):2<=(Box.lead zs).2/\(Box.lead zs).2<=4/\(Box.lead zs).1<=65535:=by
 have h1:=(zs.getD 1 0).toNat_lt;have h2:=(zs.getD 2 0).toNat_lt;have h3:=(zs.getD 3 0).toNat_lt;unfold Box.lead;split
 ·exact ⟨by show 2<=3;omega,by show 3<=4;omega,by show (zs.getD 2 0).toNat<=65535;omega⟩
 ·split
  ·exact ⟨by show 2<=4;omega,by show 4<=4;omega,by show (zs.getD 2 0).toNat*256+(zs.getD 3 0).toNat<=65535;omega⟩
  ·exact ⟨by show 2<=2;omega,by show 2<=4;omega,by show (zs.getD 1 0).toNat<=65535;omega⟩
theorem getD_at {j:Nat} (h:j<zs.length):zs.getD j 0=zs[j]:=by simp[List.getD,List.getElem?_eq_getElem h]
theorem BK {b off:Nat} (h:At w (some ⟨b,off,none⟩) zs) (j:Nat) (hj:j<zs.length):w.cell? ⟨b,off+j,none⟩=some (.int .u8 ((zs.getD j 0).toNat:Int)):=by
 rw[getD_at hj];exact h.cells j hj
theorem yh {g:Nat} {a b:Value} (h:dX w g #[a,b]) (x y:Value):dX ((w.setCell ⟨g,0,none⟩ x).setCell ⟨g,1,none⟩ y) g #[x,y]:=by
 simpa using (h.set 0 x).set 1 y
theorem P5 {P:Program} (t e:TypeId) (i:TypeInfo) (ht:P.underlying t=some (.slice e)) (hi:P.info? e=some i) (hs:i.size=1) (p:Addr) (n cap:Nat) (hz:Hid (zs.length=n)) (hc:n<=cap) (l h:Nat) (x y:Int) (hx:x=(l:Int)) (hy:y=(h:Int)) (hl:l<=h) (hh:h<=n):∃ q:Addr,(∀ w,(Instr.sliceAt t (.slice (some p) n cap) (some (.int .i64 x)) (some (.int .i64 y)) none).run P w = .ok (.slice (some q) (h-l) (cap-l)) w)/\∀ w,At w (some p) zs->At w (some q) ((zs.drop l).take (h-l)):=by
 subst hx hy;obtain ⟨q,hq⟩:∃ q,sl (some p) cap l=some q:=by
  unfold sl;split
  ·exact ⟨_,rfl⟩
  ·exact ⟨_,rfl⟩
 refine ⟨q,fun w=>?_,fun w hat=>by rw[<-hq];exact hat.sub cap l _ (by rw[hz.o];exact hc)⟩;rw[<-hq];exact abR
abbrev P6 (w:World):World:=(w.alloc (.cells uS 117)).alloc (.cells uS 117)
theorem adk {p:Prop} (h:p:=by
 clear Jc
 go_wp2
 go_meet
 case rel=>exact ⟨by rw[hD],rfl⟩):p:=h
theorem aeu {p:Prop} (h:p:=by
 go_wp2
 go_meet
 case rel=>exact ⟨rfl,rfl,0,rfl⟩):p:=h
theorem BL (zs:List UInt8) (n:Nat) (b off:Nat) (cap:Nat) (w:World) (hn:Hid (zs.length=n)) (h2:2<=n) (hl:n<=140737488355328) (hcap:n<=cap) (hcm:cap<=9223372036854775807) (hc:At w (some ⟨b,off,none⟩) zs) :
  Calls prog 51 #[.slice (some ⟨b,off,none⟩) n cap] w fun e w'=>
   (∀ tag i r,Box.cut zs=some (tag,i,r)->∃ a1 c1 a2 c2,e = .returned (.tuple #[.agg #[.int .u8 (tag.toNat:Int),.slice a1 i.length c1],.slice a2 r.length c2,.bool true])/\(∀ w0,At w0 (some ⟨b,off,none⟩) zs->At w0 a1 i)/\i.length<=c1/\c1<=cap/\(∀ w0,At w0 (some ⟨b,off,none⟩) zs->At w0 a2 r)/\r.length<=c2/\c2<=cap/\i.length<=65535/\a1.isSome=true)/\
   (Box.cut zs=none->∃ (x:UInt8) (a:Option Addr) (i:List UInt8) (c:Nat),e = .returned (.tuple #[.agg #[.int .u8 (x.toNat:Int),.slice a i.length c],.slice none 0 0,.bool false])/\(∀ w0,At w0 (some ⟨b,off,none⟩) zs->At w0 a i)/\i.length<=c/\c<=cap/\i.length<=65535/\(a=none->c=0))/\w.grownBy w' none:=by
 obtain ⟨hb2,hb4,hbk⟩:=PZ zs
 have HL:Hid (Box.lead zs=if (zs.getD 1 0).toNat=129/\2<n then ((zs.getD 2 0).toNat,3)
  else if (zs.getD 1 0).toNat=130/\3<n then ((zs.getD 2 0).toNat*256+(zs.getD 3 0).toNat,4) else ((zs.getD 1 0).toNat,2)):=by
  show _=_
  rw[Box.lead,hn.o]
 have HA:Hid (Box.cut zs=Box.again zs):=(Box.ER zs).symm
 unfold Box.again at HA
 rw[hn.o] at HA
 obtain ⟨k,hd,HK⟩:∃ k hd,Hid (Box.lead zs=(k,hd)):=⟨_,_,rfl⟩
 rw[HK.o] at HA HL hb2 hb4 hbk
 simp only at HA hb2 hb4 hbk
 have h2':¬ (n:Int)<2:=by omega
 have hp1:(1:Int)<(n:Int):=by omega
 have G0:w.grownBy (P6 w) none:=aR (aE w _ none) _
 have hcw:=hc.below G0
 have hc0:=BK hcw 0 afG
 have hc1:=BK hcw 1 afG
 have hc2:2<n->(P6 w).cell? ⟨b,off+2,none⟩=some (.int .u8 ((zs.getD 2 0).toNat:Int)):=fun h=>BK hcw 2 (by rw[hn.o];exact h)
 have hc3:3<n->(P6 w).cell? ⟨b,off+3,none⟩=some (.int .u8 ((zs.getD 3 0).toNat:Int)):=fun h=>BK hcw 3 (by rw[hn.o];exact h)
 rw[eR] at hc0
 have t1:=(zs.getD 1 0).toNat_lt
 have t2:=(zs.getD 2 0).toNat_lt
 have t3:=(zs.getD 3 0).toNat_lt
 generalize hz1:(zs.getD 1 0).toNat=z1 at *
 generalize hz2:(zs.getD 2 0).toNat=z2 at *
 generalize hz3:(zs.getD 3 0).toNat=z3 at *
 clear hz1 hz2 hz3
 have hcc:=hc
 clear hc hcw
 go_enter func51,ntmps51
 go_upto_region 6 with fail
 go_cut [23] (fun c wx=>c = .bool (decide (z1=129/\2<n))/\wx=P6 w)
 case first=>
  by_cases Jc:z1=129
  ·have hb:((z1:Int)==129)=true:=(by rw[cL];omega);by_cases hn2:2<n
   ·have adS:(2:Int)<(n:Int):=(by omega);have hD:decide (z1=129/\2<n)=true:=cH ⟨Jc,hn2⟩;exact adk
   ·have adS:¬ (2:Int)<(n:Int):=(by omega);have hD:decide (z1=129/\2<n)=false:=cA (fun h=>hn2 h.2);exact adk
  ·have hb:((z1:Int)==129)=false:=(by rw[cg];omega);have hD:decide (z1=129/\2<n)=false:=cA (fun h=>Jc h.1);exact adk
 case rest=>
  obtain ⟨rfl,rfl⟩:=hcut;go_upto_if 23 with fail
  go_cut [6,7] (fun s6 s7 wx=>s6 = .int .i64 k/\s7 = .int .i64 hd/\∃ m,wx=(P6 w).drewN m)
  case first=>
   by_cases hA:z1=129/\2<n
   ·have hD:decide (z1=129/\2<n)=true:=cH hA;have hE:=HL.o;rw[if_pos hA] at hE;obtain ⟨rfl,rfl⟩:=Prod.mk.inj hE;have hx2:=hc2 hA.2;have hn2:(2:Int)<(n:Int):=(by omega);rw[hD];clear hE hA;exact aeu
   ·have hD:decide (z1=129/\2<n)=false:=cA hA;have hE:=HL.o;rw[if_neg hA] at hE;rw[hD];by_cases Jd:z1=130
    ·have hb:((z1:Int)==130)=true:=(by rw[cL];omega);by_cases Zp:3<n
     ·rw[if_pos ⟨Jd,Zp⟩] at hE;obtain ⟨rfl,rfl⟩:=Prod.mk.inj hE;have hx2:=hc2 afp;have ahJ:(3:Int)<(n:Int):=(by omega);have adS:(2:Int)<(n:Int):=(by omega);clear hE hA Jd;go_wp2_with fail;go_quiet (fail)
      go_wp2;go_meet
      case rel=>exact ⟨by go_num,rfl,_,rfl⟩
     ·rw[if_neg (fun h=>Zp h.2)] at hE;obtain ⟨rfl,rfl⟩:=Prod.mk.inj hE;have ahJ:¬ (3:Int)<(n:Int):=(by omega);clear hE hA Jd;exact aeu
    ·have hb:((z1:Int)==130)=false:=(by rw[cg];omega);rw[if_neg (fun h=>Jd h.1)] at hE;obtain ⟨rfl,rfl⟩:=Prod.mk.inj hE;clear hE hA Jd;exact aeu
  case rest=>
   obtain ⟨rfl,rfl,m,rfl⟩:=hcut;clear HL hc1 hc2 hc3 t1 t2 t3;by_cases hk:hd+k<=n
   ·have hk1:¬ (n:Int)<(hd:Int)+(k:Int):=(by omega);obtain ⟨i0,hi,_,hs1,_⟩:=info_parts Tryz.info5;obtain ⟨a1,e1,lM⟩:=P5 37 5 i0 underlying37 hi hs1 ⟨b,off,none⟩ n cap hn hcap hd (hd+k) (hd:Int) ((hd:Int)+(k:Int)) rfl afp afp hk;obtain ⟨a2,e2,zq⟩:=xV 37 5 i0 underlying37 hi hs1 (some ⟨b,off,none⟩) n cap hn hcap (hd+k) ((hd:Int)+(k:Int)) afp hk;obtain ⟨a3,e3,zt⟩:=kD 37 5 i0 underlying37 hi hs1 (some ⟨b,off,none⟩) n cap hn hcap (hd+k) ((hd:Int)+(k:Int)) afp hk;rw[show hd+k-hd=k from by omega] at e1 lM;obtain ⟨tag,HT⟩:∃ t,Hid (zs.getD 0 0=t):=⟨_,rfl⟩
    rw[HT.o] at HA hc0;obtain ⟨ins,HI⟩:∃ t,Hid ((zs.drop hd).take k=t):=⟨_,rfl⟩
    obtain ⟨all,HW⟩:∃ t,Hid (zs.take (hd+k)=t):=⟨_,rfl⟩
    have Zq:Hid (ins.length=k):=(by show _=_;rw[<-HI.o,cG,cy,hn.o];omega);have hWL:Hid (all.length=hd+k):=(by show _=_;rw[<-HW.o,cG,hn.o];omega);rw[HI.o] at lM HA;rw[HW.o] at zq HA;have hBL:Hid ((Box.box tag ins).length<=140737488355328):=(by show _<=_;rw[Box.jG,Zq.o];split <;> (try split) <;> omega);have hc0':((P6 w).drewN m).cell? ⟨b,off,none⟩=some (.int .u8 (tag.toNat:Int)):=hc0;go_wp2_with fail;have hP0:=yh ((dX.new (w.alloc (.cells uS 117)) uS 117).drewN m) (.int .u8 (tag.toNat:Int)) (.slice (some a1) k (cap-hd));rw[ch] at hP0;have hR0:=((((dX.new w uS 117).alloc (.cells uS 117)).drewN m).other ⟨w.heap.size+1,0,none⟩ (.int .u8 (tag.toNat:Int)) (by show w.heap.size≠w.heap.size+1;omega)).other ⟨w.heap.size+1,1,none⟩ (.slice (some a1) k (cap-hd)) (by show w.heap.size≠w.heap.size+1;omega);have G1:=az (j:=1) (u:=.slice (some a1) k (cap-hd)) (az (g:=w.heap.size+1) (j:=0) (u:=.int .u8 (tag.toNat:Int)) (aY G0 m) afp) (show w.heap.size<=w.heap.size+1 by omega);refine (su tag ins k (some a1) (cap-hd) _ Zq afp (hid (fun h=>by cases h)) (lM _ (hcc.below G1))).mono ?_;rintro e w1 ⟨o,rfl,hown1,hg1⟩;obtain ⟨a4,c4,rfl,_,_,_,Ef⟩:=iI hown1;have hP1:=hP0.grown hg1 aft;have hR1:=hR0.grown hg1 aft;have G2:=aa G1 hg1;have adT:=zq _ (hcc.below G2);have Je:=zu (Box.box tag ins) all _ _ a4 a2 c4 cap w1 (hid rfl) hWL hBL.o Ef adT;clear hown1 hg1 hP0 hR0 G1 hc0 hc0';go_wp2_with fail;refine Je.mono ?_;rintro e w2 ⟨rfl,hg2⟩;have hP2:=hP1.grown hg2 aft;have hR2:=hR1.grown hg2 aft;have G3:=aa G2 hg2;clear Je hg2 hP1 hR1 G2 adT;have p0:=hP2.cell 0;have p1:=hP2.cell 1;have r0:=hR2.cell 0;have r1:=hR2.cell 1;have r2:=hR2.frozen 0;have r3:=hR2.frozen 1;simp only[cx,ct,cD] at p0 p1 r0 r1;by_cases hq:Box.box tag ins=all
    ·have hq':(Box.box tag ins==all)=true:=(by rw[cL];exact hq);rw[hq'];have HY:Hid (Box.cut zs=some (tag,ins,zs.drop (hd+k))):=(by show _=_;rw[HA.o,if_pos ⟨h2,hk,hq⟩]);clear hq hq';go_wp2_with fail;go_region;go_wp2;(try simp only[Exit.inBlock,Exit.then]);refine bodyPost_ret (nV rfl _ _ _ w.heap.size rfl _ (vR (yh hR2 _ _).drew)) rfl ?_;refine ⟨fun tag' i r h=>?_,(fun h=>by rw[HY.o] at h;simp at h),bD (az (az G3 (bd _)) (bd _))⟩;rw[HY.o] at h;simp only[ew,Prod.mk.injEq] at h;obtain ⟨rfl,rfl,rfl⟩:=h;refine ⟨some a1,cap-hd,a3,cap-(hd+k),?_,lM,by rw[Zq.o];omega,by omega,zt,by rw[cy,hn.o];omega,by omega,by rw[Zq.o];exact hbk,rfl⟩;rw[Zq.o,cy,hn.o];rfl
    ·have hq':(Box.box tag ins==all)=false:=(by rw[cg];exact hq);rw[hq'];have HY:Hid (Box.cut zs=none):=(by show _=_;rw[HA.o,if_neg (fun h=>hq h.2.2)]);clear hq hq';go_wp2;(try simp only[Exit.inBlock,Exit.then]);refine bodyPost_ret (nV rfl _ _ _ w.heap.size rfl _ (vR (yh hR2 _ _))) rfl ?_;exact ⟨fun tag i r h=>by rw[HY.o] at h;simp at h,fun _=>⟨tag,some a1,ins,cap-hd,by rw[Zq.o];rfl,lM,by rw[Zq.o];omega,by omega,by rw[Zq.o];exact hbk,fun h=>by cases h⟩,az (az G3 (bd _)) (bd _)⟩
   ·have hk1:(n:Int)<(hd:Int)+(k:Int):=(by omega);have HN:Hid (Box.cut zs=none):=(by show _=_;rw[HA.o,if_neg (fun h=>hk h.2.1)]);go_wp2;(try simp only[Exit.inBlock,Exit.then]);refine bodyPost_ret (nV rfl _ _ _ w.heap.size rfl (.agg uS) (vR ?_)) rfl ?_
    ·exact yh (((dX.new w _ _).alloc _).drewN _) _ _
    ·exact ⟨fun tag i r h=>by rw[HN.o] at h;simp at h,fun _=>⟨0,none,[],0,rfl,fun w0 _=>At.nil w0 none,bd _,cE _,cE _,fun _=>rfl⟩,az (az (aY G0 _) (bd _)) (bd _)⟩
theorem P7 (zs:List UInt8) (n:Nat) (b off:Nat) (cap:Nat) (w:World) (hn:Hid (zs.length=n)) (h2:2<=n) (hl:n<=140737488355328) (hcap:n<=cap) (hcm:cap<=9223372036854775807) (hc:At w (some ⟨b,off,none⟩) zs) :
  Calls prog 51 #[.slice (some ⟨b,off,none⟩) n cap] w fun e w'=>
   (∀ tag i r,Box.cut zs=some (tag,i,r)->∃ a1 c1 a2 c2,e = .returned (.tuple #[.agg #[.int .u8 (tag.toNat:Int),.slice a1 i.length c1],.slice a2 r.length c2,.bool true])/\(∀ w0,At w0 (some ⟨b,off,none⟩) zs->At w0 a1 i)/\i.length<=c1/\c1<=cap/\(∀ w0,At w0 (some ⟨b,off,none⟩) zs->At w0 a2 r)/\r.length<=c2/\c2<=cap)/\
   (Box.cut zs=none->∃ (x:Int) (a:Option Addr) (k c:Nat),e = .returned (.tuple #[.agg #[.int .u8 x,.slice a k c],.slice none 0 0,.bool false]))/\w.grownBy w' none:=by
 refine (BL zs n b off cap w hn h2 hl hcap hcm hc).mono ?_
 rintro e w' ⟨h1,h2,h3⟩
 refine ⟨fun tag i r h=>?_,fun h=>?_,h3⟩
 ·obtain ⟨a1,c1,a2,c2,q1,q2,q3,q4,q5,q6,q7,_⟩:=h1 tag i r h;exact ⟨a1,c1,a2,c2,q1,q2,q3,q4,q5,q6,q7⟩
 ·obtain ⟨x,a,i,c,q1,_⟩:=h2 h;exact ⟨_,_,_,_,q1⟩
end Go.Proofs.YteknelimjfgmaaaGreatDoor
