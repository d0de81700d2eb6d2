/-
  
  
-/
import Derived.Test.YtpibgolaaaemnaaGreatDoorGUTHear
import Derived.Test.YtpibgolaaaemnaaGreatDoorGUKCame
import Derived.Test.YtpibgolaaaemnaaGreatDoorGUTSame
import Derived.Test.YtpibgolaaaemnaaGreatDoorGUTJob
namespace Go.Proofs.YtpibgolaaaemnaaGreatDoor
open Go.RowKit
set_option maxRecDepth 100000
theorem TI.ptr {w0:World} {L:TL} {Mp Mq:DM} {n C:Nat} {O:Nat→Prop} {w:World} (h:TI w0 L Mp Mq n C O w):w.cell? ⟨L.pb,0,none⟩=some (.pointer (some ⟨L.gp,0,none⟩))∧w.cell? ⟨L.pb,2,none⟩=some (.pointer none)∧w.cell? ⟨L.pb,3,none⟩=some (.pointer (some ⟨L.gq,0,none⟩)):=by
 obtain ⟨cs,ls,ms,now,ca,la,ma,cc,lc,mc,rfl,h,_⟩:=h
 exact ⟨h.pair.cell 0,h.pair.cell 2,h.pair.cell 3⟩
theorem Ce:∀ (ds:List (Value×Int)) (i:Nat) (hi:i<ds.length),(fJ ds)[i*2]?=some (ds[i]).1∧(fJ ds)[i*2+1]?=some (.int .i64 (ds[i]).2):=by
 intro ds
 induction ds with
 | nil=>intro i hi;simp at hi
 | cons y ds ih=>
  intro i hi
  cases i with
  | zero=>exact ⟨rfl,rfl⟩
  | succ i=>
   have h:=ih i (by simpa using hi)
   have e:fJ (y::ds)=y.1 :: .int .i64 y.2::fJ ds:=rfl
   rw[e,show (i+1)*2=i*2+1+1 by omega]
   simpa using h
theorem UY (M:DM) (ms:List gF) (k:Nat) (h:k<ms.length):ek M (ms.take (k+1))=(xZ (ek M (ms.take k)) ms[k]).2:=by
 rw[List.take_succ_eq_append_getElem h,vJ]
theorem Xw (rep:List UInt8) (now:Int):∃ code,(∃ c,rep=aL now c)→rep=aL now code:=by
 by_cases h:∃ c,rep=aL now c
 ·exact ⟨h.choose,fun _=>h.choose_spec⟩
 ·exact ⟨0,fun q=>absurd q h⟩
set_option maxHeartbeats 8000000 in
theorem ym (w0:World) (L:TL) (M:DM) (N nm C n jb cap:Nat) (O:Nat→Prop) (js:List jr) (ms:List gF) (E:Prop) (ie:Nat) (t:TK) (s:BE) (aB ag:Int) (a b:UInt64) (w:World) (hI:TI w0 L M M nm C O w) (hM:dE M N) (hN1:1≤N) (hN:N+16≤4611686018427387904)
  (hn:js.length=n) (hmax:n≤16) (hl:ms.length=n) (hms:∀ j∈ms,j.Ok) (hjm:∀ i (h:i<js.length) (h':i<ms.length),xu O w js[i] ms[i]) (hj:w.rangeAt jb 0 (dM js)) (hjl:jb<w.heap.size) (hjo:¬ O jb)
  (hC:24*C+7*M.aV.length≤5000) (htab:eO w0)
  (hE:E→∀ i (h:i<ms.length),if i=ie then (ms[i]).1.kind=0∧(xZ (ek M (ms.take i)) ms[i]).1.1=gM 11 t s aB ag 1000002 3 a b else (ms[i]).1.kind≠0)
  (hE2:E→t.af=zI∧s.name.length≤3∧t.In∧In64 s.ag∧In64 ag∧In64 aB) :
  Calls Tryz.prog 9 #[.pointer (some ⟨L.pb,0,none⟩),.slice (some ⟨jb,0,none⟩) n cap] w fun e w'=>e = .returned (.bool true)∧∃ O' C',TI w0 L (ek M ms) (ek M ms) nm C' O' w'∧Stp w O w' O'∧24*C'+7*(ek M ms).aV.length≤5000∧C≤C'∧(E→ie<n→C'=C+1):=by
 have HQ:=hid (ZW w0 L M N nm C n jb cap O js ms w hI hM hN1 hN hn hmax hl hms hjm hj hjl hjo)
 obtain ⟨_,_,p3⟩:=hI.ptr
 have Hlt:=hid hI.lt
 have HM:Hid (∀ k,dE (ek M (ms.take k)) (N+16)):=fun k=>(hM.ek hN1 (ms.take k) (fun j hx=>hms j (List.mem_of_mem_take hx))).mono (by rw[List.length_take];omega)
 have Hms:=hid hms
 have Hjm:=hid hjm
 have Hj:=hid (And.intro hj (And.intro hjl hjo))
 have Hn:=hid (And.intro hn hl)
 have HN:=hid hN
 have HC:=hid hC
 have HE:=hid (And.intro hE hE2)
 have FV:=hid htab
 clear hI hM hN1 hN hn hl hms hjm hj hjl hjo hC htab hE hE2
 go_enter Tryz.func9,Tryz.ntmps9
 go_wp2_with fail
 refine HQ.out.mono ?_
 rintro e w1 ⟨ob,ds,rfl,hds,ho1,ho2,hrg,hI1,adZ,hsaid⟩
 have HI1:=hid hI1
 have UZ:=hid adZ
 have Hds:=hid (And.intro hds (And.intro ho1 (And.intro ho2 (And.intro hrg hsaid))))
 clear HQ hds ho1 ho2 hrg hI1 adZ hsaid p3
 go_wp2
 go_loopw [7] (fun i wr=>∃ (k C':Nat) (Or:Nat→Prop),k≤n∧i = .int .i64 k∧TI w0 L (ek M (ms.take k)) (ek M ms) nm C' Or wr∧Stp w1 O wr Or∧24*C'+7*(ek M (ms.take k)).aV.length≤5000∧C≤C'∧(E→C'=C+(if ie<k then 1 else 0))) (fun i _=>n-(intOf i).toNat)
 case atStart=>exact ⟨0,C,O,Nat.zero_le _,rfl,HI1.out,Stp.refl _ _,HC.out,Nat.le_refl _,fun _=>by simp⟩
 case round=>
  obtain ⟨k,C',Or,hk,rfl,hI,hst,hCd,Sm,hEC⟩:=hrel
  have HI:=hid hI
  have zL:=hid hst
  have rM:=hid (And.intro hCd (And.intro Sm hEC))
  clear hI hst hCd Sm hEC
  by_cases hlt:k<n
  ·have hkj:k<js.length:=by rw[Hn.out.1];exact hlt
   have Ou:k<ms.length:=by rw[Hn.out.2];exact hlt
   have hkd:k<ds.length:=by rw[Hds.out.1];exact hlt
   have HJ:=hid ((((Hjm.out k hkj Ou).step UZ.out).step zL.out))
   have HD:=hid ((Hds.out.2.2.2.2 k hkd Ou).step zL.out)
   have Vi:=hid (Hms.out _ (List.getElem_mem Ou))
   have HEk:Hid (E→if k=ie then (ms[k]).1.kind=0∧(xZ (ek M (ms.take k)) ms[k]).1.1=gM 11 t s aB ag 1000002 3 a b else (ms[k]).1.kind≠0):=fun he=>HE.out.1 he k Ou
   have Ty:=hid (UY M ms k Ou)
   have hcj:∀ W,CF w W (fun b _=>O b)→∀ j u,((js[k]).cells)[j]?=some u→W.cell? ⟨jb,k*9+j,none⟩=some u:=fun W kW j u hu=>by
    have hj9:j<9:=(List.getElem?_eq_some_iff.1 hu).1
    have h:=(kW.range Hj.out.1 (fun _ _ e=>Hj.out.2.2 e)) (k*9+j) u (by rw[uM js k j hkj hj9];exact hu)
    rwa [Nat.zero_add] at h
   have hcd:∀ W,CF w1 W (fun b _=>O b)→W.cell? ⟨ob,k*2,none⟩=some (ds[k]).1∧W.cell? ⟨ob,k*2+1,none⟩=some (.int .i64 (ds[k]).2):=fun W kW=>by
    obtain ⟨g1,g2⟩:=Ce ds k hkd
    have h:=kW.range Hds.out.2.2.2.1 (fun _ _ e=>by have:=Hlt.out _ e;have:=Hds.out.2.1;omega)
    have h1:=h (k*2) _ g1
    have h2:=h (k*2+1) _ g2
    rw[Nat.zero_add] at h1 h2
    exact ⟨h1,h2⟩
   obtain ⟨x,hx⟩:∃ x,ms[k]=x:=⟨_,rfl⟩
   obtain ⟨⟨ja,jn,jv⟩,hjx⟩:∃ y,js[k]=y:=⟨_,rfl⟩
   obtain ⟨⟨dv,dr⟩,vV⟩:∃ y,ds[k]=y:=⟨_,rfl⟩
   rw[hx] at Vi Ty HEk
   rw[hx,hjx] at HJ
   rw[hx,vV] at HD
   rw[hjx] at hcj
   rw[vV] at hcd
   obtain ⟨xa,xn,xr⟩:=x
   obtain ⟨e1,e2,aar,hrl⟩:=HJ.out
   obtain rfl:ja=xa:=e1
   obtain rfl:jn=xn:=e2
   have ad1:Hid (KI Or wr jv xr):=aar
   have Hrl:Hid (xr.length≤140737488355328):=hrl
   obtain ⟨jo,jc,Qy⟩:=aar.1.shape
   have aih:jv = .slice jo xr.length jc:=Qy
   subst aih
   obtain ⟨m9,hm9⟩:∃ m,xr.length=m:=⟨_,rfl⟩
   rw[hm9] at hcj ad1
   have JQ:Hid (∀ W,CF w W (fun b _=>O b)→∀ j u,(jr.cells (ja,jn,.slice jo m9 jc))[j]?=some u→W.cell? ⟨jb,k*9+j,none⟩=some u):=hcj
   have HCD:Hid (∀ W,CF w1 W (fun b _=>O b)→W.cell? ⟨ob,k*2,none⟩=some dv∧W.cell? ⟨ob,k*2+1,none⟩=some (.int .i64 dr)):=hcd
   have hcw:CF w wr (fun b _=>O b):=UZ.out.cf.trans zL.out.cf (fun _ _ _ e=>e)
   have Ym:=hid hcw
   obtain ⟨Mk,hMk⟩:∃ Mk,ek M (ms.take k)=Mk:=⟨_,rfl⟩
   have HMk:=HM.out k
   rw[hMk] at HMk
   rw[hMk] at HI HD Ty rM HEk
   have ad2:=hid HMk
   have rT:(k:Int)<(n:Int):=by omega
   have hk0:(0:Int)≤(k:Int):=by omega
   have y0:wr.cell? ⟨jb,k*9,none⟩=some (.int .i64 ja.kind):=hcj wr hcw 0 _ rfl
   clear hx hjx vV aar hrl Qy HJ hcj hcd hcw hMk HMk
   by_cases hkind:ja.kind=0
   ·obtain ⟨rep,M2,hA⟩:∃ rep M2,cB Mk jn xr=(rep,M2):=⟨_,_,rfl⟩
    have hdo:xZ Mk (ja,jn,xr)=((rep,0),M2):=by unfold xZ;rw[if_pos hkind,hA]
    rw[hdo] at HD Ty HEk
    have HAc:Hid (∀ W,wr.grownBy W none→Calls Tryz.prog 20 #[.pointer (some ⟨L.gp,0,none⟩),.int .i64 jn,.slice jo m9 jc] W fun e w'=>∃ a c,e = .returned (.slice a rep.length c)∧KI Or w' (.slice a rep.length c) rep∧TI w0 L M2 (ek M ms) nm C' Or w'∧Stp W Or w' Or):=fun W kW=>by
     have h:=Mj w0 L Mk (ek M ms) (N+16) nm C' Or jn xr (.slice jo m9 jc) W (HI.out.gb kW) ad2.out HN.out (ad1.out.step (Stp.gb kW)) Hrl.out Vi.out.now
     rw[hA] at h
     exact h
    have HDr:Hid (M2.aV.length≤Mk.aV.length∧((∃ c,rep=aL jn c)∨M2.aV.length+24≤Mk.aV.length)):=by
     have h:=FO Mk jn xr
     rw[hA] at h
     exact h
    have hpos:0<rep.length:=by have h:=Ca Mk jn xr;rw[hA] at h;exact h
    obtain ⟨code,hcode⟩:=Xw rep jn
    have HR:Hid ((∃ c,rep=aL jn c)→rep=aL jn code):=hcode
    obtain ⟨hdr,hdv⟩:=HD.out
    have hdr':dr=0:=hdr
    subst hdr'
    rw[if_pos hkind] at hdv
    have HDv:Hid (KI Or wr dv rep):=hdv
    obtain ⟨da,dc,ad3⟩:=hdv.1.shape
    have ad4:dv = .slice da rep.length dc:=ad3
    subst ad4
    have HKd:Hid (ja.kind=0):=hkind
    have hkb:(ja.kind != 0)=false:=by rw[hkind];rfl
    obtain ⟨rl,hrl⟩:∃ rl,rep.length=rl:=⟨_,rfl⟩
    rw[hrl] at HCD HDv HAc hpos
    have ail:=hid hrl
    have hr0:¬ (rl:Int)=0:=by omega
    have aoP:((rl:Int)==0)=false:=by simpa using hr0
    have y7:wr.cell? ⟨jb,k*9+7,none⟩=some (.int .i64 jn):=JQ.out wr Ym.out 7 _ rfl
    have y8:wr.cell? ⟨jb,k*9+8,none⟩=some (.slice jo m9 jc):=JQ.out wr Ym.out 8 _ rfl
    have yp:=HI.out.ptr.1
    have F6:Hid ((fun w'=>w'.cell? ⟨L.pb,0,none⟩=some (.pointer (some ⟨L.gp,0,none⟩))∧w'.cell? ⟨jb,k*9+7,none⟩=some (.int .i64 jn)∧w'.cell? ⟨jb,k*9+8,none⟩=some (.slice jo m9 jc)) wr):=⟨yp,y7,y8⟩
    clear hkind hdr hdv ad3 hcode HD hrl hdo hA
    go_wp2_with fail
    go_region_held3 (fun w'=>w'.cell? ⟨L.pb,0,none⟩=some (.pointer (some ⟨L.gp,0,none⟩))∧w'.cell? ⟨jb,k*9+7,none⟩=some (.int .i64 jn)∧w'.cell? ⟨jb,k*9+8,none⟩=some (.slice jo m9 jc)) (first | exact HS2.out | exact F6.out) (first|(go_at_call 20;refine (HAc.out _ (by (first | exact World.grownBy.refl _ _ | exact aO (World.grownBy.refl _ _) _))).mono ?_;rintro e w2 ⟨ra,rc,rfl,hk2,hI2,LM⟩;have JS:Hid (Stp wr Or w2 Or):=(Stp.gb (by (first | exact World.grownBy.refl _ _ | exact aO (World.grownBy.refl _ _) _))).trans LM;have zq:CF w w2 (fun b _=>O b):=(Stp.trans UZ.out (Stp.trans zL.out JS.out)).cf;have HS2:Hid ((fun w'=>w'.cell? ⟨L.pb,0,none⟩=some (.pointer (some ⟨L.gp,0,none⟩))∧w'.cell? ⟨jb,k*9+7,none⟩=some (.int .i64 jn)∧w'.cell? ⟨jb,k*9+8,none⟩=some (.slice jo m9 jc)) w2):=⟨hI2.ptr.1,JQ.out w2 zq 7 _ rfl,JQ.out w2 zq 8 _ rfl⟩;have HI2:=hid hI2;have ER:=hid hk2;clear hk2 hI2 LM zq))
    obtain ⟨c1,c2⟩:=HCD.out w2 (Stp.trans zL.out JS.out).cf
    have HSm:=hid (PX rep rl ra da rc dc w2 (hid ail.out) (by obtain ⟨ao,cap,e1,_,_,_,h5⟩:=ER.out.1;injection e1 with e1;subst e1;exact h5) (by obtain ⟨ao,cap,e1,_,_,_,h5⟩:=(HDv.out.step JS.out).1;injection e1 with e1;subst e1;exact h5))
    have HHd:=hid (Qh w0 L M2 (ek M ms) nm C' Or (E∧k=ie) (∃ c,rep=aL jn c) rep (.slice ra rl rc) t s aB ag jn code a b w2 HI2.out ER.out.1 (by have:=rM.out.1;omega) FV.out (fun he=>by
     obtain ⟨h1,h2⟩:=he
     have h3:=HEk.out h1
     rw[if_pos h2] at h3
     obtain ⟨q1,q2,q3,q4,q5,q6⟩:=HE.out.2 h1
     exact ⟨h3.2,q1,q2,q3,q4,q5,q6⟩) HR.out)
    clear y7 y8 yp F6 HS2 HAc
    go_wp2_with (first|(go_at_call 21;refine HSm.out.mono ?_;clear HSm;rintro e w3 ⟨rfl,rfl⟩)|(go_at_call 22;refine HHd.out.mono ?_;clear HHd;rintro e w4 ⟨rfl,O2,C2,hI4,Xx,AU,hC2,hC3,hC4⟩;have HF:=hid (And.intro hI4 (And.intro Xx (And.intro AU (And.intro hC2 (And.intro hC3 hC4)))));clear hI4 Xx AU hC2 hC3 hC4))
    go_roundw
    case rel=>
     obtain ⟨hI4,Xx,AU,hC2,hC3,hC4⟩:=HF.out
     obtain ⟨d1,d2,d3⟩:=rM.out
     obtain ⟨f1,f2⟩:=HDr.out
     refine ⟨k+1,C2,O2,by omega,by go_num,by rw[Ty.out];exact hI4,(zL.out.trans JS.out).trans Xx,?_,by omega,fun he=>?_⟩
     ·rw[Ty.out]
      show 24*C2+7*M2.aV.length≤5000
      rcases f2 with f2 | f2
      ·rw[hC3 f2];omega
      ·omega
     ·have h3:=HEk.out he
      by_cases hki:k=ie
      ·rw[hC4 ⟨he,hki⟩,d3 he,if_neg (by omega),if_pos (by omega)]
      ·rw[if_neg hki] at h3
       exact absurd HKd.out h3
    case measure=>simp[intOf];omega
   ·obtain ⟨es,r,hA⟩:∃ es r,fU Mk.aH ja=(es,r):=⟨_,_,rfl⟩
    have hdo:xZ Mk (ja,jn,xr)=(([],r),{Mk with aH:=es}):=by unfold xZ;rw[if_neg hkind,hA]
    rw[hdo] at HD Ty HEk
    have HAc:Hid (∀ W,wr.grownBy W none→Calls Tryz.prog 19 #[.pointer (some ⟨L.gp,0,none⟩),.agg ja.cells] W fun e w'=>e = .returned (.int .i64 r)∧TI w0 L {Mk with aH:=es} (ek M ms) nm C' Or w'∧Stp W Or w' Or):=fun W kW=>by
     have h:=Ml w0 L Mk (ek M ms) (N+16) nm C' Or ja W (HI.out.gb kW) ad2.out HN.out Vi.out.ay Vi.out.name
     rw[hA] at h
     exact h
    obtain ⟨hdr,hdv⟩:=HD.out
    have hdr':dr=r:=hdr
    subst hdr'
    rw[if_neg hkind] at hdv
    have aim:dv = .slice none 0 0:=hdv
    subst aim
    have HKd:Hid (¬ ja.kind=0):=hkind
    have hkb:(ja.kind != 0)=true:=by simpa using hkind
    have hrr:(dr != dr)=false:=by simp
    have y1:wr.cell? ⟨jb,k*9+1,none⟩=some (.string ⟨ja.name.toArray⟩):=JQ.out wr Ym.out 1 _ rfl
    have y2:wr.cell? ⟨jb,k*9+2,none⟩=some (.int .u64 (ja.key.toNat:Int)):=JQ.out wr Ym.out 2 _ rfl
    have y3:wr.cell? ⟨jb,k*9+3,none⟩=some (.int .i64 ja.cO):=JQ.out wr Ym.out 3 _ rfl
    have y4:wr.cell? ⟨jb,k*9+4,none⟩=some (.int .i64 ja.aF):=JQ.out wr Ym.out 4 _ rfl
    have y5:wr.cell? ⟨jb,k*9+5,none⟩=some (.int .i64 ja.bU):=JQ.out wr Ym.out 5 _ rfl
    have y6:wr.cell? ⟨jb,k*9+6,none⟩=some (.int .i64 ja.ay):=JQ.out wr Ym.out 6 _ rfl
    have yp:=HI.out.ptr.1
    have F6:Hid ((fun w'=>w'.cell? ⟨L.pb,0,none⟩=some (.pointer (some ⟨L.gp,0,none⟩))∧w'.cell? ⟨jb,k*9,none⟩=some (.int .i64 ja.kind)∧w'.cell? ⟨jb,k*9+1,none⟩=some (.string ⟨ja.name.toArray⟩)∧w'.cell? ⟨jb,k*9+2,none⟩=some (.int .u64 (ja.key.toNat:Int))∧w'.cell? ⟨jb,k*9+3,none⟩=some (.int .i64 ja.cO)∧w'.cell? ⟨jb,k*9+4,none⟩=some (.int .i64 ja.aF)∧w'.cell? ⟨jb,k*9+5,none⟩=some (.int .i64 ja.bU)∧w'.cell? ⟨jb,k*9+6,none⟩=some (.int .i64 ja.ay)) wr):=⟨yp,y0,y1,y2,y3,y4,y5,y6⟩
    clear hkind hdr hdv HD hdo hA
    go_wp2_with fail
    go_region_held3 (fun w'=>w'.cell? ⟨L.pb,0,none⟩=some (.pointer (some ⟨L.gp,0,none⟩))∧w'.cell? ⟨jb,k*9,none⟩=some (.int .i64 ja.kind)∧w'.cell? ⟨jb,k*9+1,none⟩=some (.string ⟨ja.name.toArray⟩)∧w'.cell? ⟨jb,k*9+2,none⟩=some (.int .u64 (ja.key.toNat:Int))∧w'.cell? ⟨jb,k*9+3,none⟩=some (.int .i64 ja.cO)∧w'.cell? ⟨jb,k*9+4,none⟩=some (.int .i64 ja.aF)∧w'.cell? ⟨jb,k*9+5,none⟩=some (.int .i64 ja.bU)∧w'.cell? ⟨jb,k*9+6,none⟩=some (.int .i64 ja.ay)) (first | exact HS2.out | exact F6.out) (first|(go_at_call 19;refine (HAc.out _ (by (first | exact World.grownBy.refl _ _ | exact aO (World.grownBy.refl _ _) _))).mono ?_;rintro e w2 ⟨rfl,hI2,LM⟩;have JS:Hid (Stp wr Or w2 Or):=(Stp.gb (by (first | exact World.grownBy.refl _ _ | exact aO (World.grownBy.refl _ _) _))).trans LM;have zq:CF w w2 (fun b _=>O b):=(Stp.trans UZ.out (Stp.trans zL.out JS.out)).cf;have HS2:Hid ((fun w'=>w'.cell? ⟨L.pb,0,none⟩=some (.pointer (some ⟨L.gp,0,none⟩))∧w'.cell? ⟨jb,k*9,none⟩=some (.int .i64 ja.kind)∧w'.cell? ⟨jb,k*9+1,none⟩=some (.string ⟨ja.name.toArray⟩)∧w'.cell? ⟨jb,k*9+2,none⟩=some (.int .u64 (ja.key.toNat:Int))∧w'.cell? ⟨jb,k*9+3,none⟩=some (.int .i64 ja.cO)∧w'.cell? ⟨jb,k*9+4,none⟩=some (.int .i64 ja.aF)∧w'.cell? ⟨jb,k*9+5,none⟩=some (.int .i64 ja.bU)∧w'.cell? ⟨jb,k*9+6,none⟩=some (.int .i64 ja.ay)) w2):=⟨hI2.ptr.1,JQ.out w2 zq 0 _ rfl,JQ.out w2 zq 1 _ rfl,JQ.out w2 zq 2 _ rfl,JQ.out w2 zq 3 _ rfl,JQ.out w2 zq 4 _ rfl,JQ.out w2 zq 5 _ rfl,JQ.out w2 zq 6 _ rfl⟩;have HI2:=hid hI2;clear hI2 LM zq))
    obtain ⟨c1,c2⟩:=HCD.out w2 (Stp.trans zL.out JS.out).cf
    clear y0 y1 y2 y3 y4 y5 y6 yp F6 HS2 HAc
    go_wp2
    go_roundw
    case rel=>
     obtain ⟨d1,d2,d3⟩:=rM.out
     refine ⟨k+1,C',Or,by omega,by go_num,by rw[Ty.out];exact HI2.out,zL.out.trans JS.out,?_,d2,fun he=>?_⟩
     ·rw[Ty.out];exact d1
     ·have h3:=HEk.out he
      by_cases hki:k=ie
      ·rw[if_pos hki] at h3
       exact absurd h3.1 HKd.out
      ·rw[d3 he]
       congr 1
       by_cases hlt2:ie<k
       ·rw[if_pos hlt2,if_pos (by omega)]
       ·rw[if_neg hlt2,if_neg (by omega)]
    case measure=>simp[intOf];omega
  ·have hkn:k=n:=by omega
   subst hkn
   have hall:ms.take k=ms:=List.take_of_length_le (by rw[Hn.out.2];exact Nat.le_refl _)
   rw[hall] at HI rM
   have rT:¬ (k:Int)<(k:Int):=by omega
   obtain ⟨_,p2,p3⟩:=HI.out.ptr
   have HId:=hid (ada w0 L _ _ nm C' Or wr HI.out)
   go_wp2_with fail
   refine HId.out.mono ?_
   rintro e w2 ⟨rfl,g2⟩
   have HG:=hid g2
   clear HId g2 p2 p3
   go_wp2
   go_ret
   refine ⟨rfl,Or,C',HI.out.gb HG.out,(UZ.out.trans zL.out).trans (Stp.gb HG.out),rM.out.1,rM.out.2.1,fun he hie=>?_⟩
   rw[rM.out.2.2 he,if_pos hie]
end Go.Proofs.YtpibgolaaaemnaaGreatDoor
namespace Go.Proofs.YtpibgolaaaemnaaGreatDoor
open Go.RowKit
set_option maxRecDepth 100000
def TW (w0:World) (L:TL) (nd k:Nat) (W:World):Prop:=
 ∃ M C O,k≤nd∧TI w0 L M M (1+k) C O W∧dE M (k+20)∧24*C+7*M.aV.length≤5000∧1≤C
def TV (w0:World) (L:TL) (nd n0 k0 size k:Nat) (v:Value) (W:World):Prop:=
 ∃ M C O js ms ja jc,k≤nd∧TI w0 L M M (1+k) C O W∧dE M (k0+20)∧24*C+7*M.aV.length≤5000∧1≤C∧JR W O n0 v js ms∧v = .slice ja js.length jc∧k=k0+js.length∧js.length≤size
theorem TW.start {w0:World} {L:TL} {nd n0 k size:Nat} {W:World} (h:TW w0 L nd k W):TV w0 L nd n0 k size k (.slice none 0 0) W:=by
 obtain ⟨M,C,O,h1,h2,h3,h4,h5⟩:=h
 exact ⟨M,C,O,[],[],none,0,h1,h2,h3,h4,h5,JR.nil W O n0,rfl,rfl,Nat.zero_le _⟩
theorem TV.push {w0:World} {L:TL} {nd k0 size k C:Nat} {M:DM} {O:Nat→Prop} {v:Value} {js:List jr} {ms:List gF} {j:jr} {m:gF} {a6:Option Addr} {c6:Nat} {W w6:World} (hT:TI w0 L M M (1+k+1) C O W) (hJ:JR W O w0.heap.size v js ms) (h1:dE M (k0+20)) (h2:24*C+7*M.aV.length≤5000) (h3:1≤C) (h4:k=k0+js.length) (h5:k+1≤nd) (h6:js.length<size) (q1:JR w6 O w0.heap.size (.slice a6 (js.length+1) c6) (js++[j]) (ms++[m])) (q2:CF W w6 (fun b _=>v.ownBlock=some b)):TV w0 L nd w0.heap.size k0 size (k+1) (.slice a6 (js.length+1) c6) w6:=
 ⟨M,C,O,_,_,a6,c6,h5,hT.ZX hJ (Nat.le_refl _) q2,h1,h2,h3,q1,by rw[List.length_append];rfl,by rw[List.length_append,List.length_singleton];omega,by rw[List.length_append,List.length_singleton];omega⟩
theorem NH (q:Bool) (lo hi g:Nat) (M:DM) (w:World) (hS:KS q lo hi w g M) :
  Calls Tryz.prog 12 #[.agg (uL q g)] w fun e w'=>∃ bn bu,e = .returned (.agg (ry bn bu M.aH.length M.bK.length M.aV.length))∧(∀ k,k<M.aH.length→w'.cell? ⟨bn,k,none⟩=some (.string ⟨((M.aH.map fun x=>x.name).getD k []).toArray⟩))∧(∀ k,k<M.aH.length→w'.cell? ⟨bu,k,none⟩=some (.int .i64 ((M.aH.map fun x=>x.ag).getD k 0)))∧w.grownBy w' none:=by
 obtain ⟨_,_,dp,h3,_⟩:=hS
 refine (L8 q g dp M w h3).mono ?_
 rintro e w' ⟨bn,bu,rfl,r1,r2,hg⟩
 refine ⟨bn,bu,rfl,fun k hk=>?_,fun k hk=>?_,hg⟩
 ·have h:=r1.cells (g:=bn) rfl k (.string ⟨((M.aH.map fun x=>x.name).getD k []).toArray⟩) (by simp[hk])
  rw[Addr.add_lit,Nat.zero_add] at h
  exact h
 ·have h:=r2.cells (g:=bu) rfl k (.int .i64 ((M.aH.map fun x=>x.ag).getD k 0)) (by simp[hk])
  rw[Addr.add_lit,Nat.zero_add] at h
  exact h
theorem KS.wide {q:Bool} {lo hi lo' hi' g:Nat} {w:World} {M:DM} (h:KS q lo hi w g M) (h1:lo'≤lo) (h2:hi≤hi'):KS q lo' hi' w g M:=by
 obtain ⟨a,b,dp,c,d⟩:=h
 exact ⟨by omega,by omega,dp,c,fun p hp=>by obtain ⟨d1,d2,d3⟩:=d p hp;exact ⟨d1,by omega,by omega⟩⟩
theorem JR.at {w:World} {O:Nat→Prop} {n0:Nat} {v:Value} {js:List jr} {ms:List gF} (h:JR w O n0 v js ms) (h1:1≤js.length):∃ jb cap,v = .slice (some ⟨jb,0,none⟩) js.length cap∧w.rangeAt jb 0 (dM js)∧jb<w.heap.size∧¬ O jb:=by
 rcases h.row.2 with ⟨_,hn⟩ | ⟨g,cap,cur,hv,_⟩
 ·omega
 ·subst hv
  refine ⟨g,cap,rfl,fun j u hu=>?_,(h.row.lt g rfl).2,(h.nb g rfl).2⟩
  have:=h.row.cells (g:=g) rfl j u hu
  rwa [Addr.add_lit] at this
theorem TI.came {w0:World} {L:TL} {Mp Mq:DM} {n C:Nat} {O:Nat→Prop} {w:World} (h:TI w0 L Mp Mq n C O w):∃ ca cc,w.cell? ⟨L.pb,4,none⟩=some (.slice ca C cc):=by
 obtain ⟨cs,ls,ms,now,ca,la,ma,cc,lc,mc,rfl,h,q1,_⟩:=h
 exact ⟨ca,cc,by rw[←q1];exact h.pair.cell 4⟩
theorem TI.ad5 {w0:World} {L:TL} {Mp Mq:DM} {n C:Nat} {O:Nat→Prop} {w:World} (h:TI w0 L Mp Mq n C O w):KS false L.lo L.mid w L.gp Mp∧KS true L.mid L.hi w L.gq Mq∧w.cell? ⟨L.pb,0,none⟩=some (.pointer (some ⟨L.gp,0,none⟩))∧w.cell? ⟨L.pb,1,none⟩=some (.pointer none)∧w.cell? ⟨L.pb,2,none⟩=some (.pointer none)∧w.cell? ⟨L.pb,3,none⟩=some (.pointer (some ⟨L.gq,0,none⟩)):=by
 obtain ⟨cs,ls,ms,now,ca,la,ma,cc,lc,mc,rfl,h,_⟩:=h
 exact ⟨h.plain,h.quick,h.pair.cell 0,h.pair.cell 1,h.pair.cell 2,h.pair.cell 3⟩
theorem TI.cell {w0:World} {L:TL} {Mp Mq:DM} {n C:Nat} {O:Nat→Prop} {w:World} (h:TI w0 L Mp Mq n C O w) {a:Addr} {v:Value} (hc:w0.cell? a=some v):w.cell? a=some v:=(mF h.Nn).cell hc (by simp)
def JC (w0:World) (L:TL) (M:DM) (k C:Nat) (O:Nat→Prop) (W:World) (p f:Value) (wx:World):Prop:=
 f = .bool true∧∃ (cb:Nat) (a:jJ) (now:Int) (va:Option Addr) (vn vc:Nat) (aG:List UInt8) (O':Nat→Prop),p = .pointer (some ⟨cb,0,none⟩)∧bI wx cb (bF a now (.slice va vn vc))∧gF.Ok (a,now,aG)∧KI O' wx (.slice va vn vc) aG∧aG.length≤140737488355328∧TI w0 L M M (1+k+1) C O' wx∧Stp W O wx O'
theorem JC.new {w0:World} {L:TL} {M:DM} {k C:Nat} {O O':Nat→Prop} {W w3:World} {a:jJ} {now:Int} {va:Option Addr} {vn vc:Nat} {aG:List UInt8} (h1:gF.Ok (a,now,aG)) (h2:KI O' w3 (.slice va vn vc) aG) (h3:aG.length≤140737488355328) (h4:TI w0 L M M (1+k+1) C O' w3) (h5:Stp W O w3 O'):JC w0 L M k C O W (.pointer (some ⟨w3.heap.size,0,none⟩)) (.bool true) (w3.alloc (.cells (bF a now (.slice va vn vc)) 45)):=
 ⟨rfl,w3.heap.size,a,now,va,vn,vc,aG,O',rfl,bI.new w3 _ _,h1,h2.step (Stp.gb (World.grownBy_alloc w3 _ none)),h3,h4.gb (World.grownBy_alloc w3 _ none),h5.trans (Stp.gb (World.grownBy_alloc w3 _ none))⟩
def TB (w0:World) (L:TL) (sk nw:Int) (ds:List UInt8) (nb n0 k:Nat) (v:Value) (W:World):Prop:=
 (∃ ja jc,v = .slice ja k jc)∧JR W (eU L.lo L.hi L.pb none none none) n0 v (vP k) (JB k)∧TI w0 L ⟨sk,[],[],ds⟩ ⟨sk,[],[],ds⟩ 1 0 (eU L.lo L.hi L.pb none none none) W∧bI W nb ru∧nb<n0∧L.pb<n0∧w0.heap.size≤n0∧n0≤W.heap.size∧W.cell? ⟨L.pb,7,none⟩=some (.int .i64 nw)
theorem TB.step {w0:World} {L:TL} {sk nw:Int} {ds:List UInt8} {nb n0 k:Nat} {v:Value} {W w6:World} {a6:Option Addr} {c6:Nat} (h:TB w0 L sk nw ds nb n0 k v W) (hJ:JR w6 (eU L.lo L.hi L.pb none none none) n0 (.slice a6 ((vP k).length+1) c6) (vP k++[(uw (Qw k) (UInt64.ofNat (1000001+k)),0,.slice none 0 0)]) (JB k++[(uw (Qw k) (UInt64.ofNat (1000001+k)),0,[])])) (hc:CF W w6 (fun b _=>v.ownBlock=some b)):TB w0 L sk nw ds nb n0 (k+1) (.slice a6 (k+1) c6) w6:=by
 obtain ⟨_,h2,h3,h4,h5,h6,h7,h8,h9⟩:=h
 rw[xx,←P8,←P9] at hJ
 have hb:∀ b,v.ownBlock=some b→n0≤b:=fun b e=>(h2.row.lt b e).1
 exact ⟨⟨a6,c6,rfl⟩,hJ,h3.ZX h2 h7 hc,h4.Uq hc (fun _ e=>by have:=hb _ e;omega),h5,h6,h7,Nat.le_trans h8 hc.size,hc.cell h9 (fun e=>by have:=hb _ e;omega)⟩
theorem TB.step2 {w0:World} {L:TL} {sk nw:Int} {ds:List UInt8} {nb n0 k:Nat} {ja:Option Addr} {jc:Nat} {T:List UInt8} {ky:UInt64} {W w6:World} {a6:Option Addr} {c6:Nat} {o:Obj} (h:TB w0 L sk nw ds nb n0 k (.slice ja k jc) W) (hT:Qw k=T) (hk:UInt64.ofNat (1000001+k)=ky) (hl:T.length≤20)
  (r1:w6.ownsRow n0 45 9 (.slice a6 (k+1) c6) (k+1) (dM (vP k)++(bF (uw T ky) 0 (.slice none 0 0)).toList)) (r2:CF (W.alloc o) w6 (fun b _=>(Value.slice ja k jc).ownBlock=some b)) (r3:(Value.slice a6 (k+1) c6).ownBlock=(Value.slice ja k jc).ownBlock∨(Value.slice a6 (k+1) c6).ownBlock=some (W.alloc o).heap.size) (r4:∀ b,(Value.slice a6 (k+1) c6).ownBlock=some b→Db w6 b):TB w0 L sk nw ds nb n0 (k+1) (.slice a6 (k+1) c6) w6:=by
 subst hT hk
 have hJ:=h.2.1
 have hlen:=xx k
 obtain ⟨q1,q2⟩:=hJ.push (j:=(uw (Qw k) (UInt64.ofNat (1000001+k)),0,.slice none 0 0)) (m:=(uw (Qw k) (UInt64.ofNat (1000001+k)),0,[])) (ao:=a6) (c':=c6) (o:=o) h.2.2.1.lt ⟨rfl,rfl,KI.nil _ _,Nat.zero_le _⟩ (ND _ _ hl) ⟨none,0,0,rfl⟩ (by rw[hlen];exact r1) r2 (by rw[hlen];exact r3) (by rw[hlen];exact r4)
 exact h.step q1 q2
theorem TV.ad6 {w0:World} {L:TL} {nd k0 size k C nj:Nat} {M:DM} {O:Nat→Prop} {ja:Option Addr} {jc:Nat} {js:List jr} {ms:List gF} {a:jJ} {now:Int} {va:Option Addr} {vn vc:Nat} {aG:List UInt8} {a6:Option Addr} {c6:Nat} {W w6:World} {o:Obj} (hT:TI w0 L M M (1+k+1) C O W) (hJ:JR W O w0.heap.size (.slice ja js.length jc) js ms) (h1:dE M (k0+20)) (h2:24*C+7*M.aV.length≤5000) (h3:1≤C) (h4:k=k0+js.length) (h5:k<nd) (h6:js.length<size) (hn:js.length=nj) (j1:gF.Ok (a,now,aG)) (j2:KI O W (.slice va vn vc) aG) (j3:aG.length≤140737488355328)
  (r1:w6.ownsRow w0.heap.size 45 9 (.slice a6 (nj+1) c6) (nj+1) (dM js++(bF a now (.slice va vn vc)).toList)) (r2:CF (W.alloc o) w6 (fun b _=>(Value.slice ja nj jc).ownBlock=some b)) (r3:(Value.slice a6 (nj+1) c6).ownBlock=(Value.slice ja nj jc).ownBlock∨(Value.slice a6 (nj+1) c6).ownBlock=some (W.alloc o).heap.size) (r4:∀ b,(Value.slice a6 (nj+1) c6).ownBlock=some b→Db w6 b):TV w0 L nd w0.heap.size k0 size (k+1) (.slice a6 (nj+1) c6) w6:=by
 subst hn
 obtain ⟨q1,q2⟩:=hJ.push (j:=(a,now,.slice va vn vc)) (m:=(a,now,aG)) (ao:=a6) (c':=c6) (o:=o) hT.lt ⟨rfl,rfl,j2,j3⟩ j1 ⟨_,_,_,rfl⟩ r1 r2 r3 r4
 exact TV.push hT hJ h1 h2 h3 h4 h5 h6 q1 q2
set_option maxHeartbeats 16000000 in
theorem Qm (ax seed aV start:Int) (sa ad:Option Addr) (ns cs nd cd:Nat) (w:World) (hsk:In64 ax) (hdr:In64 aV) (hst:In64 start) (hS:Uz w sa ns) (hD:Yf w ad nd) (hnd:nd≤2513169434916) (hns:ns≤140737488355328) (htab:eO w) :
  Calls Tryz.prog 3 #[.int .i64 ax,.int .i64 seed,.int .i64 aV,.int .i64 start,.slice sa ns cs,.slice ad nd cd] w fun e w'=>e = .returned (.bool true)∧Below w.heap.size w w':=by
 have Ga:Hid (∀ (c:Int) (k:Nat) (W:World),In64 c→1≤k→k≤9223372036854775807→Calls Tryz.prog 4 #[.int .i64 c,.int .i64 (k:Int)] W fun e w'=>e = .returned (.int .i64 (fZ c k:Int))∧W=w'):=fun c k W hc h1 h2=>by
  have:=Ee c k W hc ⟨by omega,by omega⟩
  simpa using this
 have hs3:=gL ax 301 (by decide)
 obtain ⟨sN,hsN⟩:∃ s,fZ ax 301=s:=⟨_,rfl⟩
 rw[hsN] at hs3
 obtain ⟨sk,ad7⟩:∃ s:Int,(sN:Int)=s:=⟨_,rfl⟩
 have ad8:0≤sk:=by omega
 have ad9:sk≤300:=by omega
 have hd6:=gL aV 600 (by decide)
 obtain ⟨d,hd⟩:∃ s,fZ aV 600=s:=⟨_,rfl⟩
 rw[hd] at hd6
 obtain ⟨n,hn⟩:∃ n,24+d=n:=⟨_,rfl⟩
 have hwd:IntKind.i64.wrap (24+(d:Int))=(n:Int):=by rw[IntKind.wrap_i64];omega
 have HPs:Hid (∀ W,Calls Tryz.prog 4 #[.int .i64 ax,.int .i64 301] W fun e w'=>e = .returned (.int .i64 sk)∧W=w'):=fun W=>by
  have h:=Ga.out ax 301 W hsk (by decide) (by decide)
  rw[hsN,ad7] at h
  exact h
 have HPd:Hid (∀ W,Calls Tryz.prog 4 #[.int .i64 aV,.int .i64 600] W fun e w'=>e = .returned (.int .i64 (d:Int))∧W=w'):=fun W=>by
  have h:=Ga.out aV 600 W hdr (by decide) (by decide)
  rw[hd] at h
  exact h
 have FM:=hid (And.intro ad8 ad9)
 have HN:=hid (And.intro (show 24≤n by omega) (show n≤623 by omega))
 have HAr:=hid (And.intro hS (And.intro hD (And.intro hnd (And.intro hns (And.intro htab hst)))))
 clear hsk hdr hst hS hD hnd hns htab hs3 hsN ad7 ad8 ad9 hd6 hd hn
 go_enter Tryz.func3,Tryz.ntmps3
 go_wp2_with (first|(go_at_call 4;with_reducible refine Calls.mono (HPs.out _) ?_;rintro e wz ⟨rfl,rfl⟩;clear HPs)|(go_at_call 4;with_reducible refine Calls.mono (HPd.out _) ?_;rintro e wz ⟨rfl,rfl⟩;clear HPd)|(go_at_call 5;refine (Ma n seed _ (by have:=HN.out;omega)).mono ?_;rintro e w1 ⟨o1,ds,rfl,hl1,m1,g1⟩))
 obtain ⟨a1,c1,hv1⟩:=m1.has.shape
 rw[hl1] at hv1
 subst hv1
 have Cv:=hid (Jr false sk a1 n c1 n ds w1 FM.out.1 FM.out.2 (NA n c1 a1 ds w1 m1.has (hid hl1) (by have:=HN.out;omega) (by have:=HN.out;omega)))
 have HM1:=hid (And.intro m1.has (And.intro hl1 g1))
 clear m1 hl1 g1 hwd
 go_wp2_with fail
 refine Cv.out.mono ?_
 rintro e w2 ⟨gp,dp,rfl,hD1,hg1,hf1,hne1,g2⟩
 have HS1:Hid (KS false w1.heap.size w2.heap.size w2 gp ⟨sk,[],[],ds⟩):=⟨hg1,hD1.dX.live.lt,dp,hD1,fun p hp=>⟨hne1 p hp,hf1 p hp,hD1.dX.Et hp⟩⟩
 have HG2:=hid g2
 obtain ⟨W3,hW3⟩:∃ W,W=w2.alloc (.cells #[.pointer (some ⟨gp,0,none⟩),.pointer none] 30):=⟨_,rfl⟩
 have Qk:w2.grownBy W3 none:=by rw[hW3];exact World.grownBy_alloc w2 _ none
 have HBp:Hid (bI W3 w2.heap.size #[.pointer (some ⟨gp,0,none⟩),.pointer none]):=by rw[hW3];exact bI.new w2 _ _
 have Hs3:Hid (W3.heap.size=w2.heap.size+1):=by rw[hW3];exact World.size_alloc _ _
 have HW3:=hid hW3
 have aat:=hid Qk
 have tZ:=hid (Jr true sk a1 n c1 n ds W3 FM.out.1 FM.out.2 (NA n c1 a1 ds W3 (HM1.out.1.grown (ae g2 Qk)) (hid HM1.out.2.1) (by have:=HN.out;omega) (by have:=HN.out;omega)))
 clear hD1 hg1 hf1 hne1 g2 Cv Qk hW3
 simp only[uL]
 go_wp2_with (rw[←HW3.out];fail_if_success done)
 refine tZ.out.mono ?_
 rintro e w4 ⟨gq,dq,rfl,hD2,hg2,hf2,hne2,g4⟩
 have HS2:Hid (KS true W3.heap.size w4.heap.size w4 gq ⟨sk,[],[],ds⟩):=⟨hg2,hD2.dX.live.lt,dq,hD2,fun p hp=>⟨hne2 p hp,hf2 p hp,hD2.dX.Et hp⟩⟩
 have vS:=hid g4
 have bp:=HBp.out.grown g4 (by simp)
 obtain ⟨p0,p1⟩:=bp.two
 have GA:=World.grownBy_alloc w4 (.cells #[.pointer none,.pointer (some ⟨gq,0,none⟩)] 30) none
 have p0a:=GA.cell p0 (by simp)
 have p1a:=GA.cell p1 (by simp)
 clear hD2 hg2 hf2 hne2 g4 tZ bp
 simp only[uL]
 obtain ⟨nw,hnw⟩:∃ x,start.tmod 1099511627776=x:=⟨_,rfl⟩
 have yN:=zK start 1099511627776 (by decide)
 rw[hnw] at yN
 have hwn:IntKind.i64.wrap (start.tmod 1099511627776)=nw:=by rw[hnw,IntKind.wrap_i64];omega
 have aea:-1099511627776≤nw:=by omega
 have aeb:nw≤1099511627776:=by omega
 have Qc:=hid (And.intro aea aeb)
 obtain ⟨W5,hW5⟩:∃ W,W=(w4.alloc (.cells #[.pointer none,.pointer (some ⟨gq,0,none⟩)] 30)).alloc (.cells (Nl gp gq (.slice none 0 0) (.slice none 0 0) (.slice none 0 0) nw) 38):=⟨_,rfl⟩
 have HW5:=hid hW5
 clear aea aeb yN hW5
 go_wp2_with (first|(rw[←HW5.out];fail_if_success done)|(go_at_call 7;refine (vK W5).mono ?_;rintro e W7 ⟨rfl,Nb⟩))
 have J8:w4.grownBy W5 none:=by rw[HW5.out];exact aC GA _
 have bP:bI W5 (w4.heap.size+1) (Nl gp gq (.slice none 0 0) (.slice none 0 0) (.slice none 0 0) nw):=by rw[HW5.out];exact JE w4 _ _ _
 have s5:W5.heap.size=w4.heap.size+2:=by rw[HW5.out,World.size_alloc,World.size_alloc]
 have G57:W5.grownBy W7 none:=by rw[←Nb];exact World.grownBy_alloc _ _ none
 have bN:bI W7 W5.heap.size ru:=by rw[←Nb];exact bI.new _ _ _
 have GW1:=HM1.out.2.2
 have GW4:w.grownBy w4 none:=ae (ae (ae GW1 HG2.out) aat.out) vS.out
 have GW7:w.grownBy W7 none:=ae (ae GW4 J8) G57
 have aau:In64 nw:=⟨by have:=Qc.out;omega,by have:=Qc.out;omega⟩
 obtain ⟨L,hLe⟩:∃ L:TL,L=⟨w1.heap.size,W3.heap.size,w4.heap.size,gp,gq,w4.heap.size+1⟩:=⟨_,rfl⟩
 have FU:TS w L ⟨sk,[],[],ds⟩ ⟨sk,[],[],ds⟩ [] [] [] nw none none none 0 0 0 W7:=by
  have h1:=GW1.size
  have h2:=HG2.out.size
  have h3:=Hs3.out
  have h4:=vS.out.size
  subst hLe
  exact ⟨(HS1.out.gb (ae (ae (ae aat.out vS.out) J8) G57)).wide (Nat.le_refl _) (by show w2.heap.size≤W3.heap.size;omega),(HS2.out.gb (ae J8 G57)),bP.grown G57 (by simp),World.ownsRow_nil _ _ _ _,World.ownsRow_nil _ _ _ _,World.ownsRow_nil _ _ _ _,⟨by simp[jO],by simp[jO],by simp[jO]⟩,⟨fun b e=>by simp[jO] at e,fun b e=>by simp[jO] at e,fun b e=>by simp[jO] at e⟩,fun x hx=>by simp at hx,fun x hx=>by simp at hx,fun x hx=>by simp at hx,aau,Gd GW7,⟨h1,(by show w1.heap.size≤W3.heap.size;omega),h4,(by show w4.heap.size≤w4.heap.size+1;omega)⟩⟩
 have aee:w4.heap.size+1=L.pb:=by rw[hLe]
 have s7:W7.heap.size=W5.heap.size+1:=by rw[←Nb];exact World.size_alloc _ _
 have HT0:Hid (TB w L sk nw ds W5.heap.size W7.heap.size 0 (.slice none 0 0) W7):=⟨⟨none,0,rfl⟩,JR.nil _ _ _,⟨[],[],[],nw,none,none,none,0,0,0,rfl,FU,rfl,rfl,Nat.zero_le _⟩,bN,by omega,by omega,GW7.size,Nat.le_refl _,FU.pair.cell 7⟩
 have FV:=hid HAr.out.2.2.2.2.1
 have aef:Hid (∀ n,dE ⟨sk,[],[],ds⟩ n):=fun n=>dE.new FM.out.1 FM.out.2 (by have:=HM1.out.2.1;have:=HN.out;omega) n
 obtain ⟨t0,Yn,hdone,htc,aeg⟩:=Qa sk nw ds FM.out.1 FM.out.2 Qc.out.1 Qc.out.2 (by have:=HM1.out.2.1;have:=HN.out;omega)
 have HGv:=hid (And.intro Yn (And.intro hdone (And.intro htc aeg)))
 have HDl:Hid (ds.length≤623):=by have:=HM1.out.2.1;have:=HN.out;show _≤_;omega
 have Xy:=hid aau
 rw[aee]
 obtain ⟨nb,hnb⟩:∃ nb,W5.heap.size=nb:=⟨_,rfl⟩
 obtain ⟨n0,hn0⟩:∃ n0,W7.heap.size=n0:=⟨_,rfl⟩
 rw[hnb,hn0] at HT0
 rw[hnb]
 clear FU aee s7 hLe Yn hdone htc aeg aau J8 bP s5 G57 bN GW1 GW4 GW7 Nb hnb hn0 HS1 HS2 HG2 aat vS HBp Hs3 HW3 HW5 HM1 GA p0 p1 p0a p1a hwn hnw
 go_wp2
 go_loopw [20,22] (fun v i wr=>∃ k:Nat,k≤5∧i = .int .i64 (k:Int)∧TB w L sk nw ds nb n0 k v wr) (fun _ i _=>5-(intOf i).toNat)
 case atStart=>exact ⟨0,by omega,rfl,HT0.out⟩
 case round=>
  obtain ⟨k,hk,rfl,hB⟩:=hrel
  obtain ⟨⟨ja,jc,rfl⟩,hB2⟩:=hB
  have HB:Hid (TB w L sk nw ds nb n0 k (.slice ja k jc) wr):=⟨⟨ja,jc,rfl⟩,hB2⟩
  have HB2:=hid hB2
  clear hB2
  by_cases hlt:k<5
  ·obtain ⟨T,hT⟩:∃ T,Qw k=T:=⟨_,rfl⟩
   obtain ⟨ky,Yg⟩:∃ ky,UInt64.ofNat (1000001+k)=ky:=⟨_,rfl⟩
   have hku:=Xc k hlt
   rw[Yg] at hku
   obtain ⟨hn1,hn2⟩:=adb k hlt
   rw[hT] at hn1 hn2
   have y1:wr.cell? ⟨nb,k,none⟩=some (.string ⟨T.toArray⟩):=by rw[HB2.out.2.2.1.cell];exact hn1
   have rT:(k:Int)<5:=by omega
   have hk7:(k:Int)<7:=by omega
   have hk0:(0:Int)≤(k:Int):=by omega
   have hw1:IntKind.i64.wrap (1000001+(k:Int))=1000001+(k:Int):=by rw[IntKind.wrap_i64];omega
   have HTl:=hid hn2
   have HTe:=hid hT
   have HKe:=hid Yg
   have HJ:Hid (JR wr (eU L.lo L.hi L.pb none none none) n0 (.slice ja k jc) (vP k) (JB k)):=HB2.out.1
   have HO:Hid ((∀ b,eU L.lo L.hi L.pb none none none b→b<wr.heap.size)∧n0≤wr.heap.size):=⟨HB2.out.2.1.lt,HB2.out.2.2.2.2.2.2.1⟩
   have hlk:(vP k).length+1=k+1:=by rw[xx]
   clear hn1 hn2 hT Yg HB2
   obtain ⟨ij,hij,hj0,hj1,hj2⟩:=info_parts Tryz.xw
   have hown:=HJ.out.row
   rw[xx] at hown
   have hl63:k+1≤maxLen:=by unfold maxLen;omega
   have hby:(k+1)*96≤140737488355328:=by omega
   obtain ⟨hnb,hx2⟩:=HJ.out.wants (.cells #[.int .i64 1,.string ⟨T.toArray⟩,.int .u64 (ky.toNat:Int),.int .i64 200,.int .i64 300,.int .i64 0,.int .i64 30,.int .i64 0,.slice none 0 0] 45)
   have HS:=hid (And.intro hown (And.intro hnb hx2))
   clear hown hnb hx2 hlk
   go_wp2_with (refine p8 _ rfl _ _ 39 rfl n0 45 ij _ 9 96 Tryz.underlying39 hij hj0 hj1 hj2 rfl (by decide) (.slice ja k jc) k (dM (vP k)) ?s1 (HS.out.1.alloc _) ⟨wr.heap.size,0,none⟩ 1 1 (bF (uw T ky) 0 (.slice none 0 0)).toList ?s2 rfl ?s3 ?s4 (by decide) hl63 hby ?s5 HS.out.2.1 ?s6 HS.out.2.2 Nz ?_;(case s1=>first | rfl | simp[Act.eval,Act.put]);(case s2=>first | rfl | simp[Act.eval,Act.put]);(case s3=>exact jS wr _ _);(case s4=>exact fun u hu=>(vO _ _ _ ⟨none,0,0,rfl⟩ u hu).2);(case s5=>have:=HO.out.2;simp;omega);(case s6=>exact fun u hu=>(vO _ _ _ ⟨none,0,0,rfl⟩ u hu).1);intro a6 c6 w6 r1 r2 r3 r4;have R6:=hid (TB.step2 HB.out HTe.out HKe.out HTl.out r1 r2 r3.out r4);clear r1 r2 r3 r4)
   go_roundw
   case rel=>exact ⟨k+1,by omega,by go_num,R6.out⟩
   case measure=>simp[intOf];omega
  ·have hk5:k=5:=by omega
   subst hk5
   have rT:¬ ((5:Nat):Int)<5:=by omega
   have HJ:Hid (JR wr (eU L.lo L.hi L.pb none none none) n0 (.slice ja 5 jc) (vP 5) (JB 5)):=HB2.out.1
   have Fu:=hid HB2.out.2.1
   have Hn0:=hid HB2.out.2.2.2.2.2
   have x7:wr.cell? ⟨L.pb,7,none⟩=some (.int .i64 nw):=HB2.out.2.2.2.2.2.2.2
   have HF:Hid (∀ W,Calls Tryz.prog 8 #[.string ⟨#[97,108]⟩,.string ⟨#[116,103,115]⟩,.int .i64 1,.int .i64 nw,.int .i64 0,.int .i64 0,.int .i64 7] W fun e w'=>∃ a m c,e = .returned (.slice a m c)∧dL W.heap.size w' (.slice a m c) (il zI nQ 1 nw 0 0 7)∧W.grownBy w' none):=fun W=>by
    refine (BO zI nQ 1 nw 0 0 7 W (by decide) (by decide) ⟨by decide,by decide⟩ Xy.out ⟨by decide,by decide⟩ ⟨by decide,by decide⟩ ⟨by decide,by decide⟩).mono ?_
    rintro e w' ⟨o,rfl,m1,m2⟩
    obtain ⟨a,c,ho⟩:=m1.has.shape
    rw[ho] at m1 ⊢
    exact ⟨a,_,c,rfl,m1,m2⟩
   have aav:Hid (∀ W,wr.grownBy W none→W.cell? ⟨L.pb,7,none⟩=some (.int .i64 nw)):=fun W k=>k.cell x7 (by simp)
   have HLr:Hid ((il zI nQ 1 nw 0 0 7).length≤140737488355328):=Nat.le_trans (El zI nQ 1 nw 0 0 7 (by decide) (by decide)) (by decide)
   clear HB HB2
   go_upto_region 14 with fail
   go_cut [20] (fun v wx=>∃ (ja6:Option Addr) (jc6:Nat) (js:List jr),js.length=6∧v = .slice ja6 6 jc6∧JR wx (eU L.lo L.hi L.pb none none none) n0 v js (fK nw)∧TI w L ⟨sk,[],[],ds⟩ ⟨sk,[],[],ds⟩ 1 0 (eU L.lo L.hi L.pb none none none) wx)
   case first=>
    go_region_held3 (fun w'=>w'.cell? ⟨L.pb,7,none⟩=some (.int .i64 nw)) (first | exact z7.out | exact aav.out _ (by (repeat first | with_reducible refine dS ?_ | with_reducible refine aC ?_ _ | with_reducible exact G8.out | with_reducible exact World.grownBy.refl _ _))) (first
     | (go_at_call 8;refine (HF.out _).mono ?_;rintro e w8 ⟨a8,m8,c8,rfl,hm8,g8⟩;have G8:Hid (wr.grownBy w8 none):=ae (dS (World.grownBy.refl _ _)) g8;have M8:Hid (dL wr.heap.size w8 (.slice a8 m8 c8) (il zI nQ 1 nw 0 0 7)):=dL.base hm8 (Nat.le_refl _);clear hm8 g8)
     | (refine P7 (w:=w8) rfl _ _ rfl (eU L.lo L.hi L.pb none none none) n0 (.slice ja 5 jc) (vP 5) (JB 5) (uN,nw,.slice a8 m8 c8) (uN,nw,il zI nQ 1 nw 0 0 7) ?s1 ?s2 (HJ.out.step (Stp.gb G8.out)) (Fu.out.gb G8.out).lt ⟨rfl,rfl,KI.made M8.out Fu.out.lt,HLr.out⟩ (JD nw _ Xy.out) ⟨_,_,_,rfl⟩ (by decide) (Nat.le_trans Hn0.out.2.1 G8.out.size) ?_;(case s1=>first | rfl | simp[Act.eval,Act.put]);(case s2=>first | rfl | simp[Act.eval,Act.put]);intro a9 c9 w9 hJ9 hc9;have J9:=hid hJ9;have T9:=hid ((Fu.out.gb G8.out).ZX (HJ.out.step (Stp.gb G8.out)) Hn0.out.1 hc9);have z7:Hid (w9.cell? ⟨L.pb,7,none⟩=some (.int .i64 nw)):=hc9.cell (aav.out _ G8.out) (fun e=>(HJ.out.nb _ e).2 (.inr (.inl rfl)));clear hJ9 hc9))
    all_goals go_wp2
    all_goals go_meet
    all_goals exact ⟨a9,c9,vP 5++[(uN,nw,.slice a8 m8 c8)],rfl,rfl,J9.out,T9.out⟩
   case rest=>
    obtain ⟨ja6,jc6,js,hjs,rfl,hJ,Gb⟩:=hcut
    obtain ⟨jb,aaw,Qy,hjr,hjl,hjo⟩:=hJ.at (by omega)
    rw[hjs] at Qy
    rw[Qy]
    have Yo:=hid (ym w L ⟨sk,[],[],ds⟩ 14 1 0 6 jb aaw (eU L.lo L.hi L.pb none none none) js (fK nw) True 5 t0 (FP nQ 1000001) 1 1 (dU ds 1) (dU ds 2) wc Gb (aef.out 14) (by decide) (by decide) hjs (by decide) (by rw[←hJ.len];exact hjs) (Ej nw Xy.out) (fun i h1 h2=>hJ.each i h1 h2) hjr hjl hjo (by show 24*0+7*ds.length≤5000;have:=HDl.out;omega) FV.out (fun _=>HGv.out.1) (fun _=>⟨HGv.out.2.2.1,by decide,HGv.out.2.2.2,⟨by decide,by decide⟩,⟨by decide,by decide⟩,⟨by decide,by decide⟩⟩))
    have Tz:Hid (dE (ek ⟨sk,[],[],ds⟩ (fK nw)) 20):=(aef.out 14).ek (by decide) (fK nw) (Ej nw Xy.out)
    clear hjs Qy hjr hjl hjo hJ Gb HJ Fu Hn0 x7 HF aav HLr
    go_wp2_with fail
    refine Yo.out.mono ?_
    rintro e w8 ⟨rfl,O8,C8,Vl,_,Xz,_,hE8⟩
    have AU:C8=1:=hE8 trivial (by decide)
    subst AU
    obtain ⟨ca,cc,hx4⟩:=Vl.came
    obtain ⟨M1,hM1⟩:∃ M1,ek ⟨sk,[],[],ds⟩ (fK nw)=M1:=⟨_,rfl⟩
    rw[hM1] at Vl Xz Tz
    have HW:Hid (TW w L nd 0 w8):=⟨M1,1,O8,Nat.zero_le _,Vl,Tz.out,Xz,Nat.le_refl _⟩
    clear Vl Xz hE8 Yo Tz hM1 HGv
    go_wp2
    clear hx4
    go_loopw [16,20,23,24] (fun _ _ kv iv wr=>∃ k i:Nat,kv = .int .i64 (k:Int)∧iv = .int .i64 (i:Int)∧i≤k∧TW w L nd k wr) (fun _ _ kv _ _=>nd-(intOf kv).toNat)
    case atStart=>exact ⟨0,0,rfl,rfl,Nat.le_refl _,HW.out⟩
    case round=>
     obtain ⟨k,i,rfl,rfl,hik,hW⟩:=hrel
     have HW2:=hid hW
     have hkn:k≤nd:=hW.choose_spec.choose_spec.choose_spec.1
     clear hW
     have hnd:nd≤2513169434916:=HAr.out.2.2.1
     by_cases hlt:k<nd
     ·have rT:(k:Int)<(nd:Int):=by omega
      go_upto_if 111 with fail
      go_cut [25] (fun z wx=>∃ sz:Nat,z = .int .i64 (sz:Int)∧1≤sz∧sz≤16∧wx=wr)
      case first=>
       as_aux_lemma=>
        by_cases his:i<ns
        ·obtain ⟨b,off,x,rfl,hc,hx⟩:=HAr.out.1 i his
         obtain ⟨M,C,O,_,Gb,_⟩:=HW2.out
         have y:=Gb.cell hc
         have hiI:(i:Int)<(ns:Int):=by omega
         have hi0:(0:Int)≤(i:Int):=by omega
         have hpl:=gL x 16 (by decide)
         obtain ⟨pz,hpz⟩:∃ q,fZ x 16=q:=⟨_,rfl⟩
         rw[hpz] at hpl
         have HP:Hid (∀ W,Calls Tryz.prog 4 #[.int .i64 x,.int .i64 16] W fun e w'=>e = .returned (.int .i64 (pz:Int))∧W=w'):=fun W=>by
          have h:=Ga.out x 16 W hx (by decide) (by decide)
          rw[hpz] at h
          exact h
         have hw:IntKind.i64.wrap (1+(pz:Int))=((1+pz:Nat):Int):=by rw[IntKind.wrap_i64];omega
         clear hc Gb hpz
         go_wp2_with (go_at_call 4;refine (HP.out _).mono ?_;rintro e wz ⟨rfl,rfl⟩)
         go_meet
         exact ⟨1+pz,by simp,by omega,by omega,rfl⟩
        ·have hiI:¬ (i:Int)<(ns:Int):=by omega
         go_wp2
         go_meet
         exact ⟨1,rfl,by decide,by decide,rfl⟩
      case rest=>
       obtain ⟨sz,rfl,hsz1,hsz2,rfl⟩:=hcut
       go_wp2
       go_loopw [20,23] (fun v kv wi=>∃ k':Nat,kv = .int .i64 (k':Int)∧TV w L nd w.heap.size k sz k' v wi) (fun _ kv _=>nd-(intOf kv).toNat)
       case atStart=>exact ⟨k,rfl,HW2.out.start⟩
       case round=>
        obtain ⟨k',rfl,hV⟩:=hrel
        rename World=>wi
        obtain ⟨M,C,O,js,ms,ja,jc,hk',Gb,Cf,hC,AU,hJ,hv,hkk,hjs⟩:=hV
        subst hv
        by_cases c1:js.length<sz
        ·have c1I:((js.length:Nat):Int)<(sz:Int):=by omega
         by_cases c2:k'<nd
         ·have c2I:(k':Int)<(nd:Int):=by omega
          have c20:(0:Int)≤(k':Int):=by omega
          have Fu:=hid Gb
          have HJ:=hid hJ
          have HV:=hid (And.intro Cf (And.intro hC (And.intro AU (And.intro hkk (And.intro hjs (And.intro c1 c2))))))
          obtain ⟨nj,Dc⟩:∃ n,js.length=n:=⟨_,rfl⟩
          rw[Dc] at c1I ⊢
          have Hnj:=hid Dc
          clear Gb hJ Cf hC AU hkk hjs c1 Dc
          go_upto_region 27 with fail
          go_cut [26,27] (fun p f wx=>JC w L M k' C O wi p f wx)
          case first=>
           as_aux_lemma=>
            obtain ⟨b,off,kd,A,B,D,T,S,rfl,hA,hB,hD,hT,hSl,hcell⟩:=HAr.out.2.1 k' c2
            have y0:wi.cell? ⟨b,off+k'*6,none⟩=some (.int .i64 kd):=Fu.out.cell (hcell 0 _ rfl)
            have y1:wi.cell? ⟨b,off+k'*6+1,none⟩=some (.int .i64 A):=Fu.out.cell (hcell 1 _ rfl)
            have y2:wi.cell? ⟨b,off+k'*6+2,none⟩=some (.int .i64 B):=Fu.out.cell (hcell 2 _ rfl)
            have y3:wi.cell? ⟨b,off+k'*6+3,none⟩=some (.int .i64 D):=Fu.out.cell (hcell 3 _ rfl)
            have y4:wi.cell? ⟨b,off+k'*6+4,none⟩=some (.int .i64 T):=Fu.out.cell (hcell 4 _ rfl)
            have y5:wi.cell? ⟨b,off+k'*6+5,none⟩=some (.string ⟨S.toArray⟩):=Fu.out.cell (hcell 5 _ rfl)
            have HJb:=hid (Xl w L M M (1+k') C O kd A B D T S wi Fu.out hA hB hD hT hSl HV.out.2.2.1 (by have:=HV.out.2.1;omega) (by omega))
            clear hA hB hD hT hSl hcell c2
            go_wp2_with (go_at_call 10;refine HJb.out.mono ?_;rintro e w3 ⟨a,now,v,aG,O',rfl,j1,j2,j3,j4,j5⟩;obtain ⟨va,vc,hv⟩:=j2.1.shape;obtain ⟨vn,Yh⟩:∃ n,aG.length=n:=⟨_,rfl⟩;rw[Yh] at hv;subst hv;have HC:=hid (JC.new j1 j2 j3 j4 j5);clear j1 j2 j3 j4 j5 Yh HJb)
            go_meet
            exact HC.out
          case rest=>
           obtain ⟨rfl,cb,a,now,va,vn,vc,aG,O',rfl,bJ,j1,j2,j3,j4,j5⟩:=hcut
           obtain ⟨z0,z1,z2,z3,z4,z5,z6,z7,z8,_⟩:=nine bJ
           have HJ2:=hid (HJ.out.step j5)
           have Hj:=hid (And.intro j1 (And.intro j2 (And.intro j3 j4)))
           have h0:=(mF j4.Nn).size
           have hjl:js.length≤1000:=by have:=HV.out;omega
           clear bJ j1 j2 j3 j4 j5 HJ Fu
           obtain ⟨ij,hij,hj0,hj1,hj2⟩:=info_parts Tryz.xw
           have hown:=HJ2.out.row
           have hl63:js.length+1≤maxLen:=by unfold maxLen;omega
           have hby:(js.length+1)*96≤140737488355328:=by omega
           obtain ⟨hnb,hx2⟩:=HJ2.out.wants (.cells (bF a now (.slice va vn vc)) 45)
           have HS:=hid (And.intro hown (And.intro hnb (And.intro hx2 h0)))
           rw[Hnj.out] at HS hl63 hby
           clear hown hnb hx2 h0 hjl
           go_wp2_with (refine p8 _ rfl _ _ 39 rfl w.heap.size 45 ij _ 9 96 Tryz.underlying39 hij hj0 hj1 hj2 rfl (by decide) (.slice ja nj jc) nj (dM js) ?s1 (HS.out.1.alloc _) ⟨wc.heap.size,0,none⟩ 1 1 (bF a now (.slice va vn vc)).toList ?s2 rfl ?s3 ?s4 (by decide) hl63 hby ?s5 HS.out.2.1 ?s6 HS.out.2.2.1 Nz ?_;(case s1=>first | rfl | simp[Act.eval,Act.put]);(case s2=>first | rfl | simp[Act.eval,Act.put]);(case s3=>exact jS wc _ _);(case s4=>exact fun u hu=>(vO _ _ _ ⟨va,vn,vc,rfl⟩ u hu).2);(case s5=>have:=HS.out.2.2.2;simp;omega);(case s6=>exact fun u hu=>(vO _ _ _ ⟨va,vn,vc,rfl⟩ u hu).1);intro a6 c6 w6 r1 r2 r3 r4;have R6:=hid (TV.ad6 Hj.out.2.2.2 HJ2.out HV.out.1 HV.out.2.1 HV.out.2.2.1 HV.out.2.2.2.1 HV.out.2.2.2.2.2.2 HV.out.2.2.2.2.2.1 Hnj.out Hj.out.1 Hj.out.2.1 Hj.out.2.2.1 r1 r2 r3.out r4);clear r1 r2 r3 r4)
           go_roundw
           case rel=>exact ⟨k'+1,by go_num,R6.out⟩
           case measure=>simp[intOf];omega
         ·as_aux_lemma=>
           have c2I:¬ (k':Int)<(nd:Int):=by omega
           have c3:1≤js.length:=by omega
           have hjle:js.length≤16:=by omega
           obtain ⟨jb,aaw,Qy,hjr,hjl,hjo⟩:=hJ.at (by omega)
           obtain ⟨nj,Dc⟩:∃ n,js.length=n:=⟨_,rfl⟩
           rw[Dc] at Qy ⊢
           injection Qy with e1 _ e3
           subst e1 e3
           have Yo:=hid (ym w L M (k+20) (1+k') C nj jb jc O js ms False 0 t0 (FP nQ 1000001) 0 0 0 0 wi Gb Cf (by omega) (by omega) Dc (by omega) (by rw[←hJ.len];exact Dc) hJ.okm (fun i h1 h2=>hJ.each i h1 h2) hjr hjl hjo hC FV.out (fun e=>e.elim) (fun e=>e.elim))
           have HA2:=hid (And.intro Cf (And.intro hJ.okm (And.intro hk' (And.intro hkk (And.intro Dc (And.intro hJ.len (And.intro AU c3)))))))
           clear Gb Cf hC hJ hjr hjl hjo AU hk' hkk hjs
           go_wp2_with fail
           refine Yo.out.mono ?_
           rintro e w8 ⟨rfl,O8,C8,Vl,_,Xz,Sm,_⟩
           have JY:=hid (And.intro Vl (And.intro Xz Sm))
           clear Vl Xz Sm Yo Dc
           go_wp2
           go_roundw
           case rel=>
            obtain ⟨b1,b2,b3,b4,b5,b6,b7,_⟩:=HA2.out
            obtain ⟨b8,b9,b10⟩:=JY.out
            refine ⟨k',i+1,rfl,by go_num,by omega,ek M ms,C8,O8,b3,b8,?_,b9,by omega⟩
            have:=b1.ek (by omega) ms b2
            rw[show k+20+ms.length=k'+20 by omega] at this
            exact this
           case measure=>simp[intOf];have:=HA2.out;omega
        ·as_aux_lemma=>
          have c1I:¬ ((js.length:Nat):Int)<(sz:Int):=by omega
          have c3:1≤js.length:=by omega
          have hjle:js.length≤16:=by omega
          obtain ⟨jb,aaw,Qy,hjr,hjl,hjo⟩:=hJ.at (by omega)
          obtain ⟨nj,Dc⟩:∃ n,js.length=n:=⟨_,rfl⟩
          rw[Dc] at Qy ⊢
          injection Qy with e1 _ e3
          subst e1 e3
          have Yo:=hid (ym w L M (k+20) (1+k') C nj jb jc O js ms False 0 t0 (FP nQ 1000001) 0 0 0 0 wi Gb Cf (by omega) (by omega) Dc (by omega) (by rw[←hJ.len];exact Dc) hJ.okm (fun i h1 h2=>hJ.each i h1 h2) hjr hjl hjo hC FV.out (fun e=>e.elim) (fun e=>e.elim))
          have HA2:=hid (And.intro Cf (And.intro hJ.okm (And.intro hk' (And.intro hkk (And.intro Dc (And.intro hJ.len (And.intro AU c3)))))))
          clear Gb Cf hC hJ hjr hjl hjo AU hk' hkk hjs
          go_wp2_with fail
          refine Yo.out.mono ?_
          rintro e w8 ⟨rfl,O8,C8,Vl,_,Xz,Sm,_⟩
          have JY:=hid (And.intro Vl (And.intro Xz Sm))
          clear Vl Xz Sm Yo Dc
          go_wp2
          go_roundw
          case rel=>
           obtain ⟨b1,b2,b3,b4,b5,b6,b7,_⟩:=HA2.out
           obtain ⟨b8,b9,b10⟩:=JY.out
           refine ⟨k',i+1,rfl,by go_num,by omega,ek M ms,C8,O8,b3,b8,?_,b9,by omega⟩
           have:=b1.ek (by omega) ms b2
           rw[show k+20+ms.length=k'+20 by omega] at this
           exact this
          case measure=>simp[intOf];have:=HA2.out;omega
     ·as_aux_lemma=>
       have rT:¬ (k:Int)<(nd:Int):=by omega
       obtain ⟨M,C,O,_,Gb,Cf,_⟩:=HW2.out
       obtain ⟨d1,d2,e0,e1,e2,e3⟩:=Gb.ad5
       have Fu:=hid Gb
       have hbl:M.aH.length≤1000000:=Nat.le_trans Cf.aH.len (by decide)
       have J3:Hid (∀ W,wr.grownBy W none→W.cell? ⟨L.pb,0,none⟩=some (.pointer (some ⟨L.gp,0,none⟩))∧W.cell? ⟨L.pb,1,none⟩=some (.pointer none)∧W.cell? ⟨L.pb,2,none⟩=some (.pointer none)∧W.cell? ⟨L.pb,3,none⟩=some (.pointer (some ⟨L.gq,0,none⟩))):=fun W g=>⟨g.cell e0 (by simp),g.cell e1 (by simp),g.cell e2 (by simp),g.cell e3 (by simp)⟩
       obtain ⟨bl,XA⟩:∃ n,M.aH.length=n:=⟨_,rfl⟩
       obtain ⟨pl,aax⟩:∃ n:Int,(M.bK.length:Int)=n:=⟨_,rfl⟩
       obtain ⟨dl,aay⟩:∃ n:Int,(M.aV.length:Int)=n:=⟨_,rfl⟩
       obtain ⟨fx,hfx⟩:∃ f:Nat→ByteArray,(fun k=>(⟨((M.aH.map fun x=>x.name).getD k []).toArray⟩:ByteArray))=f:=⟨_,rfl⟩
       obtain ⟨fy,hfy⟩:∃ f:Nat→Int,(fun k=>(M.aH.map fun x=>x.ag).getD k 0)=f:=⟨_,rfl⟩
       have HP:Hid (∀ W,wr.grownBy W none→Calls Tryz.prog 12 #[.agg #[.pointer (some ⟨L.gp,0,none⟩),.pointer none]] W fun e w'=>∃ bn bu,e = .returned (.agg #[.slice (some ⟨bn,0,none⟩) bl bl,.slice (some ⟨bu,0,none⟩) bl bl,.int .i64 pl,.int .i64 dl])∧(∀ k,k<bl→w'.cell? ⟨bn,k,none⟩=some (.string (fx k)))∧(∀ k,k<bl→w'.cell? ⟨bu,k,none⟩=some (.int .i64 (fy k)))∧W.grownBy w' none):=fun W g=>by
        have h:=NH false L.lo L.mid L.gp M W (d1.gb g)
        rw[XA,aax,aay] at h
        rw[←hfx,←hfy]
        exact h
       have HQ:Hid (∀ W,wr.grownBy W none→Calls Tryz.prog 12 #[.agg #[.pointer none,.pointer (some ⟨L.gq,0,none⟩)]] W fun e w'=>∃ bn bu,e = .returned (.agg #[.slice (some ⟨bn,0,none⟩) bl bl,.slice (some ⟨bu,0,none⟩) bl bl,.int .i64 pl,.int .i64 dl])∧(∀ k,k<bl→w'.cell? ⟨bn,k,none⟩=some (.string (fx k)))∧(∀ k,k<bl→w'.cell? ⟨bu,k,none⟩=some (.int .i64 (fy k)))∧W.grownBy w' none):=fun W g=>by
        have h:=NH true L.mid L.hi L.gq M W (d2.gb g)
        rw[XA,aax,aay] at h
        rw[←hfx,←hfy]
        exact h
       have Hbl:Hid (bl≤1000000):=by rw[←XA];exact hbl
       clear Gb Cf d1 d2 e0 e1 e2 e3 hbl XA aax aay hfx hfy
       go_upto_region 35 with fail
       go_region_held3 (fun w'=>w'.cell? ⟨L.pb,0,none⟩=some (.pointer (some ⟨L.gp,0,none⟩))∧w'.cell? ⟨L.pb,1,none⟩=some (.pointer none)∧w'.cell? ⟨L.pb,2,none⟩=some (.pointer none)∧w'.cell? ⟨L.pb,3,none⟩=some (.pointer (some ⟨L.gq,0,none⟩))) (exact J3.out _ (by (repeat first | with_reducible refine dS ?_ | with_reducible exact G10.out | with_reducible exact G9.out | with_reducible exact G8.out | with_reducible exact World.grownBy.refl _ _))) (first
        | (go_at_call 12;refine (HP.out wr.drew (dS (World.grownBy.refl _ _))).mono ?_;rintro e w8 ⟨bn,bu,rfl,r1,r2,g8⟩;have G8:Hid (wr.grownBy w8 none):=ae (dS (World.grownBy.refl _ _)) g8;have R8:=hid (And.intro r1 r2);clear r1 r2 g8 HP)
        | (go_at_call 12;refine (HQ.out _ G8.out).mono ?_;rintro e w9 ⟨cn,cu,rfl,r1,r2,g9⟩;have G9:Hid (wr.grownBy w9 none):=ae G8.out g9;have R9:=hid (And.intro r1 r2);have Hg9:=hid g9;clear r1 r2 g9 HQ)
        | (go_at_call 11;refine (BS bl bn bu cn cu fx fy pl dl w9 Hbl.out (fun k hk=>Hg9.out.cell (R8.out.1 k hk) (by simp)) R9.out.1 (fun k hk=>Hg9.out.cell (R8.out.2 k hk) (by simp)) R9.out.2).mono ?_;rintro e w10 ⟨rfl,g10⟩;have G10:Hid (wr.grownBy w10 none):=ae G9.out g10;clear g10))
       all_goals go_wp2
       all_goals go_ret
       all_goals exact ⟨rfl,(Fu.out.gb G10.out).Nn⟩
end Go.Proofs.YtpibgolaaaemnaaGreatDoor
