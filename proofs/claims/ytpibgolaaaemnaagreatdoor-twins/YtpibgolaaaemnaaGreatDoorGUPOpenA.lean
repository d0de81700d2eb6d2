/-
  
  
  
  
  
-/
import Derived.Test.YtpibgolaaaemnaaGreatDoorGUPReadD
import Derived.Test.YtpibgolaaaemnaaGreatDoorGUSeal
import Derived.Test.YtpibgolaaaemnaaGreatDoorGUBoxN
import Derived.Test.YtpibgolaaaemnaaGreatDoorGUSep
namespace Go.Proofs.YtpibgolaaaemnaaGreatDoor
open Go.RowKit
set_option maxRecDepth 100000
def bW (key use:UInt64) (z:List UInt8):List UInt8:=if 16≤z.length∧z.length≤216∧Pure.opens key use z=true then Pure.gy key use z else []
def Bh (w w':World) (p:Option Pl) (e:Ending) (l:List UInt8):Prop:=∃ a c,e = .returned (.slice a l.length c)∧l.length≤c∧c≤9223372036854775807∧l.length≤200∧At w' a l∧CF w w' (Pl.has p)∧∀ g,g<w.heap.size→Pl.blk p≠some g→gG (a,l) g
theorem Bh.nil {w w':World} {p:Option Pl} (c:CF w w' (Pl.has p)):Bh w w' p (.returned (.slice none 0 0)) []:=⟨none,0,rfl,by simp,by decide,by simp,At.nil _ _,c,fun g _ _ q=>by simp at q⟩
set_option maxHeartbeats 1000000 in
theorem xO (rv:Value) (p:Option Pl) (rb:List UInt8) (key use:UInt64) (x:Int) (ao:Option Addr) (z:List UInt8) (n cap:Nat) (w:World) (hR:Out w rv p rb) (hx:zt x=true) (hu:Hid (x=use.toNat)) (hn:Hid (z.length=n)) (hcap:n≤cap) (hz:At w ao z)
  (hsep:∀ b off,ao=some ⟨b,off,none⟩→∀ j,j<z.length→¬ Pl.has p b (off+j)) :
  Calls Tryz.prog 161 #[rv,.int .u64 (key.toNat:Int),.int .i64 x,.slice ao n cap] w fun e w'=>Bh w w' p e (bW key use z):=by
 by_cases hsz:n<16∨216<n
 ·have HM:Hid (bW key use z=[]):=by show _=_;rw[bW,if_neg (fun q=>by rw[hn.out] at q;omega)]
  have HO:=hid (Dz rv (key.toNat:Int) x ao n cap w hx hsz)
  clear hR hz hsep hsz
  go_enter Tryz.func161,Tryz.ntmps161
  go_wp2_with (go_at_call 107;refine HO.out.mono ?_;rintro e w' ⟨rfl,rfl⟩)
  go_ret
  rw[HM.out]
  exact Bh.nil (CF.refl _ _)
 ·have HO:=hid (Ao rv p rb key use x ao z n cap w hR hx hu hn (by omega) (by omega) hcap hz hsep)
  have hsz2:16≤z.length∧z.length≤216:=by rw[hn.out];omega
  clear hR hz hsep hsz
  cases ho:Pure.opens key use z
  ·have HM:Hid (bW key use z=[]):=by show _=_;rw[bW,if_neg (fun q=>by rw[ho] at q;exact absurd q.2.2 (by decide))]
   have HH:=hid ho
   clear ho
   go_enter Tryz.func161,Tryz.ntmps161
   go_wp2_with (go_at_call 107;refine HO.out.mono ?_;rintro e w' ⟨_,r2⟩;obtain ⟨rfl,c2⟩:=r2 HH.out)
   go_ret
   rw[HM.out]
   exact Bh.nil c2
  ·have HM:Hid (bW key use z=Pure.gy key use z):=by show _=_;rw[bW,if_pos ⟨hsz2.1,hsz2.2,ho⟩]
   have HL:Hid ((Pure.gy key use z).length≤200):=by show _≤_;rw[Pure.ni];omega
   have HH:=hid ho
   clear ho
   go_enter Tryz.func161,Tryz.ntmps161
   go_wp2_with (go_at_call 107;refine HO.out.mono ?_;rintro e w' ⟨r1,_⟩;obtain ⟨v',rfl,om⟩:=r1 HH.out;obtain ⟨p3,o3,_,o5,_⟩:=id om;obtain ⟨a3,c3,rfl,q1,q2,q3,_⟩:=o3.shape)
   go_ret
   rw[HM.out]
   refine ⟨a3,c3,rfl,q1,q2,HL.out,q3,om.cf,fun g hg hp hl b off e q=>?_⟩
   have e:a3=some ⟨b,off,none⟩:=e
   subst e
   rcases o3 with ⟨_,h,_⟩ | ⟨t,hp3,hv,_⟩
   ·cases h
   ·injection hv with e1 _ _
    injection e1 with e1
    injection e1 with e1 _ _
    rcases o5 with o5 | o5
    ·exact hp (by rw[←o5,hp3];exact congrArg some (e1.symm.trans q))
    ·have:=o5 t hp3
     omega
def nP (s:List UInt8×Bool):UInt64×(List UInt8×Bool):=
 (Pure.joinL 0 (aM 4 s.1 s.2).1,if (aM 4 s.1 s.2).1.length=8 then (aM 4 s.1 s.2).2 else ([],true))
set_option maxHeartbeats 1000000 in
theorem OC (S:Source) (g:Nat) (s:List UInt8×Bool) (w:World) (hs:At w S.1 S.2) (ng:gG S g) (h:Rd w S g s.1 s.2) :
  Calls Tryz.prog 167 #[.pointer (some ⟨g,0,none⟩)] w fun e w'=>e = .returned (.int .u64 ((nP s).1.toNat:Int))∧Rd w' S g (nP s).2.1 (nP s).2.2∧CF w w' (DK g):=by
 have HT:=hid (wP S g s.1 s.2 w hs h)
 obtain ⟨q,hq⟩:∃ q,aM 4 s.1 s.2=q:=⟨_,rfl⟩
 have HK:Hid (nP s=(Pure.joinL 0 q.1,if q.1.length=8 then q.2 else ([],true))):=by show _=_;rw[nP,hq]
 rw[hq] at HT
 have HS:=hid (And.intro hs ng)
 clear h hs ng hq
 go_enter Tryz.func167,Tryz.ntmps167
 go_wp2_with fail
 refine HT.out.mono ?_
 rintro e w2 ⟨v,rfl,b2,r2,f2⟩
 obtain ⟨a2,c2,rfl,_⟩:=id b2
 have hs2:=gG.at HS.out.1 f2.uY (fun _ e=>e ▸ HS.out.2)
 have ba:=b2.at hs2
 obtain ⟨ok,hok⟩:∃ ok:Bool,(((q.1.length:Int)==8)=ok):=⟨_,rfl⟩
 have HN:=hid (pR S g _ _ ok w2 r2)
 have HF:=hid f2
 have HB:=hid (fun (W:World) (k:At W S.1 S.2)=>(b2.at k).2.2.2)
 have HR:Hid (∀ W,Rd W S g (if ok=true then q.2.1 else []) (if ok=true then q.2.2 else true)→Rd W S g (nP s).2.1 (nP s).2.2):=by
  intro W hW
  rw[HK.out]
  cases ok
  ·have:¬ q.1.length=8:=fun e=>by rw[e] at hok;simp at hok
   simp only[this,if_false]
   exact hW
  ·have:q.1.length=8:=by have:=beq_iff_eq.1 hok;omega
   simp only[this,if_true]
   exact hW
 have HS2:=hid hs2
 clear HT b2 r2 f2 hs2 ba
 go_wp2_with fail
 refine HN.out.mono ?_
 rintro e w4 ⟨rfl,r4,f4⟩
 have hs4:=gG.at HS2.out f4.uY (fun _ e=>e ▸ HS.out.2)
 have HJ:=hid (Gf 0 q.1 a2 c2 w4 (HB.out w4 hs4).1 (HB.out w4 hs4).2)
 have F4:=hid (HF.out.trans f4 (fun _ _ _ e=>e))
 have R4:=hid (HR.out w4 r4)
 clear r4 f4 hs4 HN
 go_wp2_with fail
 refine HJ.out.mono ?_
 rintro e w5 ⟨rfl,rfl⟩
 go_wp2
 go_ret
 exact ⟨by rw[HK.out];rfl,R4.out,F4.out⟩
end Go.Proofs.YtpibgolaaaemnaaGreatDoor
namespace Go.Proofs.YtpibgolaaaemnaaGreatDoor
open Go.RowKit
set_option maxRecDepth 100000
def st (s:List UInt8×Bool):Option (List UInt8):=if s.2=true then none else some s.1
def mO (s:List UInt8×Bool):Prop:=s.2=true→s.1=[]
theorem V9:Box.cut []=none:=by
 cases h:Box.cut [] with
 | none=>rfl
 | some q=>
  obtain ⟨t,i,r⟩:=q
  have:=Box.fq h
  simp at this
theorem lG (due:Nat) (f:Bool):aM due [] f=([],[],true):=by rw[aM,V9]
theorem Fb:Box.num []=none:=by unfold Box.num;rw[if_neg (by simp)]
theorem mO.take {s:List UInt8×Bool} (h:mO s) (due:Nat):mO (aM due s.1 s.2).2:=fun e=>(lD due s.1 s.2 h e).2
theorem mO.step {s:List UInt8×Bool} (h:mO s):mO (bq s).2:=DR h
theorem mO.name {s:List UInt8×Bool} (h:mO s):mO (eF s).2:=by
 unfold eF
 simp only
 split
 ·exact h.take 4
 ·exact fun _=>rfl
variable {β:Type}
theorem ug {s:List UInt8×Bool} (h:mO s) (k:List UInt8→List UInt8→Option β):(st s).bind (dh jT k)=(st (eF s).2).bind (k (eF s).1):=by
 obtain ⟨l,f⟩:=s
 cases f
 ·cases hc:Box.cut l with
  | none=>
   have ht:aM 4 l false=([],[],true):=by rw[aM,hc]
   simp[st,dh,hc,eF,ht]
  | some q=>
   obtain ⟨t,i,r⟩:=q
   by_cases e:t.toNat=4
   ·have ht:aM 4 l false=(i,r,false):=by rw[aM,hc];simp only[e,if_true]
    cases hb:dH i <;> simp[st,dh,hc,eF,ht,jT,e,hb]
   ·have ht:aM 4 l false=([],[],true):=by rw[aM,hc];simp only[e,if_false]
    simp[st,dh,hc,eF,ht,jT,e]
 ·have hl:l=[]:=h rfl
  subst hl
  simp[st,eF,lG]
theorem iR {s:List UInt8×Bool} (h:mO s) (k:Int→List UInt8→Option β):(st s).bind (dh eG k)=(st (bq s).2).bind (k (bq s).1):=by
 obtain ⟨l,f⟩:=s
 cases f
 ·cases hc:Box.cut l with
  | none=>
   have ht:aM 2 l false=([],[],true):=by rw[aM,hc]
   simp[st,dh,hc,bq,ht,Fb]
  | some q=>
   obtain ⟨t,i,r⟩:=q
   by_cases e:t.toNat=2
   ·have ht:aM 2 l false=(i,r,false):=by rw[aM,hc];simp only[e,if_true]
    cases hb:Box.num i <;> simp[st,dh,hc,bq,ht,eG,e,hb]
   ·have ht:aM 2 l false=([],[],true):=by rw[aM,hc];simp only[e,if_false]
    simp[st,dh,hc,bq,ht,eG,e,Fb]
 ·have hl:l=[]:=h rfl
  subst hl
  simp[st,bq,lG,Fb]
theorem MV {s:List UInt8×Bool} (h:mO s) (k:List UInt8→List UInt8→Option β):(st s).bind (dh pG k)=(st (aM 4 s.1 s.2).2).bind (k (aM 4 s.1 s.2).1):=by
 obtain ⟨l,f⟩:=s
 cases f
 ·cases hc:Box.cut l with
  | none=>
   have ht:aM 4 l false=([],[],true):=by rw[aM,hc]
   simp[st,dh,hc,ht]
  | some q=>
   obtain ⟨t,i,r⟩:=q
   by_cases e:t.toNat=4
   ·have ht:aM 4 l false=(i,r,false):=by rw[aM,hc];simp only[e,if_true]
    simp[st,dh,hc,ht,pG,e]
   ·have ht:aM 4 l false=([],[],true):=by rw[aM,hc];simp only[e,if_false]
    simp[st,dh,hc,ht,pG,e]
 ·have hl:l=[]:=h rfl
  subst hl
  simp[st,lG]
theorem MW {α:Type} {s:List UInt8×Bool} (h:mO s) (f:jX→Option α) (c:List UInt8→Option α) (hf:∀ t i,f (t,i)=if t.toNat=48 then c i else none) (k:α→List UInt8→Option β) :
  (st s).bind (dh f k)=(st (aM 48 s.1 s.2).2).bind (fun r=>(c (aM 48 s.1 s.2).1).bind fun a=>k a r):=by
 obtain ⟨l,fl⟩:=s
 cases fl
 ·cases hc:Box.cut l with
  | none=>
   have ht:aM 48 l false=([],[],true):=by rw[aM,hc]
   simp[st,dh,hc,ht]
  | some q=>
   obtain ⟨t,i,r⟩:=q
   by_cases e:t.toNat=48
   ·have ht:aM 48 l false=(i,r,false):=by rw[aM,hc];simp only[e,if_true]
    simp[st,dh,hc,ht,hf,e]
   ·have ht:aM 48 l false=([],[],true):=by rw[aM,hc];simp only[e,if_false]
    simp[st,dh,hc,ht,hf,e]
 ·have hl:l=[]:=h rfl
  subst hl
  simp[st,lG]
theorem sP (s:List UInt8×Bool) (b:β):(st s).bind (rP b)=if (!s.2 && decide (s.1=[]))=true then some b else none:=by
 obtain ⟨l,f⟩:=s
 cases f
 ·by_cases e:l=[] <;> simp[st,rP,e]
 ·simp[st]
theorem wT (aG:List UInt8):oF aG=(st (bg aG)).bind Box.eX:=by
 unfold oF bg
 cases hc:Box.cut aG with
 | none=>
  have ht:aM 48 aG false=([],[],true):=by rw[aM,hc]
  simp[ht,st]
 | some q=>
  obtain ⟨t,i,r⟩:=q
  by_cases e:t.toNat=48
  ·have ht:aM 48 aG false=(i,r,false):=by rw[aM,hc];simp only[e,if_true]
   cases r with
   | nil=>simp[ht,st,e]
   | cons x r=>simp[ht,st]
  ·have ht:aM 48 aG false=([],[],true):=by rw[aM,hc];simp only[e,if_false]
   cases r with
   | nil=>simp[ht,st,e]
   | cons x r=>simp[ht,st]
theorem qQ (aG:List UInt8):mO (bg aG):=jF aG
theorem DV (aG:List UInt8) (due:Int):mO (gQ aG due):=uZ aG due
theorem Iq (aG:List UInt8) (due:Int) (f:List jX→Option β) (k:List UInt8→Option β) (hk:∀ l,k l=(Box.eX l).bind f) :
  (if aG.length≤300 then (oF aG).bind (dO eG fun n=>if n=due then f else fun _=>none) else none)=(st (gQ aG due)).bind k:=by
 have e1:(oF aG).bind (dO eG fun n=>if n=due then f else fun _=>none)=(st (bg aG)).bind (dh eG fun n=>if n=due then k else fun _=>none):=by
  rw[wT,Option.bind_assoc]
  congr 1
  funext l
  rw[dm eG (fun n=>if n=due then f else fun _=>none) (fun n=>if n=due then k else fun _=>none) (fun n l=>?_) l]
  by_cases e:n=due
  ·simp only[e,if_true];exact hk l
  ·simp only[e,if_false];exact QU l
 rw[e1,iR (qQ aG)]
 unfold gQ
 have ef:st (([],true):List UInt8×Bool)=none:=rfl
 by_cases hl:aG.length≤300
 ·rw[if_pos hl]
  by_cases e:(bq (bg aG)).1=due
  ·rw[if_pos (And.intro e hl),if_pos e]
  ·rw[if_neg (fun q=>e (And.left q)),if_neg e,ef]
   cases st (bq (bg aG)).2 <;> rfl
 ·rw[if_neg hl,if_neg (fun q=>hl (And.right q)),ef]
  rfl
def Fe:List UInt8→Option (Int×List UInt8):=dh eG fun n=>dh pG fun z=>rP (n,z)
theorem K3 (l:List UInt8):Fe l=(Box.eX l).bind MF:=
 dm _ _ _ (fun n l=>dm _ _ _ (fun z l=>tO (n,z) l) l) l
theorem DW {s:List UInt8×Bool} (h:mO s) (k:Int×List UInt8→List UInt8→Option β):(st s).bind (dh eG fun n=>dh pG fun z=>k (n,z))=(st (ig s).2).bind (k (ig s).1):=by
 rw[iR h,MV h.step]
 rfl
def Ir (i:List UInt8):Option (Option (Int×List UInt8)):=if i=[] then some none else (Fe i).map some
theorem Sj (t:UInt8) (i:List UInt8):yB (t,i)=if t.toNat=48 then Ir i else none:=by
 unfold yB Dl Ir
 by_cases e:t.toNat=48
 ·simp only[e,if_true]
  by_cases hi:i=[]
  ·subst hi
   rw[if_pos rfl,Box.xG rfl]
  ·rw[if_neg hi,K3]
   cases hc:Box.eX i with
   | none=>rfl
   | some ps=>
    cases ps with
    | nil=>
     exfalso
     cases hcc:Box.cut i with
     | none=>rw[Box.nA (List.length_pos_iff.2 hi) hcc] at hc;cases hc
     | some q=>
      obtain ⟨t',i',r'⟩:=q
      rw[Box.kV hcc] at hc
      cases hr:Box.eX r' with
      | none=>rw[hr] at hc;cases hc
      | some z=>rw[hr] at hc;simp at hc
    | cons p ps=>rfl
 ·simp only[e,if_false]
end Go.Proofs.YtpibgolaaaemnaaGreatDoor
namespace Go.Proofs.YtpibgolaaaemnaaGreatDoor
open Go.RowKit
set_option maxRecDepth 100000
def Sk:List jX→Option FQ:=dO jT fun c=>dO jT fun s=>dO eG fun n=>dO eG fun f=>dO eG fun t=>dO eG fun r=>dO eG fun o=>dO yB fun p=>Ab ⟨c,s,n,f,t,r,o,p⟩
def Bj:List UInt8→Option FQ:=dh jT fun c=>dh jT fun s=>dh eG fun n=>dh eG fun f=>dh eG fun t=>dh eG fun r=>dh eG fun o=>dh yB fun p=>rP ⟨c,s,n,f,t,r,o,p⟩
theorem OG (l:List UInt8):Bj l=(Box.eX l).bind Sk:=
 dm _ _ _ (fun c l=>dm _ _ _ (fun s l=>dm _ _ _ (fun n l=>dm _ _ _ (fun f l=>dm _ _ _ (fun t l=>dm _ _ _ (fun r l=>dm _ _ _ (fun o l=>dm _ _ _ (fun p l=>tO (⟨c,s,n,f,t,r,o,p⟩:FQ) l) l) l) l) l) l) l) l) l
theorem K4 {q0 s0 s1 s2 s3 s4 s5:List UInt8×Bool} {a b:List UInt8} {sa:List UInt8×Bool} {n0 n1 n2 n3 n4:Int} {qC:List UInt8×(List UInt8×Bool)} (h0:mO q0) (hA:eF q0=(a,sa)) (hB:eF sa=(b,s0)) (e0:bq s0=(n0,s1)) (e1:bq s1=(n1,s2)) (e2:bq s2=(n2,s3)) (e3:bq s3=(n3,s4)) (e4:bq s4=(n4,s5)) (hC:aM 48 s5.1 s5.2=qC) :
  mO (qC.1,qC.2.2)∧(st q0).bind Bj=(st qC.2).bind (fun r=>(Ir qC.1).bind fun p=>rP ⟨a,b,n0,n1,n2,n3,n4,p⟩ r):=by
 have ba:mO sa:=by have:=h0.name;rw[hA] at this;exact this
 have b0:mO s0:=by have:=ba.name;rw[hB] at this;exact this
 have b1:mO s1:=by have:=b0.step;rw[e0] at this;exact this
 have b2:mO s2:=by have:=b1.step;rw[e1] at this;exact this
 have b3:mO s3:=by have:=b2.step;rw[e2] at this;exact this
 have b4:mO s4:=by have:=b3.step;rw[e3] at this;exact this
 have b5:mO s5:=by have:=b4.step;rw[e4] at this;exact this
 refine ⟨fun e=>?_,?_⟩
 ·rw[←hC] at e ⊢
  exact (lD 48 _ _ b5 e).1
 ·unfold Bj
  rw[ug h0,hA,ug ba,hB,iR b0,e0,iR b1,e1,iR b2,e2,iR b3,e3,iR b4,e4,MW b5 yB Ir Sj,hC]
def MX (aG:List UInt8):FQ:=⟨(VZ aG).1,(xN aG).1,wS aG 0,wS aG 1,wS aG 2,wS aG 3,wS aG 4,if (zh aG).1=[] then none else some (Bg aG).1⟩
theorem kK (s:List UInt8×Bool) (k:Nat):bq (fQ s k)=((bq (fQ s k)).1,fQ s (k+1)):=rfl
theorem uh (s:List UInt8×Bool):bq s=((bq (fQ s 0)).1,fQ s 1):=rfl
theorem Sl (aG:List UInt8):wm aG=(st (gQ aG 10)).bind Bj:=by
 rw[←Iq aG 10 Sk Bj OG]
 rfl
theorem K5 (aG:List UInt8):wm aG=if qM aG=true then some (MX aG) else none:=by
 have e0:=Sl aG
 have bb:=DV aG 10
 have hA:eF (gQ aG 10)=VZ aG:=rfl
 have hB:eF (VZ aG).2=xN aG:=rfl
 have hN0:bq (xN aG).2=(wS aG 0,fQ (xN aG).2 1):=uh _
 have hN1:bq (fQ (xN aG).2 1)=(wS aG 1,fQ (xN aG).2 2):=kK _ 1
 have Va:bq (fQ (xN aG).2 2)=(wS aG 2,fQ (xN aG).2 3):=kK _ 2
 have XP:bq (fQ (xN aG).2 3)=(wS aG 3,fQ (xN aG).2 4):=kK _ 3
 have hN4:bq (fQ (xN aG).2 4)=(wS aG 4,fQ (xN aG).2 5):=kK _ 4
 have Sm:aM 48 (fQ (xN aG).2 5).1 (fQ (xN aG).2 5).2=zh aG:=rfl
 have hP:Bg aG=if (zh aG).1=[] then ((0,[]),((zh aG).1,(zh aG).2.2)) else ig ((zh aG).1,(zh aG).2.2):=rfl
 have hO:qM aG=((!(Bg aG).2.2 && decide ((Bg aG).2.1=[])) && (!(zh aG).2.2 && decide ((zh aG).2.1=[]))):=rfl
 have hQ:MX aG=⟨(VZ aG).1,(xN aG).1,wS aG 0,wS aG 1,wS aG 2,wS aG 3,wS aG 4,if (zh aG).1=[] then none else some (Bg aG).1⟩:=rfl
 generalize fQ (xN aG).2 1=s1 at *
 generalize fQ (xN aG).2 2=s2 at *
 generalize fQ (xN aG).2 3=s3 at *
 generalize fQ (xN aG).2 4=s4 at *
 generalize fQ (xN aG).2 5=s5 at *
 generalize wS aG 0=n0 at *
 generalize wS aG 1=n1 at *
 generalize wS aG 2=n2 at *
 generalize wS aG 3=n3 at *
 generalize wS aG 4=n4 at *
 generalize MX aG=Q at *
 generalize qM aG=ok at *
 generalize Bg aG=P at *
 generalize zh aG=C at *
 generalize xN aG=qB at *
 generalize VZ aG=qA at *
 generalize gQ aG 10=q0 at *
 obtain ⟨a,sa⟩:=qA
 obtain ⟨b,s0⟩:=qB
 obtain ⟨hC,core⟩:=K4 bb hA hB hN0 hN1 Va XP hN4 Sm
 rw[e0,core,hO,hQ]
 clear core hA hB hN0 hN1 Va XP hN4 Sm e0 hO hQ
 by_cases hp:C.1=[]
 ·rw[if_pos hp] at hP ⊢
  have e1:Ir C.1=some none:=by rw[Ir,if_pos hp]
  have e3:((!P.2.2 && decide (P.2.1=[])) && (!C.2.2 && decide (C.2.1=[])))=(!C.2.2 && decide (C.2.1=[])):=by
   rw[hP]
   simp only[hp,decide_true,Bool.and_true]
   cases C.2.2 <;> simp
  rw[e1,e3,←sP]
  rfl
 ·rw[if_neg hp] at hP ⊢
  have hf:C.2.2=false:=by
   cases h:C.2.2
   ·rfl
   ·exact absurd (hC h) hp
  have e1:Ir C.1=if (!P.2.2 && decide (P.2.1=[]))=true then some (some P.1) else none:=by
   have e5:Fe C.1=(st (C.1,C.2.2)).bind (dh eG fun n=>dh pG fun z=>rP (n,z)):=by rw[hf];rfl
   rw[Ir,if_neg hp,e5,DW hC (fun a=>rP a),←hP,sP]
   split <;> rfl
  rw[e1]
  cases hd:(!P.2.2 && decide (P.2.1=[]))
  ·simp only[Bool.false_and,Bool.false_eq_true,if_false]
   cases st C.2 <;> rfl
  ·simp only[Bool.true_and,if_true]
   rw[←sP]
   rfl
end Go.Proofs.YtpibgolaaaemnaaGreatDoor
namespace Go.Proofs.YtpibgolaaaemnaaGreatDoor
open Go.RowKit
set_option maxRecDepth 100000
variable {w W W':World} {ex:Nat→Nat→Prop} {S:Source} {g g' fb:Nat} {s s':List UInt8×Bool} {cs cs':Array Value}
theorem RS.beside {ps:List (Nat×Nat)} (h:RS w W ex S g s fb cs) (h':RS w W' ex S g' s' fb cs') (c:CF W W' (YV g' ps)) (hp:∀ p∈ps,p.1=fb) (hne:g≠g'):RS w W' ex S g s fb cs':=by
 refine ⟨h.rd.keep (c.block g h.rd.lt (fun o e=>?_)),h'.blk,h'.cf,h'.src,h.ng,h'.nf,h'.hf,h.hg,h.ne⟩
 rcases e with e | e
 ·exact hne e
 ·exact h.ne (hp _ e).symm
def Sn (W:World) (g:Nat) (c0 c1 c2 c3 c4 c5 c6 c7 c8:Value):World:=(((((((((W.setCell ⟨g,0,none⟩ c0).setCell ⟨g,1,none⟩ c1).setCell ⟨g,2,none⟩ c2).setCell ⟨g,3,none⟩ c3).setCell ⟨g,4,none⟩ c4).setCell ⟨g,5,none⟩ c5).setCell ⟨g,6,none⟩ c6).setCell ⟨g,7,none⟩ c7).setCell ⟨g,8,none⟩ c8)
theorem Tryz.Iu:(Tryz.prog.info? 168).map (·.size)=some 9:=by kernel_rfl
theorem bI.nine {w:World} {g:Nat} {c0 c1 c2 c3 c4 c5 c6 c7 c8:Value} (h:bI w g #[c0,c1,c2,c3,c4,c5,c6,c7,c8]):w.cell? ⟨g,0,none⟩=some c0∧w.cell? ⟨g,1,none⟩=some c1∧w.cell? ⟨g,2,none⟩=some c2∧w.cell? ⟨g,3,none⟩=some c3∧w.cell? ⟨g,4,none⟩=some c4∧w.cell? ⟨g,5,none⟩=some c5∧w.cell? ⟨g,6,none⟩=some c6∧w.cell? ⟨g,7,none⟩=some c7∧w.cell? ⟨g,8,none⟩=some c8:=⟨h.cell 0,h.cell 1,h.cell 2,h.cell 3,h.cell 4,h.cell 5,h.cell 6,h.cell 7,h.cell 8⟩
theorem RS.Sn {x0 x1 x2 x3 x4 x5 x6 x7 x8:Value} (h:RS w W ex S g s fb #[x0,x1,x2,x3,x4,x5,x6,x7,x8]) (c0 c1 c2 c3 c4 c5 c6 c7 c8:Value):RS w (Sn W fb c0 c1 c2 c3 c4 c5 c6 c7 c8) ex S g s fb #[c0,c1,c2,c3,c4,c5,c6,c7,c8]:=by
 have h0:RS w (W.setCell ⟨fb,0,none⟩ c0) ex S g s fb #[c0,x1,x2,x3,x4,x5,x6,x7,x8]:=h.store 0 c0
 have h1:RS w ((W.setCell ⟨fb,0,none⟩ c0).setCell ⟨fb,1,none⟩ c1) ex S g s fb #[c0,c1,x2,x3,x4,x5,x6,x7,x8]:=h0.store 1 c1
 have h2:RS w (((W.setCell ⟨fb,0,none⟩ c0).setCell ⟨fb,1,none⟩ c1).setCell ⟨fb,2,none⟩ c2) ex S g s fb #[c0,c1,c2,x3,x4,x5,x6,x7,x8]:=h1.store 2 c2
 have h3:RS w ((((W.setCell ⟨fb,0,none⟩ c0).setCell ⟨fb,1,none⟩ c1).setCell ⟨fb,2,none⟩ c2).setCell ⟨fb,3,none⟩ c3) ex S g s fb #[c0,c1,c2,c3,x4,x5,x6,x7,x8]:=h2.store 3 c3
 have h4:RS w (((((W.setCell ⟨fb,0,none⟩ c0).setCell ⟨fb,1,none⟩ c1).setCell ⟨fb,2,none⟩ c2).setCell ⟨fb,3,none⟩ c3).setCell ⟨fb,4,none⟩ c4) ex S g s fb #[c0,c1,c2,c3,c4,x5,x6,x7,x8]:=h3.store 4 c4
 have h5:RS w ((((((W.setCell ⟨fb,0,none⟩ c0).setCell ⟨fb,1,none⟩ c1).setCell ⟨fb,2,none⟩ c2).setCell ⟨fb,3,none⟩ c3).setCell ⟨fb,4,none⟩ c4).setCell ⟨fb,5,none⟩ c5) ex S g s fb #[c0,c1,c2,c3,c4,c5,x6,x7,x8]:=h4.store 5 c5
 have h6:RS w (((((((W.setCell ⟨fb,0,none⟩ c0).setCell ⟨fb,1,none⟩ c1).setCell ⟨fb,2,none⟩ c2).setCell ⟨fb,3,none⟩ c3).setCell ⟨fb,4,none⟩ c4).setCell ⟨fb,5,none⟩ c5).setCell ⟨fb,6,none⟩ c6) ex S g s fb #[c0,c1,c2,c3,c4,c5,c6,x7,x8]:=h5.store 6 c6
 have h7:RS w ((((((((W.setCell ⟨fb,0,none⟩ c0).setCell ⟨fb,1,none⟩ c1).setCell ⟨fb,2,none⟩ c2).setCell ⟨fb,3,none⟩ c3).setCell ⟨fb,4,none⟩ c4).setCell ⟨fb,5,none⟩ c5).setCell ⟨fb,6,none⟩ c6).setCell ⟨fb,7,none⟩ c7) ex S g s fb #[c0,c1,c2,c3,c4,c5,c6,c7,x8]:=h6.store 7 c7
 have h8:RS w (((((((((W.setCell ⟨fb,0,none⟩ c0).setCell ⟨fb,1,none⟩ c1).setCell ⟨fb,2,none⟩ c2).setCell ⟨fb,3,none⟩ c3).setCell ⟨fb,4,none⟩ c4).setCell ⟨fb,5,none⟩ c5).setCell ⟨fb,6,none⟩ c6).setCell ⟨fb,7,none⟩ c7).setCell ⟨fb,8,none⟩ c8) ex S g s fb #[c0,c1,c2,c3,c4,c5,c6,c7,c8]:=h7.store 8 c8
 exact h8
theorem RS.Sq {c0 c1 c2 c3 c4 c5 c6 c7 c8:Value} (h:RS w W ex S g s fb #[c0,c1,c2,c3,c4,c5,c6,c7,c8]):(loadVar 168 ⟨fb,0,none⟩).run Tryz.prog W = .ok (.agg #[c0,c1,c2,c3,c4,c5,c6,c7,c8]) W:=h.blk.load 168 _ Tryz.underlying168 rfl Tryz.Iu
def Qq (aG:List UInt8):List UInt8×(List UInt8×Bool):=aM 48 (gQ aG 12).1 (gQ aG 12).2
def Wd (aG:List UInt8):List UInt8×(List UInt8×Bool):=eF ((Qq aG).1,(Qq aG).2.2)
def JX (aG:List UInt8):(Int×List UInt8)×(List UInt8×Bool):=ig (Wd aG).2
def Sr (aG:List UInt8):List UInt8×(List UInt8×Bool):=aM 4 (Qq aG).2.1 (Qq aG).2.2
def zC (aG:List UInt8):List UInt8×(List UInt8×Bool):=eF (Sr aG).2
def zD (aG:List UInt8) (j:Nat):Int:=(bq (fQ (zC aG).2 j)).1
def wV (aG:List UInt8):Bool:=(!(JX aG).2.2 && decide ((JX aG).2.1=[])) && (!(fQ (zC aG).2 4).2 && decide ((fQ (zC aG).2 4).1=[]))
abbrev sQ:Array Value:=#[.string ⟨#[]⟩,.int .i64 0,.slice none 0 0,.slice none 0 0,.string ⟨#[]⟩,.int .i64 0,.int .i64 0,.int .i64 0,.int .i64 0]
def xP (aG:List UInt8) (v u:Value):List Value:=[.string ⟨(Wd aG).1.toArray⟩,.int .i64 (JX aG).1.1,v,u,.string ⟨(zC aG).1.toArray⟩,.int .i64 (zD aG 0),.int .i64 (zD aG 1),.int .i64 (zD aG 2),.int .i64 (zD aG 3)]
set_option maxHeartbeats 2000000 in
theorem Ff (S:Source) (aG:List UInt8) (n:Nat) (ao:Option Addr) (cap:Nat) (w:World) (hn:Hid (aG.length=n)) (hs:At w S.1 S.2) (h:Bs S (.slice ao n cap) aG) :
  Calls Tryz.prog 63 #[.slice ao n cap] w fun e w'=>∃ cs,e = .returned (.tuple #[.agg cs,.bool (wV aG)])∧(wV aG=true→∃ v u,cs=(xP aG v u).toArray∧Bs S v (JX aG).1.2∧Bs S u (Sr aG).1)∧(cs.size=9∧cs.toList.all (·.oneCell')=true)∧w.grownBy w' none:=by
 have G0:=World.grownBy_alloc w (.cells sQ 168) none
 have s0:(w.alloc (.cells sQ 168)).heap.size=w.heap.size+1:=World.size_alloc _ _
 have HL:=hid (DN S aG n ao cap 12 _ hn (hs.below G0) h)
 have HB0:=hid (And.intro (bI.new w sQ 168) G0)
 have F6:=hid hs
 have hbad:=uZ aG 12
 obtain ⟨q0,h0⟩:∃ q,gQ aG 12=q:=⟨_,rfl⟩
 obtain ⟨qT,hT⟩:∃ q,aM 48 q0.1 q0.2=q:=⟨_,rfl⟩
 obtain ⟨qS,hS⟩:∃ q,eF (qT.1,qT.2.2)=q:=⟨_,rfl⟩
 obtain ⟨qZ,hZ⟩:∃ q,ig qS.2=q:=⟨_,rfl⟩
 obtain ⟨qP,hP⟩:∃ q,aM 4 qT.2.1 qT.2.2=q:=⟨_,rfl⟩
 obtain ⟨qV,hV⟩:∃ q,eF qP.2=q:=⟨_,rfl⟩
 obtain ⟨N,hN⟩:∃ N:Nat→Int,∀ j,(bq (fQ qV.2 j)).1=N j:=⟨_,fun _=>rfl⟩
 obtain ⟨qE,hE⟩:∃ q,fQ qV.2 4=q:=⟨_,rfl⟩
 have HRT:Hid (Qq aG=qT):=by show _=_;rw[Qq,h0,hT]
 have HRS:Hid (Wd aG=qS):=by show _=_;rw[Wd,HRT.out,hS]
 have HRZ:Hid (JX aG=qZ):=by show _=_;rw[JX,HRS.out,hZ]
 have HRP:Hid (Sr aG=qP):=by show _=_;rw[Sr,HRT.out,hP]
 have HRV:Hid (zC aG=qV):=by show _=_;rw[zC,HRP.out,hV]
 have KY:Hid (∀ j,zD aG j=N j):=fun j=>by rw[zD,HRV.out,hN]
 have Sc:Hid (wV aG=((!qZ.2.2 && decide (qZ.2.1=[])) && (!qE.2 && decide (qE.1=[])))):=by show _=_;rw[wV,HRZ.out,HRV.out,hE]
 have HQ:=hid (And.intro hT (And.intro hS (And.intro hZ (And.intro hP (And.intro hV (And.intro hN hE))))))
 rw[h0] at HL hbad
 clear hs h G0 h0 hT hS hZ hP hV hN hE hn
 go_enter Tryz.func63,Tryz.ntmps63
 go_wp2_with fail
 refine HL.out.mono ?_
 rintro e w1 ⟨v,rfl,b1,g1⟩
 obtain ⟨a1,c1,rfl,_⟩:=id b1
 have DU:RS w (w1.alloc (.cells #[.slice a1 q0.1.length c1,.bool q0.2] 189)) (fun _ _=>False) S w1.heap.size q0 w.heap.size sQ:=by
  have z:=g1.size
  have hs1:=(F6.out.below HB0.out.2).below g1
  exact ⟨Rd.new (w:=w1) b1 hbad _,(HB0.out.1.grown g1 (by simp)).alloc _,CF.aW (aC (ae HB0.out.2 g1) _) _,hs1.below (World.grownBy_alloc _ _ none),gG.new hs1 (Nat.le_refl _),gG.new F6.out (Nat.le_refl _),Nat.le_refl _,by omega,by omega⟩
 have HT1:=hid (Bc S w1.heap.size q0.1 q0.2 _ DU.src DU.rd)
 have HbT:=hid (lD 48 q0.1 q0.2 hbad)
 rw[HQ.out.1] at HT1 HbT
 have H1:=hid DU
 clear b1 g1 HB0 HL DU hbad s0
 go_wp2_with fail
 refine HT1.out.mono ?_
 rintro e w2 ⟨v2,rfl,b2,r2,f2⟩
 obtain ⟨aT,cT,rfl,_⟩:=id b2
 have Qp:RS w w2 (fun _ _=>False) S w1.heap.size qT.2 w.heap.size sQ:=H1.out.read f2 r2
 have z2:=Qp.size
 have rp2:=Rd.new (w:=w2) b2 (fun e=>(HbT.out e).1) 189
 have HNt:=hid (gG.new Qp.src (Nat.le_refl w2.heap.size))
 have OH:=Qp.alloc (.cells #[.slice aT qT.1.length cT,.bool qT.2.2] 189)
 have rt2:RS w (w2.alloc (.cells #[.slice aT qT.1.length cT,.bool qT.2.2] 189)) (fun _ _=>False) S w2.heap.size (qT.1,qT.2.2) w.heap.size sQ:=⟨rp2,OH.blk,OH.cf,OH.src,HNt.out,OH.nf,Nat.le_refl _,by omega,by omega⟩
 have HT2:=hid (lF S w2.heap.size (qT.1,qT.2.2) _ rt2.src rt2.ng rt2.rd)
 rw[HQ.out.2.1] at HT2
 have H2:=hid (And.intro OH rt2)
 have zz:w.heap.size<w2.heap.size∧w1.heap.size<w2.heap.size:=by omega
 clear b2 r2 f2 HT1 H1 HbT Qp OH rt2 rp2 z2
 go_wp2_with fail
 refine HT2.out.mono ?_
 rintro e w4 ⟨rfl,r4,f4⟩
 have ri4:=H2.out.1.other f4 HNt.out (by omega) (by omega) (by omega)
 have rt4:RS w w4 (fun _ _=>False) S w2.heap.size qS.2 w.heap.size sQ:=H2.out.2.read f4 r4
 obtain ⟨⟨d4,hd4⟩,hz4⟩:=ri4.slot 0 (by show 0<9;decide)
 have Y5:RS w (w4.setCell ⟨w.heap.size,0,none⟩ (.string ⟨qS.1.toArray⟩)) (fun _ _=>False) S w1.heap.size qT.2 w.heap.size #[.string ⟨qS.1.toArray⟩,.int .i64 0,.slice none 0 0,.slice none 0 0,.string ⟨#[]⟩,.int .i64 0,.int .i64 0,.int .i64 0,.int .i64 0]:=ri4.store 0 _
 have XQ:RS w (w4.setCell ⟨w.heap.size,0,none⟩ (.string ⟨qS.1.toArray⟩)) (fun _ _=>False) S w2.heap.size qS.2 w.heap.size #[.string ⟨qS.1.toArray⟩,.int .i64 0,.slice none 0 0,.slice none 0 0,.string ⟨#[]⟩,.int .i64 0,.int .i64 0,.int .i64 0,.int .i64 0]:=rt4.store 0 _
 have HT3:=hid (wR S w2.heap.size qS.2 _ XQ.src XQ.ng XQ.rd)
 rw[HQ.out.2.2.1] at HT3
 have H3:=hid (And.intro Y5 XQ)
 clear r4 f4 HT2 H2 ri4 rt4 Y5 XQ
 go_wp2_with fail
 refine HT3.out.mono ?_
 rintro e w5 ⟨v5,rfl,b5,r5,f5⟩
 obtain ⟨aZ,cZ,rfl,_⟩:=id b5
 have Y5:=H3.out.1.other f5 HNt.out (by omega) (by omega) (by omega)
 have XQ:RS w w5 (fun _ _=>False) S w2.heap.size qZ.2 w.heap.size #[.string ⟨qS.1.toArray⟩,.int .i64 0,.slice none 0 0,.slice none 0 0,.string ⟨#[]⟩,.int .i64 0,.int .i64 0,.int .i64 0,.int .i64 0]:=H3.out.2.read f5 r5
 obtain ⟨⟨d5,hd5⟩,hz5⟩:=Y5.slot 1 (by show 1<9;decide)
 obtain ⟨⟨d5',agf⟩,agh⟩:=Y5.slot 2 (by show 2<9;decide)
 have XR:RS w ((w5.setCell ⟨w.heap.size,1,none⟩ (.int .i64 qZ.1.1)).setCell ⟨w.heap.size,2,none⟩ (.slice aZ qZ.1.2.length cZ)) (fun _ _=>False) S w1.heap.size qT.2 w.heap.size #[.string ⟨qS.1.toArray⟩,.int .i64 qZ.1.1,.slice aZ qZ.1.2.length cZ,.slice none 0 0,.string ⟨#[]⟩,.int .i64 0,.int .i64 0,.int .i64 0,.int .i64 0]:=(Y5.store 1 _).store 2 _
 have rt6:RS w ((w5.setCell ⟨w.heap.size,1,none⟩ (.int .i64 qZ.1.1)).setCell ⟨w.heap.size,2,none⟩ (.slice aZ qZ.1.2.length cZ)) (fun _ _=>False) S w2.heap.size qZ.2 w.heap.size #[.string ⟨qS.1.toArray⟩,.int .i64 qZ.1.1,.slice aZ qZ.1.2.length cZ,.slice none 0 0,.string ⟨#[]⟩,.int .i64 0,.int .i64 0,.int .i64 0,.int .i64 0]:=(XQ.store 1 _).store 2 _
 have HBZ:=hid b5
 have Sb:=hid (wP S w1.heap.size qT.2.1 qT.2.2 _ XR.src XR.rd)
 rw[HQ.out.2.2.2.1] at Sb
 have H4:=hid (And.intro XR rt6)
 clear r5 f5 b5 HT3 H3 Y5 XQ XR rt6 hd4 hz4
 go_wp2_with fail
 refine Sb.out.mono ?_
 rintro e w6 ⟨v6,rfl,b6,r6,f6⟩
 obtain ⟨aP,cP,rfl,_⟩:=id b6
 have XR:RS w w6 (fun _ _=>False) S w1.heap.size qP.2 w.heap.size #[.string ⟨qS.1.toArray⟩,.int .i64 qZ.1.1,.slice aZ qZ.1.2.length cZ,.slice none 0 0,.string ⟨#[]⟩,.int .i64 0,.int .i64 0,.int .i64 0,.int .i64 0]:=H4.out.1.read f6 r6
 have rt6:=H4.out.2.other f6 H4.out.1.ng (by omega) (fun e=>H4.out.1.ne e.symm) H4.out.1.hg
 obtain ⟨⟨d6,hd6⟩,hz6⟩:=XR.slot 3 (by show 3<9;decide)
 have We:RS w (w6.setCell ⟨w.heap.size,3,none⟩ (.slice aP qP.1.length cP)) (fun _ _=>False) S w1.heap.size qP.2 w.heap.size #[.string ⟨qS.1.toArray⟩,.int .i64 qZ.1.1,.slice aZ qZ.1.2.length cZ,.slice aP qP.1.length cP,.string ⟨#[]⟩,.int .i64 0,.int .i64 0,.int .i64 0,.int .i64 0]:=XR.store 3 _
 have rt7:RS w (w6.setCell ⟨w.heap.size,3,none⟩ (.slice aP qP.1.length cP)) (fun _ _=>False) S w2.heap.size qZ.2 w.heap.size #[.string ⟨qS.1.toArray⟩,.int .i64 qZ.1.1,.slice aZ qZ.1.2.length cZ,.slice aP qP.1.length cP,.string ⟨#[]⟩,.int .i64 0,.int .i64 0,.int .i64 0,.int .i64 0]:=rt6.store 3 _
 have HBP:=hid b6
 have Y3:=hid (lF S w1.heap.size qP.2 _ We.src We.ng We.rd)
 rw[HQ.out.2.2.2.2.1] at Y3
 have H5:=hid (And.intro We rt7)
 clear r6 f6 b6 Sb H4 XR rt6 We rt7 hd5 hz5 agf agh
 go_wp2_with fail
 refine Y3.out.mono ?_
 rintro e w7 ⟨rfl,r7,f7⟩
 have We:RS w w7 (fun _ _=>False) S w1.heap.size qV.2 w.heap.size #[.string ⟨qS.1.toArray⟩,.int .i64 qZ.1.1,.slice aZ qZ.1.2.length cZ,.slice aP qP.1.length cP,.string ⟨#[]⟩,.int .i64 0,.int .i64 0,.int .i64 0,.int .i64 0]:=H5.out.1.read f7 r7
 have rt7:=H5.out.2.other f7 H5.out.1.ng (by omega) (fun e=>H5.out.1.ne e.symm) H5.out.1.hg
 obtain ⟨⟨d7,hd7⟩,hz7⟩:=We.slot 4 (by show 4<9;decide)
 have ri8:RS w (w7.setCell ⟨w.heap.size,4,none⟩ (.string ⟨qV.1.toArray⟩)) (fun _ _=>False) S w1.heap.size qV.2 w.heap.size #[.string ⟨qS.1.toArray⟩,.int .i64 qZ.1.1,.slice aZ qZ.1.2.length cZ,.slice aP qP.1.length cP,.string ⟨qV.1.toArray⟩,.int .i64 0,.int .i64 0,.int .i64 0,.int .i64 0]:=We.store 4 _
 have rt8:RS w (w7.setCell ⟨w.heap.size,4,none⟩ (.string ⟨qV.1.toArray⟩)) (fun _ _=>False) S w2.heap.size qZ.2 w.heap.size #[.string ⟨qS.1.toArray⟩,.int .i64 qZ.1.1,.slice aZ qZ.1.2.length cZ,.slice aP qP.1.length cP,.string ⟨qV.1.toArray⟩,.int .i64 0,.int .i64 0,.int .i64 0,.int .i64 0]:=rt7.store 4 _
 have HB7:=hid (And.intro HBZ.out HBP.out)
 have pl:=ri8.places [5,6,7,8] (fun j hj=>by show j<9;simp at hj;omega) (by decide) 194
 rw[World.size_setCell] at pl
 have Wh:=ri8.alloc (.cells #[.pointer (some ⟨w.heap.size,5,none⟩),.pointer (some ⟨w.heap.size,6,none⟩),.pointer (some ⟨w.heap.size,7,none⟩),.pointer (some ⟨w.heap.size,8,none⟩)] 194)
 have ab2:=rt8.alloc (.cells #[.pointer (some ⟨w.heap.size,5,none⟩),.pointer (some ⟨w.heap.size,6,none⟩),.pointer (some ⟨w.heap.size,7,none⟩),.pointer (some ⟨w.heap.size,8,none⟩)] 194)
 have OE:=hid (iV S w1.heap.size w7.heap.size _ 4 qV.2 _ (hid rfl) (by omega) (Wh.stays [5,6,7,8]) Wh.rd pl)
 simp only[HQ.out.2.2.2.2.2.1] at OE
 rw[HQ.out.2.2.2.2.2.2] at OE
 have H6:=hid (And.intro Wh ab2)
 clear r7 f7 We rt7 ri8 rt8 Y3 H5 pl Wh ab2 hd6 hz6 HBZ HBP
 go_wp2_with fail
 refine OE.out.mono ?_
 rintro e w8 ⟨rfl,r8,c8,f8⟩
 have hps:∀ p∈([5,6,7,8].map fun j=>(w.heap.size,j)),p.1=w.heap.size:=fun p hp=>by
  obtain ⟨j,_,rfl⟩:=List.mem_map.1 hp
  rfl
 have ri9:RS w w8 (fun _ _=>False) S w1.heap.size qE w.heap.size #[.string ⟨qS.1.toArray⟩,.int .i64 qZ.1.1,.slice aZ qZ.1.2.length cZ,.slice aP qP.1.length cP,.string ⟨qV.1.toArray⟩,.int .i64 (N 0),.int .i64 (N 1),.int .i64 (N 2),.int .i64 (N 3)]:=by
  refine H6.out.1.nums f8 r8 hps rfl (fun j hj=>?_)
  ·have hj':j<9:=hj
   match j,hj' with
   | 0,_=>exact f8.cell (H6.out.1.blk.cell 0) (fun e=>by rcases e with e | e;exact H6.out.1.ne e;simp at e)
   | 1,_=>exact f8.cell (H6.out.1.blk.cell 1) (fun e=>by rcases e with e | e;exact H6.out.1.ne e;simp at e)
   | 2,_=>exact f8.cell (H6.out.1.blk.cell 2) (fun e=>by rcases e with e | e;exact H6.out.1.ne e;simp at e)
   | 3,_=>exact f8.cell (H6.out.1.blk.cell 3) (fun e=>by rcases e with e | e;exact H6.out.1.ne e;simp at e)
   | 4,_=>exact f8.cell (H6.out.1.blk.cell 4) (fun e=>by rcases e with e | e;exact H6.out.1.ne e;simp at e)
   | 5,_=>exact c8 0 (w.heap.size,5) rfl
   | 6,_=>exact c8 1 (w.heap.size,6) rfl
   | 7,_=>exact c8 2 (w.heap.size,7) rfl
   | 8,_=>exact c8 3 (w.heap.size,8) rfl
 have rt9:=H6.out.2.beside ri9 f8 hps (by omega)
 have YZ:=hid HB7.out
 have HT:=hid (And.intro ri9 rt9)
 clear r8 c8 f8 ri9 rt9 hps OE H6 HB7 HQ hd7 hz7
 obtain ⟨y0,y1,y2,y3,y4,y5,y6,y7,y8⟩:=HT.out.1.blk.nine
 have zz0:=(HT.out.1.slot 0 (by show 0<9;decide)).2
 have zz1:=(HT.out.1.slot 1 (by show 1<9;decide)).2
 have zz2:=(HT.out.1.slot 2 (by show 2<9;decide)).2
 have zz3:=(HT.out.1.slot 3 (by show 3<9;decide)).2
 have zz4:=(HT.out.1.slot 4 (by show 4<9;decide)).2
 have zz5:=(HT.out.1.slot 5 (by show 5<9;decide)).2
 have zz6:=(HT.out.1.slot 6 (by show 6<9;decide)).2
 have zz7:=(HT.out.1.slot 7 (by show 7<9;decide)).2
 have zz8:=(HT.out.1.slot 8 (by show 8<9;decide)).2
 have HD1:=hid (iF S w2.heap.size _ _ _ HT.out.2.rd)
 have HD2:=hid (iF S w1.heap.size _ _ _ HT.out.1.rd)
 have HZ:=hid (HT.out.1.Sn (.string ⟨#[]⟩) (.int .i64 0) (.slice none 0 0) (.slice none 0 0) (.string ⟨#[]⟩) (.int .i64 0) (.int .i64 0) (.int .i64 0) (.int .i64 0))
 have HY:=hid (HT.out.1.Sn (.string ⟨qS.1.toArray⟩) (.int .i64 qZ.1.1) (.slice aZ qZ.1.2.length cZ) (.slice aP qP.1.length cP) (.string ⟨qV.1.toArray⟩) (.int .i64 (N 0)) (.int .i64 (N 1)) (.int .i64 (N 2)) (.int .i64 (N 3)))
 unfold Sn at HZ HY
 cases hq1:(!qZ.2.2 && decide (qZ.2.1=[]))
 ·have uH:Hid (wV aG=false):=by show _=_;rw[Sc.out,hq1];rfl
  rw[hq1] at HD1
  go_wp2_with fail
  refine HD1.out.mono ?_
  rintro e w9 ⟨rfl,rfl⟩
  clear HD1 HD2 HY hq1
  go_wp2
  refine bodyPost_ret (aD Tryz.results63 _ _ _ w.heap.size rfl _ HZ.out.Sq) rfl ⟨_,by rw[uH.out];rfl,fun e=>(by rw[uH.out] at e;cases e),⟨rfl,rfl⟩,HZ.out.cf.gb (fun _ _ _ e=>e)⟩
 ·rw[hq1] at HD1
  cases hq2:(!qE.2 && decide (qE.1=[]))
  ·have uH:Hid (wV aG=false):=by show _=_;rw[Sc.out,hq1,hq2];rfl
   rw[hq2] at HD2
   go_wp2_with fail
   refine HD1.out.mono ?_
   rintro e w9 ⟨rfl,rfl⟩
   go_wp2_with fail
   refine HD2.out.mono ?_
   rintro e w9 ⟨rfl,rfl⟩
   clear HD1 HD2 HY hq1 hq2
   go_wp2
   refine bodyPost_ret (aD Tryz.results63 _ _ _ w.heap.size rfl _ HZ.out.Sq) rfl ⟨_,by rw[uH.out];rfl,fun e=>(by rw[uH.out] at e;cases e),⟨rfl,rfl⟩,HZ.out.cf.gb (fun _ _ _ e=>e)⟩
  ·have uH:Hid (wV aG=true):=by show _=_;rw[Sc.out,hq1,hq2];rfl
   rw[hq2] at HD2
   go_wp2_with fail
   refine HD1.out.mono ?_
   rintro e w9 ⟨rfl,rfl⟩
   go_wp2_with fail
   refine HD2.out.mono ?_
   rintro e w9 ⟨rfl,rfl⟩
   clear HD1 HD2 HZ hq1 hq2
   go_wp2
   refine bodyPost_ret (aD Tryz.results63 _ _ _ w.heap.size rfl _ HY.out.Sq) rfl ⟨_,by rw[uH.out];rfl,fun _=>?_,⟨rfl,rfl⟩,HY.out.cf.gb (fun _ _ _ e=>e)⟩
   refine ⟨_,_,by rw[xP,HRS.out,HRZ.out,HRV.out,KY.out,KY.out,KY.out,KY.out],?_,?_⟩
   ·rw[HRZ.out];exact YZ.out.1
   ·rw[HRP.out];exact YZ.out.2
end Go.Proofs.YtpibgolaaaemnaaGreatDoor
namespace Go.Proofs.YtpibgolaaaemnaaGreatDoor
open Go.RowKit
set_option maxRecDepth 100000
def XT:List jX→Option NQ:=dO tQ fun c=>dO pG fun p=>dO jT fun s=>dO eG fun n=>dO eG fun t=>dO eG fun r=>dO eG fun o=>Ab ⟨c.1,c.2.1,c.2.2,p,s,n,t,r,o⟩
def Iw:List UInt8→Option NQ:=dh tQ fun c=>dh pG fun p=>dh jT fun s=>dh eG fun n=>dh eG fun t=>dh eG fun r=>dh eG fun o=>rP ⟨c.1,c.2.1,c.2.2,p,s,n,t,r,o⟩
theorem Su (l:List UInt8):Iw l=(Box.eX l).bind XT:=
 dm _ _ _ (fun c l=>dm _ _ _ (fun p l=>dm _ _ _ (fun s l=>dm _ _ _ (fun n l=>dm _ _ _ (fun t l=>dm _ _ _ (fun r l=>dm _ _ _ (fun o l=>tO (⟨c.1,c.2.1,c.2.2,p,s,n,t,r,o⟩:NQ) l) l) l) l) l) l) l) l
def oh:List UInt8→Option (List UInt8×Int×List UInt8):=dh jT fun s=>dh eG fun n=>dh pG fun z=>rP (s,n,z)
theorem K6 (l:List UInt8):oh l=(Box.eX l).bind MG:=
 dm _ _ _ (fun s l=>dm _ _ _ (fun n l=>dm _ _ _ (fun z l=>tO (s,n,z) l) l) l) l
theorem Iy (t:UInt8) (i:List UInt8):tQ (t,i)=if t.toNat=48 then oh i else none:=by
 unfold tQ Dl
 by_cases e:t.toNat=48
 ·simp only[e,if_true];exact (K6 i).symm
 ·simp only[e,if_false];rfl
def Vb (aG:List UInt8):NQ:=⟨(Wd aG).1,(JX aG).1.1,(JX aG).1.2,(Sr aG).1,(zC aG).1,zD aG 0,zD aG 1,zD aG 2,zD aG 3⟩
theorem OI {α β γ:Type} (x:Option α) (y:Option β) (f:β→α→Option γ):x.bind (fun a=>y.bind fun b=>f b a)=y.bind fun b=>x.bind (f b):=by cases x <;> cases y <;> rfl
theorem OJ {q0 sp s0 s1 s2 s3 s4 t1:List UInt8×Bool} {qT:List UInt8×(List UInt8×Bool)} {a:List UInt8} {qZ:(Int×List UInt8)×(List UInt8×Bool)} {p v:List UInt8} {n0 n1 n2 n3:Int} (h0:mO q0) (hT:aM 48 q0.1 q0.2=qT) (hS:eF (qT.1,qT.2.2)=(a,t1)) (hZ:ig t1=qZ) (hP:aM 4 qT.2.1 qT.2.2=(p,sp)) (hV:eF sp=(v,s0)) (e0:bq s0=(n0,s1)) (e1:bq s1=(n1,s2)) (e2:bq s2=(n2,s3)) (e3:bq s3=(n3,s4)) :
  (st q0).bind Iw=if ((!qZ.2.2 && decide (qZ.2.1=[])) && (!s4.2 && decide (s4.1=[])))=true then some ⟨a,qZ.1.1,qZ.1.2,p,v,n0,n1,n2,n3⟩ else none:=by
 have bT:mO (qT.1,qT.2.2):=fun e=>by rw[←hT] at e ⊢;exact (lD 48 _ _ h0 e).1
 have bT2:mO qT.2:=by have:=h0.take 48;rw[hT] at this;exact this
 have b1:mO t1:=by have:=bT.name;rw[hS] at this;exact this
 have bp:mO sp:=by have:=bT2.take 4;rw[hP] at this;exact this
 have c0:mO s0:=by have:=bp.name;rw[hV] at this;exact this
 have c1:mO s1:=by have:=c0.step;rw[e0] at this;exact this
 have c2:mO s2:=by have:=c1.step;rw[e1] at this;exact this
 have c3:mO s3:=by have:=c2.step;rw[e2] at this;exact this
 have hin:∀ c:List UInt8×Int×List UInt8,(st qT.2).bind (dh pG fun p=>dh jT fun s=>dh eG fun n=>dh eG fun t=>dh eG fun r=>dh eG fun o=>rP (⟨c.1,c.2.1,c.2.2,p,s,n,t,r,o⟩:NQ))=if (!s4.2 && decide (s4.1=[]))=true then some ⟨c.1,c.2.1,c.2.2,p,v,n0,n1,n2,n3⟩ else none:=by
  intro c
  rw[MV bT2,hP,ug bp,hV,iR c0,e0,iR c1,e1,iR c2,e2,iR c3,e3,sP]
 have htk:(st (qT.1,qT.2.2)).bind oh=if (!qZ.2.2 && decide (qZ.2.1=[]))=true then some (a,qZ.1.1,qZ.1.2) else none:=by
  unfold oh
  rw[ug bT,hS,DW b1 (fun c=>rP (a,c.1,c.2)),hZ,sP]
 unfold Iw
 rw[MW h0 tQ oh Iy,hT,OI]
 cases hf:qT.2.2
 ·have e5:oh qT.1=(st (qT.1,qT.2.2)).bind oh:=by rw[hf];rfl
  rw[e5,htk]
  cases hd:(!qZ.2.2 && decide (qZ.2.1=[]))
  ·simp only[Bool.false_and,Bool.false_eq_true,if_false];rfl
  ·simp only[Bool.true_and,if_true]
   exact hin (a,qZ.1.1,qZ.1.2)
 ·have e5:(st (qT.1,qT.2.2))=none:=by rw[hf];rfl
  rw[e5] at htk
  have hd:(!qZ.2.2 && decide (qZ.2.1=[]))=false:=by
   cases hd:(!qZ.2.2 && decide (qZ.2.1=[]))
   ·rfl
   ·rw[hd] at htk;simp at htk
  rw[hd]
  have e6:st qT.2=none:=by rw[st,if_pos hf]
  rw[e6]
  simp only[Bool.false_and,Bool.false_eq_true,if_false]
  cases oh qT.1 <;> rfl
theorem Wi (aG:List UInt8):Km aG=(st (gQ aG 12)).bind Iw:=by
 rw[←Iq aG 12 XT Iw Su]
 rfl
theorem OL (aG:List UInt8):Km aG=if wV aG=true then some (Vb aG) else none:=by
 have e0:=Wi aG
 have bb:=DV aG 12
 have hT:aM 48 (gQ aG 12).1 (gQ aG 12).2=Qq aG:=rfl
 have hS:eF ((Qq aG).1,(Qq aG).2.2)=Wd aG:=rfl
 have hZ:ig (Wd aG).2=JX aG:=rfl
 have hP:aM 4 (Qq aG).2.1 (Qq aG).2.2=Sr aG:=rfl
 have hV:eF (Sr aG).2=zC aG:=rfl
 have hN0:bq (zC aG).2=(zD aG 0,fQ (zC aG).2 1):=uh _
 have hN1:bq (fQ (zC aG).2 1)=(zD aG 1,fQ (zC aG).2 2):=kK _ 1
 have Va:bq (fQ (zC aG).2 2)=(zD aG 2,fQ (zC aG).2 3):=kK _ 2
 have XP:bq (fQ (zC aG).2 3)=(zD aG 3,fQ (zC aG).2 4):=kK _ 3
 have hO:wV aG=((!(JX aG).2.2 && decide ((JX aG).2.1=[])) && (!(fQ (zC aG).2 4).2 && decide ((fQ (zC aG).2 4).1=[]))):=rfl
 have hQ:Vb aG=⟨(Wd aG).1,(JX aG).1.1,(JX aG).1.2,(Sr aG).1,(zC aG).1,zD aG 0,zD aG 1,zD aG 2,zD aG 3⟩:=rfl
 generalize fQ (zC aG).2 1=s1 at *
 generalize fQ (zC aG).2 2=s2 at *
 generalize fQ (zC aG).2 3=s3 at *
 generalize fQ (zC aG).2 4=s4 at *
 generalize zD aG 0=n0 at *
 generalize zD aG 1=n1 at *
 generalize zD aG 2=n2 at *
 generalize zD aG 3=n3 at *
 generalize Vb aG=Q at *
 generalize wV aG=ok at *
 generalize zC aG=qV at *
 generalize Sr aG=qP at *
 generalize JX aG=qZ at *
 generalize Wd aG=qS at *
 generalize Qq aG=qT at *
 generalize gQ aG 12=q0 at *
 obtain ⟨a,t1⟩:=qS
 obtain ⟨p,sp⟩:=qP
 obtain ⟨v,s0⟩:=qV
 rw[e0,OJ bb hT hS hZ hP hV hN0 hN1 Va XP,hO,hQ]
end Go.Proofs.YtpibgolaaaemnaaGreatDoor
