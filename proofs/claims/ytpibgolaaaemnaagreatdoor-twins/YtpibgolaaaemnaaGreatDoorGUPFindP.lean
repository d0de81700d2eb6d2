/-
  
  
  
  
  
  
  
  
  
  
  
-/
import Derived.Test.YtpibgolaaaemnaaGreatDoorGUPFindA
import Derived.Test.YtpibgolaaaemnaaGreatDoorGUPBookG
import Derived.Test.YtpibgolaaaemnaaGreatDoorGUPDerB
namespace Go.Proofs.YtpibgolaaaemnaaGreatDoor
open Go.RowKit
set_option maxRecDepth 100000
theorem VT:∀ (es:List BE) (l:List UInt8),((BE.lT es l).isSome=false→BE.find es l=none)∧∀ i (hi:i<es.length),BE.lT es l=some i→BE.find es l=some es[i]:=by
 intro es l
 unfold BE.lT BE.find
 induction es with
 | nil=>exact ⟨fun _=>rfl,fun i hi=>absurd hi (by simp)⟩
 | cons e es ih=>
  rw[List.findIdx?_cons,List.find?_cons]
  cases h:(e.name==l) with
  | true=>
   simp only[if_true]
   refine ⟨fun n=>by simp at n,fun i hi hn=>?_⟩
   have:i=0:=by simpa using hn.symm
   subst this
   rfl
  | false=>
   simp only[Bool.false_eq_true,if_false]
   refine ⟨fun n=>ih.1 (by simpa using n),fun i hi hn=>?_⟩
   rw[Option.map_eq_some_iff] at hn
   obtain ⟨j,hj,rfl⟩:=hn
   have hj2:j<es.length:=by simpa using hi
   rw[ih.2 j hj2 hj]
   rfl
theorem KG (g:Nat) (es:List BE) (l:List UInt8) (w:World) (h:bE w g 2 es) (hs:es.Pairwise (fun x y=>Op.bytesLess x.name y.name=true)) :
  Calls Tryz.prog 227 #[.pointer (some ⟨g,2,none⟩),.string ⟨l.toArray⟩] w fun e w'=>e = .returned (kG (BE.find es l))∧w.grownBy w' none:=by
 refine (Re g 2 es l _ w h hs (hid rfl)).mono ?_
 rintro e w' ⟨h1,h2,h3⟩
 refine ⟨?_,h3⟩
 have hf:=VT es l
 cases ha:BE.lT es l with
 | none=>
  rw[hf.1 (by rw[ha];rfl)]
  exact h1 (by rw[ha];rfl)
 | some i=>
  obtain ⟨hi,_⟩:=zx ha
  rw[hf.2 i hi ha]
  exact h2 i hi ha
set_option maxHeartbeats 1000000 in
theorem wL (g:Nat) (es:List BE) (l:List UInt8) (w:World) (h:bE w g 2 es) (hs:es.Pairwise (fun x y=>Op.bytesLess x.name y.name=true)) :
  Calls Tryz.prog 225 #[.pointer (some ⟨g,0,none⟩),.string ⟨l.toArray⟩] w fun e w'=>e = .returned (kG (BE.find es l))∧w.grownBy w' none:=by
 have G0:=World.grownBy_alloc w (.cells noEntry 87) none
 have hB:=KG g es l _ (h.grown G0) hs
 obtain ⟨x,hx⟩:∃ x,BE.find es l=x:=⟨_,rfl⟩
 rw[hx] at hB
 rw[hx]
 obtain ⟨v0,v1,v2,v3,v4,v5,v6,v7,hv⟩:=gB x
 unfold kG at hB ⊢
 rw[hv] at hB
 rw[hv]
 obtain ⟨bx,hbx⟩:∃ b,x.isSome=b:=⟨_,rfl⟩
 rw[hbx] at hB
 rw[hbx]
 have HB:=hid hB
 have HG:=hid G0
 have HL:=hid (Live.new w noEntry 87)
 clear hB G0 hv hbx hx h hs
 go_enter Tryz.func225,Tryz.ntmps225
 go_wp2_with (first|(go_at_call 227;refine HB.out.mono ?_;clear HB;rintro e w1 ⟨rfl,g1⟩;have nH:=hid (ae HG.out g1);have hL:=HL.out.grown g1;clear g1;obtain ⟨⟨d0,q0⟩,⟨d1,q1⟩,⟨d2,q2⟩,⟨d3,q3⟩,⟨d4,q4⟩,⟨d5,q5⟩,⟨d6,q6⟩,⟨d7,q7⟩,f0,f1,f2,f3,f4,f5,f6,f7⟩:=dY hL))
 refine bodyPost_ret (aD Tryz.results225 _ _ _ w.heap.size rfl _ (dN (fw w1 w.heap.size _ _ _ _ _ _ _ _ q0 q1 q2 q3 q4 q5 q6 q7) 87 _ Tryz.underlying87 rfl Tryz.gH)) rfl ⟨rfl,?_⟩
 repeat refine aK ?_ (Nat.le_refl _)
 exact nH.out
theorem Ia (g:Nat) (es:List BE) (hs:es.Pairwise (fun x y=>Op.bytesLess x.name y.name=true)):Finds (findF 137) (fun W=>bE W g 2 es) (fun _ _=>False) (fun b y=>¬ (b=g∧2≤y∧y<163)) (.pointer (some ⟨g,0,none⟩)) es:=
 ⟨fun W hW l=>(wL g es l W hW hs).mono fun _ _ ⟨a,b⟩=>⟨a,hW.grown b,CF.aW b _⟩,fun _ _ hW k=>hW.cf k (fun _ h1 h2 e=>e ⟨rfl,h1,h2⟩)⟩
theorem KJ (g:Nat):∀ W,(method 434 137 (.pointer (some ⟨g,0,none⟩)) "Find").run Tryz.prog W = .ok (findF 137,.pointer (some ⟨g,0,none⟩)) W:=fun _=>by kernel_rfl
end Go.Proofs.YtpibgolaaaemnaaGreatDoor
namespace Go.Proofs.YtpibgolaaaemnaaGreatDoor
open Go.RowKit
set_option maxRecDepth 100000
theorem MQ {a b:List UInt8} {S T:ByteArray} (hS:S=⟨a.toArray⟩) (hT:T=⟨b.toArray⟩):(S.toList==T.toList)=(a==b):=by
 subst hS hT
 rw[ByteArray.toList_mk,ByteArray.toList_mk]
structure jB (w:World) (g o:Nat) (ls:List BE) (nx:Nat):Prop where
 live:Live w g (o+34)
 ent:∀ k (hk:k<ls.length),w.rangeAt g (o+k*8) ls[k].aR
 count:w.cell? ⟨g,o+32,none⟩=some (.int .i64 ls.length)
 next:w.cell? ⟨g,o+33,none⟩=some (.int .i64 nx)
 len:ls.length≤4
 nx4:nx<4
 nxl:ls.length<4→nx=ls.length
theorem jB.cf {w w':World} {ex:Nat→Nat→Prop} {g o:Nat} {ls:List BE} {nx:Nat} (h:jB w g o ls nx) (k:CF w w' ex) (hx:∀ j,o≤j→j<o+34→¬ ex g j):jB w' g o ls nx:=
 ⟨h.live.cf k,fun i hi=>k.range (h.ent i hi) (fun j hj=>hx _ (by omega) (by have:=h.len;have hj:j<8:=hj;omega)),k.cell h.count (hx _ (by omega) (by omega)),k.cell h.next (hx _ (by omega) (by omega)),h.len,h.nx4,h.nxl⟩
theorem jB.grown {w w':World} {g o:Nat} {ls:List BE} {nx:Nat} (h:jB w g o ls nx) (k:w.grownBy w' none):jB w' g o ls nx:=h.cf (CF.aW k (fun _ _=>False)) (fun _ _ _ e=>e)
theorem qH (e:BE):∃ v0 v1 v2 v3 v4 v5 v6 v7,e.aR=[.string v0,.int .i64 v1,.int .u64 v2,.int .u64 v3,.int .i64 v4,.int .i64 v5,.int .i64 v6,.int .i64 v7]∧v0=⟨e.name.toArray⟩:=⟨_,_,_,_,_,_,_,_,rfl,rfl⟩
theorem ET {ls:List BE} {l:List UInt8} (h:∀ j (hj:j<ls.length),ls[j].name≠l):BE.find ls l=none:=by
 unfold BE.find
 rw[List.find?_eq_none]
 intro e he hn
 obtain ⟨j,hj,rfl⟩:=List.getElem_of_mem he
 exact h j hj (by simpa using hn)
theorem EU {ls:List BE} {l:List UInt8} {k:Nat} (hk:k<ls.length) (hn:ls[k].name=l) (h:∀ j (hj:j<ls.length),j<k→ls[j].name≠l):BE.find ls l=some ls[k]:=by
 unfold BE.find
 rw[List.find?_eq_some_iff_getElem]
 refine ⟨by simpa using hn,k,hk,rfl,fun j hj=>?_⟩
 simpa using h j (by omega) hj
set_option maxHeartbeats 400000 in
theorem KL (g o:Nat) (ls:List BE) (nx:Nat) (w:World) (h:jB w g o ls nx) :
  Calls Tryz.prog 72 #[.pointer (some ⟨g,o,none⟩)] w fun e w'=>e = .returned (.int .i64 ls.length)∧w'=w:=by
 have c1:=h.count
 clear h
 go_enter Tryz.func72,Tryz.ntmps72
 go_wp2
 go_ret
 exact ⟨rfl,rfl⟩
set_option maxHeartbeats 1000000 in
theorem DI (g o:Nat) (ls:List BE) (nx:Nat) (l:List UInt8) (w:World) (h:jB w g o ls nx) :
  Calls Tryz.prog 224 #[.pointer (some ⟨g,o,none⟩),.string ⟨l.toArray⟩] w fun e w'=>e = .returned (kG (BE.find ls l))∧w.grownBy w' none:=by
 obtain ⟨W0,hW0⟩:∃ W,W=w.alloc (.cells noEntry 87):=⟨_,rfl⟩
 have mD:Hid (w.grownBy W0 none):=by show World.grownBy _ _ _;rw[hW0];exact World.grownBy_alloc w _ none
 have HLv:Hid (Live W0 w.heap.size 8):=by show Live _ _ _;rw[hW0];exact Live.new w noEntry _
 obtain ⟨m,hm⟩:∃ m,ls.length=m:=⟨_,rfl⟩
 have c1:=mD.out.cell h.count (by simp)
 rw[hm] at c1
 have hm4:m≤4:=by rw[←hm];exact h.len
 have HE:Hid (∀ k (hk:k<ls.length),W0.rangeAt g (o+k*8) ls[k].aR):=fun k hk=>fH (h.ent k hk) mD.out
 obtain ⟨S,hS⟩:∃ S:ByteArray,S=⟨l.toArray⟩:=⟨_,rfl⟩
 rw[←hS]
 obtain ⟨⟨d0,q0⟩,⟨d1,q1⟩,⟨d2,q2⟩,⟨d3,q3⟩,⟨d4,q4⟩,⟨d5,q5⟩,⟨d6,q6⟩,⟨d7,q7⟩,f0,f1,f2,f3,f4,f5,f6,f7⟩:=dY HLv.out
 have hne:g≠w.heap.size:=fun e=>by have:=h.live.lt;omega
 have HS:=hid hS
 have HM:=hid hm
 have HW0:=hid hW0
 have MR:=hid hne
 clear hS hm hW0 h hne
 go_enter Tryz.func224,Tryz.ntmps224
 go_wp2_with (first|(rw[←HW0.out];fail_if_success done) | fail)
 go_loopw [6,11] (fun _ i wr=>∃ k:Nat,k≤m∧i = .int .i64 k∧wr=W0∧Hid (∀ j (hj:j<ls.length),j<k→ls[j].name≠l)) (fun _ i _=>m-(intOf i).toNat)
 case atStart=>exact ⟨0,Nat.zero_le _,rfl,rfl,fun j _ hj=>by omega⟩
 case round=>
  obtain ⟨k,hk,rfl,rfl,hI⟩:=hrel
  by_cases hlt:k<m
  ·have rT:(k:Int)<(m:Int):=by omega
   have hk4:(k:Int)<4:=by omega
   have hk0:(0:Int)≤(k:Int):=by omega
   have hlt':k<ls.length:=by rw[HM.out];exact hlt
   obtain ⟨e,he⟩:∃ e,ls[k]=e:=⟨_,rfl⟩
   have hr:=HE.out k hlt'
   rw[he] at hr
   obtain ⟨v0,v1,v2,v3,v4,v5,v6,v7,hv,hv0⟩:=qH e
   have HV:=hid hv
   rw[hv] at hr
   have x0:wr.cell? ⟨g,o+k*8,none⟩=some (.string v0):=hr 0 _ rfl
   have x1:wr.cell? ⟨g,o+k*8+1,none⟩=some (.int .i64 v1):=hr 1 _ rfl
   have x2:wr.cell? ⟨g,o+k*8+2,none⟩=some (.int .u64 v2):=hr 2 _ rfl
   have x3:wr.cell? ⟨g,o+k*8+3,none⟩=some (.int .u64 v3):=hr 3 _ rfl
   have x4:wr.cell? ⟨g,o+k*8+4,none⟩=some (.int .i64 v4):=hr 4 _ rfl
   have x5:wr.cell? ⟨g,o+k*8+5,none⟩=some (.int .i64 v5):=hr 5 _ rfl
   have x6:wr.cell? ⟨g,o+k*8+6,none⟩=some (.int .i64 v6):=hr 6 _ rfl
   have x7:wr.cell? ⟨g,o+k*8+7,none⟩=some (.int .i64 v7):=hr 7 _ rfl
   have HEq:Hid ((v0.toList==S.toList)=(e.name==l)):=MQ hv0 HS.out
   have HEe:=hid he
   clear hr hv he hv0
   by_cases hc:(v0.toList==S.toList)=true
   ·go_wp2_with fail
    have hnm:ls[k].name=l:=by rw[HEe.out];have:=HEq.out;rw[hc] at this;simpa using this.symm
    have hf:=EU hlt' hnm hI.out
    rw[HEe.out] at hf
    rw[hf]
    refine bodyPost_ret (aD Tryz.results224 _ _ _ w.heap.size rfl _ (dN (fw _ w.heap.size _ _ _ _ _ _ _ _ q0 q1 q2 q3 q4 q5 q6 q7) 87 _ Tryz.underlying87 rfl Tryz.gH)) rfl ⟨by simp only[kG,nG];rw[HV.out];rfl,?_⟩
    repeat refine aK ?_ (Nat.le_refl _)
    exact mD.out
   ·have hc2:(v0.toList==S.toList)=false:=by simpa using hc
    clear hc
    go_wp2
    go_roundw
    case rel=>
     refine ⟨k+1,by omega,by go_num,by first | rfl | trivial,fun j hj hjk=>?_⟩
     by_cases e2:j=k
     ·subst e2
      rw[HEe.out]
      have:=HEq.out
      rw[hc2] at this
      simpa using this.symm
     ·exact hI.out j hj (by omega)
    case measure=>simp[intOf];omega
  ·have Ou:k=m:=by omega
   subst Ou
   go_wp2
   rw[ET (fun j hj=>hI.out j hj (by rw[←HM.out];exact hj))]
   refine bodyPost_ret (aD Tryz.results224 _ _ _ w.heap.size rfl _ (dN (fw _ w.heap.size _ _ _ _ _ _ _ _ q0 q1 q2 q3 q4 q5 q6 q7) 87 _ Tryz.underlying87 rfl Tryz.gH)) rfl ⟨rfl,?_⟩
   repeat refine aK ?_ (Nat.le_refl _)
   exact mD.out
end Go.Proofs.YtpibgolaaaemnaaGreatDoor
namespace Go.Proofs.YtpibgolaaaemnaaGreatDoor
open Go.RowKit
set_option maxRecDepth 100000
theorem Cz {P:Program} {W:World} {b n:Nat} (o:Nat) (vs:List Value) (h:Live W b n) (hn:o+vs.length≤n) (h1:∀ v∈vs,v.oneCell'=true):(storeCells ⟨b,o,none⟩ vs).run P W = .ok () (W.setCells b o vs):=by
 have:=run_storeCells_cells (P:=P) b o vs 0 W (fun j hj=>h.some _ (by omega)) (fun j _=>h.frozen _) h1
 simpa using this
def Ib:Array Value:=#[.string ⟨#[]⟩,.int .i64 0,.int .u64 0,.int .u64 0,.int .i64 0,.int .i64 0,.int .i64 0,.int .i64 0,.string ⟨#[]⟩,.int .i64 0,.int .u64 0,.int .u64 0,.int .i64 0,.int .i64 0,.int .i64 0,.int .i64 0,.string ⟨#[]⟩,.int .i64 0,.int .u64 0,.int .u64 0,.int .i64 0,.int .i64 0,.int .i64 0,.int .i64 0,.string ⟨#[]⟩,.int .i64 0,.int .u64 0,.int .u64 0,.int .i64 0,.int .i64 0,.int .i64 0,.int .i64 0,.int .i64 0,.int .i64 0]
theorem Tryz.Rz:(Tryz.prog.info? 100).map (·.size)=some Ib.size:=by kernel_rfl
theorem Ov:Ib.all (·.oneCell')=true:=by kernel_rfl
set_option maxHeartbeats 1000000 in
theorem KM (g o:Nat) (w:World) (h:Live w g (o+34)) :
  Calls Tryz.prog 220 #[.pointer (some ⟨g,o,none⟩)] w fun e w'=>e = .returned (.tuple #[])∧jB w' g o [] 0∧CF w w' (fun b y=>b=g∧o≤y∧y<o+34):=by
 have HC:Hid (CF w (w.setCells g o Ib.toList) (fun b y=>b=g∧o≤y∧y<o+34)):=CF.setCells g _ o w (CF.refl _ _) (fun j hj _=>⟨rfl,by omega,by have hj:j<34:=hj;omega⟩)
 have HR:=hid (World.rangeAt_setCells_same w g o Ib.toList (h.there o _ (Nat.le_refl _)))
 have HL:=hid h
 clear h
 go_enter Tryz.func220,Tryz.ntmps220
 go_wp2_with (refine wpList_store_mid rfl 100 _ _ rfl g o Ib rfl rfl (HL.out.there o _ (Nat.le_refl _)) Tryz.Rz Ov ?_)
 go_end0
 exact ⟨rfl,⟨HL.out.cf HC.out,fun k hk=>absurd hk (by simp),HR.out 32 _ rfl,HR.out 33 _ rfl,by simp,by decide,fun _=>rfl⟩,HC.out⟩
def Ic (ls:List BE) (nx:Nat) (e:BE):List BE:=if ls.length<4 then ls++[e] else ls.set nx e
theorem RF {ls:List BE} {nx:Nat} {e x:BE} (h:x∈Ic ls nx e):x∈ls∨x=e:=by
 unfold Ic at h
 split at h
 ·rcases List.mem_append.1 h with h | h
  ·exact .inl h
  ·exact .inr (List.mem_singleton.1 h)
 ·exact List.mem_or_eq_of_mem_set h
end Go.Proofs.YtpibgolaaaemnaaGreatDoor
namespace Go.Proofs.YtpibgolaaaemnaaGreatDoor
open Go.RowKit
set_option maxRecDepth 100000
def lI (q:FQ) (x s:BE):Int:=32+(if q.pre.isSome then 64 else 0)+(if aA q.aJ 8=true then 24 else 0)+iA q.aJ x s
theorem IL (o:Int) (x s:BE):iA o x s=kZ o 7 x s:=by
 unfold iA kZ
 simp only[show aA 7 1=true from rfl,show aA 7 2=true from rfl,show aA 7 4=true from rfl,Bool.and_eq_true,true_and]
theorem CQ (now:Int) (q:FQ) (x s:BE):(lL now q x s).ay=lI q x s:=by
 unfold lL lI
 rw[IL]
theorem SG:∀ (b1 b2 b3:Bool),(bits .or .i64 32 ((if b1=true then 1 else 0)+(if b2=true then 2 else 0)+(if b3=true then 4 else 0))=32+((if b1=true then 1 else 0)+(if b2=true then 2 else 0)+(if b3=true then 4 else 0)))∧(bits .or .i64 (32+((if b1=true then 1 else 0)+(if b2=true then 2 else 0)+(if b3=true then 4 else 0))) 64=96+((if b1=true then 1 else 0)+(if b2=true then 2 else 0)+(if b3=true then 4 else 0)))∧(bits .or .i64 (32+((if b1=true then 1 else 0)+(if b2=true then 2 else 0)+(if b3=true then 4 else 0))) 24=56+((if b1=true then 1 else 0)+(if b2=true then 2 else 0)+(if b3=true then 4 else 0)))∧(bits .or .i64 (96+((if b1=true then 1 else 0)+(if b2=true then 2 else 0)+(if b3=true then 4 else 0))) 24=120+((if b1=true then 1 else 0)+(if b2=true then 2 else 0)+(if b3=true then 4 else 0))):=by decide
set_option maxHeartbeats 400000 in
theorem Bp (pb:Nat) (pn:Int) (v:Value) (q:FQ) (x s:BE) (w:World) (hp:dZ w pb x s) :
  Calls Tryz.prog 94 #[.pointer (some ⟨pb,0,none⟩),.agg (q.cells pn v).toArray] w fun e w'=>e = .returned (.int .i64 (lI q x s))∧w.grownBy w' none:=by
 obtain ⟨W0,hW0⟩:∃ W,W=w.alloc (.cells (q.cells pn v).toArray 161):=⟨_,rfl⟩
 have G0:w.grownBy W0 none:=by rw[hW0];exact World.grownBy_alloc w _ none
 have R0:W0.rangeAt w.heap.size 0 (q.cells pn v):=by rw[hW0];exact aQ w (q.cells pn v).toArray _
 have r6:W0.cell? ⟨w.heap.size,6,none⟩=some (.int .i64 q.aJ):=R0 6 _ rfl
 have r7:W0.cell? ⟨w.heap.size,7,none⟩=some (.bool q.pre.isSome):=R0 7 _ rfl
 have HA:=hid (yK pb x s q.aJ W0 (hp.grown G0))
 have HG:=hid G0
 have HW0:=hid hW0
 have hq:=ji q.aJ 8 3 (by decide) (by decide)
 have ho:=SG (aA q.aJ 1 && (x.has 4 && s.has 4)) (aA q.aJ 2 && (x.has 8 && s.has 8)) (aA q.aJ 4 && (x.has 2 && s.has 2))
 unfold lI
 change bits .or .i64 32 (iA q.aJ x s)=32+iA q.aJ x s∧bits .or .i64 (32+iA q.aJ x s) 64=96+iA q.aJ x s∧bits .or .i64 (32+iA q.aJ x s) 24=56+iA q.aJ x s∧bits .or .i64 (96+iA q.aJ x s) 24=120+iA q.aJ x s at ho
 have HO:=hid ho
 clear G0 hW0 R0 hp ho
 generalize aA q.aJ 8=b1 at *
 generalize iA q.aJ x s=al at *
 generalize q.pre.isSome=b2 at *
 cases b1 with
 | true=>
  rw[Bool.not_true] at hq
  have hp:=beq_eq_false_iff_ne.1 hq
  clear hq
  cases b2 with
  | true=>
   go_enter Tryz.func94,Tryz.ntmps94
   go_wp2_with (first
    | (rw[←HW0.out];fail_if_success done)
    | (go_at_call 128;refine HA.out.mono ?_;clear HA;rintro e w1 ⟨rfl,g1⟩;have r6':=g1.cell r6 (by simp);have r7':=g1.cell r7 (by simp)))
   go_wp2
   go_ret
   exact ⟨dD (by obtain ⟨e1,e2,e3,e4⟩:=HO.out;rw[e1,e2,e4]),ae HG.out g1⟩
  | false=>
   go_enter Tryz.func94,Tryz.ntmps94
   go_wp2_with (first
    | (rw[←HW0.out];fail_if_success done)
    | (go_at_call 128;refine HA.out.mono ?_;clear HA;rintro e w1 ⟨rfl,g1⟩;have r6':=g1.cell r6 (by simp);have r7':=g1.cell r7 (by simp)))
   go_wp2
   go_ret
   exact ⟨dD (by obtain ⟨e1,e2,e3,e4⟩:=HO.out;rw[e1,e3]),ae HG.out g1⟩
 | false=>
  rw[Bool.not_false] at hq
  have hp:=beq_iff_eq.1 hq
  clear hq
  cases b2 with
  | true=>
   go_enter Tryz.func94,Tryz.ntmps94
   go_wp2_with (first
    | (rw[←HW0.out];fail_if_success done)
    | (go_at_call 128;refine HA.out.mono ?_;clear HA;rintro e w1 ⟨rfl,g1⟩;have r6':=g1.cell r6 (by simp);have r7':=g1.cell r7 (by simp)))
   go_wp2
   go_ret
   exact ⟨dD (by obtain ⟨e1,e2,e3,e4⟩:=HO.out;rw[e1,e2]),ae HG.out g1⟩
  | false=>
   go_enter Tryz.func94,Tryz.ntmps94
   go_wp2_with (first
    | (rw[←HW0.out];fail_if_success done)
    | (go_at_call 128;refine HA.out.mono ?_;clear HA;rintro e w1 ⟨rfl,g1⟩;have r6':=g1.cell r6 (by simp);have r7':=g1.cell r7 (by simp)))
   go_wp2
   go_ret
   exact ⟨dD (by obtain ⟨e1,e2,e3,e4⟩:=HO.out;rw[e1]),ae HG.out g1⟩
end Go.Proofs.YtpibgolaaaemnaaGreatDoor
namespace Go.Proofs.YtpibgolaaaemnaaGreatDoor
open Go.RowKit
set_option maxRecDepth 100000
structure vz (w:World) (hb g T:Nat) (fv ro rr:Value) (now:Int):Prop where
 c0:w.cell? ⟨hb,0,none⟩=some (.iface T fv)
 c1:w.cell? ⟨hb,1,none⟩=some ro
 c2:w.cell? ⟨hb,2,none⟩=some rr
 c3:w.cell? ⟨hb,3,none⟩=some (.pointer (some ⟨g,0,none⟩))
 c4:w.cell? ⟨hb,4,none⟩=some (.int .i64 now)
theorem vz.cf {w w':World} {ex:Nat→Nat→Prop} {hb g T:Nat} {fv ro rr:Value} {now:Int} (h:vz w hb g T fv ro rr now) (k:CF w w' ex) (hx:∀ y,¬ ex hb y):vz w' hb g T fv ro rr now:=
 ⟨k.cell h.c0 (hx 0),k.cell h.c1 (hx 1),k.cell h.c2 (hx 2),k.cell h.c3 (hx 3),k.cell h.c4 (hx 4)⟩
theorem vz.grown {w w':World} {hb g T:Nat} {fv ro rr:Value} {now:Int} (h:vz w hb g T fv ro rr now) (k:w.grownBy w' none):vz w' hb g T fv ro rr now:=h.cf (CF.aW k (fun _ _=>False)) (fun _ e=>e)
theorem sV {w:World} {v:Value} {p:Option Pl} (h:Out w v p []):∃ ao cap,v = .slice ao 0 cap∧∀ w,(Instr.sliceAt 25 (.slice ao 0 cap) none (some (.int .i64 0)) none).run Tryz.prog w = .ok (.slice ao 0 cap) w:=by
 rcases h with ⟨_,rfl,_⟩ | ⟨q,_,rfl,_,_,_,_⟩
 ·exact ⟨none,0,rfl,fun w=>by kernel_rfl⟩
 ·refine ⟨_,_,rfl,fun w=>?_⟩
  have he:Tryz.prog.elem 25=5:=by simp[Program.elem,Tryz.underlying25]
  have ht':Tryz.prog.underlying 25=some (.slice (Tryz.prog.elem 25)):=by rw[he];exact Tryz.underlying25
  rw[run_sliceAt_slice w 25 _ _ _ _ ht',run_slice_h w 25 _ _ q.cap ht' .i64 0 (by decide) (by omega),he]
  have hz:∀ W,(sizeOf 5).run Tryz.prog W = .ok 1 W:=fun _=>by kernel_rfl
  rw[hz]
  simp only[Result.andThen,sliced,Int.toNat_zero,Nat.sub_zero,Nat.zero_mul]
  split <;> first | rfl | simp[Addr.add_lit]
theorem Br {w w':World} {v:Value} {p:Option Pl} {bs:List UInt8} (h:aI w.drew w' v p bs):aI w w' v p bs:=by
 obtain ⟨p',h1,h2,h3,h4⟩:=h
 exact ⟨p',h1,h2.bM,h3,h4⟩
set_option maxHeartbeats 1000000 in
theorem vB (hb g T:Nat) (fv ro rr:Value) (pr:Option Pl) (now code:Int) (w:World) (h:vz w hb g T fv ro rr now) (hr:Out w rr pr []) (o:Off pr hb) (dC:In64 now) (hcode:In64 code) :
  Calls Tryz.prog 65 #[.pointer (some ⟨hb,0,none⟩),.int .i64 code] w fun e w'=>∃ v',e = .returned v'∧aI w w' v' pr (aL now code):=by
 have HA:=hid (wy rr pr [] now code w.drew hr.drew dC hcode (by simp))
 obtain ⟨ao,cap,hv,hsl⟩:=sV hr
 rw[hv] at HA
 have c2:=h.c2
 rw[hv] at c2
 have c4:=h.c4
 have HO:=hid o
 clear h hr o dC hcode hv
 go_enter Tryz.func65,Tryz.ntmps65
 go_wp2_with fail
 go_region_held3 (fun w'=>w'.cell? ⟨hb,2,none⟩=some (.slice ao 0 cap)∧w'.cell? ⟨hb,4,none⟩=some (.int .i64 now)) (go_keep) (first|(go_at_call 104;refine HA.out.mono ?_;rintro e w1 ⟨v',rfl,M1⟩;have HM:=hid M1;clear M1;have c2':=HM.out.cf.bM.cell c2 (lM HO.out _);have c4':=HM.out.cf.bM.cell c4 (lM HO.out _)))
 go_wp2
 go_ret
 exact ⟨_,rfl,Br HM.out⟩
end Go.Proofs.YtpibgolaaaemnaaGreatDoor
namespace Go.Proofs.YtpibgolaaaemnaaGreatDoor
open Go.RowKit
set_option maxRecDepth 100000
theorem Tryz.DX:(Tryz.prog.info? 203).map (·.size)=some 3:=by kernel_rfl
set_option maxHeartbeats 400000 in
theorem wW (S:ByteArray) (w:World) :
  Calls Tryz.prog 88 #[.string S] w fun e w'=>e = .returned (.agg #[.string S,.int .i64 6,.int .i64 1])∧w.grownBy w' none:=by
 go_enter Tryz.func88,Tryz.ntmps88
 go_wp2
 exact bodyPost_ret (oI Tryz.results88 _ _ _ w.heap.size rfl _ ((bI.new w _ 203).load 203 _ Tryz.underlying203 rfl Tryz.DX)) rfl ⟨rfl,World.grownBy_alloc _ _ none⟩
set_option maxHeartbeats 400000 in
theorem uI (S:ByteArray) (w:World) :
  Calls Tryz.prog 89 #[.string S] w fun e w'=>e = .returned (.agg #[.string S,.int .i64 7,.int .i64 2])∧w.grownBy w' none:=by
 go_enter Tryz.func89,Tryz.ntmps89
 go_wp2
 exact bodyPost_ret (oI Tryz.results89 _ _ _ w.heap.size rfl _ ((bI.new w _ 203).load 203 _ Tryz.underlying203 rfl Tryz.DX)) rfl ⟨rfl,World.grownBy_alloc _ _ none⟩
structure BE.In (e:BE):Prop where
 ag:1≤e.ag∧e.ag≤4611686018427387904
 cO:In64 e.cO
 aF:In64 e.aF
 name:e.name.length≤1000
structure HS (hb g base T:Nat) (fv rv:Value) (po pr dp:Option Pl) (J:World→Prop) (dB oK:Nat→Nat→Prop) (es:List BE):Prop where
 Zc:∀ W,(method 434 T fv "Find").run Tryz.prog W = .ok (findF T,rv) W
 finds:Finds (findF T) J dB oK rv es
 hbF:∀ y,¬ dB hb y
 O3:∀ b y,base≤b→¬ dB b y
 xS:∀ b y,base≤b→oK b y
 poJ:∀ b y,Pl.has po b y→oK b y
 prJ:∀ b y,Pl.has pr b y→oK b y
 XU:oK g 1
 Wq:∀ y,163≤y→y<188→oK g y
 poH:Off po hb
 prH:Off pr hb
 poG:∀ j,j<188→¬ Pl.has po g j
 prG:∀ j,j<188→¬ Pl.has pr g j
 XV:∀ y,y<188→¬ dB g y
 hbg:hb≠g
 IP:∀ p,dp=some p→p.g≠g∧p.g≠hb∧p.g<base∧∀ y,¬ dB p.g y∧¬ Pl.has po p.g y∧¬ Pl.has pr p.g y
 gb:g<base
 hbb:hb<base
 oL:∀ e∈es,e.In
 sorted:es.Pairwise (fun x y=>Op.bytesLess x.name y.name=true)
def Ws (po:Option Pl) (dB:Nat→Nat→Prop) (b y:Nat):Prop:=dB b y∨Pl.has po b y
theorem jG {es:List BE} {l:List UInt8} {e:BE} (h:BE.find es l=some e):e∈es:=List.mem_of_find?_eq_some h
theorem lJ {es:List BE} {l:List UInt8} {e:BE} (h:BE.find es l=some e):e.name=l:=by
 have:=List.find?_some h
 simpa using this
theorem dZ.cf {w w':World} {ex:Nat→Nat→Prop} {b:Nat} {x s:BE} (h:dZ w b x s) (k:CF w w' ex) (hx:∀ y,¬ ex b y):dZ w' b x s:=
 ⟨k.range h.af (fun _ _=>hx _),k.range h.az (fun _ _=>hx _)⟩
theorem ow {wish a b:Int} (h1:In64 wish):In64 (lesser (asked wish) (lesser (sat a) (sat b))):=by
 have ha:=sU a
 have hb:=sU b
 unfold In64 at *
 unfold lesser asked
 (repeat' split) <;> omega
structure FX (w W:World) (hb g base T:Nat) (fv ro rr:Value) (po pr dp:Option Pl) (dB:Nat→Nat→Prop) (M:DM) (now:Int) (sb:Nat) (ask:List Value):Prop where
 hear:vz W hb g T fv ro rr now
 dX:cz W g 0 dp M
 o:Out W ro po []
 r:Out W rr pr []
 ask:W.rangeAt sb 0 ask
 big:w.heap.size≤W.heap.size
 cf:CF w W (Ws po dB)
theorem FX.step {w W W':World} {hb g base T:Nat} {fv rv ro rr:Value} {po pr dp:Option Pl} {J:World→Prop} {dB oK:Nat→Nat→Prop} {M:DM} {es:List BE} {now:Int} {sb:Nat} {ask:List Value} (h:FX w W hb g base T fv ro rr po pr dp dB M now sb ask) (S:HS hb g base T fv rv po pr dp J dB oK es) (k:CF W W' (fun b y=>Ws po dB b y∨w.heap.size<b)) (hsb:sb=w.heap.size) (hbase:base≤w.heap.size) (hpo:∀ b y,Pl.has po b y→b<w.heap.size):FX w W' hb g base T fv ro rr po pr dp dB M now sb ask:=by
 have hb1:=S.hbb
 have hg1:=S.gb
 refine ⟨h.hear.cf k ?_,h.dX.cf k ?_ ?_,h.o.cf k (fun _ _ j hj=>absurd hj (by simp)),h.r.cf k (fun _ _ j hj=>absurd hj (by simp)),k.range h.ask ?_,?_,?_⟩
 ·rintro y ((e | e) | e)
  ·exact S.hbF y e
  ·exact lM S.poH y e
  ·omega
 ·rintro j _ h2 ((e | e) | e)
  ·exact S.XV j (by omega) e
  ·exact S.poG j (by omega) e
  ·omega
 ·rintro q hq j hj ((e | e) | e)
  ·exact ((S.IP q hq).2.2.2 _).1 e
  ·exact ((S.IP q hq).2.2.2 _).2.1 e
  ·have:=(S.IP q hq).2.2.1;omega
 ·rintro j _ ((e | e) | e)
  ·exact S.O3 _ _ (by omega) e
  ·have:=hpo _ _ e;omega
  ·omega
 ·exact Nat.le_trans h.big k.size
 ·exact h.cf.trans k (fun i o hi e=>by rcases e with e | e;exact e;omega)
structure Cj (J:World→Prop) (w W:World) (hb g base T:Nat) (fv ro rr:Value) (po pr dp:Option Pl) (dB:Nat→Nat→Prop) (M:DM) (now:Int) (sb:Nat) (ask:List Value):Prop extends FX w W hb g base T fv ro rr po pr dp dB M now sb ask where
 j:J W
theorem Cj.step {w W W':World} {hb g base T:Nat} {fv rv ro rr:Value} {po pr dp:Option Pl} {J:World→Prop} {dB oK:Nat→Nat→Prop} {M:DM} {es:List BE} {now:Int} {sb:Nat} {ask:List Value} (h:Cj J w W hb g base T fv ro rr po pr dp dB M now sb ask) (S:HS hb g base T fv rv po pr dp J dB oK es) (k:CF W W' (fun b y=>Pl.has po b y∨w.heap.size<b)) (hsb:sb=w.heap.size) (hbase:base≤w.heap.size) (hpo:∀ b y,Pl.has po b y→b<w.heap.size):Cj J w W' hb g base T fv ro rr po pr dp dB M now sb ask:=
 ⟨h.toFX.step S (k.mono (fun _ _ _ e=>e.elim (fun e=>.inl (.inr e)) .inr)) hsb hbase hpo,S.finds.stay _ _ h.j (k.mono (fun b y _ e=>e.elim (S.poJ b y) (fun e=>S.xS b y (by omega))))⟩
theorem Cj.found {w W W':World} {hb g base T:Nat} {fv rv ro rr:Value} {po pr dp:Option Pl} {J:World→Prop} {dB oK:Nat→Nat→Prop} {M:DM} {es:List BE} {now:Int} {sb:Nat} {ask:List Value} (h:Cj J w W hb g base T fv ro rr po pr dp dB M now sb ask) (S:HS hb g base T fv rv po pr dp J dB oK es) (k:CF W W' dB) (hj:J W') (hsb:sb=w.heap.size) (hbase:base≤w.heap.size) (hpo:∀ b y,Pl.has po b y→b<w.heap.size):Cj J w W' hb g base T fv ro rr po pr dp dB M now sb ask:=
 ⟨h.toFX.step S (k.mono (fun _ _ _ e=>.inl (.inl e))) hsb hbase hpo,hj⟩
end Go.Proofs.YtpibgolaaaemnaaGreatDoor
namespace Go.Proofs.YtpibgolaaaemnaaGreatDoor
open Go.RowKit
set_option maxRecDepth 100000
theorem M3 (x y:Option BE) (now:Int) (a b c d:Int) (ha:0≤a∧a≤100) (hb:0≤b∧b≤100) (hc:0≤c∧c≤100) (hd:0≤d∧d≤100):In64 (dw x y now a b c d):=by
 unfold dw In64
 cases x with
 | none=>show _≤a∧a≤_;omega
 | some e=>
  cases y with
  | none=>show _≤b∧b≤_;omega
  | some f=>
   simp only[]
   (repeat' split) <;> omega
theorem DY {x y:Option BE} {now a b c d:Int} (ha:a≠0) (hb:b≠0) (h:dw x y now a b c d=0):∃ e f,x=some e∧y=some f:=by
 cases x with
 | none=>exact absurd h ha
 | some e=>
  cases y with
  | none=>exact absurd h hb
  | some f=>exact ⟨e,f,rfl,rfl⟩
theorem Lh {M:DM} {now:Int} {q:FQ} {x y:Option BE} (hx:BE.find M.aH q.af=x) (hy:BE.find M.aH q.az=y) (h:dw x y now 6 7 1 2≠0):dJ M now (firstM M now q)=(aL now (dw x y now 6 7 1 2),M):=by
 unfold firstM
 rw[hx,hy]
 cases x with
 | none=>rfl
 | some e=>
  cases y with
  | none=>rfl
  | some f=>
   simp only[]
   rw[if_pos h]
   rfl
theorem qR {M:DM} {now:Int} {q:FQ} {e f:BE} (hx:BE.find M.aH q.af=some e) (hy:BE.find M.aH q.az=some f) (h:dw (some e) (some f) now 6 7 1 2=0) (hc:fD M.ax now q e f≠0):dJ M now (firstM M now q)=(aL now (fD M.ax now q e f),M):=by
 unfold firstM
 rw[hx,hy]
 simp only[]
 rw[if_neg (fun n=>n h),if_pos hc]
 rfl
theorem SI {M:DM} {now:Int} {q:FQ} {e f:BE} (hx:BE.find M.aH q.af=some e) (hy:BE.find M.aH q.az=some f) (h:dw (some e) (some f) now 6 7 1 2=0) (hc:fD M.ax now q e f=0):dJ M now (firstM M now q)=if M.aV.length<24 then (aL now 60,M) else (gM 11 {lL now q e f with aU:=dU M.aV 0} f q.aB e.ag e.key 3 (dU M.aV 1) (dU M.aV 2),{M with aV:=M.aV.drop 24}):=by
 unfold firstM
 rw[hx,hy]
 simp only[]
 rw[if_neg (fun n=>n h),if_neg (fun n=>n hc)]
 rfl
theorem Zd (ax now:Int) (x:BE) (p:Option (Int×List UInt8)):In64 (gP ax now x p):=by
 unfold gP In64
 cases p with
 | none=>
  simp only[]
  split <;> omega
 | some a=>
  simp only[]
  cases (pI x.key 1 a.2).bind uS with
  | none=>simp only[];omega
  | some t=>simp only[];(repeat' split) <;> omega
theorem IQ {ax now:Int} {q:FQ} {e f:BE} (h:gP ax now e q.pre≠0):fD ax now q e f=gP ax now e q.pre:=by
 unfold fD
 rw[if_pos h]
theorem O4 {ax now:Int} {q:FQ} {e f:BE} (h:gP ax now e q.pre=0) (ho:In64 q.aJ) (hb:(bits .andNot .i64 q.aJ 15==0)=false):fD ax now q e f=13:=by
 unfold fD
 rw[AZ q.aJ ho,decide_eq_false_iff_not] at hb
 rw[if_neg (fun n=>n h),if_pos (by omega)]
theorem Li {ax now:Int} {q:FQ} {e f:BE} (h:gP ax now e q.pre=0) (ho:In64 q.aJ) (hb:(bits .andNot .i64 q.aJ 15==0)=true) (hs:ou now ax q e f=false):fD ax now q e f=10:=by
 unfold fD
 rw[AZ q.aJ ho,decide_eq_true_eq] at hb
 rw[if_neg (fun n=>n h),if_neg (by omega)]
 unfold ou at hs
 by_cases h8:aA q.aJ 8=true
 ·rw[if_pos h8] at hs
  rw[if_pos ⟨h8,fun n=>by rw[n.1,n.2] at hs;cases hs⟩]
 ·rw[if_neg h8] at hs
  rw[if_neg (fun n=>h8 n.1),if_pos ⟨by simpa using h8,by simpa using hs⟩]
theorem SK {ax now:Int} {q:FQ} {e f:BE} (h:gP ax now e q.pre=0) (ho:In64 q.aJ) (hb:(bits .andNot .i64 q.aJ 15==0)=true) (hs:ou now ax q e f=true):fD ax now q e f=if fG now q e f≤bB now q then 11 else 0:=by
 unfold fD
 rw[AZ q.aJ ho,decide_eq_true_eq] at hb
 rw[if_neg (fun n=>n h),if_neg (by omega)]
 unfold ou at hs
 by_cases h8:aA q.aJ 8=true
 ·rw[if_pos h8] at hs
  rw[if_neg (fun n=>n.2 (by simpa using hs)),if_neg (fun n=>by rw[h8] at n;cases n.1)]
 ·rw[if_neg h8] at hs
  rw[if_neg (fun n=>h8 n.1),if_neg (fun n=>by have:=n.2;simp at hs;omega)]
theorem Ze (q:FQ) (x s:BE):aA (lI q x s) 4=(aA q.aJ 4 && (x.has 2 && s.has 2)):=by
 unfold lI iA
 generalize q.pre.isSome=b1
 generalize aA q.aJ 8=b2
 generalize (aA q.aJ 1 && (x.has 4 && s.has 4))=b3
 generalize (aA q.aJ 2 && (x.has 8 && s.has 8))=b4
 generalize (aA q.aJ 4 && (x.has 2 && s.has 2))=b5
 revert b1 b2 b3 b4 b5
 decide
theorem SL (q:FQ) (x s:BE):In64 (lI q x s):=by
 unfold lI iA In64
 (repeat' split) <;> omega
def O5 (now:Int) (q:FQ) (x s:BE):Int:=if aA (lI q x s) 4=true then lesser (asked q.bQ) (lesser (aX (bB now q) x.aF) (aX (bB now q) s.aF)) else 0
theorem Lj (now:Int) (q:FQ) (x s:BE):lL now q x s=⟨lI q x s,0,q.af,now,bB now q,fG now q x s,O5 now q x s⟩:=by
 have h:=CQ now q x s
 unfold lL at h ⊢
 simp only[] at h
 rw[h]
 unfold O5 lg
 rw[Ze]
 simp only[show aA 7 4=true from rfl,Bool.and_eq_true,true_and]
end Go.Proofs.YtpibgolaaaemnaaGreatDoor
namespace Go.Proofs.YtpibgolaaaemnaaGreatDoor
open Go.RowKit
set_option maxRecDepth 100000
theorem DZ {W:World} {g:Nat} {dp:Option Pl} {M:DM} (h:cz W g 0 dp M) (EP:24≤M.aV.length):∃ qd,dp=some qd∧W.cell? ⟨g,1,none⟩=some (.slice (some ⟨qd.g,qd.off,none⟩) M.aV.length qd.cap)∧M.aV.length≤qd.cap∧qd.cap≤9223372036854775807∧W.rangeAt qd.g qd.off (M.aV.map U8)∧Live W qd.g (qd.off+qd.cap):=by
 obtain ⟨v,hv,ho⟩:=h.aV
 rcases ho with ⟨_,_,h0⟩ | ⟨q,hq,rfl,h1,h2,h3,h4⟩
 ·rw[h0] at EP
  exact absurd EP (by decide)
 ·unfold maxLen at h2
  exact ⟨q,hq,hv,h1,h2,h4,h3⟩
theorem IU {W:World} {g:Nat} {dp:Option Pl} {M:DM} (h:cz W g 0 dp M):∃ ao cap,W.cell? ⟨g,1,none⟩=some (.slice ao M.aV.length cap):=by
 obtain ⟨v,hv,ho⟩:=h.aV
 obtain ⟨ao,cap,rfl,_⟩:=ho.shape
 exact ⟨ao,cap,hv⟩
theorem Bt {W W':World} {g rb:Nat} {M:DM} {qd:Pl} {off:Nat} {dp:Option Pl} (h:cz W g 0 dp M) (EP:24≤M.aV.length) (hl:M.aV.length≤qd.cap) (hcm:qd.cap≤9223372036854775807) (hr:W.rangeAt qd.g qd.off (M.aV.map U8)) (hL:Live W qd.g (qd.off+qd.cap))
  (hc:W'.cell? ⟨g,1,none⟩=some (.slice (some ⟨qd.g,off,none⟩) (M.aV.length-24) (qd.cap-24))) (ho:qd.cap-24≠0→off=qd.off+24) (ho2:off≤qd.off+24) (k:CF W W' (fun b y=>b=g∧y=1∨b=rb)) (hg:qd.g≠g) (hgr:qd.g≠rb) (hrb:g≠rb) :
  cz W' g 0 (some ⟨qd.g,off,qd.cap-24⟩) {M with aV:=M.aV.drop 24}:=by
 refine ⟨h.live.cf k,k.cell h.ax (fun e=>by rcases e with ⟨_,e⟩ | e;exact absurd e (by decide);exact hrb e),⟨_,hc,.inr ⟨_,rfl,?_,?_,?_,?_,?_⟩⟩,h.aH.cf k (fun j h1 h2 e=>by rcases e with ⟨_,e⟩ | e;omega;exact hrb e),k.range h.bK (fun j _ e=>by rcases e with ⟨_,e⟩ | e;omega;exact hrb e),k.cell h.count (fun e=>by rcases e with ⟨_,e⟩ | e;exact absurd e (by decide);exact hrb e),h.few⟩
 ·show Value.slice _ _ _=Value.slice _ _ _
  rw[List.length_drop]
 ·show (M.aV.drop 24).length≤qd.cap-24
  rw[List.length_drop]
  omega
 ·show qd.cap-24≤maxLen
  unfold maxLen
  omega
 ·show Live W' qd.g (off+(qd.cap-24))
  exact (hL.cf k).mono (by omega)
 ·show W'.rangeAt qd.g off ((M.aV.drop 24).map U8)
  by_cases h0:qd.cap-24=0
  ·have:M.aV.drop 24=[]:=by
    apply List.eq_nil_of_length_eq_zero
    rw[List.length_drop]
    omega
   rw[this]
   intro j v hv
   simp at hv
  ·rw[ho h0]
   intro j v hv
   refine k.cell ?_ (fun e=>by rcases e with ⟨e,_⟩ | e;exact hg e;exact hgr e)
   have:=hr (24+j) v (by rw[←hv,List.map_drop,List.getElem?_drop])
   rw[Nat.add_assoc]
   exact this
theorem IV {w:World} {b:Nat} {cs:Array Value} (h:bI w b cs) (n:Nat) (hn:n≤cs.size):Live w b n:=by
 obtain ⟨e,h1⟩:=h
 exact ⟨cs,e,h1,hn⟩
end Go.Proofs.YtpibgolaaaemnaaGreatDoor
namespace Go.Proofs.YtpibgolaaaemnaaGreatDoor
open Go.RowKit
set_option maxRecDepth 100000
theorem IW (now:Int) (q:FQ) (e f:BE) (h:In64 q.dF):In64 (fG now q e f):=ow h
theorem Wt (now:Int) (q:FQ) (e f:BE) (h:In64 q.bQ):In64 (O5 now q e f):=by
 unfold O5
 split
 ·exact ow h
 ·exact ⟨by decide,by decide⟩
theorem Ll {now:Int} {q:FQ} {e f:BE} {es:List BE} {fl rn:Int} {a b c:UInt64} {M:DM} {rp:RP} (IX:rp=⟨⟨fl,0,q.af,now,bB now q,fG now q e f,rn⟩,q.az,f.ag,f.key,0,q.aB,e.ag,e.key,0⟩) (hfl:In64 fl) (hrn:In64 rn) (hq:In64 now∧In64 M.ax∧In64 q.aB∧In64 q.eY∧In64 q.dF∧In64 q.bQ∧In64 q.aJ) (hxy:BE.find es q.af=some e∧BE.find es q.az=some f) (hes:∀ e∈es,e.In):(rp.drawn a b c).Fits:=by
 subst IX
 have h1:=hes e (jG hxy.1)
 have h2:=hes f (jG hxy.2)
 have n1:=lJ hxy.1
 have n2:=lJ hxy.2
 have i1:=h1.ag
 have i2:=h2.ag
 refine ⟨hfl,hq.1,?_,IW now q e f hq.2.2.2.2.1,hrn,?_,hq.2.2.1,?_,?_,?_⟩
 ·show In64 (bB now q)
  unfold bB
  split
  ·exact hq.2.2.2.1
  ·exact hq.1
 ·show In64 f.ag
  unfold In64
  omega
 ·show In64 e.ag
  unfold In64
  omega
 ·show q.af.length≤1000
  rw[←n1]
  exact h1.name
 ·show q.az.length≤1000
  rw[←n2]
  exact h2.name
theorem IY {now:Int} {q:FQ} {e f:BE} {fl rn:Int} {a b c:UInt64} {rp:RP} (IX:rp=⟨⟨fl,0,q.af,now,bB now q,fG now q e f,rn⟩,q.az,f.ag,f.key,0,q.aB,e.ag,e.key,0⟩) (ht:lL now q e f=⟨fl,0,q.af,now,bB now q,fG now q e f,rn⟩) (hf:f.name=q.az):[]++(rp.drawn a b c).rF 11 3=gM 11 {lL now q e f with aU:=a} f q.aB e.ag e.key 3 b c:=by
 rw[←RP.Ah,IX,ht,←hf]
 rfl
end Go.Proofs.YtpibgolaaaemnaaGreatDoor
namespace Go.Proofs.YtpibgolaaaemnaaGreatDoor
open Go.RowKit
set_option maxRecDepth 100000
def kL (M:DM) (now:Int) (q:NQ):Except Int TK×DM:=
 match gZ M now q with
 | .error c=>(.error c,M)
 | .ok (t,p)=>if dG M.ax now M.bK p≠0 then (.error (dG M.ax now M.bK p),{M with bK:=dx M.ax now M.bK p}) else (.ok t,{M with bK:=dx M.ax now M.bK p})
theorem SN (M:DM) (now:Int) (q:NQ):pJ M now q=match (kL M now q).1 with
  | .error c=>(aL now c,(kL M now q).2)
  | .ok t=>dJ (kL M now q).2 now (fV (kL M now q).2 now q t):=by
 unfold pJ kL
 cases gZ M now q with
 | error c=>rfl
 | ok a=>
  obtain ⟨t,p⟩:=a
  simp only[]
  by_cases h:dG M.ax now M.bK p≠0
  ·rw[if_pos h,if_pos h]
  ·rw[if_neg h,if_neg h]
theorem Fp (l:List UInt8) (j:Nat):In64 (rV l j):=by unfold rV;exact pU _
theorem Zf (l:List UInt8):In64 (MU l).1:=by unfold MU;exact pU _
theorem Zg (l:List UInt8) (j:Nat):In64 (Fa l j):=by unfold Fa;exact pU _
theorem SQ (l:List UInt8):(OO l).In:=by
 have h0:=Zf l
 have h1:=Fp l 0
 have h2:=Fp l 1
 have h3:=Fp l 2
 have h4:=Fp l 3
 unfold OO
 generalize (MU l).1=a0 at *
 generalize rV l 0=a1 at *
 generalize rV l 1=a2 at *
 generalize rV l 2=a3 at *
 generalize rV l 3=a4 at *
 exact ⟨h0,h1,h2,h3,h4⟩
theorem SV (l:List UInt8):In64 (Qr l).time:=by
 have h0:=Zg l 0
 unfold Qr
 generalize Fa l 0=a0 at *
 exact h0
theorem SX {M:DM} {now:Int} {q:NQ} (h1:q.iT≠[116,103,115]) (h2:jU q=false):kL M now q=(.error 36,M):=by
 unfold kL gZ
 rw[if_pos ⟨h1,fun n=>by
  unfold jU at h2
  rw[decide_eq_true n.2,Bool.and_true] at h2
  rcases n.1 with e | e <;> rw[e] at h2 <;> simp at h2⟩]
theorem wX {q:NQ} (h:q.iT=[116,103,115]∨jU q=true):¬ (q.iT≠[116,103,115]∧¬ ((aA q.aJ 16=true∨aA q.aJ 32=true)∧q.iT=q.az)):=by
 rintro ⟨h1,h2⟩
 rcases h with h | h
 ·exact h1 h
 ·unfold jU at h
  simp only[Bool.and_eq_true,Bool.or_eq_true,decide_eq_true_eq] at h
  exact h2 h
theorem SY {M:DM} {now:Int} {q:NQ} (h:q.iT=[116,103,115]∨jU q=true) (hf:BE.find M.aH q.iT=none):kL M now q=(.error 7,M):=by
 unfold kL gZ
 rw[if_neg (wX h),hf]
theorem Wu {M:DM} {now:Int} {q:NQ} {e:BE} (h:q.iT=[116,103,115]∨jU q=true) (hf:BE.find M.aH q.iT=some e) (hk:e.keyOf q.yY=none):kL M now q=(.error 44,M):=by
 unfold kL gZ
 rw[if_neg (wX h),hf]
 simp only[hk]
theorem Lm {M:DM} {now:Int} {q:NQ} {e:BE} {key:UInt64} (h:q.iT=[116,103,115]∨jU q=true) (hf:BE.find M.aH q.iT=some e) (hk:e.keyOf q.yY=some key) (hd:fM (KZ (bW key 2 q.iO))=false):kL M now q=(.error 31,M):=by
 unfold kL gZ
 rw[if_neg (wX h),hf]
 simp only[hk]
 rw[oo,hd]
 rfl
theorem O6 {M:DM} {now:Int} {q:NQ} {e:BE} {key:UInt64} (h:q.iT=[116,103,115]∨jU q=true) (hf:BE.find M.aH q.iT=some e) (hk:e.keyOf q.yY=some key) (hd:fM (KZ (bW key 2 q.iO))=true) (hp:fM (MS (bW (OO (bW key 2 q.iO)).aU 4 q.proof))=false):kL M now q=(.error 31,M):=by
 unfold kL gZ
 rw[if_neg (wX h),hf]
 simp only[hk]
 rw[oo,hd,if_pos rfl]
 simp only[]
 rw[vg,hp]
 rfl
theorem S9 {M:DM} {now:Int} {q:NQ} {e:BE} {key:UInt64} {t:TK} {p:PF} (h:q.iT=[116,103,115]∨jU q=true) (hf:BE.find M.aH q.iT=some e) (hk:e.keyOf q.yY=some key) (hd:fM (KZ (bW key 2 q.iO))=true) (ht:OO (bW key 2 q.iO)=t) (hp:fM (MS (bW t.aU 4 q.proof))=true) (hpq:Qr (bW t.aU 4 q.proof)=p):kL M now q=if p.af≠t.af then (.error 36,M) else if M.ax<fE p.time now then (.error 37,M) else if dG M.ax now M.bK p≠0 then (.error (dG M.ax now M.bK p),{M with bK:=dx M.ax now M.bK p}) else (.ok t,{M with bK:=dx M.ax now M.bK p}):=by
 unfold kL gZ
 rw[if_neg (wX h),hf]
 simp only[hk]
 rw[oo,hd,if_pos rfl,ht]
 simp only[]
 rw[vg,hp,if_pos rfl,hpq]
 simp only[]
 by_cases h1:p.af≠t.af
 ·rw[if_pos h1,if_pos h1]
 ·rw[if_neg h1,if_neg h1]
  by_cases h2:M.ax<fE p.time now
  ·rw[if_pos h2,if_pos h2]
  ·rw[if_neg h2,if_neg h2]
end Go.Proofs.YtpibgolaaaemnaaGreatDoor
namespace Go.Proofs.YtpibgolaaaemnaaGreatDoor
open Go.RowKit
set_option maxRecDepth 100000
theorem Ta (l:List UInt8):(OO l).cells.toArray=#[.int .i64 (MU l).1,.int .u64 ((Sg l).1.toNat:Int),.string ⟨(zB l).1.toArray⟩,.int .i64 (rV l 0),.int .i64 (rV l 1),.int .i64 (rV l 2),.int .i64 (rV l 3)]:=by
 unfold OO
 generalize (MU l).1=a0
 generalize (Sg l).1=a1
 generalize (zB l).1=a2
 generalize rV l 0=a3
 generalize rV l 1=a4
 generalize rV l 2=a5
 generalize rV l 3=a6
 rfl
theorem Tc (l:List UInt8):(Qr l).aR.toArray=#[.string ⟨(F7 l).1.toArray⟩,.int .i64 (Fa l 0),.int .i64 (Fa l 1)]:=by
 unfold Qr
 generalize (F7 l).1=a0
 generalize Fa l 0=a1
 generalize Fa l 1=a2
 rfl
theorem Fq (rv:Value) (p:Option Pl) (rb:List UInt8) (key:UInt64) (ao:Option Addr) (z:List UInt8) (n cap:Nat) (w:World) (hR:Out w rv p rb) (hn:Hid (z.length=n)) (hcap:n≤cap) (hz:At w ao z) (hsep:∀ b off,ao=some ⟨b,off,none⟩→∀ j,j<z.length→¬ Pl.has p b (off+j)) :
  Calls Tryz.prog 133 #[rv,.int .u64 (key.toNat:Int),.slice ao n cap] w fun e w'=>e = .returned (.tuple #[.agg (OO (bW key 2 z)).cells.toArray,.bool (fM (KZ (bW key 2 z)))])∧CF w w' (Pl.has p):=by
 have h:=Bi rv p rb key ao z n cap w hR hn hcap hz hsep
 rw[←Ta] at h
 exact h
theorem IZ (rv:Value) (p:Option Pl) (rb:List UInt8) (key:UInt64) (ao:Option Addr) (z:List UInt8) (n cap:Nat) (w:World) (hR:Out w rv p rb) (hn:Hid (z.length=n)) (hcap:n≤cap) (hz:At w ao z) (hsep:∀ b off,ao=some ⟨b,off,none⟩→∀ j,j<z.length→¬ Pl.has p b (off+j)) :
  Calls Tryz.prog 134 #[rv,.int .u64 (key.toNat:Int),.slice ao n cap] w fun e w'=>e = .returned (.tuple #[.agg (Qr (bW key 4 z)).aR.toArray,.bool (fM (MS (bW key 4 z)))])∧CF w w' (Pl.has p):=by
 have h:=CK rv p rb key ao z n cap w hR hn hcap hz hsep
 rw[←Tc] at h
 exact h
end Go.Proofs.YtpibgolaaaemnaaGreatDoor
