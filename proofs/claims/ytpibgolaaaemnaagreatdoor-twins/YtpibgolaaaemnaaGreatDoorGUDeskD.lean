/-
  
  
  
  
-/
import Derived.Test.YtpibgolaaaemnaaGreatDoorGULaw1
import Derived.Test.YtpibgolaaaemnaaGreatDoorGUSep
import Derived.Test.YtpibgolaaaemnaaGreatDoorGUBoxM
import Derived.Test.YtpibgolaaaemnaaGreatDoorGUSeal
import Derived.Test.YtpibgolaaaemnaaGreatDoorGUBase
import Derived.Deep.RegionLaw
import Derived.Deep.DeepCutAuto
import Derived.Deep.RegionWith
import Derived.Deep.QuietTactic
import Derived.Test.YtpibgolaaaemnaaGreatDoorGUBoxA
import Derived.Test.YtpibgolaaaemnaaGreatDoorGUBlk
import Derived.Test.YtpibgolaaaemnaaGreatDoorGUBoxC
import Derived.Test.YtpibgolaaaemnaaGreatDoorGUPBookA
namespace Go.Proofs.YtpibgolaaaemnaaGreatDoor
open Go.RowKit
set_option maxRecDepth 100000
theorem jE {fn:Func} {a:Tmp} {ty:TypeId} (h:fn.results=#[.cell a ty]) (tmps:Array Value) (P:Program) (w:World) (b:Nat) (hp:tmps.getD a undef = .pointer (some ⟨b,0,none⟩)) (x:Value) (hl:(loadVar ty ⟨b,0,none⟩).run P w = .ok x w) :
  (results fn tmps).run P w = .ok x w:=by
 have hp':tmps[a]?.getD undef = .pointer (some ⟨b,0,none⟩):=by simpa using hp
 simp[results,h,hp',hl,asAddr]
end Go.Proofs.YtpibgolaaaemnaaGreatDoor
namespace Go.Proofs.YtpibgolaaaemnaaGreatDoor
open Go.RowKit
set_option maxRecDepth 100000
abbrev Source:Type:=Option Addr×List UInt8
def Rd (w:World) (S:Source) (g:Nat) (l:List UInt8) (f:Bool):Prop:=
 ∃ ao cap,bI w g #[.slice ao l.length cap,.bool f]∧l.length≤cap∧cap≤9223372036854775807∧l.length≤140737488355328∧(∀ w0,At w0 S.1 S.2→At w0 ao l)∧(f=true→l=[])
def Bs (S:Source) (v:Value) (l:List UInt8):Prop:=∃ ao cap,v = .slice ao l.length cap∧l.length≤cap∧cap≤9223372036854775807∧l.length≤140737488355328∧∀ w0,At w0 S.1 S.2→At w0 ao l
theorem Bs.nil (S:Source):Bs S (.slice none 0 0) []:=⟨none,0,rfl,by simp,by decide,by simp,fun w0 _=>At.nil w0 none⟩
theorem Rd.keep {w w':World} {S:Source} {g:Nat} {l:List UInt8} {f:Bool} (h:Rd w S g l f) (hb:w'.heap[g]?=w.heap[g]?):Rd w' S g l f:=by
 obtain ⟨ao,cap,h1,h2⟩:=h
 exact ⟨ao,cap,h1.kept hb,h2⟩
theorem Rd.lt {w:World} {S:Source} {g:Nat} {l:List UInt8} {f:Bool} (h:Rd w S g l f):g<w.heap.size:=by
 obtain ⟨_,_,hb,_⟩:=h
 exact hb.lt
theorem Rd.bad {w:World} {S:Source} {g:Nat} {l:List UInt8} {f:Bool} (h:Rd w S g l f):f=true→l=[]:=by
 obtain ⟨_,_,_,_,_,_,_,h⟩:=h
 exact h
theorem Rd.XN {w w':World} {ex:Nat→Prop} {S:Source} {g:Nat} {l:List UInt8} {f:Bool} (h:Rd w S g l f) (k:uW w w' ex) (hg:¬ ex g):Rd w' S g l f:=h.keep (k.block g h.lt hg)
def gG (S:Source) (g:Nat):Prop:=0<S.2.length→∀ b off,S.1=some ⟨b,off,none⟩→b≠g
theorem gG.new {w:World} {S:Source} {g:Nat} (h:At w S.1 S.2) (hg:w.heap.size≤g):gG S g:=by
 intro hp b off e q
 obtain ⟨b',off',e',hb⟩:=h.addr hp
 rw[e] at e'
 injection e' with e'
 injection e' with e1 _ _
 omega
theorem gG.at {w w':World} {S:Source} {ex:Nat→Prop} (h:At w S.1 S.2) (f:uW w w' ex) (n:∀ g,ex g→gG S g):At w' S.1 S.2:=by
 intro j hj
 obtain ⟨b,off,e1,e2⟩:=h j hj
 refine ⟨b,off,e1,?_⟩
 rw[World.cell?_of_block (w:=w) (w':=w') (a:=⟨b,off+j,none⟩) (f.block b (World.block_lt_of_cell? w _ e2) (fun e=>n b e (by omega) b off e1 rfl))]
 exact e2
def DK (g b _j:Nat):Prop:=b=g
theorem CF.uY {w w':World} {g:Nat} (h:CF w w' (DK g)):uW w w' (fun b=>b=g):=⟨h.os,h.tape,h.output,h.size,fun b hb hx=>h.block b hb (fun _ e=>hx e)⟩
def aM (due:Nat) (l:List UInt8) (f:Bool):List UInt8×List UInt8×Bool:=
 match Box.cut l with
 | some (t,i,r)=>if t.toNat=due then (i,r,f) else ([],[],true)
 | none=>([],[],true)
set_option maxHeartbeats 1000000 in
theorem pR (S:Source) (g:Nat) (l:List UInt8) (f ok:Bool) (w:World) (h:Rd w S g l f) :
  Calls Tryz.prog 119 #[.pointer (some ⟨g,0,none⟩),.bool ok] w fun e w'=>e = .returned (.tuple #[])∧Rd w' S g (if ok=true then l else []) (if ok=true then f else true)∧CF w w' (DK g):=by
 cases ok
 ·obtain ⟨ao,cap,hb,h2,h3,h4,h5,h7⟩:=h
  have c0:=hb.cell 0
  have c1:=hb.cell 1
  simp only[List.getElem?_toArray,List.getElem?_cons_zero,List.getElem?_cons_succ] at c0 c1
  have f0:=hb.frozen 0
  have f1:=hb.frozen 1
  have HR:Hid (Rd ((w.setCell ⟨g,0,none⟩ (.slice none 0 0)).setCell ⟨g,1,none⟩ (.bool true)) S g [] true):=by
   exact ⟨none,0,(hb.set 0 _).set 1 _,by simp,by decide,by simp,fun w0 _=>At.nil w0 none,fun _=>rfl⟩
  have HF:Hid (CF w ((w.setCell ⟨g,0,none⟩ (.slice none 0 0)).setCell ⟨g,1,none⟩ (.bool true)) (DK g)):=((CF.refl w (DK g)).setCell g 0 _ (fun _=>rfl)).setCell g 1 _ (fun _=>rfl)
  clear hb h2 h3 h4 h5 h7
  go_enter Tryz.func119,Tryz.ntmps119
  go_wp2
  go_end0
  exact ⟨rfl,HR.out,HF.out⟩
 ·have HR:=hid h
  clear h
  go_enter Tryz.func119,Tryz.ntmps119
  go_wp2
  go_end0
  exact ⟨rfl,HR.out,CF.refl _ _⟩
theorem Rd.drewN {w:World} {S:Source} {g:Nat} {l:List UInt8} {f:Bool} (h:Rd w S g l f) (n:Nat):Rd (w.drewN n) S g l f:=h.keep rfl
set_option maxHeartbeats 1000000 in
theorem Bb (due:Nat) (S:Source) (g:Nat) (l:List UInt8) (f:Bool) (w:World) (hs:At w S.1 S.2) (h:Rd w S g l f) :
  Calls Tryz.prog 121 #[.pointer (some ⟨g,0,none⟩),.int .u8 (due:Int)] w fun e w'=>∃ v,e = .returned v∧Bs S v (aM due l f).1∧Rd w' S g (aM due l f).2.1 (aM due l f).2.2∧CF w w' (DK g):=by
 have HN:=hid (fun m=>pR S g l f false (w.drewN m) (h.drewN m))
 obtain ⟨ao,cap,hb,h2,h3,h4,h5,h7⟩:=h
 have c0:=hb.cell 0
 simp only[List.getElem?_toArray,List.getElem?_cons_zero] at c0
 have f0:=hb.frozen 0
 have hcut:=hid (MI l l.length ao cap w (hid rfl) h4 h2 h3 (h5 w hs))
 cases wo:Box.cut l with
 | none=>
  have HM:Hid (aM due l f=([],[],true)):=by show _=_;rw[aM,wo]
  have HQ:=hid wo
  clear hb h2 h3 h4 h5 h7 wo hs
  go_enter Tryz.func121,Tryz.ntmps121
  go_wp2_with (first|(go_at_call 144;refine hcut.out.mono ?_;rintro e w' ⟨_,r2,m,rfl⟩;obtain rfl:=r2 HQ.out)|(go_at_call 119;refine (HN.out m).mono ?_;rintro e w2 ⟨rfl,rd2,fr2⟩))
  go_ret
  rw[HM.out]
  exact ⟨_,rfl,Bs.nil _,rd2,fr2.qm⟩
 | some q=>
  obtain ⟨t,i,r⟩:=q
  by_cases e:t.toNat=due
  ·have hq:((t.toNat:Int)==(due:Int))=true:=by rw[e];exact beq_self_eq_true _
   have HM:Hid (aM due l f=(i,r,f)):=by show _=_;rw[aM,wo];simp only[e,if_true]
   have HQ:=hid wo
   have HB:=hid hb
   have HX:=hid (And.intro h3 (And.intro h4 (And.intro h5 h7)))
   have HL:Hid (i.length≤l.length∧r.length≤l.length∧(l=[]→False)):=by
    have:=Box.fq wo
    exact ⟨by omega,by omega,fun e=>by rw[e] at this;simp at this⟩
   clear hb h2 h3 h4 h5 h7 wo hs e
   go_enter Tryz.func121,Tryz.ntmps121
   go_wp2_with (first|(go_at_call 144;refine hcut.out.mono ?_;rintro e w' ⟨r1,_,m,rfl⟩;obtain ⟨a1,c1,a2,c2,rfl,p1,p2,p3,p4,p5,p6⟩:=r1 _ _ _ HQ.out))
   go_ret
   rw[HM.out]
   have fr:CF w ((w.drewN m).setCell ⟨g,0,none⟩ (.slice a2 r.length c2)) (DK g):=((CF.refl w (DK g)).drewN m).setCell g 0 _ (fun _=>rfl)
   refine ⟨_,rfl,⟨a1,c1,rfl,p2,by have:=HX.out.1;omega,by have:=HX.out.2.1;have:=HL.out.1;show i.length≤_;omega,fun w0 q=>p1 w0 (HX.out.2.2.1 w0 q)⟩,⟨a2,c2,(HB.out.drewN m).set 0 _,p5,by have:=HX.out.1;omega,by have:=HX.out.2.1;have:=HL.out.2.1;show r.length≤_;omega,fun w0 q=>p4 w0 (HX.out.2.2.1 w0 q),fun e=>absurd (HX.out.2.2.2 e) HL.out.2.2⟩,fr⟩
  ·have hq:((t.toNat:Int)==(due:Int))=false:=by rw[beq_eq_false_iff_ne];omega
   have HM:Hid (aM due l f=([],[],true)):=by show _=_;rw[aM,wo];simp only[e,if_false]
   have HQ:=hid wo
   clear hb h2 h3 h4 h5 h7 wo hs e
   go_enter Tryz.func121,Tryz.ntmps121
   go_wp2_with (first|(go_at_call 144;refine hcut.out.mono ?_;rintro e w' ⟨r1,_,m,rfl⟩;obtain ⟨a1,c1,a2,c2,rfl,p1,p2,p3,p4,p5,p6⟩:=r1 _ _ _ HQ.out)|(go_at_call 119;refine (HN.out m).mono ?_;rintro e w2 ⟨rfl,rd2,fr2⟩))
   go_ret
   rw[HM.out]
   exact ⟨_,rfl,Bs.nil _,rd2,fr2.qm⟩
set_option maxHeartbeats 400000 in
theorem wP (S:Source) (g:Nat) (l:List UInt8) (f:Bool) (w:World) (hs:At w S.1 S.2) (h:Rd w S g l f) :
  Calls Tryz.prog 98 #[.pointer (some ⟨g,0,none⟩)] w fun e w'=>∃ v,e = .returned v∧Bs S v (aM 4 l f).1∧Rd w' S g (aM 4 l f).2.1 (aM 4 l f).2.2∧CF w w' (DK g):=by
 have HT:=hid (Bb 4 S g l f w hs h)
 clear h hs
 go_enter Tryz.func98,Tryz.ntmps98
 go_wp2_with (first|(go_at_call 121;refine HT.out.mono ?_;rintro e w2 ⟨v,rfl,b2,r2,f2⟩;obtain ⟨ao,cap,rfl,q⟩:=b2))
 go_ret
 exact ⟨_,rfl,⟨ao,cap,rfl,q⟩,r2,f2⟩
theorem Tryz.KV:(Tryz.prog.info? 189).map (·.size)=some 2:=by kernel_rfl
theorem bI.two {w:World} {g:Nat} {a b:Value} (h:bI w g #[a,b]):w.cell? ⟨g,0,none⟩=some a∧w.cell? ⟨g,1,none⟩=some b:=⟨h.cell 0,h.cell 1⟩
theorem wQ {w:World} {g:Nat} {x y:Value} (h:bI w g #[x,y]):(loadVar 189 ⟨g,0,none⟩).run Tryz.prog w = .ok (.agg #[x,y]) w:=h.load 189 _ Tryz.underlying189 rfl Tryz.KV
set_option maxHeartbeats 1000000 in
theorem Ik (ao:Option Addr) (n cap:Nat) (w:World) :
  Calls Tryz.prog 158 #[.slice ao n cap] w fun e w'=>e = .returned (.agg #[.slice ao n cap,.bool false])∧w.grownBy w' none:=by
 have G0:=hid (World.grownBy_alloc w (.cells #[.slice ao n cap,.bool false] 189) none)
 have HB:=hid (bI.new w #[.slice ao n cap,.bool false] 189)
 go_enter Tryz.func158,Tryz.ntmps158
 go_wp2
 exact bodyPost_ret (jE Tryz.results158 _ _ _ w.heap.size rfl _ (wQ HB.out)) rfl ⟨rfl,G0.out⟩
set_option maxHeartbeats 400000 in
theorem DL (S:Source) (g:Nat) (l:List UInt8) (f:Bool) (w:World) (h:Rd w S g l f) :
  Calls Tryz.prog 84 #[.pointer (some ⟨g,0,none⟩)] w fun e w'=>e = .returned (.bool (decide (l=[])))∧w'=w:=by
 obtain ⟨ao,cap,hb,_⟩:=h
 obtain ⟨c0,c1⟩:=hb.two
 clear hb
 cases l with
 | nil=>
  go_enter Tryz.func84,Tryz.ntmps84
  go_wp2
  go_ret
  exact ⟨rfl,rfl⟩
 | cons x l=>
  have hl:(((x::l).length:Int)==0)=false:=by rw[beq_eq_false_iff_ne];simp;omega
  obtain ⟨n,hn⟩:∃ n,(x::l).length=n:=⟨_,rfl⟩
  rw[hn] at hl c0
  clear hn
  go_enter Tryz.func84,Tryz.ntmps84
  go_wp2
  go_ret
  exact ⟨by simp,rfl⟩
set_option maxHeartbeats 400000 in
theorem iF (S:Source) (g:Nat) (l:List UInt8) (f:Bool) (w:World) (h:Rd w S g l f) :
  Calls Tryz.prog 86 #[.pointer (some ⟨g,0,none⟩)] w fun e w'=>e = .returned (.bool (!f && decide (l=[])))∧w'=w:=by
 have HE:=hid (DL S g l f w h)
 obtain ⟨ao,cap,hb,_⟩:=h
 obtain ⟨c0,c1⟩:=hb.two
 clear hb
 cases f
 ·go_enter Tryz.func86,Tryz.ntmps86
  go_wp2_with (first|(go_at_call 84;refine HE.out.mono ?_;rintro e w2 ⟨rfl,rfl⟩))
  go_ret
  exact ⟨by simp,rfl⟩
 ·go_enter Tryz.func86,Tryz.ntmps86
  go_wp2
  go_ret
  exact ⟨by simp,rfl⟩
set_option maxHeartbeats 1000000 in
theorem Bc (S:Source) (g:Nat) (l:List UInt8) (f:Bool) (w:World) (hs:At w S.1 S.2) (h:Rd w S g l f) :
  Calls Tryz.prog 83 #[.pointer (some ⟨g,0,none⟩)] w fun e w'=>∃ v,e = .returned (.agg #[v,.bool (aM 48 l f).2.2])∧Bs S v (aM 48 l f).1∧Rd w' S g (aM 48 l f).2.1 (aM 48 l f).2.2∧CF w w' (DK g):=by
 have G0:=hid (World.grownBy_alloc w (.cells #[.slice none 0 0,.bool false] 189) none)
 have hgl:=h.lt
 have HB0:=hid (bI.new w #[.slice none 0 0,.bool false] 189)
 have h0:Rd (w.alloc (.cells #[.slice none 0 0,.bool false] 189)) S g l f:=h.keep (G0.out.block g hgl (by simp))
 have HT:=hid (Bb 48 S g l f _ (hs.below G0.out) h0)
 have hne:w.heap.size≠g:=by omega
 clear h h0 hs
 go_enter Tryz.func83,Tryz.ntmps83
 go_wp2_with fail
 refine HT.out.mono ?_
 rintro e w2 ⟨v,rfl,b2,r2,f2⟩
 have r2':=r2
 have b2':=b2
 obtain ⟨ao,cap,rfl,q⟩:=b2'
 obtain ⟨ao2,cap2,hb2,q2⟩:=r2'
 obtain ⟨c0,c1⟩:=hb2.two
 have hB2:bI w2 w.heap.size #[.slice none 0 0,.bool false]:=HB0.out.kept (f2.uY.block _ HB0.out.lt hne)
 obtain ⟨d0,d1⟩:=hB2.two
 have g0:=hB2.frozen 0
 have g1:=hB2.frozen 1
 have HS:=hid hB2
 clear hb2 hB2 q q2
 have FX:uW w2 ((w2.setCell ⟨w.heap.size,0,none⟩ (.slice ao (aM 48 l f).1.length cap)).setCell ⟨w.heap.size,1,none⟩ (.bool (aM 48 l f).2.2)) (fun b=>b=w.heap.size):=((uW.refl w2 (fun b=>b=w.heap.size)).set (g:=w.heap.size) rfl 0 _).set (g:=w.heap.size) rfl 1 _
 have hs2:=f2.size
 have sA:(w.alloc (.cells #[.slice none 0 0,.bool false] 189)).heap.size=w.heap.size+1:=World.size_alloc _ _
 have YU:=hid (r2.XN FX (fun e=>hne e.symm))
 have HBX:=hid b2
 have HFX:Hid (CF w ((w2.setCell ⟨w.heap.size,0,none⟩ (.slice ao (aM 48 l f).1.length cap)).setCell ⟨w.heap.size,1,none⟩ (.bool (aM 48 l f).2.2)) (DK g)):=((CF.before G0.out f2).setCell w.heap.size 0 _ (fun q=>absurd q (Nat.lt_irrefl _))).setCell w.heap.size 1 _ (fun q=>absurd q (Nat.lt_irrefl _))
 have HL:=hid (wQ ((HS.out.set 0 (.slice ao (aM 48 l f).1.length cap)).set 1 (.bool (aM 48 l f).2.2)))
 clear FX r2 b2 f2 hs2 sA
 go_wp2
 exact bodyPost_ret (jE Tryz.results83 _ _ _ w.heap.size rfl _ HL.out) rfl ⟨_,rfl,HBX.out,YU.out,HFX.out⟩
end Go.Proofs.YtpibgolaaaemnaaGreatDoor
namespace Go.Proofs.YtpibgolaaaemnaaGreatDoor
open Go.RowKit
set_option maxRecDepth 100000
def bg (zs:List UInt8):List UInt8×Bool:=
 if (aM 48 zs false).2.2=false∧(aM 48 zs false).2.1=[] then ((aM 48 zs false).1,false) else ([],true)
theorem Rd.new {w:World} {S:Source} {ao:Option Addr} {l:List UInt8} {cap:Nat} {f:Bool} (h:Bs S (.slice ao l.length cap) l) (hf:f=true→l=[]) (t:TypeId):Rd (w.alloc (.cells #[.slice ao l.length cap,.bool f] t)) S w.heap.size l f:=by
 obtain ⟨a,c,e,h1,h2,h3,h4⟩:=h
 injection e with e1 _ e3
 subst e1 e3
 exact ⟨ao,cap,bI.new w _ t,h1,h2,h3,h4,hf⟩
theorem lD (due:Nat) (l:List UInt8) (f:Bool) (hf:f=true→l=[]):(aM due l f).2.2=true→(aM due l f).1=[]∧(aM due l f).2.1=[]:=by
 unfold aM
 cases h:Box.cut l with
 | none=>exact fun _=>⟨rfl,rfl⟩
 | some q=>
  obtain ⟨t,i,r⟩:=q
  simp only
  split
  ·intro e
   have:=hf e
   subst this
   have:=Box.fq h
   simp at this
  ·exact fun _=>⟨rfl,rfl⟩
theorem qJ {w0 w w':World} {g:Nat} (h:w0.grownBy w none) (f:uW w w' (fun b=>b=g)) (hg:w0.heap.size≤g):w0.grownBy w' none:=
 ⟨f.os.trans h.os,f.tape.trans h.tape,f.output.trans h.output,Nat.le_trans h.size f.size,fun b hb _=>by
  have:=h.size
  rw[f.block b (by omega) (fun e=>by omega),h.block b hb (by simp)]⟩
set_option maxHeartbeats 1000000 in
theorem qL (S:Source) (zs:List UInt8) (n:Nat) (ao:Option Addr) (cap:Nat) (w:World) (hn:Hid (zs.length=n)) (hs:At w S.1 S.2) (h:Bs S (.slice ao n cap) zs) :
  Calls Tryz.prog 118 #[.slice ao n cap] w fun e w'=>∃ v,e = .returned (.agg #[v,.bool (bg zs).2])∧Bs S v (bg zs).1∧w.grownBy w' none:=by
 obtain rfl:=hn.out
 have G0:=World.grownBy_alloc w (.cells #[.slice none 0 0,.bool false] 189) none
 have HB0:=hid (bI.new w #[.slice none 0 0,.bool false] 189)
 have s0:(w.alloc (.cells #[.slice none 0 0,.bool false] 189)).heap.size=w.heap.size+1:=World.size_alloc _ _
 have HH:=hid h
 have mD:=hid G0
 have F6:=hid (hs.below G0)
 clear h G0 hs
 go_enter Tryz.func118,Tryz.ntmps118
 go_wp2_with fail
 refine (Ik ao zs.length cap _).mono ?_
 rintro e w1 ⟨rfl,g1⟩
 have s1:=g1.size
 have r1:=Rd.new (w:=w1) HH.out (f:=false) (fun e=>by cases e) 189
 have ga:=World.grownBy_alloc w1 (.cells #[.slice ao zs.length cap,.bool false] 189) none
 have sa:(w1.alloc (.cells #[.slice ao zs.length cap,.bool false] 189)).heap.size=w1.heap.size+1:=World.size_alloc _ _
 have HBa:Hid (bI (w1.alloc (.cells #[.slice ao zs.length cap,.bool false] 189)) w.heap.size #[.slice none 0 0,.bool false]):=(HB0.out.grown g1 (by simp)).grown ga (by simp)
 have HGa:=hid (ae mD.out (ae g1 ga))
 have hsa:=(F6.out.below g1).below ga
 have HL:=hid (Bc S w1.heap.size zs false _ hsa r1)
 clear r1 g1 ga HH HB0 mD hsa F6
 go_wp2_with fail
 refine HL.out.mono ?_
 rintro e w2 ⟨v,rfl,b2,r2,f2⟩
 obtain ⟨a2,c2,rfl,_⟩:=id b2
 have s2:=f2.size
 have f2s:=lD 48 zs false (fun e=>by cases e)
 have hgb:=World.grownBy_alloc w2 (.cells #[.slice a2 (aM 48 zs false).1.length c2,.bool (aM 48 zs false).2.2] 189) none
 have sb:(w2.alloc (.cells #[.slice a2 (aM 48 zs false).1.length c2,.bool (aM 48 zs false).2.2] 189)).heap.size=w2.heap.size+1:=World.size_alloc _ _
 have rb:=Rd.new (w:=w2) b2 (fun e=>(f2s e).1) 189
 have r2b:=r2.keep (hgb.block _ (by omega) (by simp))
 have HD:=hid (iF S w1.heap.size _ _ _ r2b)
 have HN:=hid (pR S w2.heap.size _ _ (!(aM 48 zs false).2.2 && decide ((aM 48 zs false).2.1=[])) _ rb)
 have HBb:Hid (bI (w2.alloc (.cells #[.slice a2 (aM 48 zs false).1.length c2,.bool (aM 48 zs false).2.2] 189)) w.heap.size #[.slice none 0 0,.bool false]):=(HBa.out.kept (f2.uY.block _ HBa.out.lt (by omega))).grown hgb (by simp)
 have HGb:=hid (ae (qJ HGa.out f2.uY (by omega)) hgb)
 have hne:w.heap.size≠w2.heap.size:=by omega
 have HRM:Hid ((if (!(aM 48 zs false).2.2 && decide ((aM 48 zs false).2.1=[]))=true then (aM 48 zs false).1 else [])=(bg zs).1∧(if (!(aM 48 zs false).2.2 && decide ((aM 48 zs false).2.1=[]))=true then (aM 48 zs false).2.2 else true)=(bg zs).2):=by
  unfold bg
  by_cases e:(aM 48 zs false).2.2=false∧(aM 48 zs false).2.1=[]
  ·rw[if_pos e,if_pos (by simp[e.1,e.2]),if_pos (by simp[e.1,e.2])];exact ⟨rfl,e.1⟩
  ·rw[if_neg e,if_neg (fun q=>e (by simpa using q)),if_neg (fun q=>e (by simpa using q))];exact ⟨rfl,rfl⟩
 rw[HRM.out.1,HRM.out.2] at HN
 clear b2 r2 f2 f2s hgb rb r2b HL HBa HGa
 go_wp2_with fail
 refine HD.out.mono ?_
 rintro e w3 ⟨rfl,rfl⟩
 go_wp2_with fail
 refine HN.out.mono ?_
 rintro e w4 ⟨rfl,r4,f4⟩
 have s4:=f4.size
 obtain ⟨a4,c4,hb4,p1,p2,p3,p4,p6⟩:=r4
 obtain ⟨c0,c1⟩:=hb4.two
 have hB4:bI w4 w.heap.size #[.slice none 0 0,.bool false]:=HBb.out.kept (f4.uY.block _ HBb.out.lt hne)
 obtain ⟨d0,d1⟩:=hB4.two
 have g0:=hB4.frozen 0
 have g1:=hB4.frozen 1
 have HS:=hid (wQ ((hB4.set 0 (.slice a4 (bg zs).1.length c4)).set 1 (.bool (bg zs).2)))
 have FX:uW w4 ((w4.setCell ⟨w.heap.size,0,none⟩ (.slice a4 (bg zs).1.length c4)).setCell ⟨w.heap.size,1,none⟩ (.bool (bg zs).2)) (fun b=>b=w.heap.size):=((uW.refl w4 (fun b=>b=w.heap.size)).set (g:=w.heap.size) rfl 0 _).set (g:=w.heap.size) rfl 1 _
 have vS:=hid (qJ (qJ HGb.out f4.uY (by omega)) FX (Nat.le_refl _))
 have HBs:Hid (Bs S (.slice a4 (bg zs).1.length c4) (bg zs).1):=⟨a4,c4,rfl,p1,p2,p3,p4⟩
 clear hb4 hB4 p1 p2 p3 p4 p6 FX f4 HN HD HRM s0 s1 s2 s4 sa sb
 go_wp2
 exact bodyPost_ret (jE Tryz.results118 _ _ _ w.heap.size rfl _ HS.out) rfl ⟨_,rfl,HBs.out,vS.out⟩
def bq (s:List UInt8×Bool):Int×(List UInt8×Bool):=
 match Box.num (aM 2 s.1 s.2).1 with
 | some v=>(v,(aM 2 s.1 s.2).2)
 | none=>(0,([],true))
def fQ (s:List UInt8×Bool):Nat→List UInt8×Bool
 | 0=>s
 | k+1=>(bq (fQ s k)).2
structure Bd (w:World) (g pb:Nat) (ps:List (Nat×Nat)):Prop where
 ptrs:bI w pb (ps.map fun p=>Value.pointer (some ⟨p.1,p.2,none⟩)).toArray
 live:∀ p∈ps,Live w p.1 (p.2+1)
 ne:∀ p∈ps,p.1≠g∧p.1≠pb
 gpb:g≠pb
 nd:ps.Nodup
def YV (g:Nat) (ps:List (Nat×Nat)) (b j:Nat):Prop:=b=g∨(b,j)∈ps
end Go.Proofs.YtpibgolaaaemnaaGreatDoor
namespace Go.Proofs.YtpibgolaaaemnaaGreatDoor
open Go.RowKit
set_option maxRecDepth 100000
theorem Bs.at {w:World} {S:Source} {ao:Option Addr} {n cap:Nat} {l:List UInt8} (h:Bs S (.slice ao n cap) l) (hs:At w S.1 S.2):l.length=n∧n≤cap∧cap≤9223372036854775807∧n≤140737488355328∧At w ao l:=by
 obtain ⟨a,c,e,h1,h2,h3,h4⟩:=h
 injection e with e1 e2 e3
 subst e1 e2 e3
 exact ⟨rfl,h1,h2,h3,h4 w hs⟩
def uG (w:World) (S:Source) (g:Nat) (ps:List (Nat×Nat)):Prop:=∀ w',CF w w' (YV g ps)→At w' S.1 S.2
theorem uG.of {w:World} {S:Source} {g:Nat} {ps:List (Nat×Nat)} (h:At w S.1 S.2) (h1:gG S g) (h2:∀ p∈ps,gG S p.1):uG w S g ps:=by
 intro w' c
 refine h.cf c (fun b off e j hj q=>?_)
 rcases q with q | q
 ·exact h1 (by omega) b off e q
 ·exact h2 _ q (by omega) b off e rfl
theorem Il (s:List UInt8×Bool):bq s=((Box.num (aM 2 s.1 s.2).1).getD 0,if (Box.num (aM 2 s.1 s.2).1).isSome=true then (aM 2 s.1 s.2).2 else ([],true)):=by
 unfold bq
 cases Box.num (aM 2 s.1 s.2).1 <;> rfl
theorem Be (zs:List UInt8) (n:Nat) (ao:Option Addr) (cap:Nat) (w:World) (hn:Hid (zs.length=n)) (hl:n≤140737488355328) (hcap:n≤cap) (hc:At w ao zs) :
  Calls Tryz.prog 120 #[.slice ao n cap] w fun e w'=>e = .returned (.tuple #[.int .i64 ((Box.num zs).getD 0),.bool (Box.num zs).isSome])∧∃ m,w'=w.drewN m:=by
 refine (sD zs n ao cap w hn hl hcap hc).mono ?_
 rintro e w' ⟨h1,h2,h3⟩
 cases h:Box.num zs with
 | none=>exact ⟨h2 h,h3⟩
 | some v=>exact ⟨h1 v h,h3⟩
theorem OB {w:World} {b o:Nat} (h:Live w b (o+1)):∃ v,w.cell? ⟨b,o,none⟩=some v:=Option.isSome_iff_exists.1 (h.some o (by omega))
set_option maxHeartbeats 2000000 in
theorem mh (S:Source) (g pb:Nat) (ps:List (Nat×Nat)) (n:Nat) (l:List UInt8) (f:Bool) (w:World) (hn:Hid (ps.length=n)) (hnl:n≤100) (hs:uG w S g ps) (h:Rd w S g l f) (hp:Bd w g pb ps) :
  Calls Tryz.prog 82 #[.pointer (some ⟨g,0,none⟩),.slice (some ⟨pb,0,none⟩) n n] w fun e w'=>e = .returned (.tuple #[])∧Rd w' S g (fQ (l,f) n).1 (fQ (l,f) n).2∧(∀ j p,ps[j]?=some p→w'.cell? ⟨p.1,p.2,none⟩=some (.int .i64 (bq (fQ (l,f) j)).1))∧CF w w' (YV g ps):=by
 have HH:=hid h
 have HP:=hid hp
 have HST:=hid hs
 clear h hp hs
 go_enter Tryz.func82,Tryz.ntmps82
 go_wp2
 go_loopw [10] (fun i wr=>∃ k:Nat,k≤n∧i = .int .i64 k∧Rd wr S g (fQ (l,f) k).1 (fQ (l,f) k).2∧(∀ j p,j<k→ps[j]?=some p→wr.cell? ⟨p.1,p.2,none⟩=some (.int .i64 (bq (fQ (l,f) j)).1))∧CF w wr (YV g ps)) (fun i _=>n-(intOf i).toNat)
 case atStart=>exact ⟨0,Nat.zero_le _,rfl,HH.out,fun j p hj=>by omega,CF.refl _ _⟩
 case round=>
  obtain ⟨k,hk,rfl,hrd,hdone,hcf⟩:=hrel
  by_cases hlt:k<n
  ·have rT:(k:Int)<(n:Int):=by omega
   have hk0:(0:Int)≤(k:Int):=by omega
   have hkl:k<ps.length:=by rw[hn.out];exact hlt
   obtain ⟨p,hpk⟩:∃ p,ps[k]?=some p:=⟨_,List.getElem?_eq_getElem hkl⟩
   have hmem:p∈ps:=List.mem_of_getElem? hpk
   have hne:=HP.out.ne p hmem
   have hpc:wr.cell? ⟨pb,k,none⟩=some (.pointer (some ⟨p.1,p.2,none⟩)):=by
    refine hcf.cell ?_ (fun e=>?_)
    ·rw[HP.out.ptrs.cell k,List.getElem?_toArray,List.getElem?_map,hpk];rfl
    ·rcases e with e | e
     ·exact HP.out.gpb e.symm
     ·exact (HP.out.ne _ e).2 rfl
   have hlv:Live wr p.1 (p.2+1):=(HP.out.live p hmem).cf hcf
   have HT:=hid (Bb 2 S g _ _ wr (HST.out _ hcf) hrd)
   obtain ⟨s,HS⟩:∃ s,Hid (fQ (l,f) k=s):=⟨_,hid rfl⟩
   rw[HS.out] at HT
   have HD:=hid hdone
   have HC:=hid hcf
   clear hrd hdone hcf
   go_wp2_with (go_at_call 121;refine HT.out.mono ?_;rintro e w2 ⟨v,rfl,b2,r2,f2⟩;obtain ⟨a2,c2,rfl,_⟩:=id b2)
   have ba:=b2.at (w:=w2) (HST.out _ (HC.out.trans (f2.mono (fun b o _ e=>.inl e)) (fun _ _ _ e=>e)))
   have HN3:=hid (Be (aM 2 s.1 s.2).1 (aM 2 s.1 s.2).1.length a2 c2 w2 (hid rfl) ba.2.2.2.1 ba.2.1 ba.2.2.2.2)
   have iM:=hid (Il s)
   obtain ⟨vv,HV⟩:∃ vv,Hid ((Box.num (aM 2 s.1 s.2).1).getD 0=vv):=⟨_,hid rfl⟩
   obtain ⟨ok,HK⟩:∃ ok,Hid ((Box.num (aM 2 s.1 s.2).1).isSome=ok):=⟨_,hid rfl⟩
   rw[HV.out,HK.out] at HN3 iM
   have HN:=hid (fun m=>pR S g _ _ ok (w2.drewN m) (r2.drewN m))
   have yG:=hid f2
   clear ba b2 r2 f2
   refine HN3.out.mono ?_
   rintro e w3 ⟨rfl,m,rfl⟩
   go_wp2_with fail
   refine (HN.out m).mono ?_
   rintro e w4 ⟨rfl,r4,f4⟩
   have F4:CF wr w4 (DK g):=yG.out.trans f4.qm (fun _ _ _ e=>e)
   have hl4:=hlv.cf F4
   obtain ⟨x0,hx0⟩:=OB hl4
   have fz:=hl4.frozen p.2
   have FW:CF wr (w4.setCell ⟨p.1,p.2,none⟩ (.int .i64 vv)) (YV g ps):=(F4.mono (fun b o _ e=>.inl e)).setCell p.1 p.2 _ (fun _=>.inr hmem)
   have HFW:=hid (HC.out.trans FW (fun _ _ _ e=>e))
   have fx:uW w4 (w4.setCell ⟨p.1,p.2,none⟩ (.int .i64 vv)) (fun b=>b=p.1):=(uW.refl w4 (fun b=>b=p.1)).set (g:=p.1) rfl p.2 _
   have HRW:=hid (r4.XN fx (fun e=>hne.1 e.symm))
   have HDn:Hid (∀ j q,j<k+1→ps[j]?=some q→(w4.setCell ⟨p.1,p.2,none⟩ (.int .i64 vv)).cell? ⟨q.1,q.2,none⟩=some (.int .i64 (bq (fQ (l,f) j)).1)):=by
    intro j q hj hq
    by_cases e:j=k
    ·subst e
     rw[hpk] at hq
     injection hq with hq
     subst hq
     rw[HS.out,iM.out]
     exact bL _ hx0
    ·have hqp:q≠p:=fun e2=>by
      subst e2
      have:=(List.getElem?_inj hkl HP.out.nd).1 (hpk.trans hq.symm)
      omega
     have hold:=HD.out j q (by omega) hq
     have Sa:=F4.cell hold (fun e2=>(HP.out.ne q (List.mem_of_getElem? hq)).1 e2)
     by_cases e3:q.1=p.1
     ·rw[e3] at Sa ⊢
      exact aa _ Sa (fun e4=>hqp (Prod.ext e3 e4.symm))
     ·rw[World.cell?_of_block (w:=w4) (a:=⟨q.1,q.2,none⟩) (Below.heap_setCell w4 _ _ _ e3)]
      exact Sa
   have HS1:Hid (fQ (l,f) (k+1)=(bq s).2):=by show _=_;rw[fQ,HS.out]
   rw[iM.out] at HS1
   clear F4 FW fx r4 f4 hl4 hlv HN HN3
   go_wp2
   go_roundw
   case rel=>
    refine ⟨k+1,by omega,by go_num,?_,HDn.out,HFW.out⟩
    rw[HS1.out]
    have:=HRW.out
    cases ok
    ·exact this
    ·exact this
   case measure=>simp[intOf];omega
  ·obtain rfl:k=n:=by omega
   have HR:=hid (And.intro hrd (And.intro hdone hcf))
   have hnn:¬ (k:Int)<(k:Int):=by omega
   clear hrd hdone hcf
   go_wp2
   go_end0
   exact ⟨rfl,HR.out.1,by first | exact (fun j p hj=>HR.out.2.1 j p (by rw[←hn.out];exact (List.getElem?_eq_some_iff.1 hj).1) hj) | exact (fun j a b hj=>HR.out.2.1 j (a,b) (by rw[←hn.out];exact (List.getElem?_eq_some_iff.1 hj).1) hj),HR.out.2.2⟩
end Go.Proofs.YtpibgolaaaemnaaGreatDoor
