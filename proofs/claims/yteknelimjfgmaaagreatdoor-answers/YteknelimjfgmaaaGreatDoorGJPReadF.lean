import Derived.Test.YteknelimjfgmaaaGreatDoorGJDeskB
namespace Go.Proofs.YteknelimjfgmaaaGreatDoor
set_option maxHeartbeats 1000000
open Proofs.Tryz Go.RowKit
set_option maxRecDepth 100000
theorem dX.cf {w w':World} {ex:Nat->Nat->Prop} {g:Nat} {cs cs':Array Value} (h:dX w g cs) (k:CF w w' ex) (hs:cs'.size=cs.size) (hc:∀ j,j<cs.size->w'.cell? ⟨g,j,none⟩=cs'[j]?):dX w' g cs':=by
 obtain ⟨e,he⟩:=h;obtain ⟨cur,h1,h2,_⟩:=k.cells g cs e (0,0) he;refine ⟨e,?_⟩;have hb:dX w' g cur:=⟨e,h1⟩
 have:cur=cs':=Array.ext_getElem? fun j=>by
  by_cases hj:j<cs.size
  ·rw[<-hc j hj,hb.cell j]
  ·rw[eM afp,eM afp]
 rw[<-this];exact h1
structure RS (w W:World) (ex:Nat->Nat->Prop) (S:Source) (g:Nat) (s:List UInt8×Bool) (fb:Nat) (cs:Array Value):Prop where
 rd:Rd W S g s.1 s.2
 blk:dX W fb cs
 cf:CF w W ex
 src:At W S.1 S.2
 ng:iF S g
 nf:iF S fb
 hf:w.heap.size<=fb
 hg:w.heap.size<=g
 ne:fb≠g
variable {w W W':World} {ex:Nat->Nat->Prop} {S:Source} {g fb:Nat} {s s':List UInt8×Bool} {cs:Array Value}
theorem RS.read (h:RS w W ex S g s fb cs) (c:CF W W' (Fz g)) (r:Rd W' S g s'.1 s'.2):RS w W' ex S g s' fb cs:=
 ⟨r,h.blk.kept (c.xx.block fb h.blk.lt h.ne),h.cf.trans c (fun i _ hi e=>by have e:i=g:=e;have:=h.hg;omega),iF.at h.src c.xx (fun _ e=>e ▸ h.ng),h.ng,h.nf,h.hf,h.hg,h.ne⟩
theorem RS.store (h:RS w W ex S g s fb cs) (j:Nat) (v:Value):RS w (W.setCell ⟨fb,j,none⟩ v) ex S g s fb (cs.setIfInBounds j v):=by
 have f:lN W (W.setCell ⟨fb,j,none⟩ v) (fun b=>b=fb):=(lN.refl W (fun b=>b=fb)).set (g:=fb) rfl j v;exact ⟨h.rd.Tg f (fun e=>h.ne e.symm),h.blk.set j v,h.cf.setCell fb j v (fun q=>by have:=h.hf;omega),iF.at h.src f (fun _ e=>e ▸ h.nf),h.ng,h.nf,h.hf,h.hg,h.ne⟩
theorem RS.grown (h:RS w W ex S g s fb cs) (k:W.grownBy W' none):RS w W' ex S g s fb cs:=
 ⟨h.rd.keep (k.block g h.rd.lt aft),h.blk.grown k aft,h.cf.grown k,h.src.below k,h.ng,h.nf,h.hf,h.hg,h.ne⟩
theorem RS.alloc (h:RS w W ex S g s fb cs) (o:Obj):RS w (W.alloc o) ex S g s fb cs:=h.grown (aE W o none)
theorem RS.nums {ps:List (Nat×Nat)} {cs':Array Value} (h:RS w W ex S g s fb cs) (c:CF W W' (exN g ps)) (r:Rd W' S g s'.1 s'.2) (hp:∀ p∈ps,p.1=fb) (hs:cs'.size=cs.size) (hc:∀ j,j<cs.size->W'.cell? ⟨fb,j,none⟩=cs'[j]?):RS w W' ex S g s' fb cs':=by
 refine ⟨r,h.blk.cf c hs hc,h.cf.trans c (fun i o hi e=>?_),wQ.of h.src h.ng (fun p q=>by rw[hp p q];exact h.nf) W' c,h.ng,h.nf,h.hf,h.hg,h.ne⟩;rcases e with e | e
 ·have:=h.hg;omega
 ·have e2:i=fb:=hp _ e;have:=h.hf;omega
theorem RS.size (h:RS w W ex S g s fb cs):w.heap.size<=W.heap.size/\fb<W.heap.size/\g<W.heap.size:=⟨h.cf.size,h.blk.lt,h.rd.lt⟩
theorem RS.places (h:RS w W ex S g s fb cs) (js:List Nat) (hj:∀ j∈js,j<cs.size) (hnd:js.Nodup) (t:TypeId):CJ (W.alloc (.cells ((js.map fun j=>(fb,j)).map fun p=>Value.pointer (some ⟨p.1,p.2,none⟩)).toArray t)) g W.heap.size (js.map fun j=>(fb,j)):=by
 obtain ⟨z1,z2,z4⟩:=h.size;have L:Live W fb cs.size:=by obtain ⟨e,he⟩:=h.blk;exact ⟨cs,e,he,bd _⟩
 refine ⟨dX.new W _ t,fun p hp=>?_,fun p hp=>?_,by omega,?_⟩
 ·obtain ⟨j,hj1,rfl⟩:=List.mem_map.1 hp;exact (L.mono (by have:=hj j hj1;show j+1<=_;omega)).alloc _
 ·obtain ⟨j,hj1,rfl⟩:=List.mem_map.1 hp;exact ⟨h.ne,by show fb≠_;omega⟩
 ·exact List.pairwise_map.2 (hnd.imp fun hab e=>hab (by injection e))
theorem RS.stays (h:RS w W ex S g s fb cs) (js:List Nat):wQ W S g (js.map fun j=>(fb,j)):=wQ.of h.src h.ng (fun p hp=>by
 obtain ⟨j,_,rfl⟩:=List.mem_map.1 hp
 exact h.nf)
theorem RS.other {g':Nat} (h:RS w W ex S g s fb cs) (c:CF W W' (Fz g')) (n':iF S g') (h1:g'≠g) (h2:g'≠fb) (h3:w.heap.size<=g'):RS w W' ex S g s fb cs:=
 ⟨h.rd.Tg c.xx (fun e=>h1 e.symm),h.blk.kept (c.xx.block fb h.blk.lt (fun e=>h2 e.symm)),h.cf.trans c (fun i _ hi e=>by have e:i=g':=e;omega),iF.at h.src c.xx (fun _ e=>e ▸ n'),h.ng,h.nf,h.hf,h.hg,h.ne⟩
theorem nK (S:Source) (g:Nat) (s:List UInt8×Bool) (w:World) (hs:At w S.1 S.2) (ng:iF S g) (h:Rd w S g s.1 s.2) :
  Calls prog 167 #[.pointer (some ⟨g,0,none⟩)] w fun e w'=>e = .returned (.string ⟨(fF s).1.toArray⟩)/\Rd w' S g (fF s).2.1 (fF s).2.2/\CF w w' (Fz g):=G9 S g s.1 s.2 w hs ng h
theorem yP (S:Source) (g:Nat) (s:List UInt8×Bool) (w:World) (hs:At w S.1 S.2) (ng:iF S g) (h:Rd w S g s.1 s.2) :
  Calls prog 171 #[.pointer (some ⟨g,0,none⟩)] w fun e w'=>∃ v,e = .returned (.agg #[.int .i64 (ja s).1.1,v])/\Bs S v (ja s).1.2/\Rd w' S g (ja s).2.1 (ja s).2.2/\CF w w' (Fz g):=CU S g s.1 s.2 w hs ng h
theorem jY (S:Source) (g pb:Nat) (ps:List (Nat×Nat)) (n:Nat) (s:List UInt8×Bool) (w:World) (hn:Hid (ps.length=n)) (hnl:n<=100) (hs:wQ w S g ps) (h:Rd w S g s.1 s.2) (hp:CJ w g pb ps) :
  Calls prog 168 #[.pointer (some ⟨g,0,none⟩),.slice (some ⟨pb,0,none⟩) n n] w fun e w'=>e = .returned (.tuple #[])/\Rd w' S g (gM s n).1 (gM s n).2/\(∀ j p,ps[j]?=some p->w'.cell? ⟨p.1,p.2,none⟩=some (.int .i64 (bO (gM s j)).1))/\CF w w' (exN g ps):=oV S g pb ps n s.1 s.2 w hn hnl hs h hp
theorem RS.slot (h:RS w W ex S g s fb cs) (j:Nat) (hj:j<cs.size):(∃ x,W.cell? ⟨fb,j,none⟩=some x)/\W.frozen? ⟨fb,j,none⟩=false:=by
 have L:Live W fb cs.size:=by obtain ⟨e,he⟩:=h.blk;exact ⟨cs,e,he,bd _⟩
 exact ⟨bw.1 (L.some j hj),L.frozen j⟩
theorem FE {s:List UInt8×Bool} (h:s.2=true->s.1=[]):(bO s).2.2=true->(bO s).2.1=[]:=by
 rw[JW];simp only;split
 ·exact fun e=>(nJ 2 s.1 s.2 h e).2
 ·exact fun _=>rfl
theorem xz (bA:List UInt8) (due:Int):(iM bA due).2=true->(iM bA due).1=[]:=by
 unfold iM;split
 ·exact FE (lD bA)
 ·exact fun _=>rfl
theorem dX.ten {w:World} {g:Nat} {c0 c1 c2 c3 c4 c5 c6 c7 c8 c9:Value} (h:dX w g #[c0,c1,c2,c3,c4,c5,c6,c7,c8,c9]):w.cell? ⟨g,0,none⟩=some c0/\w.cell? ⟨g,1,none⟩=some c1/\w.cell? ⟨g,2,none⟩=some c2/\w.cell? ⟨g,3,none⟩=some c3/\w.cell? ⟨g,4,none⟩=some c4/\w.cell? ⟨g,5,none⟩=some c5/\w.cell? ⟨g,6,none⟩=some c6/\w.cell? ⟨g,7,none⟩=some c7/\w.cell? ⟨g,8,none⟩=some c8/\w.cell? ⟨g,9,none⟩=some c9:=⟨h.cell 0,h.cell 1,h.cell 2,h.cell 3,h.cell 4,h.cell 5,h.cell 6,h.cell 7,h.cell 8,h.cell 9⟩
def Aj (W:World) (g:Nat) (c0 c1 c2 c3 c4 c5 c6 c7 c8 c9:Value):World:=(((((((((W.setCell ⟨g,0,none⟩ c0).setCell ⟨g,1,none⟩ c1).setCell ⟨g,2,none⟩ c2).setCell ⟨g,3,none⟩ c3).setCell ⟨g,4,none⟩ c4).setCell ⟨g,5,none⟩ c5).setCell ⟨g,6,none⟩ c6).setCell ⟨g,7,none⟩ c7).setCell ⟨g,8,none⟩ c8).setCell ⟨g,9,none⟩ c9
theorem Tryz.FH:(prog.info? 269).map (·.size)=some 10:=by kernel_rfl
theorem afd {p:Prop} (h:p:=by
 simp only[de,dy,eo] at k
 exact k):p:=h
theorem RS.Aj {x0 x1 x2 x3 x4 x5 x6 x7 x8 x9:Value} (h:RS w W ex S g s fb #[x0,x1,x2,x3,x4,x5,x6,x7,x8,x9]) (c0 c1 c2 c3 c4 c5 c6 c7 c8 c9:Value):RS w (Aj W fb c0 c1 c2 c3 c4 c5 c6 c7 c8 c9) ex S g s fb #[c0,c1,c2,c3,c4,c5,c6,c7,c8,c9]:=by
 have k:=(((((((((h.store 0 c0).store 1 c1).store 2 c2).store 3 c3).store 4 c4).store 5 c5).store 6 c6).store 7 c7).store 8 c8).store 9 c9;exact afd
theorem RS.zD {c0 c1 c2 c3 c4 c5 c6 c7 c8 c9:Value} (h:RS w W ex S g s fb #[c0,c1,c2,c3,c4,c5,c6,c7,c8,c9]):(loadVar 269 ⟨fb,0,none⟩).run prog W = .ok (.agg #[c0,c1,c2,c3,c4,c5,c6,c7,c8,c9]) W:=h.blk.load 269 _ underlying269 rfl Tryz.FH
def Ye (bA:List UInt8):List UInt8×(List UInt8×Bool):=fF (iM bA 10)
def zF (bA:List UInt8):List UInt8×(List UInt8×Bool):=fF (Ye bA).2
def yQ (bA:List UInt8) (j:Nat):Int:=(bO (gM (zF bA).2 j)).1
def AQ (bA:List UInt8):List UInt8×(List UInt8×Bool):=bB 48 (gM (zF bA).2 5).1 (gM (zF bA).2 5).2
def CW (bA:List UInt8):(Int×List UInt8)×(List UInt8×Bool):=
 if (AQ bA).1=[] then ((0,[]),((AQ bA).1,(AQ bA).2.2)) else ja ((AQ bA).1,(AQ bA).2.2)
def tY (bA:List UInt8):Bool:=(!(CW bA).2.2 && decide ((CW bA).2.1=[])) && (!(AQ bA).2.2 && decide ((AQ bA).2.1=[]))
abbrev tZ:Array Value:=#[.string ⟨#[]⟩,.string ⟨#[]⟩,.int .i64 0,.int .i64 0,.int .i64 0,.int .i64 0,.int .i64 0,.bool false,.int .i64 0,.slice none 0 0]
def uf (bA:List UInt8) (v:Value):List Value:=[.string ⟨(Ye bA).1.toArray⟩,.string ⟨(zF bA).1.toArray⟩,.int .i64 (yQ bA 0),.int .i64 (yQ bA 1),.int .i64 (yQ bA 2),.int .i64 (yQ bA 3),.int .i64 (yQ bA 4),.bool (decide ((AQ bA).1≠[])),.int .i64 (CW bA).1.1,v]
theorem aaP {p:Prop} (h:p:=by
 go_wp2
 refine bodyPost_ret (aJ results139 _ _ _ w.heap.size rfl _ HZ.o.zD) rfl ⟨_,by rw[oW.o];rfl,fun e=>(by rw[oW.o] at e;cases e),⟨rfl,rfl⟩,HZ.o.cf.gb (fun _ _ _ e=>e)⟩):p:=h
theorem ab0 {p:Prop} (h:p:=by
 have z:=g1.size
 have hs1:=(eD.o.below HB0.o.2).below g1
 exact ⟨Rd.new (w:=w1) b1 hbad _,(HB0.o.1.grown g1 aft).alloc _,CF.bN (aR (aa HB0.o.2 g1) _) _,hs1.below (aE _ _ none),iF.new hs1 (bd _),iF.new eD.o (bd _),bd _,by omega,by omega⟩):p:=h
theorem acK {p:Prop} (h:p:=by
 obtain ⟨j,_,rfl⟩:=List.mem_map.1 hp
 rfl):p:=h
theorem Ev (S:Source) (bA:List UInt8) (n:Nat) (ao:Option Addr) (cap:Nat) (w:World) (hn:Hid (bA.length=n)) (hs:At w S.1 S.2) (h:Bs S (.slice ao n cap) bA) :
  Calls prog 139 #[.slice ao n cap] w fun e w'=>∃ cs,e = .returned (.tuple #[.agg cs,.bool (tY bA)])/\(tY bA=true->∃ v,cs=(uf bA v).toArray/\Bs S v (CW bA).1.2)/\(cs.size=10/\cs.toList.all (·.oneCell')=true)/\w.grownBy w' none:=by
 have G0:=aE w (.cells tZ 269) none
 have s0:(w.alloc (.cells tZ 269)).heap.size=w.heap.size+1:=ch _ _
 have HL:=hid (FD S bA n ao cap 10 _ hn (hs.below G0) h)
 have HB0:=hid (And.intro (dX.new w tZ 269) G0)
 have eD:=hid hs
 have hbad:=xz bA 10
 obtain ⟨q0,h0⟩:=aq (iM bA 10)
 obtain ⟨qA,hA⟩:=aq (fF q0)
 obtain ⟨qB,hqB⟩:=aq (fF qA.2)
 obtain ⟨N,hN⟩:∃ N:Nat->Int,∀ j,(bO (gM qB.2 j)).1=N j:=⟨_,fun _=>rfl⟩
 obtain ⟨q5,h5⟩:=aq (gM qB.2 5)
 obtain ⟨qC,hC⟩:=aq (bB 48 q5.1 q5.2)
 have HQ:=hid (And.intro h0 (And.intro hA (And.intro hqB (And.intro hN (And.intro h5 hC)))))
 rw[h0] at HL hbad
 clear hs h G0 h0 hA hqB hN h5 hC
 go_enter func139,ntmps139
 go_wp2_with fail
 refine HL.o.mono ?_
 rintro e w1 ⟨v,rfl,b1,g1⟩
 obtain ⟨a1,c1,rfl,_⟩:=id b1
 have FI:RS w (w1.alloc (.cells #[.slice a1 q0.1.length c1,.bool q0.2] 314)) (fun _ _=>False) S w1.heap.size q0 w.heap.size tZ:=by
  exact ab0
 have HT1:=hid (nK S w1.heap.size q0 _ FI.src FI.ng FI.rd)
 rw[HQ.o.2.1] at HT1
 have H1:=hid FI
 clear b1 g1 HB0 HL FI hbad
 go_wp2_with fail
 refine HT1.o.mono ?_
 rintro e w2 ⟨rfl,r2,f2⟩
 have Si:RS w w2 (fun _ _=>False) S w1.heap.size qA.2 w.heap.size tZ:=H1.o.read f2 r2
 obtain ⟨⟨d2,hd2⟩,hz2⟩:=Si.slot 0 (by show 0<10;decide)
 have Ha:RS w (w2.setCell ⟨w.heap.size,0,none⟩ (.string ⟨qA.1.toArray⟩)) (fun _ _=>False) S w1.heap.size qA.2 w.heap.size #[.string ⟨qA.1.toArray⟩,.string ⟨#[]⟩,.int .i64 0,.int .i64 0,.int .i64 0,.int .i64 0,.int .i64 0,.bool false,.int .i64 0,.slice none 0 0]:=Si.store 0 _
 have HT2:=hid (nK S w1.heap.size qA.2 _ Ha.src Ha.ng Ha.rd)
 rw[HQ.o.2.2.1] at HT2
 have H2:=hid Ha
 clear r2 f2 Si Ha HT1 H1
 go_wp2_with fail
 refine HT2.o.mono ?_
 rintro e w3 ⟨rfl,r3,f3⟩
 have Yf:RS w w3 (fun _ _=>False) S w1.heap.size qB.2 w.heap.size #[.string ⟨qA.1.toArray⟩,.string ⟨#[]⟩,.int .i64 0,.int .i64 0,.int .i64 0,.int .i64 0,.int .i64 0,.bool false,.int .i64 0,.slice none 0 0]:=H2.o.read f3 r3
 obtain ⟨⟨d3,hd3⟩,hz3⟩:=Yf.slot 1 (by show 1<10;decide)
 have aa9:RS w (w3.setCell ⟨w.heap.size,1,none⟩ (.string ⟨qB.1.toArray⟩)) (fun _ _=>False) S w1.heap.size qB.2 w.heap.size #[.string ⟨qA.1.toArray⟩,.string ⟨qB.1.toArray⟩,.int .i64 0,.int .i64 0,.int .i64 0,.int .i64 0,.int .i64 0,.bool false,.int .i64 0,.slice none 0 0]:=Yf.store 1 _
 have pl:=aa9.places [2,3,4,5,6] (fun j hj=>by show j<10;simp at hj;omega) afq 319
 rw[World.size_setCell] at pl
 have Yg:=aa9.alloc (.cells #[.pointer (some ⟨w.heap.size,2,none⟩),.pointer (some ⟨w.heap.size,3,none⟩),.pointer (some ⟨w.heap.size,4,none⟩),.pointer (some ⟨w.heap.size,5,none⟩),.pointer (some ⟨w.heap.size,6,none⟩)] 319)
 have HT3:=hid (jY S w1.heap.size w3.heap.size _ 5 qB.2 _ (hid rfl) afp (Yg.stays [2,3,4,5,6]) Yg.rd pl)
 simp only[HQ.o.2.2.2.1] at HT3
 rw[HQ.o.2.2.2.2.1] at HT3
 have H3:=hid Yg
 clear r3 f3 Yf aa9 HT2 H2 pl Yg
 go_wp2_with fail
 refine HT3.o.mono ?_
 rintro e w4 ⟨rfl,r4,c4,f4⟩
 have AU:RS w w4 (fun _ _=>False) S w1.heap.size q5 w.heap.size #[.string ⟨qA.1.toArray⟩,.string ⟨qB.1.toArray⟩,.int .i64 (N 0),.int .i64 (N 1),.int .i64 (N 2),.int .i64 (N 3),.int .i64 (N 4),.bool false,.int .i64 0,.slice none 0 0]:=by
  refine H3.o.nums f4 r4 (fun p hp=>?_) rfl (fun j hj=>?_)
  ·exact acK
  ·have hj':j<10:=hj;match j,hj' with
   | 0,_=>exact f4.cell (H3.o.blk.cell 0) (fun e=>by rcases e with e | e;exact H3.o.ne e;simp at e)
   | 1,_=>exact f4.cell (H3.o.blk.cell 1) (fun e=>by rcases e with e | e;exact H3.o.ne e;simp at e)
   | 2,_=>exact c4 0 (w.heap.size,2) rfl
   | 3,_=>exact c4 1 (w.heap.size,3) rfl
   | 4,_=>exact c4 2 (w.heap.size,4) rfl
   | 5,_=>exact c4 3 (w.heap.size,5) rfl
   | 6,_=>exact c4 4 (w.heap.size,6) rfl
   | 7,_=>exact f4.cell (H3.o.blk.cell 7) (fun e=>by rcases e with e | e;exact H3.o.ne e;simp at e)
   | 8,_=>exact f4.cell (H3.o.blk.cell 8) (fun e=>by rcases e with e | e;exact H3.o.ne e;simp at e)
   | 9,_=>exact f4.cell (H3.o.blk.cell 9) (fun e=>by rcases e with e | e;exact H3.o.ne e;simp at e)
 have Us:=hid (CE S w1.heap.size q5.1 q5.2 _ AU.src AU.rd)
 have HbC:=hid (nJ 48 q5.1 q5.2 AU.rd.bad)
 rw[HQ.o.2.2.2.2.2] at Us HbC
 have H4:=hid AU
 clear r4 c4 f4 AU HT3 H3
 go_wp2_with fail
 refine Us.o.mono ?_
 rintro e w5 ⟨v5,rfl,b5,r5,f5⟩
 obtain ⟨a5,c5,rfl,_⟩:=id b5
 have rs5:RS w w5 (fun _ _=>False) S w1.heap.size qC.2 w.heap.size #[.string ⟨qA.1.toArray⟩,.string ⟨qB.1.toArray⟩,.int .i64 (N 0),.int .i64 (N 1),.int .i64 (N 2),.int .i64 (N 3),.int .i64 (N 4),.bool false,.int .i64 0,.slice none 0 0]:=H4.o.read f5 r5
 have z5:=rs5.size
 have rp5:=Rd.new (w:=w5) b5 (fun e=>(HbC.o e).1) 314
 have HNp:=hid (iF.new rs5.src (bd w5.heap.size))
 have aek:=rs5.alloc (.cells #[.slice a5 qC.1.length c5,.bool qC.2.2] 314)
 have HE:=hid (FB S w5.heap.size _ _ _ rp5)
 have H5:=hid (And.intro aek rp5)
 clear b5 r5 f5 rs5 Us H4 rp5 aek hd2 hz2 hd3 hz3
 go_wp2_with fail
 refine HE.o.mono ?_
 rintro e wE ⟨rfl,rfl⟩
 obtain ⟨w6,hw6⟩:=ar (w5.alloc (.cells #[.slice a5 qC.1.length c5,.bool qC.2.2] 314))
 have z5a:w6.heap.size=w5.heap.size+1:=by rw[hw6];exact ch _ _
 rw[<-hw6] at H5 ⊢
 clear hw6 HE
 have Eu:Hid (Ye bA=qA):=by show _=_;rw[Ye,HQ.o.1,HQ.o.2.1]
 have OP:Hid (zF bA=qB):=by show _=_;rw[zF,Eu.o,HQ.o.2.2.1]
 have M3:Hid (∀ j,yQ bA j=N j):=fun j=>by rw[yQ,OP.o,HQ.o.2.2.2.1]
 have HRC:Hid (AQ bA=qC):=by show _=_;rw[AQ,OP.o,HQ.o.2.2.2.2.1,HQ.o.2.2.2.2.2]
 clear HQ HbC hn s0
 by_cases hpre:qC.1=[]
 ·have hd:decide (qC.1=[])=true:=by rw[hpre];rfl
  rw[hd];have HP:Hid (CW bA=((0,[]),(qC.1,qC.2.2))):=by show _=_;rw[CW,HRC.o,if_pos hpre]
  have Ut:Hid (tY bA=((!qC.2.2 && decide (qC.1=[])) && (!qC.2.2 && decide (qC.2.1=[])))):=by show _=_;rw[tY,HP.o,HRC.o]
  have HT:=hid H5.o;clear H5;obtain ⟨y0,y1,y2,y3,y4,y5,y6,y7,y8,y9⟩:=HT.o.1.blk.ten;have zz0:=(HT.o.1.slot 0 (by show 0<10;decide)).2;have zz1:=(HT.o.1.slot 1 (by show 1<10;decide)).2;have zz2:=(HT.o.1.slot 2 (by show 2<10;decide)).2;have zz3:=(HT.o.1.slot 3 (by show 3<10;decide)).2;have zz4:=(HT.o.1.slot 4 (by show 4<10;decide)).2;have zz5:=(HT.o.1.slot 5 (by show 5<10;decide)).2;have zz6:=(HT.o.1.slot 6 (by show 6<10;decide)).2;have zz7:=(HT.o.1.slot 7 (by show 7<10;decide)).2;have zz8:=(HT.o.1.slot 8 (by show 8<10;decide)).2;have zz9:=(HT.o.1.slot 9 (by show 9<10;decide)).2;have HD1:=hid (jw S w5.heap.size _ _ _ HT.o.2);have HD2:=hid (jw S w1.heap.size _ _ _ HT.o.1.rd);have HZ:=hid (HT.o.1.Aj (.string ⟨#[]⟩) (.string ⟨#[]⟩) (.int .i64 0) (.int .i64 0) (.int .i64 0) (.int .i64 0) (.int .i64 0) (.bool false) (.int .i64 0) (.slice none 0 0));have HY:=hid (HT.o.1.Aj (.string ⟨qA.1.toArray⟩) (.string ⟨qB.1.toArray⟩) (.int .i64 (N 0)) (.int .i64 (N 1)) (.int .i64 (N 2)) (.int .i64 (N 3)) (.int .i64 (N 4)) (.bool false) (.int .i64 0) (.slice none 0 0));unfold Aj at HZ HY;cases hq1:(!qC.2.2 && decide (qC.1=[]))
  ·have oW:Hid (tY bA=false):=(by show _=_;rw[Ut.o,hq1];rfl);rw[hq1] at HD1;go_wp2_with fail;refine HD1.o.mono ?_;rintro e w8 ⟨rfl,rfl⟩;clear HD1 HD2 HY hq1;exact aaP
  ·rw[hq1] at HD1;cases hq2:(!qC.2.2 && decide (qC.2.1=[]))
   ·have oW:Hid (tY bA=false):=(by show _=_;rw[Ut.o,hq1,hq2];rfl);rw[hq2] at HD2;go_wp2_with fail;refine HD1.o.mono ?_;rintro e w8 ⟨rfl,rfl⟩;go_wp2_with fail;refine HD2.o.mono ?_;rintro e w8 ⟨rfl,rfl⟩;clear HD1 HD2 HY hq1 hq2;exact aaP
   ·have oW:Hid (tY bA=true):=(by show _=_;rw[Ut.o,hq1,hq2];rfl);rw[hq2] at HD2;go_wp2_with fail;refine HD1.o.mono ?_;rintro e w8 ⟨rfl,rfl⟩;go_wp2_with fail;refine HD2.o.mono ?_;rintro e w8 ⟨rfl,rfl⟩;clear HD1 HD2 HZ hq1 hq2;go_wp2;refine bodyPost_ret (aJ results139 _ _ _ w.heap.size rfl _ HY.o.zD) rfl ⟨_,by rw[oW.o];rfl,fun _=>?_,⟨rfl,rfl⟩,HY.o.cf.gb (fun _ _ _ e=>e)⟩;exact ⟨_,by rw[uf,Eu.o,OP.o,M3.o,M3.o,M3.o,M3.o,M3.o,HRC.o,HP.o,hpre];rfl,by rw[HP.o];exact Bs.nil _⟩
 ·have hd:decide (qC.1=[])=false:=cA hpre;rw[hd];obtain ⟨⟨x7,hx7⟩,hz7⟩:=H5.o.1.slot 7 (by show 7<10;decide);have rs6:RS w (w6.setCell ⟨w.heap.size,7,none⟩ (.bool true)) (fun _ _=>False) S w1.heap.size qC.2 w.heap.size #[.string ⟨qA.1.toArray⟩,.string ⟨qB.1.toArray⟩,.int .i64 (N 0),.int .i64 (N 1),.int .i64 (N 2),.int .i64 (N 3),.int .i64 (N 4),.bool true,.int .i64 0,.slice none 0 0]:=H5.o.1.store 7 _;have fx6:lN w6 (w6.setCell ⟨w.heap.size,7,none⟩ (.bool true)) (fun b=>b=w.heap.size):=(lN.refl _ (fun b=>b=w.heap.size)).set (g:=w.heap.size) rfl 7 _;have rp6:=H5.o.2.Tg fx6 afp;obtain ⟨qP,hqP⟩:=aq (ja (qC.1,qC.2.2));have HP:Hid (CW bA=qP):=by show _=_;rw[CW,HRC.o,if_neg hpre];exact hqP
  have Ut:Hid (tY bA=((!qP.2.2 && decide (qP.2.1=[])) && (!qC.2.2 && decide (qC.2.1=[])))):=by show _=_;rw[tY,HP.o,HRC.o]
  have HS:=hid (yP S w5.heap.size (qC.1,qC.2.2) _ rs6.src HNp.o rp6);rw[hqP] at HS;have H6:=hid rs6;have hpF:decide (qC.1≠[])=true:=cH hpre;have HPF:=hid hpF;clear hqP rs6 rp6 fx6 H5 hpF;go_wp2_with fail;refine HS.o.mono ?_;rintro e w7 ⟨v7,rfl,b7,r7,f7⟩;obtain ⟨a7,c7,rfl,_⟩:=id b7;have JZ:=H6.o.other f7 HNp.o afp afp afp;obtain ⟨⟨x8,hx8⟩,hz8⟩:=JZ.slot 8 (by show 8<10;decide);obtain ⟨⟨x9,hx9⟩,hz9⟩:=JZ.slot 9 (by show 9<10;decide);have rs8:RS w ((w7.setCell ⟨w.heap.size,8,none⟩ (.int .i64 qP.1.1)).setCell ⟨w.heap.size,9,none⟩ (.slice a7 qP.1.2.length c7)) (fun _ _=>False) S w1.heap.size qC.2 w.heap.size #[.string ⟨qA.1.toArray⟩,.string ⟨qB.1.toArray⟩,.int .i64 (N 0),.int .i64 (N 1),.int .i64 (N 2),.int .i64 (N 3),.int .i64 (N 4),.bool true,.int .i64 qP.1.1,.slice a7 qP.1.2.length c7]:=(JZ.store 8 _).store 9 _;have fx8:lN w7 ((w7.setCell ⟨w.heap.size,8,none⟩ (.int .i64 qP.1.1)).setCell ⟨w.heap.size,9,none⟩ (.slice a7 qP.1.2.length c7)) (fun b=>b=w.heap.size):=((lN.refl w7 (fun b=>b=w.heap.size)).set (g:=w.heap.size) rfl 8 _).set (g:=w.heap.size) rfl 9 _;have rp8:=r7.Tg fx8 afp;have Yh:=hid b7;have HT:=hid (And.intro rs8 rp8);clear JZ rs8 rp8 fx8 r7 f7 b7 H6 HS;obtain ⟨y0,y1,y2,y3,y4,y5,y6,y7,y8,y9⟩:=HT.o.1.blk.ten;have zz0:=(HT.o.1.slot 0 (by show 0<10;decide)).2;have zz1:=(HT.o.1.slot 1 (by show 1<10;decide)).2;have zz2:=(HT.o.1.slot 2 (by show 2<10;decide)).2;have zz3:=(HT.o.1.slot 3 (by show 3<10;decide)).2;have zz4:=(HT.o.1.slot 4 (by show 4<10;decide)).2;have zz5:=(HT.o.1.slot 5 (by show 5<10;decide)).2;have zz6:=(HT.o.1.slot 6 (by show 6<10;decide)).2;have zz7:=(HT.o.1.slot 7 (by show 7<10;decide)).2;have zz8:=(HT.o.1.slot 8 (by show 8<10;decide)).2;have zz9:=(HT.o.1.slot 9 (by show 9<10;decide)).2;have HD1:=hid (jw S w5.heap.size _ _ _ HT.o.2);have HD2:=hid (jw S w1.heap.size _ _ _ HT.o.1.rd);have HZ:=hid (HT.o.1.Aj (.string ⟨#[]⟩) (.string ⟨#[]⟩) (.int .i64 0) (.int .i64 0) (.int .i64 0) (.int .i64 0) (.int .i64 0) (.bool false) (.int .i64 0) (.slice none 0 0));have HY:=hid (HT.o.1.Aj (.string ⟨qA.1.toArray⟩) (.string ⟨qB.1.toArray⟩) (.int .i64 (N 0)) (.int .i64 (N 1)) (.int .i64 (N 2)) (.int .i64 (N 3)) (.int .i64 (N 4)) (.bool true) (.int .i64 qP.1.1) (.slice a7 qP.1.2.length c7));unfold Aj at HZ HY;cases hq1:(!qP.2.2 && decide (qP.2.1=[]))
  ·have oW:Hid (tY bA=false):=(by show _=_;rw[Ut.o,hq1];rfl);rw[hq1] at HD1;go_wp2_with fail;refine HD1.o.mono ?_;rintro e w8 ⟨rfl,rfl⟩;clear HD1 HD2 HY hq1;exact aaP
  ·rw[hq1] at HD1;cases hq2:(!qC.2.2 && decide (qC.2.1=[]))
   ·have oW:Hid (tY bA=false):=(by show _=_;rw[Ut.o,hq1,hq2];rfl);rw[hq2] at HD2;go_wp2_with fail;refine HD1.o.mono ?_;rintro e w8 ⟨rfl,rfl⟩;go_wp2_with fail;refine HD2.o.mono ?_;rintro e w8 ⟨rfl,rfl⟩;clear HD1 HD2 HY hq1 hq2;exact aaP
   ·have oW:Hid (tY bA=true):=(by show _=_;rw[Ut.o,hq1,hq2];rfl);rw[hq2] at HD2;go_wp2_with fail;refine HD1.o.mono ?_;rintro e w8 ⟨rfl,rfl⟩;go_wp2_with fail;refine HD2.o.mono ?_;rintro e w8 ⟨rfl,rfl⟩;clear HD1 HD2 HZ hq1 hq2;go_wp2;refine bodyPost_ret (aJ results139 _ _ _ w.heap.size rfl _ HY.o.zD) rfl ⟨_,by rw[oW.o];rfl,fun _=>?_,⟨rfl,rfl⟩,HY.o.cf.gb (fun _ _ _ e=>e)⟩;exact ⟨_,by rw[uf,Eu.o,OP.o,M3.o,M3.o,M3.o,M3.o,M3.o,HRC.o,HP.o,HPF.o],by rw[HP.o];exact Yh.o⟩
end Go.Proofs.YteknelimjfgmaaaGreatDoor
