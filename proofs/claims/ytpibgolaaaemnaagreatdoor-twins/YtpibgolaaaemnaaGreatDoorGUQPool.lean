/-
  
  
  
  
  
-/
import Derived.Test.YtpibgolaaaemnaaGreatDoorGUPFindP
import Derived.Defers
import Derived.Test.YtpibgolaaaemnaaGreatDoorGUQLookC
import Derived.Test.YtpibgolaaaemnaaGreatDoorGUPBookG
namespace Go.Proofs.YtpibgolaaaemnaaGreatDoor
open Go.RowKit
set_option maxRecDepth 100000
structure kH (w:World) (g o:Nat) (t0 t1:Bool):Prop where
 live:Live w g (o+602)
 c0:w.cell? ⟨g,o+300,none⟩=some (.bool t0)
 c1:w.cell? ⟨g,o+601,none⟩=some (.bool t1)
theorem kH.cf {w w':World} {ex:Nat→Nat→Prop} {g o:Nat} {t0 t1:Bool} (h:kH w g o t0 t1) (k:CF w w' ex) (h0:¬ ex g (o+300)) (h1:¬ ex g (o+601)):kH w' g o t0 t1:=⟨h.live.cf k,k.cell h.c0 h0,k.cell h.c1 h1⟩
set_option maxHeartbeats 1000000 in
theorem KN (g o:Nat) (t1:Bool) (w:World) (h:kH w g o false t1) :
  Calls Tryz.prog 221 #[.pointer (some ⟨g,o,none⟩)] w fun e w'=>e = .returned (.pointer (some ⟨g,o,none⟩))∧kH w' g o true t1∧CF w w' (fun b y=>b=g∧y=o+300):=by
 have c0:=h.c0
 have f0:=h.live.frozen (o+300)
 have HC:Hid (CF w (w.setCell ⟨g,o+300,none⟩ (.bool true)) (fun b y=>b=g∧y=o+300)):=(CF.refl _ _).setCell g (o+300) _ (fun _=>⟨rfl,rfl⟩)
 have HP:Hid (kH (w.setCell ⟨g,o+300,none⟩ (.bool true)) g o true t1):=⟨h.live.cf HC.out,World.cell?_setCell_same _ _ _ c0,HC.out.cell h.c1 (fun e=>by omega)⟩
 clear h
 go_enter Tryz.func221,Tryz.ntmps221
 go_wp2
 go_loopw [3,4,5] (fun _ _ i wr=>i = .int .i64 0∧wr=w) (fun _ _ i _=>2-(intOf i).toNat)
 case atStart=>exact ⟨rfl,rfl⟩
 case round=>
  obtain ⟨rfl,rfl⟩:=hrel
  go_wp2
  go_ret
  exact ⟨rfl,HP.out,HC.out⟩
set_option maxHeartbeats 1000000 in
theorem Ie (g o:Nat) (w:World) (h:kH w g o true false) :
  Calls Tryz.prog 221 #[.pointer (some ⟨g,o,none⟩)] w fun e w'=>e = .returned (.pointer (some ⟨g,o+301,none⟩))∧kH w' g o true true∧CF w w' (fun b y=>b=g∧y=o+601):=by
 have c0:=h.c0
 have c1:=h.c1
 have f1:=h.live.frozen (o+601)
 have HC:Hid (CF w (w.setCell ⟨g,o+601,none⟩ (.bool true)) (fun b y=>b=g∧y=o+601)):=(CF.refl _ _).setCell g (o+601) _ (fun _=>⟨rfl,rfl⟩)
 have HP:Hid (kH (w.setCell ⟨g,o+601,none⟩ (.bool true)) g o true true):=⟨h.live.cf HC.out,HC.out.cell h.c0 (fun e=>by omega),World.cell?_setCell_same _ _ _ c1⟩
 clear h
 go_enter Tryz.func221,Tryz.ntmps221
 go_wp2
 go_loopw [3,4,5] (fun _ _ i wr=>(i = .int .i64 0∨i = .int .i64 1)∧wr=w) (fun _ _ i _=>2-(intOf i).toNat)
 case atStart=>exact ⟨.inl rfl,rfl⟩
 case round=>
  obtain ⟨rfl | rfl,rfl⟩:=hrel
  ·go_wp2
   go_roundw
   case rel=>exact ⟨.inr rfl,by first | rfl | trivial⟩
   case measure=>simp[intOf]
  ·go_wp2
   go_ret
   exact ⟨rfl,HP.out,HC.out⟩
set_option maxHeartbeats 1000000 in
theorem RG (g o:Nat) (w:World) (h:kH w g o false false) :
  Calls Tryz.prog 71 #[.pointer (some ⟨g,o,none⟩)] w fun e w'=>e = .returned (.int .i64 2)∧w'=w:=by
 have c0:=h.c0
 have c1:=h.c1
 clear h
 go_enter Tryz.func71,Tryz.ntmps71
 go_wp2
 go_loopw [2,3,4] (fun f _ i wr=>(i = .int .i64 0∧f = .int .i64 0∨i = .int .i64 1∧f = .int .i64 1∨i = .int .i64 2∧f = .int .i64 2)∧wr=w) (fun _ _ i _=>2-(intOf i).toNat)
 case atStart=>exact ⟨.inl ⟨rfl,rfl⟩,rfl⟩
 case round=>
  obtain ⟨⟨rfl,rfl⟩ | ⟨rfl,rfl⟩ | ⟨rfl,rfl⟩,rfl⟩:=hrel
  ·go_wp2
   go_roundw
   case rel=>exact ⟨.inr (.inl ⟨rfl,rfl⟩),by first | rfl | trivial⟩
   case measure=>simp[intOf]
  ·go_wp2
   go_roundw
   case rel=>exact ⟨.inr (.inr ⟨rfl,rfl⟩),by first | rfl | trivial⟩
   case measure=>simp[intOf]
  ·go_wp2
   go_ret
   exact ⟨rfl,rfl⟩
set_option maxHeartbeats 1000000 in
theorem RH (g o:Nat) (w:World) :
  Calls Tryz.prog 223 #[.pointer (some ⟨g,o,none⟩)] w fun e w'=>e = .returned (.slice (some ⟨g,o,none⟩) 0 300)∧w=w':=by
 go_enter Tryz.func223,Tryz.ntmps223
 go_wp2
 go_ret
 exact ⟨rfl,rfl⟩
theorem Tryz.VU:Tryz.zeroCells103.size=301:=by kernel_rfl
theorem Tryz.KO:Tryz.zeroCells103.all (·.oneCell')=true:=by kernel_rfl
theorem Tryz.KP:Tryz.zeroCells103.toList[300]?=some (.bool false):=by kernel_rfl
set_option maxHeartbeats 1000000 in
theorem wM (g o:Nat) (u:FrameMode) (w:World) (h:Live w g (o+301)) :
  CallsD Tryz.prog 222 #[.pointer (some ⟨g,o,none⟩)] u w fun e u' w'=>u'=u∧(e = .returned (.tuple #[])∧w'.cell? ⟨g,o+300,none⟩=some (.bool false)∧CF w w' (fun b y=>b=g∧o≤y∧y<o+301)):=by
 have hlen:Tryz.zeroCells103.toList.length=301:=by rw[Array.length_toList,Tryz.VU]
 have hst:=Cz (P:=Tryz.prog) o Tryz.zeroCells103.toList h (by rw[hlen];exact Nat.le_refl _) (fun v hv=>by have:=Tryz.KO;rw[Array.all_eq_true_iff_forall_mem] at this;exact this v (Array.mem_toList_iff.1 hv))
 have HC:Hid (CF w (w.setCells g o Tryz.zeroCells103.toList) (fun b y=>b=g∧o≤y∧y<o+301)):=CF.setCells g _ o w (CF.refl _ _) (fun j hj _=>⟨rfl,by omega,by rw[hlen] at hj;omega⟩)
 have HR:=hid (World.rangeAt_setCells_same w g o Tryz.zeroCells103.toList (h.there o _ (by rw[hlen];exact Nat.le_refl _)))
 clear hlen h
 go_enter_d Tryz.func222,Tryz.ntmps222
 go_wp2
 go_end0
 exact ⟨rfl,HR.out 300 _ Tryz.KP,HC.out⟩
end Go.Proofs.YtpibgolaaaemnaaGreatDoor
namespace Go.Proofs.YtpibgolaaaemnaaGreatDoor
open Go.RowKit
set_option maxRecDepth 100000
def uf (W:World) (g:Nat) (es:List BE):Prop:=∃ ls nx,jB W g 188 ls nx∧∀ e∈ls,BE.find es e.name=some e
theorem uf.cf {W W':World} {ex:Nat→Nat→Prop} {g:Nat} {es:List BE} (h:uf W g es) (k:CF W W' ex) (hx:∀ j,188≤j→j<222→¬ ex g j):uf W' g es:=by
 obtain ⟨ls,nx,h1,h2⟩:=h
 exact ⟨ls,nx,h1.cf k hx,h2⟩
abbrev XK (g:Nat) (b y:Nat):Prop:=b=g∧188≤y∧y<222
abbrev exQ (g:Nat) (b y:Nat):Prop:=¬ (b=g∧(2≤y∧y<163∨188≤y∧y<222))
def QJ (g:Nat) (es:List BE) (W:World):Prop:=bE W g 2 es∧uf W g es
theorem QJ.cf {W W':World} {ex:Nat→Nat→Prop} {g:Nat} {es:List BE} (h:QJ g es W) (k:CF W W' ex) (hx:∀ j,(2≤j∧j<163∨188≤j∧j<222)→¬ ex g j):QJ g es W':=
 ⟨h.1.cf k (fun j h1 h2=>hx j (.inl ⟨h1,h2⟩)),h.2.cf k (fun j h1 h2=>hx j (.inr ⟨h1,h2⟩))⟩
theorem AV (w:World) (b:Nat) (v0 v1 v2 v3 v4 v5 v6 v7 u0 u1 u2 u3 u4 u5 u6 u7:Value) (h:Live w b 8) :
  ((((((((((((((((w.setCell ⟨b,0,none⟩ v0).setCell ⟨b,1,none⟩ v1).setCell ⟨b,2,none⟩ v2).setCell ⟨b,3,none⟩ v3).setCell ⟨b,4,none⟩ v4).setCell ⟨b,5,none⟩ v5).setCell ⟨b,6,none⟩ v6).setCell ⟨b,7,none⟩ v7).setCell ⟨b,0,none⟩ u0).setCell ⟨b,1,none⟩ u1).setCell ⟨b,2,none⟩ u2).setCell ⟨b,3,none⟩ u3).setCell ⟨b,4,none⟩ u4).setCell ⟨b,5,none⟩ u5).setCell ⟨b,6,none⟩ u6).setCell ⟨b,7,none⟩ u7).rangeAt b 0 [u0,u1,u2,u3,u4,u5,u6,u7]:=by
 obtain ⟨⟨d0,q0⟩,⟨d1,q1⟩,⟨d2,q2⟩,⟨d3,q3⟩,⟨d4,q4⟩,⟨d5,q5⟩,⟨d6,q6⟩,⟨d7,q7⟩,_⟩:=dY h
 obtain ⟨r0,r1,r2,r3,r4,r5,r6,r7⟩:=iL (fw w b v0 v1 v2 v3 v4 v5 v6 v7 q0 q1 q2 q3 q4 q5 q6 q7)
 exact fw _ b u0 u1 u2 u3 u4 u5 u6 u7 r0 r1 r2 r3 r4 r5 r6 r7
theorem AX {es:List BE} {l:List UInt8} {e:BE} (h:BE.find es l=some e):e.name=l∧e∈es:=by
 have:=List.find?_some h
 exact ⟨by simpa using this,List.mem_of_find?_eq_some h⟩
set_option maxHeartbeats 2000000 in
theorem Ow (g:Nat) (ls:List BE) (nx:Nat) (l:List UInt8) (e:BE) (w:World) (h:jB w g 188 ls nx) (hf:BE.find ls l=some e) :
  Calls Tryz.prog 219 #[.pointer (some ⟨g,0,none⟩),.string ⟨l.toArray⟩] w fun r w'=>r = .returned (kG (some e))∧w.grownBy w' none:=by
 have G0:=World.grownBy_alloc w (.cells noEntry 87) none
 have hB:=DI g 188 ls nx l _ (h.grown G0)
 rw[hf] at hB
 obtain ⟨v0,v1,v2,v3,v4,v5,v6,v7,hv,hv0⟩:=qH e
 clear hv0
 simp only[kG,nG,Option.isSome_some] at hB ⊢
 rw[hv] at hB
 rw[hv]
 have HB:=hid hB
 have HG:=hid G0
 have HL:=hid (Live.new w noEntry 87)
 clear hB G0 hv h hf
 go_enter Tryz.func219,Tryz.ntmps219
 go_wp2_with (first|(go_at_call 224;refine HB.out.mono ?_;clear HB;rintro r w1 ⟨rfl,g1⟩;have nH:=hid (ae HG.out g1);have hL:=HL.out.grown g1;clear g1;obtain ⟨⟨d0,q0⟩,⟨d1,q1⟩,⟨d2,q2⟩,⟨d3,q3⟩,⟨d4,q4⟩,⟨d5,q5⟩,⟨d6,q6⟩,⟨d7,q7⟩,f0,f1,f2,f3,f4,f5,f6,f7⟩:=dY hL;have yx:=hid hL;clear hL))
 refine bodyPost_ret (aD Tryz.results219 _ _ _ w.heap.size rfl _ (dN (AV w1 w.heap.size _ _ _ _ _ _ _ _ _ _ _ _ _ _ _ _ yx.out) 87 _ Tryz.underlying87 rfl Tryz.gH)) rfl ⟨rfl,?_⟩
 repeat refine aK ?_ (Nat.le_refl _)
 exact nH.out
structure QK (w:World) (g:Nat) (es ls:List BE) (nx:Nat) (W:World):Prop where
 aH:bE W g 2 es
 look:jB W g 188 ls nx
 live:Live W w.heap.size 8
 gb:w.grownBy W none
theorem QK.grown {w W W':World} {g nx:Nat} {es ls:List BE} (h:QK w g es ls nx W) (k:W.grownBy W' none):QK w g es ls nx W':=⟨h.aH.grown k,h.look.grown k,h.live.grown k,ae h.gb k⟩
theorem QK.done {w W:World} {g nx:Nat} {es ls:List BE} (h:QK w g es ls nx W) (hg:∀ e∈ls,BE.find es e.name=some e):QJ g es W∧CF w W (XK g):=⟨⟨h.aH,ls,nx,h.look,hg⟩,CF.aW h.gb _⟩
theorem QK.afO {w W:World} {g nx:Nat} {es ls:List BE} (h:QK w g es ls nx W) (hg:g<w.heap.size) (v0 v1 v2 v3 v4 v5 v6 v7:Value):QK w g es ls nx ((((((((W.setCell ⟨w.heap.size,0,none⟩ v0).setCell ⟨w.heap.size,1,none⟩ v1).setCell ⟨w.heap.size,2,none⟩ v2).setCell ⟨w.heap.size,3,none⟩ v3).setCell ⟨w.heap.size,4,none⟩ v4).setCell ⟨w.heap.size,5,none⟩ v5).setCell ⟨w.heap.size,6,none⟩ v6).setCell ⟨w.heap.size,7,none⟩ v7):=by
 have k:CF W ((((((((W.setCell ⟨w.heap.size,0,none⟩ v0).setCell ⟨w.heap.size,1,none⟩ v1).setCell ⟨w.heap.size,2,none⟩ v2).setCell ⟨w.heap.size,3,none⟩ v3).setCell ⟨w.heap.size,4,none⟩ v4).setCell ⟨w.heap.size,5,none⟩ v5).setCell ⟨w.heap.size,6,none⟩ v6).setCell ⟨w.heap.size,7,none⟩ v7) (fun b _=>b=w.heap.size):=by
  repeat refine CF.setCell ?_ _ _ _ (fun _=>rfl)
  exact CF.refl _ _
 refine ⟨h.aH.cf k (fun _ _ _ e=>by omega),h.look.cf k (fun _ _ _ e=>by omega),h.live.cf k,?_⟩
 repeat refine aK ?_ (Nat.le_refl _)
 exact h.gb
set_option maxHeartbeats 2000000 in
theorem KQ (g:Nat) (es ls:List BE) (nx:Nat) (l:List UInt8) (w:World) (hb:bE w g 2 es) (hs:es.Pairwise (fun x y=>Op.bytesLess x.name y.name=true)) (h:jB w g 188 ls nx) (hf:BE.find ls l=none) (hg:∀ e∈ls,BE.find es e.name=some e) :
  Calls Tryz.prog 219 #[.pointer (some ⟨g,0,none⟩),.string ⟨l.toArray⟩] w fun r w'=>r = .returned (kG (BE.find es l))∧QJ g es w'∧CF w w' (XK g):=by
 have G0:=World.grownBy_alloc w (.cells noEntry 87) none
 have hgl:g<w.heap.size:=h.live.lt
 have HK0:Hid (QK w g es ls nx (w.alloc (.cells noEntry 87))):=⟨hb.grown G0,h.grown G0,Live.new w noEntry _,G0⟩
 have hB:=DI g 188 ls nx l _ (h.grown G0)
 rw[hf] at hB
 have HD:Hid (∀ W,QK w g es ls nx W→Calls Tryz.prog 225 #[.pointer (some ⟨g,0,none⟩),.string ⟨l.toArray⟩] W fun e w'=>e = .returned (kG (BE.find es l))∧W.grownBy w' none):=fun W k=>wL g es l W k.aH hs
 obtain ⟨x,hx⟩:∃ x,BE.find es l=x:=⟨_,rfl⟩
 rw[hx] at HD
 rw[hx]
 have HX:=hid hx
 obtain ⟨v0,v1,v2,v3,v4,v5,v6,v7,hv⟩:=gB x
 simp only[kG] at HD hB ⊢
 rw[hv] at HD
 rw[hv]
 have HV:=hid hv
 have HB:Hid (Calls Tryz.prog 224 #[.pointer (some ⟨g,188,none⟩),.string ⟨l.toArray⟩] (w.alloc (.cells noEntry 87)) fun e w'=>e = .returned (.tuple #[.agg #[.string ⟨#[]⟩,.int .i64 0,.int .u64 0,.int .u64 0,.int .i64 0,.int .i64 0,.int .i64 0,.int .i64 0],.bool false])∧(w.alloc (.cells noEntry 87)).grownBy w' none):=hB
 have YN:Hid (∀ W v0 v1 v2 v3 v4 v5 v6 v7,QK w g es ls nx W→QK w g es ls nx ((((((((W.setCell ⟨w.heap.size,0,none⟩ v0).setCell ⟨w.heap.size,1,none⟩ v1).setCell ⟨w.heap.size,2,none⟩ v2).setCell ⟨w.heap.size,3,none⟩ v3).setCell ⟨w.heap.size,4,none⟩ v4).setCell ⟨w.heap.size,5,none⟩ v5).setCell ⟨w.heap.size,6,none⟩ v6).setCell ⟨w.heap.size,7,none⟩ v7)):=fun W v0 v1 v2 v3 v4 v5 v6 v7 k=>k.afO hgl v0 v1 v2 v3 v4 v5 v6 v7
 have HGd:=hid hg
 have YO:=hid hgl
 clear hB G0 hv h hf hb hs hg hx hgl
 cases x with
 | none=>
  simp only[Option.isSome_none] at HD ⊢
  go_enter Tryz.func219,Tryz.ntmps219
  go_wp2_with (first
   | (go_at_call 224;refine HB.out.mono ?_;clear HB;rintro r w1 ⟨rfl,g1⟩;have Qo:=hid (HK0.out.grown g1);clear g1;obtain ⟨⟨d0,q0⟩,⟨d1,q1⟩,⟨d2,q2⟩,⟨d3,q3⟩,⟨d4,q4⟩,⟨d5,q5⟩,⟨d6,q6⟩,⟨d7,q7⟩,f0,f1,f2,f3,f4,f5,f6,f7⟩:=dY Qo.out.live)
   | (go_at_call 225;refine (HD.out _ (YN.out _ _ _ _ _ _ _ _ _ Qo.out)).mono ?_;rintro r w2 ⟨rfl,g2⟩;have ER:=hid ((YN.out _ _ _ _ _ _ _ _ _ Qo.out).grown g2);clear g2 q0 q1 q2 q3 q4 q5 q6 q7 f0 f1 f2 f3 f4 f5 f6 f7;obtain ⟨⟨d0,q0⟩,⟨d1,q1⟩,⟨d2,q2⟩,⟨d3,q3⟩,⟨d4,q4⟩,⟨d5,q5⟩,⟨d6,q6⟩,⟨d7,q7⟩,f0,f1,f2,f3,f4,f5,f6,f7⟩:=dY ER.out.live))
  refine bodyPost_ret (aD Tryz.results219 _ _ _ w.heap.size rfl _ (dN (AV w2 w.heap.size _ _ _ _ _ _ _ _ _ _ _ _ _ _ _ _ ER.out.live) 87 _ Tryz.underlying87 rfl Tryz.gH)) rfl ⟨rfl,(YN.out _ _ _ _ _ _ _ _ _ (YN.out _ _ _ _ _ _ _ _ _ ER.out)).done HGd.out⟩
 | some e=>
  simp only[Option.isSome_some] at HD ⊢
  go_enter Tryz.func219,Tryz.ntmps219
  go_wp2_with (first
   | (go_at_call 224;refine HB.out.mono ?_;clear HB;rintro r w1 ⟨rfl,g1⟩;have Qo:=hid (HK0.out.grown g1);clear g1;obtain ⟨⟨d0,q0⟩,⟨d1,q1⟩,⟨d2,q2⟩,⟨d3,q3⟩,⟨d4,q4⟩,⟨d5,q5⟩,⟨d6,q6⟩,⟨d7,q7⟩,f0,f1,f2,f3,f4,f5,f6,f7⟩:=dY Qo.out.live)
   | (go_at_call 225;refine (HD.out _ (YN.out _ _ _ _ _ _ _ _ _ Qo.out)).mono ?_;rintro r w2 ⟨rfl,g2⟩;have ER:=hid ((YN.out _ _ _ _ _ _ _ _ _ Qo.out).grown g2);clear g2 q0 q1 q2 q3 q4 q5 q6 q7 f0 f1 f2 f3 f4 f5 f6 f7;obtain ⟨⟨d0,q0⟩,⟨d1,q1⟩,⟨d2,q2⟩,⟨d3,q3⟩,⟨d4,q4⟩,⟨d5,q5⟩,⟨d6,q6⟩,⟨d7,q7⟩,f0,f1,f2,f3,f4,f5,f6,f7⟩:=dY ER.out.live))
  obtain ⟨W3,hW3⟩:∃ W,W=((((((((w2.setCell ⟨w.heap.size,0,none⟩ (.string v0)).setCell ⟨w.heap.size,1,none⟩ (.int .i64 v1)).setCell ⟨w.heap.size,2,none⟩ (.int .u64 v2)).setCell ⟨w.heap.size,3,none⟩ (.int .u64 v3)).setCell ⟨w.heap.size,4,none⟩ (.int .i64 v4)).setCell ⟨w.heap.size,5,none⟩ (.int .i64 v5)).setCell ⟨w.heap.size,6,none⟩ (.int .i64 v6)).setCell ⟨w.heap.size,7,none⟩ (.int .i64 v7)):=⟨_,rfl⟩
  rw[←hW3]
  have YP:Hid (QK w g es ls nx W3):=by
   show QK _ _ _ _ _ _
   rw[hW3]
   exact YN.out _ _ _ _ _ _ _ _ _ ER.out
  have HR3:Hid (W3.rangeAt w.heap.size 0 [.string v0,.int .i64 v1,.int .u64 v2,.int .u64 v3,.int .i64 v4,.int .i64 v5,.int .i64 v6,.int .i64 v7]):=by
   show World.rangeAt _ _ _ _
   rw[hW3]
   exact fw w2 w.heap.size _ _ _ _ _ _ _ _ q0 q1 q2 q3 q4 q5 q6 q7
  clear hW3 q0 q1 q2 q3 q4 q5 q6 q7 f0 f1 f2 f3 f4 f5 f6 f7 ER Qo HK0 HD
  obtain ⟨x0,x1,x2,x3,x4,x5,x6,x7⟩:=iL HR3.out
  have HM:Hid (∀ W,QK w g es ls nx W→Calls Tryz.prog 226 #[.pointer (some ⟨g,188,none⟩),.agg #[.string v0,.int .i64 v1,.int .u64 v2,.int .u64 v3,.int .i64 v4,.int .i64 v5,.int .i64 v6,.int .i64 v7]] W fun r w'=>r = .returned (.tuple #[])∧(∃ nx',jB w' g 188 (Ic ls nx e) nx')∧CF W w' (fun b y=>b=g∧188≤y∧y<188+34)):=fun W k=>by
   have h1:=EX g 188 ls nx e W k.look
   have h2:e.aR=[.string v0,.int .i64 v1,.int .u64 v2,.int .u64 v3,.int .i64 v4,.int .i64 v5,.int .i64 v6,.int .i64 v7]:=HV.out
   rw[h2] at h1
   exact h1
  go_wp2_with fail
  go_region_held3 (fun w'=>w'.cell? ⟨w.heap.size,0,none⟩=some (.string v0)∧w'.cell? ⟨w.heap.size,1,none⟩=some (.int .i64 v1)∧w'.cell? ⟨w.heap.size,2,none⟩=some (.int .u64 v2)∧w'.cell? ⟨w.heap.size,3,none⟩=some (.int .u64 v3)∧w'.cell? ⟨w.heap.size,4,none⟩=some (.int .i64 v4)∧w'.cell? ⟨w.heap.size,5,none⟩=some (.int .i64 v5)∧w'.cell? ⟨w.heap.size,6,none⟩=some (.int .i64 v6)∧w'.cell? ⟨w.heap.size,7,none⟩=some (.int .i64 v7)) (go_keep) (first|(go_at_call 226;refine (HM.out _ (YP.out.grown (aO (World.grownBy.refl _ _) 1))).mono ?_;rintro r w4 ⟨rfl,hl4,C4⟩;have HL4:=hid hl4;have XL:=hid C4.bM;have HR4:=hid (C4.bM.range HR3.out (fun _ _ e=>by have:=YO.out;omega));clear hl4 C4 x0 x1 x2 x3 x4 x5 x6 x7;obtain ⟨x0,x1,x2,x3,x4,x5,x6,x7⟩:=iL HR4.out;have HLv:=hid (YP.out.live.cf XL.out);obtain ⟨_,_,_,_,_,_,_,_,f0,f1,f2,f3,f4,f5,f6,f7⟩:=dY HLv.out))
  go_wp2
  have C9:∀ W,CF w4 W (fun b _=>b=w.heap.size)→QJ g es W∧CF w W (XK g):=fun W k=>by
   have c1:CF w w4 (XK g):=(CF.aW YP.out.gb _).trans XL.out (fun _ _ _ e=>e)
   obtain ⟨nx',hl4⟩:=HL4.out
   refine ⟨⟨(YP.out.aH.cf XL.out (fun _ _ _ e=>by omega)).cf k (fun _ _ _ e=>by have:=YO.out;omega),_,nx',hl4.cf k (fun _ _ _ e=>by have:=YO.out;omega),fun x hx=>?_⟩,c1.trans k (fun _ _ h e=>by omega)⟩
   rcases RF hx with hx | hx
   ·exact HGd.out x hx
   ·rw[hx,(AX HX.out).1]
    exact HX.out
  refine bodyPost_ret (aD Tryz.results219 _ _ _ w.heap.size rfl _ (dN (fw w4 w.heap.size _ _ _ _ _ _ _ _ x0 x1 x2 x3 x4 x5 x6 x7) 87 _ Tryz.underlying87 rfl Tryz.gH)) rfl ⟨rfl,C9 _ ?_⟩
  repeat refine CF.setCell ?_ _ _ _ (fun _=>rfl)
  exact CF.refl _ _
theorem Ig (g:Nat) (es:List BE) (hs:es.Pairwise (fun x y=>Op.bytesLess x.name y.name=true)):Finds (findF 119) (QJ g es) (XK g) (exQ g) (.pointer (some ⟨g,0,none⟩)) es:=by
 refine ⟨fun W hW l=>?_,fun W W' hW k=>hW.cf k (fun j hj e=>e ⟨rfl,hj⟩)⟩
 have e:findF 119=219:=rfl
 rw[e]
 obtain ⟨hB,ls,nx,hl,hg⟩:=hW
 cases hf:BE.find ls l with
 | none=>exact KQ g es ls nx l W hB hs hl hf hg
 | some x=>
  refine (Ow g ls nx l x W hl hf).mono ?_
  rintro r w' ⟨rfl,g1⟩
  obtain ⟨h1,h2⟩:=AX hf
  have h3:=hg x h2
  rw[h1] at h3
  rw[h3]
  exact ⟨rfl,⟨hB.grown g1,ls,nx,hl.grown g1,hg⟩,CF.aW g1 _⟩
theorem KR (g:Nat):∀ W,(method 434 119 (.pointer (some ⟨g,0,none⟩)) "Find").run Tryz.prog W = .ok (findF 119,.pointer (some ⟨g,0,none⟩)) W:=fun _=>by kernel_rfl
end Go.Proofs.YtpibgolaaaemnaaGreatDoor
namespace Go.Proofs.YtpibgolaaaemnaaGreatDoor
open Go.RowKit
set_option maxRecDepth 100000
structure eP (w:World) (g:Nat) (dp:Option Pl) (M:DM):Prop where
 dX:cz w g 0 dp M
 look:uf w g M.aH
 pool:kH w g 222 false false
theorem eP.cf {w w':World} {ex:Nat→Nat→Prop} {g:Nat} {dp:Option Pl} {M:DM} (h:eP w g dp M) (k:CF w w' ex) (hg:∀ y,¬ ex g y) (hd:∀ q,dp=some q→∀ y,¬ ex q.g y):eP w' g dp M:=
 ⟨h.dX.cf k (fun _ _ _=>hg _) (fun q hq _ _=>hd q hq _),h.look.cf k (fun _ _ _=>hg _),h.pool.cf k (hg _) (hg _)⟩
theorem eP.grown {w w':World} {g:Nat} {dp:Option Pl} {M:DM} (h:eP w g dp M) (k:w.grownBy w' none):eP w' g dp M:=h.cf (CF.aW k (fun _ _=>False)) (fun _ e=>e) (fun _ _ _ e=>e)
theorem TM (w:World) (g:Nat) (dp:Option Pl) (M:DM) (hd:cz w g 0 dp M) (vV:∀ q,dp=some q→q.g≠g) (hin:∀ e∈M.aH,e.In) (hso:M.aH.Pairwise (fun x y=>Op.bytesLess x.name y.name=true)) :
  HS (w.heap.size+1) g (w.heap.size+2) 119 (.pointer (some ⟨g,0,none⟩)) (.pointer (some ⟨g,0,none⟩)) (some ⟨g,222,300⟩) (some ⟨g,523,300⟩) dp (QJ g M.aH) (XK g) (exQ g) M.aH:=by
 have hg:g<w.heap.size:=hd.live.lt
 have hh:∀ (o b y:Nat),Pl.has (some ⟨g,o,300⟩) b y→b=g∧o≤y∧y<o+300:=fun o b y h=>by
  obtain ⟨q,hq,h1,h2,h3⟩:=h
  injection hq with hq
  subst hq
  exact ⟨h1,h2,h3⟩
 refine ⟨KR g,Ig g M.aH hso,fun y e=>by have:=e.1;omega,fun b y hb e=>by have:=e.1;omega,fun b y hb e=>by have:=e.1;omega,fun b y h e=>by have:=hh _ _ _ h;omega,fun b y h e=>by have:=hh _ _ _ h;omega,fun e=>by omega,fun y h1 h2 e=>by omega,(fun q h=>by injection h with h;subst h;show w.heap.size+1≠g;omega),(fun q h=>by injection h with h;subst h;show w.heap.size+1≠g;omega),fun j hj h=>by have:=hh _ _ _ h;omega,fun j hj h=>by have:=hh _ _ _ h;omega,fun y hy e=>by omega,by omega,fun p hp=>?_,by omega,by omega,hin,hso⟩
 have h1:p.g<w.heap.size:=hd.Et hp
 have h2:p.g≠g:=vV p hp
 exact ⟨h2,by omega,by omega,fun y=>⟨fun h=>h2 h.1,fun h=>h2 (hh _ _ _ h).1,fun h=>h2 (hh _ _ _ h).1⟩⟩
theorem Ja (M:DM) (now:Int) (R:Except Int GR):(dJ M now R).2.aH=M.aH:=by
 unfold dJ
 cases R with
 | error c=>rfl
 | ok g=>
  dsimp only
  split <;> rfl
theorem Jb (M:DM) (now:Int) (aG:List UInt8):(cB M now aG).2.aH=M.aH:=by
 unfold cB
 split
 ·exact Ja _ _ _
 ·split
  ·unfold pJ
   split
   ·rfl
   ·dsimp only
    split
    ·rfl
    ·exact Ja _ _ _
  ·rfl
structure LQ (w w':World) (g:Nat) (dp:Option Pl) (v':Value) (R:List UInt8×DM):Prop where
 out:∃ p',Out w' v' p' R.1∧Pl.fresh w.heap.size p'
 dX:∃ rH,eP w' g rH R.2∧∀ q',rH=some q'→∃ q,dp=some q∧q.g=q'.g
 cf:CF w w' (fun b _=>b=g)
theorem Pq (v:Value) (p:Option Pl) (bs:List UInt8) (n:Nat) (w:World) (h:Out w v p bs) (hn:Hid (bs.length=n)) (hbig:n≤140737488355328) :
  Calls Tryz.prog 55 #[v] w fun e w'=>∃ ao c,e = .returned (.slice ao n c)∧(∃ p',Out w' (.slice ao n c) p' bs∧Pl.fresh w.heap.size p')∧w.grownBy w' none:=by
 rcases h with ⟨_,hv,hbs⟩ | ⟨q,hq,hv,h1,h2,h3,h4⟩
 ·rw[hv]
  have hn0:n=0:=by rw[←hn.out,hbs];rfl
  refine (Tryz.bytes_Clone_nil 0 0 w).mono ?_
  rintro e w1 ⟨rfl,rfl⟩
  exact ⟨none,0,by rw[hn0],⟨none,.inl ⟨rfl,by rw[hn0],hbs⟩,fun q hq=>by cases hq⟩,World.grownBy.refl _ _⟩
 ·rw[hv,hn.out]
  refine (Tryz.bytes_Clone_at ⟨q.g,q.off,none⟩ n q.cap (bs.map fun z=>(z.toNat:Int)) w (by rw[List.length_map];exact hn.out) hbig (fun i hi=>?_)).mono ?_
  ·have hi':i<bs.length:=by rw[hn.out];exact hi
   have e:(bs.map fun z=>(z.toNat:Int)).getD i 0=(bs[i].toNat:Int):=by
    rw[List.getD_eq_getElem?_getD,List.getElem?_map,List.getElem?_eq_getElem hi'];rfl
   rw[e,Addr.add_lit]
   exact h4 i _ (by rw[List.getElem?_map,List.getElem?_eq_getElem hi'];rfl)
  ·rintro e w1 ⟨v,rfl,own,hnz,hb⟩
   obtain ⟨ao,c,rfl⟩:=pq own
   rw[List.map_map] at own
   have own':w1.ownsRow w.heap.size 5 1 (.slice ao n c) n (bs.map U8):=own
   obtain ⟨dp,ho,hf⟩:=Out.own own'
   exact ⟨ao,c,rfl,⟨dp,ho,hf⟩,⟨hb.os,hb.tape,hb.output,hb.size,fun b hb' _=>hb.block b hb'⟩⟩
set_option maxHeartbeats 4000000 in
theorem zm (g:Nat) (dp:Option Pl) (M:DM) (now:Int) (aG:List UInt8) (n:Nat) (ao:Option Addr) (cap:Nat) (w:World) (hq:eP w g dp M) (vV:∀ q,dp=some q→q.g≠g) (hin:∀ e∈M.aH,e.In) (hso:M.aH.Pairwise (fun x y=>Op.bytesLess x.name y.name=true))
  (hn:Hid (aG.length=n)) (hs:At w ao aG) (hao:∀ b off,ao=some ⟨b,off,none⟩→b≠g) (hb:Bs (ao,aG) (.slice ao n cap) aG) (dC:In64 now) (hsk:In64 M.ax) (yN:∀ y∈M.bK,In64 y.time) (hlen:(cB M now aG).1.length≤900) :
  Calls Tryz.prog 218 #[.pointer (some ⟨g,0,none⟩),.int .i64 now,.slice ao n cap] w fun e w'=>∃ v',e = .returned v'∧LQ w w' g dp v' (cB M now aG):=by
 obtain ⟨R,hR⟩:∃ R,cB M now aG=R:=⟨_,rfl⟩
 obtain ⟨m,hm⟩:∃ m,R.1.length=m:=⟨_,rfl⟩
 have hbk:R.2.aH=M.aH:=by rw[←hR];exact Jb M now aG
 rw[hR] at hlen ⊢
 have HT1:=hid (KN g 222 false w hq.pool)
 have HT2:Hid (∀ W,kH W g 222 true false→Calls Tryz.prog 221 #[.pointer (some ⟨g,222,none⟩)] W fun e w'=>e = .returned (.pointer (some ⟨g,523,none⟩))∧kH w' g 222 true true∧CF W w' (fun b y=>b=g∧y=823)):=fun W h=>Ie g 222 W h
 have HD:Hid (∀ W,CF w W (fun b y=>b=g∧222≤y)→cz W g 0 dp M∧QJ g M.aH W∧At W ao aG∧Live W g 824):=fun W k=>
  ⟨hq.dX.cf k (fun j _ hj e=>by omega) (fun q hq' j _ e=>vV q hq' e.1),⟨hq.dX.aH.cf k (fun j h1 h2 e=>by omega),hq.look.cf k (fun j h1 h2 e=>by omega)⟩,hs.cf k (fun b off e j hj n=>hao b off e n.1),hq.pool.live.cf k⟩
 have HA:Hid (∀ W,CF w W (fun b y=>b=g∧222≤y)→Calls Tryz.prog 44 #[.pointer (some ⟨g,0,none⟩),.agg #[.iface 119 (.pointer (some ⟨g,0,none⟩)),.slice (some ⟨g,222,none⟩) 0 300,.slice (some ⟨g,523,none⟩) 0 300],.int .i64 now,.slice ao n cap] W fun e w'=>∃ v',e = .returned v'∧Fin W w' g (some ⟨g,222,300⟩) (some ⟨g,523,300⟩) dp (XK g) v' R∧QJ g M.aH w'):=by
  intro W k
  obtain ⟨h1,h2,h3,h4⟩:=HD.out W k
  rw[←hR]
  exact xe g 119 (.pointer (some ⟨g,0,none⟩)) (.pointer (some ⟨g,0,none⟩)) (.slice (some ⟨g,222,none⟩) 0 300) (.slice (some ⟨g,523,none⟩) 0 300) (some ⟨g,222,300⟩) (some ⟨g,523,300⟩) dp _ _ _ M now (ao,aG) aG n ao cap W (TM W g dp M h1 vV hin hso) h1 h2 (.inr ⟨_,rfl,rfl,Nat.zero_le _,by unfold maxLen;show 300≤_;decide,h4.mono (by show 222+300≤824;omega),fun j v hv=>by simp at hv⟩) (.inr ⟨_,rfl,rfl,Nat.zero_le _,by unfold maxLen;show 300≤_;decide,h4.mono (by show 523+300≤824;omega),fun j v hv=>by simp at hv⟩) hn h3 hb (fun b off e j hj=>⟨fun h=>by obtain ⟨q,hq',e1,_⟩:=h;injection hq' with hq';subst hq';exact hao b off e e1,fun h=>hao b off e h.1⟩) dC hsk yN
 have HL:=hid hlen
 have HM:=hid hm
 have F5:=hid hbk
 have HQ:=hid (And.intro hq vV)
 clear hq vV hin hso hn hs hao hb dC hsk yN hlen hR hm hbk
 go_enter_defers Tryz.func218,Tryz.ntmps218
 go_wp2_with (first
  | (go_at_call 221;refine HT1.out.mono ?_;clear HT1;rintro e w1 ⟨rfl,p1,C1⟩;have HP1:=hid p1;have wI:=hid C1;clear p1 C1)
  | (go_at_call 221;refine (HT2.out _ HP1.out).mono ?_;clear HT2;rintro e w2 ⟨rfl,p2,C2⟩;have Vf:=hid p2;have Kr:Hid (CF w w2 (fun b y=>b=g∧222≤y)):=(wI.out.mono (fun _ _ _ e=>⟨e.1,by omega⟩)).trans C2 (fun _ _ _ e=>⟨e.1,by omega⟩);clear p2 C2 HP1 wI)
  | (go_at_call 223;refine (RH _ _ _).mono ?_;rintro e w3 ⟨rfl,rfl⟩))
 obtain ⟨W3,hW3⟩:∃ W,W=w2.alloc (.cells #[.iface 119 (.pointer (some ⟨g,0,none⟩)),.slice (some ⟨g,222,none⟩) 0 300,.slice (some ⟨g,523,none⟩) 0 300] 142):=⟨_,rfl⟩
 rw[←hW3]
 have rU:Hid (w2.grownBy W3 none):=by show World.grownBy _ _ _;rw[hW3];exact World.grownBy_alloc _ _ none
 have HR3:Hid (W3.rangeAt w2.heap.size 0 [.iface 119 (.pointer (some ⟨g,0,none⟩)),.slice (some ⟨g,222,none⟩) 0 300,.slice (some ⟨g,523,none⟩) 0 300]):=by show World.rangeAt _ _ _ _;rw[hW3];exact aQ w2 #[.iface 119 (.pointer (some ⟨g,0,none⟩)),.slice (some ⟨g,222,none⟩) 0 300,.slice (some ⟨g,523,none⟩) 0 300] _
 clear hW3
 have x0:W3.cell? ⟨w2.heap.size,0,none⟩=some (.iface 119 (.pointer (some ⟨g,0,none⟩))):=HR3.out 0 _ rfl
 have x1:W3.cell? ⟨w2.heap.size,1,none⟩=some (.slice (some ⟨g,222,none⟩) 0 300):=HR3.out 1 _ rfl
 have x2:W3.cell? ⟨w2.heap.size,2,none⟩=some (.slice (some ⟨g,523,none⟩) 0 300):=HR3.out 2 _ rfl
 have MO:Hid (CF w W3 (fun b y=>b=g∧222≤y)):=Kr.out.trans (CF.aW rU.out (fun _ _=>False)) (fun _ _ _ e=>e.elim)
 have Hgw:Hid (g<w2.heap.size):=by have h1:=(HD.out _ Kr.out).2.2.2.lt;exact h1
 have HFx:Hid (∀ w' v',Fin (W3.drewN 1) w' g (some ⟨g,222,300⟩) (some ⟨g,523,300⟩) dp (XK g) v' R→(∃ a c,v' = .slice a m c)∧CF W3 w' (fun b _=>b=g)∧(w'.cell? ⟨w2.heap.size,0,none⟩=some (.iface 119 (.pointer (some ⟨g,0,none⟩)))∧w'.cell? ⟨w2.heap.size,1,none⟩=some (.slice (some ⟨g,222,none⟩) 0 300)∧w'.cell? ⟨w2.heap.size,2,none⟩=some (.slice (some ⟨g,523,none⟩) 0 300))):=fun w' v' h=>by
  have hc:CF W3 w' (fun b _=>b=g):=h.cf.qm.mono (fun b y _ e=>by
   rcases e with e|(e | e) | e
   ·exact e.1
   ·exact e.1
   ·obtain ⟨q,hq,e1,_⟩:=e;injection hq with hq;subst hq;exact e1
   ·obtain ⟨q,hq,e1,_⟩:=e;injection hq with hq;subst hq;exact e1)
  refine ⟨?_,hc,hc.cell x0 (fun e=>by have:=Hgw.out;omega),hc.cell x1 (fun e=>by have:=Hgw.out;omega),hc.cell x2 (fun e=>by have:=Hgw.out;omega)⟩
  obtain ⟨p',ho,_⟩:=h.out
  obtain ⟨a,c,hv,_⟩:=ho.shape
  exact ⟨a,c,by rw[hv,HM.out]⟩
 have HCl:Hid (∀ (W:World) a c p,Out W (.slice a m c) p R.1→Calls Tryz.prog 55 #[.slice a m c] W fun e w'=>∃ ao c,e = .returned (.slice ao m c)∧(∃ p',Out w' (.slice ao m c) p' R.1∧Pl.fresh W.heap.size p')∧W.grownBy w' none):=fun W a c p h=>Pq _ p R.1 m W h HM (by have:=HL.out;have:=HM.out;omega)
 go_region_held3 (fun w'=>w'.cell? ⟨w2.heap.size,0,none⟩=some (.iface 119 (.pointer (some ⟨g,0,none⟩)))∧w'.cell? ⟨w2.heap.size,1,none⟩=some (.slice (some ⟨g,222,none⟩) 0 300)∧w'.cell? ⟨w2.heap.size,2,none⟩=some (.slice (some ⟨g,523,none⟩) 0 300)) (go_keep) (first
  | (go_at_call 44;refine (HA.out _ (MO.out.trans (CF.aW (aO (World.grownBy.refl _ _) 1) (fun _ _=>False)) (fun _ _ _ e=>e.elim))).mono ?_;rintro e w4 ⟨v4,rfl,F4,j4⟩;have HF4:=hid F4;have HJ4:=hid j4;obtain ⟨⟨a4,c4,hv4⟩,C4,y0,y1,y2⟩:=HFx.out _ _ F4;have XL:=hid C4;subst hv4;obtain ⟨p4,o4,_⟩:=F4.out;have HO4:=hid o4;clear F4 j4 C4 o4)
  | (go_at_call 55;refine (HCl.out _ _ _ _ HO4.out).mono ?_;rintro e w5 ⟨a5,c5,rfl,o5,g5⟩;have HO5:=hid o5;have SA:=hid g5;have z0:=g5.cell y0 (by simp);have z1:=g5.cell y1 (by simp);have z2:=g5.cell y2 (by simp);clear o5 g5))
 go_wp2
 have HL5:Live w5 g 824:=((HD.out _ MO.out).2.2.2.cf XL.out).grown SA.out
 refine leaves_cons (f:=222) (args:=#[.pointer (some ⟨g,523,none⟩)]) (by simp) (by simp[go_sem]) ?_
 refine (wM g 523 .returning _ (HL5.mono (by decide))).mono ?_
 rintro e u' w6 ⟨rfl,rfl,c6,C6⟩
 refine leaves_cons (f:=222) (args:=#[.pointer (some ⟨g,222,none⟩)]) (by simp[settle]) (by simp[go_sem]) ?_
 refine (wM g 222 _ _ ((HL5.cf C6).mono (by decide))).mono ?_
 rintro e u' w7 ⟨rfl,rfl,c7,C7⟩
 refine ⟨_,results_tmp rfl _ _ _,_,rfl,?_⟩
 have C56:CF w5 w6 (fun b y=>b=g∧222≤y):=C6.mono (fun _ _ _ e=>⟨e.1,by omega⟩)
 have C57:CF w5 w7 (fun b y=>b=g∧222≤y):=C56.trans C7 (fun _ _ _ e=>⟨e.1,by omega⟩)
 have C47:CF w4 w7 (fun b y=>b=g∧222≤y):=(CF.aW SA.out _).trans C57 (fun _ _ _ e=>e)
 have hg4:g<w4.heap.size:=((HD.out _ MO.out).2.2.2.cf XL.out).lt
 have s4:w.heap.size≤w4.heap.size:=Nat.le_trans MO.out.size XL.out.size
 refine ⟨?_,?_,?_⟩
 ·obtain ⟨p',ho,hf⟩:=HO5.out
  exact ⟨p',ho.cf C57 (fun q hq j _ e=>by have:=hf q hq;omega),fun q hq=>Nat.le_trans s4 (hf q hq)⟩
 ·obtain ⟨rH,hd,hs⟩:=HF4.out.dX
  have hne:∀ q,rH=some q→q.g≠g:=fun q hq e=>by
   obtain ⟨q0,h0,h1⟩:=hs q hq
   exact HQ.out.2 q0 h0 (h1.trans e)
  refine ⟨rH,⟨hd.cf C47 (fun j _ hj e=>by omega) (fun q hq j _ e=>hne q hq e.1),?_,?_⟩,hs⟩
  ·rw[F5.out]
   obtain ⟨ls,nx,h1,h2⟩:=HJ4.out.2
   exact ⟨ls,nx,h1.cf C47 (fun j h3 h4 e=>by omega),h2⟩
  ·exact ⟨HL5.cf C57,c7,C7.cell c6 (fun e=>by omega)⟩
 ·exact (((MO.out.mono (fun _ _ _ e=>e.1)).trans XL.out (fun _ _ _ e=>e)).trans C47 (fun _ _ _ e=>e.1))
end Go.Proofs.YtpibgolaaaemnaaGreatDoor
namespace Go.Proofs.YtpibgolaaaemnaaGreatDoor
open Go.RowKit
set_option maxRecDepth 100000
theorem cz.Nf {w w':World} {g:Nat} {dp:Option Pl} {d:DM} {es:List BE} (h:cz w g 0 dp d) (k:CF w w' (EM g 2)) (hb:bE w' g 2 es) (hd:∀ q,dp=some q→q.g≠g):cz w' g 0 dp {d with aH:=es}:=by
 obtain ⟨v,hv,ho⟩:=h.aV
 refine ⟨h.live.cf k,k.cell h.ax (fun e=>by have:=e.2.1;omega),⟨v,k.cell hv (fun e=>by have:=e.2.1;omega),ho.cf k (fun q hq j _ e=>hd q hq e.1)⟩,hb,k.range h.bK (fun j _ e=>by have:=e.2.2;omega),k.cell h.count (fun e=>by have:=e.2.2;omega),h.few⟩
theorem Ps {es:List BE} {a:jJ} (h:(fU es a).2≠0):(fU es a).1=es:=by
 unfold fU at h ⊢
 repeat' split
 all_goals first | rfl|(simp_all)
set_option maxHeartbeats 2000000 in
theorem BB (g:Nat) (dp:Option Pl) (M:DM) (n:Nat) (a:jJ) (w:World) (hq:eP w g dp M) (vV:∀ q,dp=some q→q.g≠g) (hok:kg n M.aH) (hn:n≤4611686018427387904) (hf0:-9223372036854775808≤a.ay) (hf1:a.ay≤9223372036854775807) (hl:a.name.length≤9223372036854775807) :
  Calls Tryz.prog 217 #[.pointer (some ⟨g,0,none⟩),.agg a.cells] w fun e w'=>e = .returned (.int .i64 (fU M.aH a).2)∧eP w' g dp {M with aH:=(fU M.aH a).1}∧CF w w' (fun b _=>b=g):=by
 have YH:=hid (fun w h=>uC g 0 M.aH a w h hok.sorted (fun e he=>⟨(hok.num e he).1,by have:=(hok.num e he).2;omega⟩) hf0 hf1 hl)
 have G0:=hid (World.grownBy_alloc w (.cells a.cells 43) none)
 have HB:=hid (hq.dX.aH.grown G0.out)
 have hlt:=hq.dX.live.lt
 have hne:w.heap.size≠g:=fun e=>by omega
 obtain ⟨c0,c1,c2,c3,c4,c5,c6⟩:=sK.new w a 43
 obtain ⟨r,hr⟩:∃ r,(fU M.aH a).2=r:=⟨_,rfl⟩
 obtain ⟨es',hes⟩:∃ es',(fU M.aH a).1=es':=⟨_,rfl⟩
 have HSame:Hid (r≠0→es'=M.aH):=fun h=>by rw[←hes];exact Ps (by rw[hr];exact h)
 rw[hr,hes] at YH
 rw[hr,hes]
 have HQ:Hid (∀ W,CF w W (EM g 2)→bE W g 2 es'→cz W g 0 dp {M with aH:=es'}∧kH W g 222 false false∧uf W g M.aH∧Live W g (188+34)):=fun W k hb=>
  ⟨hq.dX.Nf k hb vV,hq.pool.cf k (fun e=>by have:=e.2;omega) (fun e=>by have:=e.2;omega),hq.look.cf k (fun j h1 h2 e=>by have:=e.2;omega),hq.pool.live.mono (by decide) |>.cf k⟩
 have MR:=hid vV
 clear hq hok hn hf0 hf1 hl hr hes vV
 by_cases h0:r=0
 ·subst h0
  go_enter Tryz.func217,Tryz.ntmps217
  go_wp2_with fail
  go_region_held3 (fun w'=>w'.cell? ⟨w.heap.size,0,none⟩=some (.int .i64 a.kind)∧w'.cell? ⟨w.heap.size,1,none⟩=some (.string ⟨a.name.toArray⟩)∧w'.cell? ⟨w.heap.size,2,none⟩=some (.int .u64 (a.key.toNat:Int))∧w'.cell? ⟨w.heap.size,3,none⟩=some (.int .i64 a.cO)∧w'.cell? ⟨w.heap.size,4,none⟩=some (.int .i64 a.aF)∧w'.cell? ⟨w.heap.size,5,none⟩=some (.int .i64 a.bU)∧w'.cell? ⟨w.heap.size,6,none⟩=some (.int .i64 a.ay)) (go_keep) (first|(go_at_call 31;refine (YH.out _ (HB.out.drewN 1)).mono ?_;rintro e w6 ⟨rfl,b6,C6⟩;have Wn:=hid b6;have HC6:=hid C6.bM;have e0:=C6.bM.cell c0 (fun q=>hne q.1);have e1:=C6.bM.cell c1 (fun q=>hne q.1);have e2:=C6.bM.cell c2 (fun q=>hne q.1);have e3:=C6.bM.cell c3 (fun q=>hne q.1);have e4:=C6.bM.cell c4 (fun q=>hne q.1);have e5:=C6.bM.cell c5 (fun q=>hne q.1);have e6:=C6.bM.cell c6 (fun q=>hne q.1);clear b6 C6))
  have TN:=hid (CF.before G0.out HC6.out)
  have HP:=hid (HQ.out _ TN.out Wn.out)
  go_wp2_with (go_at_call 220;refine (KM g 188 _ HP.out.2.2.2).mono ?_;rintro e w7 ⟨rfl,l7,C7⟩;have HL7:=hid l7;have HC7:=hid C7;clear l7 C7)
  go_ret
  refine ⟨rfl,⟨HP.out.1.cf HC7.out (fun j _ hj e=>by omega) (fun q hq j _ e=>?_),⟨[],0,HL7.out,fun e he=>by cases he⟩,HP.out.2.1.cf HC7.out (fun e=>by omega) (fun e=>by omega)⟩,(TN.out.mono (fun _ _ _ e=>e.1)).trans HC7.out (fun _ _ _ e=>e.1)⟩
  exact MR.out q hq e.1
 ·have hb0:(r==0)=false:=by simpa using h0
  have HR0:=hid h0
  clear h0
  go_enter Tryz.func217,Tryz.ntmps217
  go_wp2_with fail
  go_region_held3 (fun w'=>w'.cell? ⟨w.heap.size,0,none⟩=some (.int .i64 a.kind)∧w'.cell? ⟨w.heap.size,1,none⟩=some (.string ⟨a.name.toArray⟩)∧w'.cell? ⟨w.heap.size,2,none⟩=some (.int .u64 (a.key.toNat:Int))∧w'.cell? ⟨w.heap.size,3,none⟩=some (.int .i64 a.cO)∧w'.cell? ⟨w.heap.size,4,none⟩=some (.int .i64 a.aF)∧w'.cell? ⟨w.heap.size,5,none⟩=some (.int .i64 a.bU)∧w'.cell? ⟨w.heap.size,6,none⟩=some (.int .i64 a.ay)) (go_keep) (first|(go_at_call 31;refine (YH.out _ (HB.out.drewN 1)).mono ?_;rintro e w6 ⟨rfl,b6,C6⟩;have Wn:=hid b6;have HC6:=hid C6.bM;have e0:=C6.bM.cell c0 (fun q=>hne q.1);have e1:=C6.bM.cell c1 (fun q=>hne q.1);have e2:=C6.bM.cell c2 (fun q=>hne q.1);have e3:=C6.bM.cell c3 (fun q=>hne q.1);have e4:=C6.bM.cell c4 (fun q=>hne q.1);have e5:=C6.bM.cell c5 (fun q=>hne q.1);have e6:=C6.bM.cell c6 (fun q=>hne q.1);clear b6 C6))
  have TN:=hid (CF.before G0.out HC6.out)
  have HP:=hid (HQ.out _ TN.out Wn.out)
  go_wp2
  go_ret
  refine ⟨rfl,⟨HP.out.1,?_,HP.out.2.1⟩,TN.out.mono (fun _ _ _ e=>e.1)⟩
  rw[HSame.out HR0.out]
  exact HP.out.2.2.1
end Go.Proofs.YtpibgolaaaemnaaGreatDoor
namespace Go.Proofs.YtpibgolaaaemnaaGreatDoor
open Go.RowKit
set_option maxRecDepth 100000
theorem BC (g:Nat):∀ W,(method 434 119 (.pointer (some ⟨g,0,none⟩)) "Admin").run Tryz.prog W = .ok (217,.pointer (some ⟨g,0,none⟩)) W:=fun _=>by kernel_rfl
theorem yO (g:Nat):∀ W,(method 434 119 (.pointer (some ⟨g,0,none⟩)) "Answer").run Tryz.prog W = .ok (218,.pointer (some ⟨g,0,none⟩)) W:=fun _=>by kernel_rfl
abbrev bF (a:jJ) (now:Int) (v:Value):Array Value:=#[.int .i64 a.kind,.string ⟨a.name.toArray⟩,.int .u64 (a.key.toNat:Int),.int .i64 a.cO,.int .i64 a.aF,.int .i64 a.bU,.int .i64 a.ay,.int .i64 now,v]
theorem Tryz.Jc:(Tryz.prog.info? 71).map (·.size)=some 2:=by kernel_rfl
theorem LU (w:World) (b:Nat) (v0 v1:Value) {d0 d1:Value} (q0:w.cell? ⟨b,0,none⟩=some d0) (q1:w.cell? ⟨b,1,none⟩=some d1):((w.setCell ⟨b,0,none⟩ v0).setCell ⟨b,1,none⟩ v1).rangeAt b 0 [v0,v1]:=by
 intro j v hv
 match j,hv with
 | 0,hv=>
  injection hv with hv
  subst hv
  rw[World.cell?_setCell_other _ _ _ _ (fun e=>by injection e with _ e;omega)]
  exact World.cell?_setCell_same _ _ _ q0
 | 1,hv=>
  injection hv with hv
  subst hv
  exact World.cell?_setCell_same _ _ _ (by rw[World.cell?_setCell_other _ _ _ _ (fun e=>by injection e with _ e;omega)];exact q1)
 | j+2,hv=>simp at hv
theorem LQ.shape {w w':World} {g:Nat} {dp:Option Pl} {v':Value} {R:List UInt8×DM} (h:LQ w w' g dp v' R):∃ a c,v' = .slice a R.1.length c:=by
 obtain ⟨p',ho,_⟩:=h.out
 obtain ⟨a,c,hv,_⟩:=ho.shape
 exact ⟨a,c,hv⟩
theorem LQ.after {w W w1 w2:World} {g:Nat} {dp:Option Pl} {v':Value} {R:List UInt8×DM} (h:LQ W w1 g dp v' R) (G:w.grownBy W none) (b0:Nat) (hb0:w.heap.size≤b0) (hb1:b0<W.heap.size) (hg:g<w.heap.size) (hd:∀ q,dp=some q→q.g<w.heap.size) (k:CF w1 w2 (fun b _=>b=b0)):LQ w w2 g dp v' R:=by
 obtain ⟨p',ho,hf⟩:=h.out
 obtain ⟨rH,hq,hs⟩:=h.dX
 refine ⟨⟨p',ho.cf k (fun q hq j _ e=>by have:=hf q hq;omega),fun q hq=>Nat.le_trans G.size (hf q hq)⟩,⟨rH,hq.cf k (fun _ e=>by omega) (fun q hq _ e=>?_),hs⟩,(CF.before G h.cf).trans k (fun _ _ hlt e=>by omega)⟩
 obtain ⟨q0,h0,h1⟩:=hs q hq
 have:=hd q0 h0
 omega
set_option maxHeartbeats 2000000 in
theorem TP (g:Nat) (dp:Option Pl) (M:DM) (n:Nat) (a:jJ) (now:Int) (v:Value) (w:World) (hq:eP w g dp M) (vV:∀ q,dp=some q→q.g≠g) (hok:kg n M.aH) (hn:n≤4611686018427387904) (hf0:-9223372036854775808≤a.ay) (hf1:a.ay≤9223372036854775807) (hl:a.name.length≤9223372036854775807) (hk:(a.kind==0)=false) :
  Calls Tryz.prog 42 #[.iface 119 (.pointer (some ⟨g,0,none⟩)),.agg (bF a now v)] w fun e w'=>e = .returned (.agg #[.slice none 0 0,.int .i64 (fU M.aH a).2])∧eP w' g dp {M with aH:=(fU M.aH a).1}∧CF w w' (fun b _=>b=g):=by
 obtain ⟨W0,hW0⟩:∃ W,W=(w.alloc (.cells (bF a now v) 45)).alloc (.cells #[.slice none 0 0,.int .i64 0] 71):=⟨_,rfl⟩
 have G0:w.grownBy W0 none:=by rw[hW0];exact aC (World.grownBy_alloc w _ none) _
 have RJ:W0.rangeAt w.heap.size 0 (bF a now v).toList:=by rw[hW0];exact fH (aQ w (bF a now v) _) (World.grownBy_alloc _ _ none)
 have LD:Live W0 (w.heap.size+1) 2:=by
  have h:=Live.new (w.alloc (.cells (bF a now v) 45)) #[.slice none 0 0,.int .i64 0] 71
  rw[World.size_alloc] at h
  rw[hW0]
  exact h
 have k0:W0.cell? ⟨w.heap.size,0,none⟩=some (.int .i64 a.kind):=RJ 0 _ rfl
 have k1:W0.cell? ⟨w.heap.size,1,none⟩=some (.string ⟨a.name.toArray⟩):=RJ 1 _ rfl
 have k2:W0.cell? ⟨w.heap.size,2,none⟩=some (.int .u64 (a.key.toNat:Int)):=RJ 2 _ rfl
 have k3:W0.cell? ⟨w.heap.size,3,none⟩=some (.int .i64 a.cO):=RJ 3 _ rfl
 have k4:W0.cell? ⟨w.heap.size,4,none⟩=some (.int .i64 a.aF):=RJ 4 _ rfl
 have k5:W0.cell? ⟨w.heap.size,5,none⟩=some (.int .i64 a.bU):=RJ 5 _ rfl
 have k6:W0.cell? ⟨w.heap.size,6,none⟩=some (.int .i64 a.ay):=RJ 6 _ rfl
 have HC:=hid (BB g dp M n a W0 (hq.grown G0) vV hok hn hf0 hf1 hl)
 have HM:=hid (BC g)
 have hm:=BC g
 have hgl:g<w.heap.size:=hq.dX.live.lt
 have HL:=hid LD
 have HG:=hid G0
 have HW0:=hid hW0
 have HDl:Hid (∀ q,dp=some q→q.g<w.heap.size):=fun q h=>hq.dX.Et h
 obtain ⟨r,hr⟩:∃ r,(fU M.aH a).2=r:=⟨_,rfl⟩
 obtain ⟨M',hM'⟩:∃ M',({M with aH:=(fU M.aH a).1}:DM)=M':=⟨_,rfl⟩
 rw[hr,hM'] at HC
 rw[hr,hM']
 have YO:=hid hgl
 clear hq vV hok hn hf0 hf1 hl RJ LD G0 hW0 hr hM' hgl HM
 go_enter Tryz.func42,Tryz.ntmps42
 go_wp2_with (first|(rw[←HW0.out];fail_if_success done)|(go_at_call 217;refine HC.out.mono ?_;clear HC;rintro e w1 ⟨rfl,q1,C1⟩;have HQ1:=hid q1;have wI:=hid C1;have hL:=HL.out.cf C1;obtain ⟨d0,e0⟩:=Option.isSome_iff_exists.1 (hL.some 0 (by decide));obtain ⟨d1,e1⟩:=Option.isSome_iff_exists.1 (hL.some 1 (by decide));have f0:=hL.frozen 0;have f1:=hL.frozen 1;clear q1 C1 hL))
 refine bodyPost_ret (dQ Tryz.results42 _ _ _ (w.heap.size+1) rfl _ (dN (LU w1 (w.heap.size+1) _ _ e0 e1) 71 _ Tryz.underlying71 rfl Tryz.Jc)) rfl ⟨rfl,?_,?_⟩
 ·refine HQ1.out.cf (ex:=fun b _=>b=w.heap.size+1) ?_ (fun _ e=>by have:=YO.out;omega) (fun q hq _ e=>?_)
  ·repeat refine CF.setCell ?_ _ _ _ (fun _=>rfl)
   exact CF.refl _ _
  ·have h1:=HDl.out q hq;omega
 ·refine (CF.before HG.out wI.out).trans (Yu:=fun b _=>b=w.heap.size+1) ?_ (fun _ _ hlt e=>by omega)
  repeat refine CF.setCell ?_ _ _ _ (fun _=>rfl)
  exact CF.refl _ _
set_option maxHeartbeats 2000000 in
theorem Pt (g:Nat) (dp:Option Pl) (M:DM) (a:jJ) (now:Int) (aG:List UInt8) (n:Nat) (ao:Option Addr) (cap:Nat) (w:World) (hq:eP w g dp M) (vV:∀ q,dp=some q→q.g≠g) (hin:∀ e∈M.aH,e.In) (hso:M.aH.Pairwise (fun x y=>Op.bytesLess x.name y.name=true)) (hn:Hid (aG.length=n)) (hs:At w ao aG) (hao:∀ b off,ao=some ⟨b,off,none⟩→b≠g) (hb:Bs (ao,aG) (.slice ao n cap) aG) (dC:In64 now) (hsk:In64 M.ax) (yN:∀ y∈M.bK,In64 y.time) (hlen:(cB M now aG).1.length≤900) (hk:(a.kind==0)=true) :
  Calls Tryz.prog 42 #[.iface 119 (.pointer (some ⟨g,0,none⟩)),.agg (bF a now (.slice ao n cap))] w fun e w'=>∃ v',e = .returned (.agg #[v',.int .i64 0])∧LQ w w' g dp v' (cB M now aG):=by
 obtain ⟨W0,hW0⟩:∃ W,W=(w.alloc (.cells (bF a now (.slice ao n cap)) 45)).alloc (.cells #[.slice none 0 0,.int .i64 0] 71):=⟨_,rfl⟩
 have G0:w.grownBy W0 none:=by rw[hW0];exact aC (World.grownBy_alloc w _ none) _
 have RJ:W0.rangeAt w.heap.size 0 (bF a now (.slice ao n cap)).toList:=by rw[hW0];exact fH (aQ w (bF a now (.slice ao n cap)) _) (World.grownBy_alloc _ _ none)
 have LD:Live W0 (w.heap.size+1) 2:=by
  have h:=Live.new (w.alloc (.cells (bF a now (.slice ao n cap)) 45)) #[.slice none 0 0,.int .i64 0] 71
  rw[World.size_alloc] at h
  rw[hW0]
  exact h
 have k0:W0.cell? ⟨w.heap.size,0,none⟩=some (.int .i64 a.kind):=RJ 0 _ rfl
 have k7:W0.cell? ⟨w.heap.size,7,none⟩=some (.int .i64 now):=RJ 7 _ rfl
 have k8:W0.cell? ⟨w.heap.size,8,none⟩=some (.slice ao n cap):=RJ 8 _ rfl
 have HC:=hid (zm g dp M now aG n ao cap W0 (hq.grown G0) vV hin hso hn (hs.below G0) hao hb dC hsk yN hlen)
 have HM:=hid (yO g)
 have hm:=yO g
 have hgl:g<w.heap.size:=hq.dX.live.lt
 have HL:=hid LD
 have HG:=hid G0
 have HW0:=hid hW0
 have HDl:Hid (∀ q,dp=some q→q.g<w.heap.size):=fun q h=>hq.dX.Et h
 obtain ⟨R,hR⟩:∃ R,cB M now aG=R:=⟨_,rfl⟩
 rw[hR] at HC ⊢
 have YO:=hid hgl
 clear hq vV hin hso hn hs hao hb dC hsk yN hlen RJ LD G0 hW0 hR hgl HM
 go_enter Tryz.func42,Tryz.ntmps42
 go_wp2_with (first|(rw[←HW0.out];fail_if_success done)|(go_at_call 218;refine HC.out.mono ?_;clear HC;rintro e w1 ⟨v1,rfl,F1⟩;obtain ⟨a1,c1,hv1⟩:=F1.shape;subst hv1;have XD:=hid F1;have hL:=HL.out.cf F1.cf;obtain ⟨d0,e0⟩:=Option.isSome_iff_exists.1 (hL.some 0 (by decide));obtain ⟨d1,e1⟩:=Option.isSome_iff_exists.1 (hL.some 1 (by decide));have f0:=hL.frozen 0;have f1:=hL.frozen 1;clear F1 hL))
 refine bodyPost_ret (dQ Tryz.results42 _ _ _ (w.heap.size+1) rfl _ (dN (LU w1 (w.heap.size+1) _ _ e0 e1) 71 _ Tryz.underlying71 rfl Tryz.Jc)) rfl ⟨_,rfl,?_⟩
 refine XD.out.after HG.out (w.heap.size+1) (Nat.le_succ _) (by have h1:=HL.out.lt;have h2:=XD.out.cf.size;omega) YO.out HDl.out ?_
 repeat refine CF.setCell ?_ _ _ _ (fun _=>rfl)
 exact CF.refl _ _
end Go.Proofs.YtpibgolaaaemnaaGreatDoor
