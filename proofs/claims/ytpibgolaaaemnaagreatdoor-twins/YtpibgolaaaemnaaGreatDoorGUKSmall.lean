/-
  
  
-/
import Derived.Test.YtpibgolaaaemnaaGreatDoorGUQSt
import Derived.Test.YtpibgolaaaemnaaGreatDoorGUKReadE
namespace Go.Proofs.YtpibgolaaaemnaaGreatDoor
open Go.RowKit
set_option maxRecDepth 100000
def fZ (c:Int) (n:Nat):Nat:=if c<0 then (-(c+1)).toNat % n else c.toNat % n
theorem Jn {a b:Int} (h:a=b):Ending.returned (.int .i64 a) = .returned (.int .i64 b):=by rw[h]
theorem PL (c n:Int) (h:c<0) (hn:1≤n):-(c+1).tmod n=((fZ c n.toNat:Nat):Int):=by
 unfold fZ
 rw[if_pos h,←Int.neg_tmod,Int.tmod_eq_emod_of_nonneg (by omega),Int.natCast_emod,Int.toNat_of_nonneg (by omega),Int.toNat_of_nonneg (by omega)]
theorem PM (c n:Int) (h:0≤c) (hn:1≤n):c % n=((fZ c n.toNat:Nat):Int):=by
 unfold fZ
 rw[if_neg (by omega),Int.natCast_emod,Int.toNat_of_nonneg h,Int.toNat_of_nonneg (by omega)]
theorem gL (c:Int) (n:Nat) (hn:1≤n):fZ c n<n:=by
 unfold fZ;split <;> exact Nat.mod_lt _ hn
set_option maxHeartbeats 400000 in
theorem Ee (c:Int) (n:Int) (w:World) (hc:-9223372036854775808≤c∧c≤9223372036854775807) (hn:1≤n∧n≤9223372036854775807) :
  Calls Tryz.prog 4 #[.int .i64 c,.int .i64 n] w fun e w'=>e = .returned (.int .i64 (fZ c n.toNat:Int))∧w=w':=by
 obtain ⟨c1,c2⟩:=hc
 obtain ⟨n1,n2⟩:=hn
 by_cases h:c<0
 ·go_enter Tryz.func4,Tryz.ntmps4
  go_wp2
  go_ret
  exact ⟨Jn (PL c n h n1),rfl⟩
 ·go_enter Tryz.func4,Tryz.ntmps4
  go_wp2
  go_ret
  exact ⟨Jn (PM c n (by omega) n1),rfl⟩
def dL (n:Nat) (w:World) (o:Value) (z:List UInt8):Prop:=w.ownsRow n 5 1 o z.length (z.map U8)
def KH (w:World) (v:Value) (zs:List UInt8):Prop:=∃ ao cap,v = .slice ao zs.length cap∧zs.length≤cap∧cap≤9223372036854775807∧(ao=none→cap=0)∧At w ao zs
theorem KH.grown {w w':World} {v:Value} {zs:List UInt8} (h:KH w v zs) (k:w.grownBy w' none):KH w' v zs:=by
 obtain ⟨ao,cap,h1,h2,h3,h4,h5⟩:=h
 exact ⟨ao,cap,h1,h2,h3,h4,h5.below k⟩
theorem KH.out {w:World} {v:Value} {p:Option Pl} {zs:List UInt8} (h:Out w v p zs):KH w v zs:=by
 obtain ⟨ao,cap,h1,h2,h3,h4,h5⟩:=h.shape
 exact ⟨ao,cap,h1,h2,by unfold maxLen at h3;exact h3,h5,h4⟩
theorem dL.has {n:Nat} {w:World} {o:Value} {z:List UInt8} (h:dL n w o z):KH w o z:=by
 obtain ⟨p,ho,_⟩:=Out.own h
 exact KH.out ho
theorem KH.shape {w:World} {v:Value} {zs:List UInt8} (h:KH w v zs):∃ ao cap,v = .slice ao zs.length cap:=by
 obtain ⟨ao,cap,h1,_⟩:=h
 exact ⟨ao,cap,h1⟩
theorem dL.grown {n:Nat} {w w':World} {o:Value} {z:List UInt8} (h:dL n w o z) (k:w.grownBy w' none):dL n w' o z:=World.ownsRow.kept h k (Classical.em _)
set_option maxHeartbeats 1000000 in
theorem uj (l:List UInt8) (w:World) (hl:l.length≤255) :
  Calls Tryz.prog 17 #[.string ⟨l.toArray⟩] w fun e w'=>∃ o,e = .returned o∧dL w.heap.size w' o (bD l)∧w.grownBy w' none:=by
 have hl2:l.length≤140737488355328:=by omega
 go_enter Tryz.func17,Tryz.ntmps17
 go_wp2_with (first|(refine ze _ rfl _ 9 25 rfl 5 Tryz.underlying9 Tryz.underlying25 Tryz.underlying5 l rfl hl2 ?_;intro b3 ahc w3 hc3 anI Cu hg3)|(go_at_call 29;refine (Jj 4 l l.length _ _ _ (hid rfl) hl (hid (fun h=>by cases h)) Cu).mono ?_;rintro e w1 ⟨o,rfl,q1,q2⟩))
 go_ret
 exact ⟨_,rfl,bZ q1 hg3.size,ae hg3 q2⟩
set_option maxHeartbeats 1000000 in
theorem L8 (q:Bool) (g:Nat) (dp:Option Pl) (M:DM) (w:World) (h:jm q w g dp M) :
  Calls Tryz.prog 12 #[.agg (uL q g)] w fun e w'=>∃ bn bu,e = .returned (.agg #[.slice (some ⟨bn,0,none⟩) M.aH.length M.aH.length,.slice (some ⟨bu,0,none⟩) M.aH.length M.aH.length,.int .i64 M.bK.length,.int .i64 M.aV.length])∧w'.ownsRow w.heap.size 9 1 (.slice (some ⟨bn,0,none⟩) M.aH.length M.aH.length) M.aH.length (M.aH.map fun x=>.string ⟨x.name.toArray⟩)∧w'.ownsRow w.heap.size 3 1 (.slice (some ⟨bu,0,none⟩) M.aH.length M.aH.length) M.aH.length (M.aH.map fun x=>.int .i64 x.ag)∧w.grownBy w' none:=by
 cases q with
 | false=>
  have G0:=hid (aC (World.grownBy_alloc w (.cells #[.pointer (some ⟨g,0,none⟩),.pointer none] 30) none) (.cells #[.slice none 0 0,.slice none 0 0,.int .i64 0,.int .i64 0] 54))
  obtain ⟨W0,hW0⟩:∃ W,W=(w.alloc (.cells #[.pointer (some ⟨g,0,none⟩),.pointer none] 30)).alloc (.cells #[.slice none 0 0,.slice none 0 0,.int .i64 0,.int .i64 0] 54):=⟨_,rfl⟩
  rw[←hW0] at G0
  have D0:W0.cell? ⟨w.heap.size,0,none⟩=some (.pointer (some ⟨g,0,none⟩)):=by
   have h:=fH (aQ w #[.pointer (some ⟨g,0,none⟩),.pointer none] 30) (World.grownBy_alloc _ (.cells #[.slice none 0 0,.slice none 0 0,.int .i64 0,.int .i64 0] 54) none)
   rw[hW0]
   exact h 0 _ rfl
  have HL:Hid (Live W0 (w.heap.size+1) 4):=by
   show Live _ _ _
   have h:=Live.new (w.alloc (.cells #[.pointer (some ⟨g,0,none⟩),.pointer none] 30)) #[.slice none 0 0,.slice none 0 0,.int .i64 0,.int .i64 0] 54
   rw[World.size_alloc] at h
   rw[hW0]
   exact h
  have HS:=hid (Aw g dp M W0 (jm.grown (q:=false) h G0.out))
  have HW0:=hid hW0
  clear h hW0
  unfold uL
  go_enter Tryz.func12,Tryz.ntmps12
  go_wp2_with (first|(rw[←HW0.out];fail_if_success done)|(go_at_call 25;refine HS.out.mono ?_;clear HS;rintro e wx ⟨bn,bu,rfl,oN,oU,gx⟩;have L:=HL.out.grown gx;obtain ⟨d0,q0⟩:=Option.isSome_iff_exists.1 (L.some 0 (by decide));obtain ⟨d1,q1⟩:=Option.isSome_iff_exists.1 (L.some 1 (by decide));obtain ⟨d2,q2⟩:=Option.isSome_iff_exists.1 (L.some 2 (by decide));obtain ⟨d3,q3⟩:=Option.isSome_iff_exists.1 (L.some 3 (by decide));have f0:=L.frozen 0;have f1:=L.frozen 1;have f2:=L.frozen 2;have f3:=L.frozen 3;have GX:=hid (ae G0.out gx);have ON:=hid (And.intro oN oU);clear L gx oN oU))
  have s1:w.heap.size+1<w.heap.size+1+1:=Nat.lt_succ_self _
  have s0:w.heap.size+1+1≤W0.heap.size:=by have h:=HL.out.lt;omega
  refine bodyPost_ret (dQ Tryz.results12 _ _ _ (w.heap.size+1) rfl _ (dN (tX wx (w.heap.size+1) _ _ _ _ q0 q1 q2 q3) 54 _ Tryz.underlying54 rfl Tryz.mI)) rfl ⟨bn,bu,rfl,?_,?_,?_⟩
  ·exact bZ (aY (aY (aY (aY (bZ ON.out.1 s0) s1) s1) s1) s1) (by omega)
  ·exact bZ (aY (aY (aY (aY (bZ ON.out.2 s0) s1) s1) s1) s1) (by omega)
  ·exact aK (aK (aK (aK GX.out (Nat.le_succ _)) (Nat.le_succ _)) (Nat.le_succ _)) (Nat.le_succ _)
 | true=>
  obtain ⟨W0,hW0⟩:∃ W,W=(w.alloc (.cells #[.pointer none,.pointer (some ⟨g,0,none⟩)] 30)).alloc (.cells #[.slice none 0 0,.slice none 0 0,.int .i64 0,.int .i64 0] 54):=⟨_,rfl⟩
  have G0:Hid (w.grownBy W0 none):=by show World.grownBy _ _ _;rw[hW0];exact aC (World.grownBy_alloc w _ none) _
  have RD:=fH (aQ w #[.pointer none,.pointer (some ⟨g,0,none⟩)] 30) (World.grownBy_alloc _ (.cells #[.slice none 0 0,.slice none 0 0,.int .i64 0,.int .i64 0] 54) none)
  rw[←hW0] at RD
  have D0:W0.cell? ⟨w.heap.size,0,none⟩=some (.pointer none):=RD 0 _ rfl
  have D1:W0.cell? ⟨w.heap.size,1,none⟩=some (.pointer (some ⟨g,0,none⟩)):=RD 1 _ rfl
  have HL:Hid (Live W0 (w.heap.size+1) 4):=by
   show Live _ _ _
   have h:=Live.new (w.alloc (.cells #[.pointer none,.pointer (some ⟨g,0,none⟩)] 30)) #[.slice none 0 0,.slice none 0 0,.int .i64 0,.int .i64 0] 54
   rw[World.size_alloc] at h
   rw[hW0]
   exact h
  have HS:=hid (zn g dp M W0 (eP.dX (jm.grown (q:=true) h G0.out)))
  have HW0:=hid hW0
  clear h hW0 RD
  unfold uL
  go_enter Tryz.func12,Tryz.ntmps12
  go_wp2_with (first|(rw[←HW0.out];fail_if_success done)|(go_at_call 26;refine HS.out.mono ?_;clear HS;rintro e wx ⟨bn,bu,rfl,oN,oU,gx⟩;have L:=HL.out.grown gx;obtain ⟨d0,q0⟩:=Option.isSome_iff_exists.1 (L.some 0 (by decide));obtain ⟨d1,q1⟩:=Option.isSome_iff_exists.1 (L.some 1 (by decide));obtain ⟨d2,q2⟩:=Option.isSome_iff_exists.1 (L.some 2 (by decide));obtain ⟨d3,q3⟩:=Option.isSome_iff_exists.1 (L.some 3 (by decide));have f0:=L.frozen 0;have f1:=L.frozen 1;have f2:=L.frozen 2;have f3:=L.frozen 3;have GX:=hid (ae G0.out gx);have ON:=hid (And.intro oN oU);clear L gx oN oU))
  have s1:w.heap.size+1<w.heap.size+1+1:=Nat.lt_succ_self _
  have s0:w.heap.size+1+1≤W0.heap.size:=by have h:=HL.out.lt;omega
  refine bodyPost_ret (dQ Tryz.results12 _ _ _ (w.heap.size+1) rfl _ (dN (tX wx (w.heap.size+1) _ _ _ _ q0 q1 q2 q3) 54 _ Tryz.underlying54 rfl Tryz.mI)) rfl ⟨bn,bu,rfl,?_,?_,?_⟩
  ·exact bZ (aY (aY (aY (aY (bZ ON.out.1 s0) s1) s1) s1) s1) (by omega)
  ·exact bZ (aY (aY (aY (aY (bZ ON.out.2 s0) s1) s1) s1) s1) (by omega)
  ·exact aK (aK (aK (aK GX.out (Nat.le_succ _)) (Nat.le_succ _)) (Nat.le_succ _)) (Nat.le_succ _)
set_option maxHeartbeats 1000000 in
theorem PN (q:Bool) (g:Nat) (dp:Option Pl) (M:DM) (w:World) (h:jm q w g dp M) :
  Calls Tryz.prog 23 #[.agg (uL q g)] w fun e w'=>e = .returned (.bool true)∧w.grownBy w' none:=by
 cases q with
 | false=>
  have G0:=hid (World.grownBy_alloc w (.cells #[.pointer (some ⟨g,0,none⟩),.pointer none] 30) none)
  clear h
  unfold uL
  go_enter Tryz.func23,Tryz.ntmps23
  go_wp2
  go_ret
  exact ⟨rfl,G0.out⟩
 | true=>
  have G0:=hid (World.grownBy_alloc w (.cells #[.pointer none,.pointer (some ⟨g,0,none⟩)] 30) none)
  have HP:=hid (BG g dp M _ (eP.grown h G0.out))
  clear h
  unfold uL
  go_enter Tryz.func23,Tryz.ntmps23
  go_wp2_with (go_at_call 37;refine HP.out.mono ?_;rintro e w1 ⟨k,hk,rfl,g1⟩;have nH:=hid (ae G0.out g1);have hk0:(0:Int)≤(k:Int):=Int.natCast_nonneg _;have hk4:(k:Int)≤4:=(by omega);clear g1)
  go_ret
  exact ⟨rfl,aC nH.out _⟩
end Go.Proofs.YtpibgolaaaemnaaGreatDoor
namespace Go.Proofs.YtpibgolaaaemnaaGreatDoor
open Go.RowKit
set_option maxRecDepth 100000
def qY (W:World) (L:List (Value×List UInt8)):Prop:=∀ x∈L,KH W x.1 x.2
theorem qY.nil (W:World):qY W []:=fun _ h=>by simp at h
theorem qY.grown {W W':World} {L:List (Value×List UInt8)} (h:qY W L) (k:W.grownBy W' none):qY W' L:=fun x hx=>(h x hx).grown k
theorem qY.push {W W':World} {L:List (Value×List UInt8)} {o:Value} {z:List UInt8} (h:qY W L) (k:W.grownBy W' none) (q:KH W' o z):qY W' ((o,z)::L):=by
 intro x hx
 rcases List.mem_cons.1 hx with e | e
 ·subst e;exact q
 ·exact h.grown k x e
theorem ZL {W:World}:∀ {L:List (Value×List UInt8)},(∀ x∈L,KH W x.1 x.2)→∃ its:List Ya,its.length=L.length∧its.map (fun x=>x.2.2)=L.map (fun x=>x.2)∧(∀ j (h1:j<its.length) (h2:j<L.length),L[j].1 = .slice (its[j]).1 (its[j]).2.2.length (its[j]).2.1∧At W (its[j]).1 (its[j]).2.2∧((its[j]).1=none→(its[j]).2.1=0))
 | [],_=>⟨[],rfl,rfl,fun j h1=>absurd h1 (by simp)⟩
 | x::L,h=>by
  obtain ⟨its,h1,h2,h3⟩:=ZL (L:=L) (fun y hy=>h y (List.mem_cons_of_mem _ hy))
  obtain ⟨ao,cap,q1,_,_,q4,q5⟩:=h x (List.mem_cons_self ..)
  refine ⟨(ao,cap,x.2)::its,by simp[h1],by simp[h2],fun j j1 j2=>?_⟩
  cases j with
  | zero=>exact ⟨q1,q5,q4⟩
  | succ j=>exact h3 j (by simpa using j1) (by simpa using j2)
theorem qY.Yb {W:World} {L:List (Value×List UInt8)} (h:qY W L) (vs:Array Value) (n:Nat) (hvs:vs=(L.reverse.map fun x=>x.1).toArray) (hn:L.reverse.length=n) (Ch:n≤1000) (hB:(L.reverse.map fun x=>x.2).flatten.length≤100000) :
  Calls Tryz.prog 15 #[.slice (some ⟨W.heap.size,0,none⟩) n n] (W.alloc (.cells vs 25)) fun e w'=>∃ o,e = .returned o∧dL W.heap.size w' o (gK 48 (L.reverse.map fun x=>x.2).flatten)∧W.grownBy w' none:=by
 obtain ⟨its,h1,h2,h3⟩:=ZL (W:=W) (L:=L.reverse) (fun x hx=>h x (List.mem_reverse.1 hx))
 have G:=World.grownBy_alloc W (.cells vs 25) none
 have EJ:lY its=(L.reverse.map fun x=>x.2).flatten:=by unfold lY;rw[h2]
 have hi:vD (W.alloc (.cells vs 25)) (some ⟨W.heap.size,0,none⟩) its:=by
  intro j hj
  have hj2:j<L.reverse.length:=by omega
  obtain ⟨q1,q2,q3⟩:=h3 j hj hj2
  refine ⟨W.heap.size,rfl,?_,q2.below G,q3⟩
  rw[←q1]
  have:=aQ W vs 25 j (L.reverse[j].1) (by rw[hvs];simp only[List.getElem?_map];rw[List.getElem?_eq_getElem hj2];rfl)
  simpa using this
 refine (LY _ n n its _ (hid (by rw[h1,hn])) Ch (by rw[EJ];exact hB) hi).mono ?_
 rintro e w' ⟨o,q1,q2,q3⟩
 rw[EJ] at q2
 exact ⟨o,q1,bZ q2 (by rw[World.size_alloc];omega),ae G q3⟩
theorem qY.list {W:World} {L:List (Value×List UInt8)} (h:qY W L) (vs:Array Value) (n:Nat) (hvs:vs=(L.reverse.map fun x=>x.1).toArray) (hn:L.reverse.length=n) (Ch:n≤1000) (hB:(L.reverse.map fun x=>x.2).flatten.length≤255) :
  Calls Tryz.prog 15 #[.slice (some ⟨W.heap.size,0,none⟩) n n] (W.alloc (.cells vs 25)) fun e w'=>∃ o,e = .returned o∧dL W.heap.size w' o (iX (L.reverse.map fun x=>x.2))∧W.grownBy w' none:=by
 have:=h.Yb vs n hvs hn Ch (by omega)
 rw[xg hB] at this
 exact this
theorem PO (w:World):Calls Tryz.prog 15 #[.slice none 0 0] w fun e w'=>∃ o,e = .returned o∧dL w.heap.size w' o (iX [])∧w.grownBy w' none:=by
 refine (Pz none 0 0 [] w (hid rfl) (by omega) (by simp[lY]) (fun j hj=>absurd hj (by simp))).mono ?_
 rintro e w' ⟨o,q1,q2,q3⟩
 exact ⟨o,q1,q2,q3⟩
def il (af az:List UInt8) (aB eY dF bQ aJ:Int):List UInt8:=iX [aN 10,bD af,bD az,aN aB,aN eY,aN dF,aN bQ,aN aJ,iX []]
theorem jD (v:Int) (w:World) (h:In64 v):Calls Tryz.prog 16 #[.int .i64 v] w fun e w'=>∃ o,e = .returned o∧dL w.heap.size w' o (aN v)∧w.grownBy w' none:=Jk v w h.1 h.2
theorem WS (zs:List UInt8) (v:Value) (w:World) (hl:zs.length≤255) (h:KH w v zs):Calls Tryz.prog 36 #[v] w fun e w'=>∃ o,e = .returned o∧dL w.heap.size w' o (bD zs)∧w.grownBy w' none:=by
 obtain ⟨ao,cap,rfl,_,_,h4,h5⟩:=h
 exact Py zs zs.length ao cap w (hid rfl) hl (hid h4) h5
theorem pX (zs:List UInt8) (v:Value) (w:World) (hl:zs.length≤100000) (h:KH w v zs):Calls Tryz.prog 36 #[v] w fun e w'=>∃ o,e = .returned o∧dL w.heap.size w' o (gK 4 zs)∧w.grownBy w' none:=by
 obtain ⟨ao,cap,rfl,_,_,h4,h5⟩:=h
 exact TU zs zs.length ao cap w (hid rfl) hl (hid h4) h5
theorem ed {tag:UInt8} {l:List UInt8} (h:l.length≤127):(Box.box tag l).length=l.length+2:=by
 rw[Box.jf,if_pos (by omega)]
theorem gu (v:Int):(aN v).length≤10:=(eZ v).2
theorem tq (tag:UInt8) (l:List UInt8):(Box.box tag l).length≤l.length+4:=by
 rw[Box.jf]
 split <;> (try split) <;> omega
theorem vH (af az:List UInt8) (aB eY dF bQ aJ:Int) (hc:af.length≤20) (hs:az.length≤20):([aN 10,bD af,bD az,aN aB,aN eY,aN dF,aN bQ,aN aJ,iX []]:List (List UInt8)).flatten.length≤120:=by
 have n1:=gu 10
 have n2:=gu aB
 have n3:=gu eY
 have n4:=gu dF
 have n5:=gu bQ
 have n6:=gu aJ
 have t1:(bD af).length=af.length+2:=ed (by omega)
 have t2:(bD az).length=az.length+2:=ed (by omega)
 have t3:(iX []).length=2:=rfl
 simp only[List.flatten_cons,List.flatten_nil,List.length_append,List.length_nil]
 omega
set_option maxHeartbeats 2000000 in
theorem BO (af az:List UInt8) (aB eY dF bQ aJ:Int) (w:World) (hc:af.length≤20) (hs:az.length≤20) (h1:In64 aB) (h2:In64 eY) (h3:In64 dF) (h4:In64 bQ) (h5:In64 aJ) :
  Calls Tryz.prog 8 #[.string ⟨af.toArray⟩,.string ⟨az.toArray⟩,.int .i64 aB,.int .i64 eY,.int .i64 dF,.int .i64 bQ,.int .i64 aJ] w fun e w'=>∃ o,e = .returned o∧dL w.heap.size w' o (il af az aB eY dF bQ aJ)∧w.grownBy w' none:=by
 have Lu:=hid (vH af az aB eY dF bQ aJ hc hs)
 go_enter Tryz.func8,Tryz.ntmps8
 go_wp2_with fail
 refine (jD 10 _ ⟨by decide,by decide⟩).mono ?_
 rintro e w1 ⟨o1,rfl,q1,g1⟩
 obtain ⟨a1,c1,hv1⟩:=q1.has.shape
 subst hv1
 have A1:=hid (qY.nil _ |>.push g1 q1.has)
 have G1:=hid (g1)
 clear q1 g1
 go_wp2_with fail
 refine (uj af _ (by omega)).mono ?_
 rintro e w2 ⟨o2,rfl,q2,g2⟩
 obtain ⟨a2,c2,hv2⟩:=q2.has.shape
 subst hv2
 have A2:=hid (A1.out |>.push g2 q2.has)
 have G2:=hid (ae G1.out g2)
 clear q2 g2 A1 G1
 go_wp2_with fail
 refine (uj az _ (by omega)).mono ?_
 rintro e w3 ⟨o3,rfl,q3,g3⟩
 obtain ⟨a3,c3,hv3⟩:=q3.has.shape
 subst hv3
 have A3:=hid (A2.out |>.push g3 q3.has)
 have G3:=hid (ae G2.out g3)
 clear q3 g3 A2 G2
 go_wp2_with fail
 refine (jD aB _ h1).mono ?_
 rintro e w4 ⟨o4,rfl,q4,g4⟩
 obtain ⟨a4,c4,hv4⟩:=q4.has.shape
 subst hv4
 have A4:=hid (A3.out |>.push g4 q4.has)
 have G4:=hid (ae G3.out g4)
 clear q4 g4 A3 G3
 go_wp2_with fail
 refine (jD eY _ h2).mono ?_
 rintro e w5 ⟨o5,rfl,q5,g5⟩
 obtain ⟨a5,c5,hv5⟩:=q5.has.shape
 subst hv5
 have A5:=hid (A4.out |>.push g5 q5.has)
 have G5:=hid (ae G4.out g5)
 clear q5 g5 A4 G4
 go_wp2_with fail
 refine (jD dF _ h3).mono ?_
 rintro e w6 ⟨o6,rfl,q6,g6⟩
 obtain ⟨a6,c6,hv6⟩:=q6.has.shape
 subst hv6
 have A6:=hid (A5.out |>.push g6 q6.has)
 have G6:=hid (ae G5.out g6)
 clear q6 g6 A5 G5
 go_wp2_with fail
 refine (jD bQ _ h4).mono ?_
 rintro e w7 ⟨o7,rfl,q7,g7⟩
 obtain ⟨a7,c7,hv7⟩:=q7.has.shape
 subst hv7
 have A7:=hid (A6.out |>.push g7 q7.has)
 have G7:=hid (ae G6.out g7)
 clear q7 g7 A6 G6
 go_wp2_with fail
 refine (jD aJ _ h5).mono ?_
 rintro e w8 ⟨o8,rfl,q8,g8⟩
 obtain ⟨a8,c8,WA⟩:=q8.has.shape
 subst WA
 have A8:=hid (A7.out |>.push g8 q8.has)
 have G8:=hid (ae G7.out g8)
 clear q8 g8 A7 G7
 go_wp2_with fail
 refine (PO _).mono ?_
 rintro e w9 ⟨o9,rfl,q9,g9⟩
 obtain ⟨a9,c9,hv9⟩:=q9.has.shape
 subst hv9
 have A9:=hid (A8.out |>.push g9 q9.has)
 have G9:=hid (ae G8.out g9)
 clear q9 g9 A8 G8
 go_wp2_with fail
 refine (A9.out.list _ 9 rfl rfl (by decide) (Nat.le_trans Lu.out (by decide))).mono ?_
 rintro e w10 ⟨o10,rfl,Ve,g10⟩
 have HR:=hid (And.intro (bZ Ve G9.out.size) (ae G9.out g10))
 clear Ve g10
 go_wp2
 go_ret
 exact ⟨_,rfl,HR.out.1,HR.out.2⟩
def nJ (af:List UInt8) (Jo count:Int):List UInt8:=iX [bD af,aN Jo,aN count]
theorem L9 (af:List UInt8) (Jo count:Int) (hc:af.length≤20):([bD af,aN Jo,aN count]:List (List UInt8)).flatten.length≤42:=by
 have n2:=gu Jo
 have n3:=gu count
 have t1:(bD af).length=af.length+2:=ed (by omega)
 simp only[List.flatten_cons,List.flatten_nil,List.length_append,List.length_nil]
 omega
theorem KH.buf {w:World} {g n:Nat} {z:List UInt8} (h:Buf w g n z) (hn:z.length=n):KH w (.slice (some ⟨g,0,none⟩) n n) z:=by
 obtain ⟨cur,e,h1,h2,h3,h4,h5⟩:=h
 refine ⟨some ⟨g,0,none⟩,n,by rw[hn],by omega,by unfold maxLen at h3;exact h3,(fun q=>by cases q),At.some fun j hj=>?_⟩
 have h6:cur.toList[j]?=some (U8 z[j]):=by
  have:=congrArg (fun l=>l[j]?) h5
  simp only[List.getElem?_take,List.getElem?_map] at this
  rw[if_pos hj,List.getElem?_eq_getElem hj] at this
  exact this
 rw[Nat.zero_add,cell_of_row _ _ j _ e _ h1,←Array.getElem?_toList,h6]
 rfl
theorem PQ (ticket proof az:List UInt8) (aB dF aJ:Int) (ht:ticket.length≤2000) (hp:proof.length≤62) (hs:az.length≤20):([aN 12,ticket,bD proof,bD az,aN aB,aN dF,aN 0,aN aJ]:List (List UInt8)).flatten.length≤2200:=by
 have n1:=gu 12
 have n2:=gu aB
 have n3:=gu dF
 have n4:=gu 0
 have n5:=gu aJ
 have t1:(bD proof).length=proof.length+2:=ed (by omega)
 have t2:(bD az).length=az.length+2:=ed (by omega)
 simp only[List.flatten_cons,List.flatten_nil,List.length_append,List.length_nil]
 omega
set_option maxHeartbeats 4000000 in
theorem PR (ticket:List UInt8) (vT:Value) (aU:UInt64) (af:List UInt8) (Jo cn:Int) (cnt:UInt64) (az:List UInt8) (aB dF aJ:Int) (w:World) (hT:KH w vT ticket) (ht:ticket.length≤2000) (hc:af.length≤20) (hs:az.length≤20) (h1:In64 Jo) (h2:In64 cn) (hcw:IntKind.u64.wrap cn=(cnt.toNat:Int)) (h3:In64 aB) (h4:In64 dF) (h5:In64 aJ) :
  Calls Tryz.prog 24 #[vT,.int .u64 (aU.toNat:Int),.string ⟨af.toArray⟩,.int .i64 Jo,.int .i64 cn,.string ⟨az.toArray⟩,.int .i64 aB,.int .i64 dF,.int .i64 aJ] w fun e w'=>∃ o zs,e = .returned (.tuple #[o,.bool true])∧dL w.heap.size w' o zs∧zs.length≤2300∧w.grownBy w' none:=by
 have Lu:=hid (L9 af Jo cn hc)
 obtain ⟨aT,cT,hvT⟩:=hT.shape
 subst hvT
 have HT:Hid (∀ W,w.grownBy W none→KH W (.slice aT ticket.length cT) ticket):=fun W k=>hT.grown k
 clear hT
 go_enter Tryz.func24,Tryz.ntmps24
 go_wp2_with fail
 refine (uj af _ (by omega)).mono ?_
 rintro e w1 ⟨o1,rfl,q1,g1⟩
 obtain ⟨a1,c1,hv1⟩:=q1.has.shape
 subst hv1
 have A1:=hid (qY.nil _ |>.push g1 q1.has)
 have G1:=hid (g1)
 clear q1 g1
 go_wp2_with fail
 refine (jD Jo _ h1).mono ?_
 rintro e w2 ⟨o2,rfl,q2,g2⟩
 obtain ⟨a2,c2,hv2⟩:=q2.has.shape
 subst hv2
 have A2:=hid (A1.out |>.push g2 q2.has)
 have G2:=hid (ae G1.out g2)
 clear q2 g2 A1 G1
 go_wp2_with fail
 refine (jD cn _ h2).mono ?_
 rintro e w3 ⟨o3,rfl,q3,g3⟩
 obtain ⟨a3,c3,hv3⟩:=q3.has.shape
 subst hv3
 have A3:=hid (A2.out |>.push g3 q3.has)
 have G3:=hid (ae G2.out g3)
 clear q3 g3 A2 G2
 go_wp2_with fail
 refine (A3.out.list _ 3 rfl rfl (by decide) (Nat.le_trans Lu.out (by decide))).mono ?_
 rintro e w4 ⟨o4,rfl,q4,g4⟩
 obtain ⟨a4,c4,hvp,hp1,hp2,hp3,hp4⟩:=q4.has
 subst hvp
 have G4:=hid (ae G3.out g4)
 have YE:Hid ((nJ af Jo cn).length≤46):=by
  show _≤_
  have h:=tq 48 ([bD af,aN Jo,aN cn]:List (List UInt8)).flatten
  have h':=Lu.out
  show (Box.box 48 _).length≤46
  omega
 obtain ⟨m,hm⟩:∃ m,(nJ af Jo cn).length=m:=⟨_,rfl⟩
 have HS:=hid (Rk aU 4 cnt 4 a4 (nJ af Jo cn) m c4 w4 rfl (hid rfl) (hid hm) (by have:=YE.out;omega) hp4)
 have hm':(iX ([((Value.slice a3 (aN cn).length c3),aN cn),(Value.slice a2 (aN Jo).length c2,aN Jo),(Value.slice a1 (bD af).length c1,bD af)].reverse.map fun x=>x.2)).length=m:=hm
 clear q4 g4 A3 G3 hp1 hp2 hp3 hp4
 rw[hm']
 clear hm'
 have HMm:=hid hm
 clear hm
 go_wp2_with fail
 refine HS.out.mono ?_
 rintro e w5 ⟨gs,rfl,hgs,hbuf,g5⟩
 have hlen:(Pure.dK aU 4 cnt (nJ af Jo cn)).length=m+16:=by rw[Pure.bO,HMm.out]
 have HSl:Hid ((Pure.dK aU 4 cnt (nJ af Jo cn)).length≤62):=by show _≤_;have:=YE.out;have:=HMm.out;omega
 have JZ:=hid (KH.buf hbuf hlen)
 have G5:=hid (ae G4.out g5)
 have acY:=hid (PQ ticket _ az aB dF aJ ht HSl.out hs)
 clear HS hbuf g5 G4 hlen hgs
 go_wp2_with fail
 refine (jD 12 _ ⟨by decide,by decide⟩).mono ?_
 rintro e w6 ⟨o6,rfl,q6,g6⟩
 obtain ⟨a6,c6,hv6⟩:=q6.has.shape
 subst hv6
 have A6:=hid (qY.nil _ |>.push g6 q6.has)
 have G6:=hid (ae G5.out g6)
 have Tn:=hid (JZ.out.grown g6)
 clear q6 g6 G5
 have A7:=hid (A6.out.push (World.grownBy.refl _ none) (HT.out _ G6.out))
 have G7:=hid G6.out
 clear A6 G6
 go_wp2_with fail
 refine (WS _ _ _ (by have:=HSl.out;omega) Tn.out).mono ?_
 rintro e w8 ⟨o8,rfl,q8,g8⟩
 obtain ⟨a8,c8,WA⟩:=q8.has.shape
 subst WA
 have A8:=hid (A7.out |>.push g8 q8.has)
 have G8:=hid (ae G7.out g8)
 clear q8 g8 A7 G7
 go_wp2_with fail
 refine (uj az _ (by omega)).mono ?_
 rintro e w9 ⟨o9,rfl,q9,g9⟩
 obtain ⟨a9,c9,hv9⟩:=q9.has.shape
 subst hv9
 have A9:=hid (A8.out |>.push g9 q9.has)
 have G9:=hid (ae G8.out g9)
 clear q9 g9 A8 G8
 go_wp2_with fail
 refine (jD aB _ h3).mono ?_
 rintro e w10 ⟨o10,rfl,Ve,g10⟩
 obtain ⟨a10,c10,ahe⟩:=Ve.has.shape
 subst ahe
 have A10:=hid (A9.out |>.push g10 Ve.has)
 have G10:=hid (ae G9.out g10)
 clear Ve g10 A9 G9
 go_wp2_with fail
 refine (jD dF _ h4).mono ?_
 rintro e Wx ⟨o11,rfl,Wv,g11⟩
 obtain ⟨rO,c11,nK⟩:=Wv.has.shape
 subst nK
 have A11:=hid (A10.out |>.push g11 Wv.has)
 have G11:=hid (ae G10.out g11)
 clear Wv g11 A10 G10
 go_wp2_with fail
 refine (jD 0 _ ⟨by decide,by decide⟩).mono ?_
 rintro e w12 ⟨o12,rfl,q12,g12⟩
 obtain ⟨a12,c12,ahf⟩:=q12.has.shape
 subst ahf
 have A12:=hid (A11.out |>.push g12 q12.has)
 have ZM:=hid (ae G11.out g12)
 clear q12 g12 A11 G11
 go_wp2_with fail
 refine (jD aJ _ h5).mono ?_
 rintro e w13 ⟨o13,rfl,q13,g13⟩
 obtain ⟨a13,c13,ahg⟩:=q13.has.shape
 subst ahg
 have A13:=hid (A12.out |>.push g13 q13.has)
 have WT:=hid (ae ZM.out g13)
 clear q13 g13 A12 ZM
 go_wp2_with fail
 refine (A13.out.Yb _ 8 rfl rfl (by decide) (Nat.le_trans acY.out (by decide))).mono ?_
 rintro e w14 ⟨o14,rfl,q14,g14⟩
 obtain ⟨zz,hz1,hz2⟩:∃ zz:List UInt8,dL w13.heap.size w14 o14 zz∧zz.length≤2300:=⟨_,q14,Nat.le_trans (kM _ _) (Nat.le_trans (Nat.add_le_add_right acY.out 3) (by decide))⟩
 clear q14
 obtain ⟨a14,c14,WU⟩:=hz1.has.shape
 subst WU
 have HR:=hid (And.intro (bZ hz1 WT.out.size) (And.intro hz2 (ae WT.out g14)))
 clear hz1 hz2 g14
 go_wp2
 go_ret2
 exact ⟨_,zz,rfl,HR.out.1,HR.out.2.1,HR.out.2.2⟩
end Go.Proofs.YtpibgolaaaemnaaGreatDoor
