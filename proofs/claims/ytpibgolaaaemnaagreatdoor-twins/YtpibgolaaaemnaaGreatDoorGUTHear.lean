/-
  
-/
import Derived.Test.YtpibgolaaaemnaaGreatDoorGUKCame
import Derived.Test.YtpibgolaaaemnaaGreatDoorGUTState
import Derived.Test.YtpibgolaaaemnaaGreatDoorGUTSame
import Derived.Test.YtpibgolaaaemnaaGreatDoorGUTName
namespace Go.Proofs.YtpibgolaaaemnaaGreatDoor
open Go.RowKit
set_option maxRecDepth 100000
theorem Yi {w:World} {g:Nat} {a b c d:Value} (h:bI w g #[a,b,c,d]):w.cell? ⟨g,0,none⟩=some a∧w.cell? ⟨g,1,none⟩=some b∧w.cell? ⟨g,2,none⟩=some c∧w.cell? ⟨g,3,none⟩=some d:=⟨h.cell 0,h.cell 1,h.cell 2,h.cell 3⟩
set_option maxHeartbeats 8000000 in
abbrev jH:Array Value:=#[.slice none 0 0,.int .i64 0,.int .i64 0,.int .i64 0,.int .i64 0,.int .i64 0,.int .u64 0,.string ⟨#[]⟩,.int .i64 0,.int .i64 0,.int .i64 0,.int .i64 0,.int .i64 0,.int .i64 0,.int .u64 0,.string ⟨#[]⟩,.int .i64 0]
abbrev uO (ob:Value) (fl au st fi re:Int) (jY:UInt64) (nm:List UInt8) (no:Int):Array Value:=#[ob,.int .i64 0,.int .i64 0,.int .i64 0,.int .i64 0,.int .i64 0,.int .u64 0,.string ⟨#[]⟩,.int .i64 0,.int .i64 fl,.int .i64 au,.int .i64 st,.int .i64 fi,.int .i64 re,.int .u64 (jY.toNat:Int),.string ⟨nm.toArray⟩,.int .i64 no]
theorem JO {a w:World} (h:a.grownBy w none):a.grownBy w.drew none:=aO h 1
theorem qY.En {W:World} {L:List (Value×List UInt8)} (h:qY W L) (rb n:Nat) (hvs:W.rangeAt rb 0 (L.reverse.map fun x=>x.1)) (hn:L.reverse.length=n) (Ch:n≤1000) (hB:(L.reverse.map fun x=>x.2).flatten.length≤100000) :
  Calls Tryz.prog 15 #[.slice (some ⟨rb,0,none⟩) n n] W fun e w'=>∃ o,e = .returned o∧dL W.heap.size w' o (gK 48 (L.reverse.map fun x=>x.2).flatten)∧W.grownBy w' none:=by
 obtain ⟨its,h1,h2,h3⟩:=ZL (W:=W) (L:=L.reverse) (fun x hx=>h x (List.mem_reverse.1 hx))
 have EJ:lY its=(L.reverse.map fun x=>x.2).flatten:=by unfold lY;rw[h2]
 have hi:vD W (some ⟨rb,0,none⟩) its:=by
  intro j hj
  have hj2:j<L.reverse.length:=by omega
  obtain ⟨q1,q2,q3⟩:=h3 j hj hj2
  refine ⟨rb,rfl,?_,q2,q3⟩
  rw[←q1]
  have:=hvs j (L.reverse[j].1) (by simp only[List.getElem?_map];rw[List.getElem?_eq_getElem hj2];rfl)
  simpa using this
 refine (LY _ n n its _ (hid (by rw[h1,hn])) Ch (by rw[EJ];exact hB) hi).mono ?_
 rintro e w' ⟨o,q1,q2,q3⟩
 rw[EJ] at q2
 exact ⟨o,q1,q2,q3⟩
theorem mV {a b:World} (h:a.grownBy b none) (g:Nat) (vs:List Value) (hg:a.heap.size≤g):a.grownBy (b.setCells g 0 vs) none:=(CF.setCells g vs 0 b (CF.aW h (fun _ _=>False)) (fun _ _ e=>by omega)).gb (fun _ _ _ e=>e)
theorem mW {w:World} {g:Nat} (h:bI w g jH):Live w g 17:=by
 obtain ⟨e,he⟩:=h
 exact ⟨_,e,he,by decide⟩
theorem ahx {w:World} {g:Nat} {c0 c1 c2 c3 c4 c5 c6 c7 c8 c9 c10 c11 c12 c13 c14 c15 c16:Value} (h:bI w g #[c0,c1,c2,c3,c4,c5,c6,c7,c8,c9,c10,c11,c12,c13,c14,c15,c16]) (v0 v1 v2 v3 v4 v5 v6 v7 v8 v9 v10 v11 v12 v13 v14 v15 v16:Value):bI (((((((((((((((((w.setCell ⟨g,0,none⟩ v0).setCell ⟨g,1,none⟩ v1).setCell ⟨g,2,none⟩ v2).setCell ⟨g,3,none⟩ v3).setCell ⟨g,4,none⟩ v4).setCell ⟨g,5,none⟩ v5).setCell ⟨g,6,none⟩ v6).setCell ⟨g,7,none⟩ v7).setCell ⟨g,8,none⟩ v8).setCell ⟨g,9,none⟩ v9).setCell ⟨g,10,none⟩ v10).setCell ⟨g,11,none⟩ v11).setCell ⟨g,12,none⟩ v12).setCell ⟨g,13,none⟩ v13).setCell ⟨g,14,none⟩ v14).setCell ⟨g,15,none⟩ v15).setCell ⟨g,16,none⟩ v16) g #[v0,v1,v2,v3,v4,v5,v6,v7,v8,v9,v10,v11,v12,v13,v14,v15,v16]:=by
 simpa using (((((((((((((((((h.set 0 v0).set 1 v1).set 2 v2).set 3 v3).set 4 v4).set 5 v5).set 6 v6).set 7 v7).set 8 v8).set 9 v9).set 10 v10).set 11 v11).set 12 v12).set 13 v13).set 14 v14).set 15 v15).set 16 v16)
theorem ahy (w:World) (b:Nat) (v0 v1 v2 v3 v4 v5 v6 v7 v8 v9 v10 v11 v12 v13 v14 v15 v16:Value):CF w (((((((((((((((((w.setCell ⟨b,0,none⟩ v0).setCell ⟨b,1,none⟩ v1).setCell ⟨b,2,none⟩ v2).setCell ⟨b,3,none⟩ v3).setCell ⟨b,4,none⟩ v4).setCell ⟨b,5,none⟩ v5).setCell ⟨b,6,none⟩ v6).setCell ⟨b,7,none⟩ v7).setCell ⟨b,8,none⟩ v8).setCell ⟨b,9,none⟩ v9).setCell ⟨b,10,none⟩ v10).setCell ⟨b,11,none⟩ v11).setCell ⟨b,12,none⟩ v12).setCell ⟨b,13,none⟩ v13).setCell ⟨b,14,none⟩ v14).setCell ⟨b,15,none⟩ v15).setCell ⟨b,16,none⟩ v16) (fun g _=>g=b):=by
 iterate 17 refine CF.setCell ?_ _ _ _ (fun _=>rfl)
 exact CF.refl _ _
theorem ahz {a w:World} {b:Nat} (h:a.grownBy w none) (hb:a.heap.size≤b) (v0 v1 v2 v3 v4 v5 v6 v7 v8 v9 v10 v11 v12 v13 v14 v15 v16:Value):a.grownBy (((((((((((((((((w.setCell ⟨b,0,none⟩ v0).setCell ⟨b,1,none⟩ v1).setCell ⟨b,2,none⟩ v2).setCell ⟨b,3,none⟩ v3).setCell ⟨b,4,none⟩ v4).setCell ⟨b,5,none⟩ v5).setCell ⟨b,6,none⟩ v6).setCell ⟨b,7,none⟩ v7).setCell ⟨b,8,none⟩ v8).setCell ⟨b,9,none⟩ v9).setCell ⟨b,10,none⟩ v10).setCell ⟨b,11,none⟩ v11).setCell ⟨b,12,none⟩ v12).setCell ⟨b,13,none⟩ v13).setCell ⟨b,14,none⟩ v14).setCell ⟨b,15,none⟩ v15).setCell ⟨b,16,none⟩ v16) none:=by
 iterate 17 refine aK ?_ hb
 exact h
theorem ne_of {n:Nat} {w:World} {o:Value} {z:List UInt8} {cb:Nat} (h:dL n w o z) (hc:cb<n):∀ b,o.ownBlock=some b→b≠cb:=fun b e q=>by have:=(h.lt b e).1;omega
theorem Tryz.UJ:(Tryz.prog.info? 81).map (fun i=>(i.zero,i.size,i.bytes))=some (some (.agg jH),17,168):=by kernel_rfl
def xB (W7:World) (fl au st fi re:Int) (jY:UInt64) (nm:List UInt8) (no:Int) (p:Value) (wx:World):Prop:=
 ∃ (cb:Nat) (ob:Value) (zs:List UInt8),p = .pointer (some ⟨cb,0,none⟩)∧W7.grownBy wx none∧W7.heap.size≤cb∧bI wx cb (uO ob fl au st fi re jY nm no)∧dL W7.heap.size wx ob zs∧zs.length≤2000
theorem UK {W7 w:World} {cb n c:Nat} {a:Option Addr} {fl au st fi re:Int} {jY:UInt64} {nm:List UInt8} {no:Int} {zz:List UInt8} (HZ:bI w cb jH) (G:W7.grownBy w none) (hcb:W7.heap.size≤cb) (HO:dL W7.heap.size w (.slice a n c) zz∧zz.length≤2000) (HN:∀ b,(Value.slice a n c).ownBlock=some b→b≠cb) :
  xB W7 fl au st fi re jY nm no (.pointer (some ⟨cb,0,none⟩)) (((((((((((((((((w.setCell ⟨cb,0,none⟩ (.slice a n c)).setCell ⟨cb,1,none⟩ (.int .i64 0)).setCell ⟨cb,2,none⟩ (.int .i64 0)).setCell ⟨cb,3,none⟩ (.int .i64 0)).setCell ⟨cb,4,none⟩ (.int .i64 0)).setCell ⟨cb,5,none⟩ (.int .i64 0)).setCell ⟨cb,6,none⟩ (.int .u64 0)).setCell ⟨cb,7,none⟩ (.string ⟨#[]⟩)).setCell ⟨cb,8,none⟩ (.int .i64 0)).setCell ⟨cb,9,none⟩ (.int .i64 fl)).setCell ⟨cb,10,none⟩ (.int .i64 au)).setCell ⟨cb,11,none⟩ (.int .i64 st)).setCell ⟨cb,12,none⟩ (.int .i64 fi)).setCell ⟨cb,13,none⟩ (.int .i64 re)).setCell ⟨cb,14,none⟩ (.int .u64 (jY.toNat:Int))).setCell ⟨cb,15,none⟩ (.string ⟨nm.toArray⟩)).setCell ⟨cb,16,none⟩ (.int .i64 no)):=
 ⟨cb,.slice a n c,zz,rfl,ahz G hcb _ _ _ _ _ _ _ _ _ _ _ _ _ _ _ _ _,hcb,ahx HZ _ _ _ _ _ _ _ _ _ _ _ _ _ _ _ _ _,fC HO.1 (ahy _ _ _ _ _ _ _ _ _ _ _ _ _ _ _ _ _ _ _) (fun b e _=>HN b e),HO.2⟩
theorem nN {CS:Array Value} {a:Option Addr} {n c:Nat} {fl au st fi re:Int} {jY:UInt64} {nm:List UInt8} {no:Int} (h:uO (.slice a n c) fl au st fi re jY nm no=CS):∀ v∈CS.toList,v.oneCell'=true:=by
 intro v hv
 rw[←h] at hv
 simp only[List.mem_cons,List.not_mem_nil,or_false] at hv
 rcases hv with rfl | rfl | rfl | rfl | rfl | rfl | rfl | rfl | rfl | rfl | rfl | rfl | rfl | rfl | rfl | rfl | rfl <;> rfl
theorem mX {CS:Array Value} {ob:Value} {fl au st fi re:Int} {jY:UInt64} {nm:List UInt8} {no:Int} (h:uO ob fl au st fi re jY nm no=CS):CS.size=17:=by rw[←h];rfl
theorem mY {W7 w:World} {cb n c:Nat} {a:Option Addr} {fl au st fi re:Int} {jY:UInt64} {nm:List UInt8} {no:Int} {zz:List UInt8} {CS:Array Value} (hCS:uO (.slice a n c) fl au st fi re jY nm no=CS) (HZ:bI w cb jH) (G:W7.grownBy w none) (hcb:W7.heap.size≤cb) (HO:dL W7.heap.size w (.slice a n c) zz∧zz.length≤2000) (HN:∀ b,(Value.slice a n c).ownBlock=some b→b≠cb) :
  xB W7 fl au st fi re jY nm no (.pointer (some ⟨cb,0,none⟩)) (w.setCells cb 0 CS.toList):=by
 rw[←hCS]
 exact UK HZ G hcb HO HN
theorem xB.gen {W7 wx:World} {fl au st fi re:Int} {jY:UInt64} {nm:List UInt8} {no:Int} {p:Value} {O:Nat→Prop} (h:xB W7 fl au st fi re jY nm no p wx) (hO:∀ b,O b→b<W7.heap.size) :
  ∃ (cb:Nat) (v0 v1 v2 v3 v4 v5 v6 v7 v8 v9 v10 v11 v12 v13 v14 v15 v16:Value),p = .pointer (some ⟨cb,0,none⟩)∧W7.grownBy wx none∧W7.heap.size≤cb∧bI wx cb #[v0,v1,v2,v3,v4,v5,v6,v7,v8,v9,v10,v11,v12,v13,v14,v15,v16]∧Da O wx [v0,v1,v2,v3,v4,v5,v6,v7,v8,v9,v10,v11,v12,v13,v14,v15,v16]∧∀ u∈[v0,v1,v2,v3,v4,v5,v6,v7,v8,v9,v10,v11,v12,v13,v14,v15,v16],u.oneCell'=true:=by
 obtain ⟨cb,ob,zs,h1,h2,h3,h4,h5,h6⟩:=h
 obtain ⟨a,c,e⟩:=h5.has.shape
 rw[e] at h4 h5
 exact ⟨cb,_,_,_,_,_,_,_,_,_,_,_,_,_,_,_,_,_,h1,h2,h3,h4,⟨rfl,_,zs,jY,rfl,rfl,KI.made h5 hO,h6⟩,nN rfl⟩
theorem adw {w:World} {g:Nat} {v0 v1 v2 v3 v4 v5 v6 v7 v8 v9 v10 v11 v12 v13 v14 v15 v16:Value} (h:bI w g #[v0,v1,v2,v3,v4,v5,v6,v7,v8,v9,v10,v11,v12,v13,v14,v15,v16]):w.cell? ⟨g,0,none⟩=some v0∧w.cell? ⟨g,1,none⟩=some v1∧w.cell? ⟨g,2,none⟩=some v2∧w.cell? ⟨g,3,none⟩=some v3∧w.cell? ⟨g,4,none⟩=some v4∧w.cell? ⟨g,5,none⟩=some v5∧w.cell? ⟨g,6,none⟩=some v6∧w.cell? ⟨g,7,none⟩=some v7∧w.cell? ⟨g,8,none⟩=some v8∧w.cell? ⟨g,9,none⟩=some v9∧w.cell? ⟨g,10,none⟩=some v10∧w.cell? ⟨g,11,none⟩=some v11∧w.cell? ⟨g,12,none⟩=some v12∧w.cell? ⟨g,13,none⟩=some v13∧w.cell? ⟨g,14,none⟩=some v14∧w.cell? ⟨g,15,none⟩=some v15∧w.cell? ⟨g,16,none⟩=some v16:=⟨h.cell 0,h.cell 1,h.cell 2,h.cell 3,h.cell 4,h.cell 5,h.cell 6,h.cell 7,h.cell 8,h.cell 9,h.cell 10,h.cell 11,h.cell 12,h.cell 13,h.cell 14,h.cell 15,h.cell 16⟩
theorem Tryz.mZ:(Tryz.prog.info? 81).map (·.size)=some 17:=by kernel_rfl
theorem Tryz.Mt:(Tryz.prog.info? 79).map (·.size)=some 8:=by kernel_rfl
theorem Tryz.Mv:(Tryz.prog.info? 25).map (fun i=>(i.zero,i.size,i.bytes))=some (some (.slice none 0 0),1,24):=by kernel_rfl
theorem p9 (a b c:Option Addr) (n1 c1 n2 c2 n3 c3:Nat):∀ v∈([.slice a n1 c1,.slice b n2 c2,.slice c n3 c3]:List Value),v.cells=#[v]:=by
 intro v hv
 simp only[List.mem_cons,List.not_mem_nil,or_false] at hv
 rcases hv with rfl | rfl | rfl <;> rfl
theorem Tryz.UL:(Tryz.prog.info? 9).map (fun i=>(i.zero,i.size,i.bytes))=some (some (.string ⟨#[]⟩),1,16):=by kernel_rfl
def UM (w0:World) (L:TL) (Mp Mq:DM) (cs:List (List Value)) (ls:List (List UInt8)) (ms:List (Value×List UInt8)) (nw:Int) (ca la ma:Option Addr) (lc mc:Nat) (V:World) (x:List Value) (wx:World):Prop:=
 ∃ BV cc',TS w0 L Mp Mq (cs++[x]) ls ms nw BV la ma cc' lc mc wx∧Stp V (eU L.lo L.hi L.pb ca la ma) wx (eU L.lo L.hi L.pb BV la ma)
def Eo (w0:World) (L:TL) (Mp Mq:DM) (n C:Nat) (O:Nat→Prop) (E R:Prop) (w:World) (e:Ending) (w':World):Prop:=
 e = .returned (.tuple #[])∧∃ O' C',TI w0 L Mp Mq n C' O' w'∧Stp w O w' O'∧C≤C'∧C'≤C+7∧(R→C'=C)∧(E→C'=C+1)
theorem rC {w0:World} {L:TL} {Mp Mq:DM} {n C:Nat} {O:Nat→Prop} {E R:Prop} {w w':World} (h:TI w0 L Mp Mq n C O w) (k:w.grownBy w' none) (hE:¬ E):Eo w0 L Mp Mq n C O E R w (.returned (.tuple #[])) w':=
 ⟨rfl,O,C,h.gb k,Stp.gb k,Nat.le_refl _,by omega,fun _=>rfl,fun e=>absurd e hE⟩
theorem aad (k:Nat) (h:k<7):((UInt64.ofNat (1000001+k)).toNat:Int)=1000001+(k:Int):=by
 rw[Pure.jR _ (by omega)]
 omega
theorem NG {w0 w:World} (h:eO w0) (k:Below w0.heap.size w0 w):eO w:=Lib.tabBelow_of_tabIs h w k
theorem At.same {w:World} {ao:Option Addr} {l l':List UInt8} (h:At w ao l) (h':At w ao l') (hl:l.length=l'.length):l=l':=by
 refine List.ext_getElem hl (fun j h1 h2=>?_)
 obtain ⟨b,off,e,c⟩:=h j h1
 obtain ⟨b',off',e',c'⟩:=h' j h2
 rw[e] at e'
 injection e' with e'
 injection e' with x y
 subst x y
 rw[c] at c'
 injection c' with c'
 injection c' with _ c'
 exact UInt8.toNat_inj.1 (by omega)
theorem UN {d:Nat} {w:World} {ok:Nat→Prop} {g k:Nat} {ps:List jX} {l cl:List UInt8} {acl:Option Addr} {ccl:Nat} (P:PartsAt d w ok g ps) (hp:ps[k]?=some (rq l)) (hc:w.cell? ⟨g,k*4+2,none⟩=some (.slice acl cl.length ccl)) (hat:At w acl cl):cl=l:=by
 obtain ⟨_,a',c',e1,e2,_⟩:=P.PT k l hp
 rw[hc] at e1
 injection e1 with e1
 injection e1 with x y z
 subst x
 exact hat.same e2 y
theorem UO {d:Nat} {w:World} {ok:Nat→Prop} {g k nT cT:Nat} {ps qs:List jX} {aT:Option Addr} (P:PartsAt (d+1) w ok g ps) (hp:ps[k]?=some (xh qs)) (hq:∀ p∈qs,p.2.length≤65535) (hne:qs≠[]) (hc:w.cell? ⟨g,k*4+3,none⟩=some (.slice aT nT cT)):∃ gT,aT=some ⟨gT,0,none⟩∧nT=qs.length∧PartsAt d w ok gT qs:=by
 obtain ⟨gT,c',_,_,_,e1,P'⟩:=P.Vh k qs hp hq hne
 rw[hc] at e1
 injection e1 with e1
 injection e1 with x y z
 exact ⟨gT,x,y,P'⟩
theorem aae {d:Nat} {w:World} {ok:Nat→Prop} {g k:Nat} {ps:List jX} {v v0:Int} (P:PartsAt d w ok g ps) (hp:ps[k]?=some (iH v)) (hv:In64 v) (hc:w.cell? ⟨g,k*4+1,none⟩=some (.int .i64 v0)):v0=v:=by
 obtain ⟨_,e1⟩:=P.num k v hp hv
 rw[hc] at e1
 injection e1 with e1
 injection e1
set_option maxHeartbeats 40000000 in
theorem Qh (w0:World) (L:TL) (Mp Mq:DM) (n C:Nat) (O:Nat→Prop) (E R:Prop) (rep:List UInt8) (v:Value) (t:TK) (s:BE) (aB ag now code:Int) (a b:UInt64) (w:World)
  (hI:TI w0 L Mp Mq n C O w) (hv:KH w v rep) (hC:C≤100000) (htab:eO w0)
  (hE:E→rep=gM 11 t s aB ag 1000002 3 a b∧t.af=zI∧s.name.length≤3∧t.In∧In64 s.ag∧In64 ag∧In64 aB) (hR:R→rep=aL now code) :
  Calls Tryz.prog 22 #[.pointer (some ⟨L.pb,0,none⟩),v] w (Eo w0 L Mp Mq n C O E R w):=by
 obtain ⟨ao,cap,hvs,q2,q3,q4,q5⟩:=hv
 obtain ⟨m,hm⟩:∃ m,rep.length=m:=⟨_,rfl⟩
 rw[hm] at hvs q2
 subst hvs
 have HS:=hid (UH rep m ao cap w hm q2 q3 q5 (NG htab hI.Nn))
 have HI:=hid hI
 have FV:=hid htab
 have HE:=hid hE
 have HR:=hid hR
 have HCn:=hid hC
 clear hm q2 q3 q4 q5 hI htab hE hR hC
 go_enter Tryz.func22,Tryz.ntmps22
 go_wp2_with fail
 refine HS.out.mono ?_
 rintro e w1 ⟨kk,vv,a2,n2,c2,a3,n3,c3,rfl,g1,hrow,hR3,hE3⟩
 have HEx:Hid (E→kk=108∧n3=4∧∃ g,a3=some ⟨g,0,none⟩∧PartsAt 7 w1 (fun b=>w.heap.size≤b∧b<w1.heap.size) g (oP 11 t s aB ag 1000002 3 a b)):=fun he=>by
  obtain ⟨e1,e2,e3,e4,e5,e6,e7⟩:=HE.out he
  have hc3:t.af.length≤3:=by rw[e2];decide
  obtain ⟨p1,p2⟩:=ac7 11 t s aB ag 1000002 3 a b hc3 e3 ⟨by decide,by decide⟩ e5 e6
  have hl:=ZV 11 t s aB ag 1000002 3 a b hc3 e3
  exact hE3 _ (by simp[oP]) (by rw[e1,Uv]) p1 p2 (by rw[e1];omega)
 have HRx:Hid (R→kk=108→n3=3):=fun hr hk=>by
  have e1:=HR.out hr
  have hl:(aL now code).length≤300:=by
   unfold aL
   have h1:=gV 30
   have h2:=gV now
   have h3:=gV code
   refine Nat.le_trans (vI (n:=30) ?_) (by decide)
   simp only[List.flatten_cons,List.flatten_nil,List.length_append,List.length_nil]
   omega
  exact hR3 [iH 30,iH now,iH code] (by rw[e1];rfl) (by
   intro p hp
   simp only[List.mem_cons,List.not_mem_nil,or_false] at hp
   rcases hp with rfl | rfl | rfl <;> exact vN _) (by rw[e1];exact hl) hk
 have GA:=World.grownBy_alloc w1 (.cells #[.int .u8 kk,.int .i64 vv,.slice a2 n2 c2,.slice a3 n3 c3] 122) none
 have UQ:Hid (kk=108→xA 7 w1 (fun b=>w.heap.size≤b∧b<w1.heap.size) a3 n3):=hrow
 have HI1:=hid (UI E kk vv a2 n2 c2 a3 n3 c3 ⟨#[110,116,108,108]⟩ _ _ 7 (by show 4≤100;omega) (fun h=>(UQ.out h).keep (w':=w1.alloc (.cells #[.int .u8 kk,.int .i64 vv,.slice a2 n2 c2,.slice a3 n3 c3] 122)) (fun b hb=>GA.block b hb.2 (by simp))) (fun he=>by
  obtain ⟨e1,e2,g,e3,P⟩:=HEx.out he
  obtain ⟨p1,p2,p3,p4,p5,p6,p7⟩:=HE.out he
  have P2:=P.keep (w':=w1.alloc (.cells #[.int .u8 kk,.int .i64 vv,.slice a2 n2 c2,.slice a3 n3 c3] 122)) (fun b hb=>GA.block b hb.2 (by simp))
  have hTB:=Nt t s a (by rw[p2];decide) p3 p5 6
  have hPB:=Nu t s aB ag 1000002 3 b p3 p6 6
  obtain ⟨A0,_⟩:=P2.num 0 11 rfl ⟨by decide,by decide⟩
  obtain ⟨B0,_⟩:=P2.PT 1 t.af rfl
  obtain ⟨_,_,C0,_⟩:=P2.Vh 2 (jP t s a) rfl hTB.1 (by simp[jP])
  obtain ⟨_,_,D0,_⟩:=P2.Vh 3 (jQ t s aB ag 1000002 3 b) rfl hPB.1 (by simp[jQ])
  refine ⟨e1,e2,g,e3,fun k h=>?_⟩
  match k,h with
  | 0,_=>exact A0
  | 1,_=>exact B0
  | 2,_=>exact C0
  | 3,_=>exact D0))
 have nH:=hid (ae g1 GA)
 have ZU:=hid g1.size
 clear HS hrow hR3 hE3 g1
 go_wp2_with fail
 refine HI1.out.mono ?_
 rintro e w2 ⟨⟨b1,rfl,g2,hb1⟩,hE1⟩
 have HB1:=hid (And.intro hb1 hE1)
 have HG2:=hid g2
 clear HI1 hb1 hE1 g2 GA
 cases b1 with
 | false=>
  have HnE:Hid (¬ E):=fun he=>by have:=HB1.out.2 he;simp at this
  clear HB1 HEx HRx UQ
  go_wp2
  go_end0
  exact rC HI.out (ae nH.out HG2.out) HnE.out
 | true=>
  obtain ⟨rfl,h4,hkind⟩:=HB1.out.1 rfl
  have h4':n3=4:=h4
  subst h4'
  obtain ⟨g,rfl,k0⟩:=hkind 0 (by show 0<4;omega)
  have kk:∀ k (h:k<4) (z:UInt8),(#[110,116,108,108]:Array UInt8)[k]?=some z→w2.cell? ⟨g,k*4,none⟩=some (.int .u8 (z.toNat:Int)):=fun k h z hz=>by
   obtain ⟨g',e',hk⟩:=hkind k h
   cases e'
   rw[HG2.out.cell hk (by simp)]
   have:(#[110,116,108,108]:Array UInt8)[k]'h=z:=by rw[Array.getElem?_eq_getElem h] at hz;exact Option.some.inj hz
   rw[←this];rfl
  have GA:=World.grownBy_alloc w1 (.cells #[.int .u8 108,.int .i64 vv,.slice a2 n2 c2,.slice (some ⟨g,0,none⟩) 4 c3] 122) none
  have ZM:=ae GA HG2.out
  have hR:=(UQ.out rfl).keep (w':=w2) (fun b hb=>ZM.block b hb.2 (by simp))
  obtain ⟨v0,hv0,N0⟩:=hR.num (k:=0) (by omega) (kk 0 (by omega) 110 rfl)
  obtain ⟨cl,acl,ccl,T1,hcl,T2,T3,T4⟩:=hR.txt (k:=1) (by omega) (kk 1 (by omega) 116 rfl)
  obtain ⟨aT,nT,cT,U1,U2,U3,RT⟩:=hR.Vh (k:=2) (by omega) (kk 2 (by omega) 108 rfl)
  obtain ⟨aS,nS,cS,V1,V2,V3,RS⟩:=hR.Vh (k:=3) (by omega) (kk 3 (by omega) 108 rfl)
  have HnR:Hid (¬ R):=fun hr=>by have:=HRx.out hr rfl;omega
  have HE2:Hid (E→v0=11∧cl=zI∧(∃ gT,aT=some ⟨gT,0,none⟩∧nT=3∧PartsAt 6 w2 (fun b=>w.heap.size≤b∧b<w1.heap.size) gT (jP t s a))∧∃ gS,aS=some ⟨gS,0,none⟩∧nS=2∧PartsAt 6 w2 (fun b=>w.heap.size≤b∧b<w1.heap.size) gS (jQ t s aB ag 1000002 3 b)):=fun he=>by
   obtain ⟨_,_,g',e3,P⟩:=HEx.out he
   cases e3
   obtain ⟨p1,p2,p3,p4,p5,p6,p7⟩:=HE.out he
   have P2:=P.keep (w':=w2) (fun b hb=>ZM.block b hb.2 (by simp))
   have hTB:=Nt t s a (by rw[p2];decide) p3 p5 6
   have hPB:=Nu t s aB ag 1000002 3 b p3 p6 6
   exact ⟨aae P2 (k:=0) (v:=11) rfl ⟨by decide,by decide⟩ N0,(UN P2 (k:=1) (l:=t.af) rfl T1 T2).trans p2,UO P2 (k:=2) (qs:=jP t s a) rfl hTB.1 (by simp[jP]) U3,UO P2 (k:=3) (qs:=jQ t s aB ag 1000002 3 b) rfl hPB.1 (by simp[jQ]) V3⟩
  have x0:w2.cell? ⟨g,1,none⟩=some (.int .i64 v0):=N0
  have xp:w2.cell? ⟨w1.heap.size,3,none⟩=some (.slice (some ⟨g,0,none⟩) 4 c3):=HG2.out.cell ((bI.new w1 #[.int .u8 108,.int .i64 vv,.slice a2 n2 c2,.slice (some ⟨g,0,none⟩) 4 c3] 122).cell 3) (by simp)
  have Qi:=hid (ae nH.out HG2.out)
  have Yj:=hid (And.intro GA.size HG2.out.size)
  by_cases nK:v0=11
  ·subst nK
   have x6:w2.cell? ⟨g,6,none⟩=some (.slice acl cl.length ccl):=T1
   have x8:w2.cell? ⟨g,8,none⟩=some (.int .u8 108):=kk 2 (by omega) 108 rfl
   have x9:w2.cell? ⟨g,9,none⟩=some (.int .i64 0):=U1
   have x10:w2.cell? ⟨g,10,none⟩=some (.slice none 0 0):=U2
   have x11:w2.cell? ⟨g,11,none⟩=some (.slice aT nT cT):=U3
   have x12:w2.cell? ⟨g,12,none⟩=some (.int .u8 108):=kk 3 (by omega) 108 rfl
   have x13:w2.cell? ⟨g,13,none⟩=some (.int .i64 0):=V1
   have x14:w2.cell? ⟨g,14,none⟩=some (.slice none 0 0):=V2
   have x15:w2.cell? ⟨g,15,none⟩=some (.slice aS nS cS):=V3
   have GT:=World.grownBy_alloc w2 (.cells #[.int .u8 108,.int .i64 0,.slice none 0 0,.slice aT nT cT] 122) none
   have y12:=GT.cell x12 (by simp)
   have y13:=GT.cell x13 (by simp)
   have y14:=GT.cell x14 (by simp)
   have y15:=GT.cell x15 (by simp)
   have yp:=GT.cell xp (by simp)
   have GTS:=aC GT (.cells #[.int .u8 108,.int .i64 0,.slice none 0 0,.slice aS nS cS] 122)
   have bT:=(bI.new w2 #[.int .u8 108,.int .i64 0,.slice none 0 0,.slice aT nT cT] 122).alloc (.cells #[.int .u8 108,.int .i64 0,.slice none 0 0,.slice aS nS cS] 122)
   have bS:bI ((w2.alloc (.cells #[.int .u8 108,.int .i64 0,.slice none 0 0,.slice aT nT cT] 122)).alloc (.cells #[.int .u8 108,.int .i64 0,.slice none 0 0,.slice aS nS cS] 122)) (w2.heap.size+1) #[.int .u8 108,.int .i64 0,.slice none 0 0,.slice aS nS cS]:=by
    have h:=bI.new (w2.alloc (.cells #[.int .u8 108,.int .i64 0,.slice none 0 0,.slice aT nT cT] 122)) #[.int .u8 108,.int .i64 0,.slice none 0 0,.slice aS nS cS] 122
    rw[World.size_alloc] at h
    exact h
   have RT3:=RT.keep (w':=(w2.alloc (.cells #[.int .u8 108,.int .i64 0,.slice none 0 0,.slice aT nT cT] 122)).alloc (.cells #[.int .u8 108,.int .i64 0,.slice none 0 0,.slice aS nS cS] 122)) (fun b hb=>GTS.block b (by have:=Yj.out;omega) (by simp))
   have HKT:Hid (∀ W,w2.grownBy W none→(E→nT=3∧∃ g,aT=some ⟨g,0,none⟩∧∀ k (h:k<3),W.cell? ⟨g,k*4,none⟩=some (.int .u8 (((#[116,110,116]:Array UInt8)[k]'h).toNat:Int)))):=fun W kW he=>by
    obtain ⟨_,_,⟨gT,e1,e2,P⟩,_⟩:=HE2.out he
    obtain ⟨p1,p2,p3,p4,p5,p6,p7⟩:=HE.out he
    obtain ⟨A0,_⟩:=P.PT 0 s.name rfl
    obtain ⟨B0,_⟩:=P.num 1 s.ag rfl p5
    obtain ⟨C0,_⟩:=P.PT 2 (Pure.dK s.key 2 a t.plain) rfl
    refine ⟨e2,gT,e1,fun k h=>?_⟩
    match k,h with
    | 0,_=>exact kW.cell A0 (by simp)
    | 1,_=>exact kW.cell B0 (by simp)
    | 2,_=>exact kW.cell C0 (by simp)
   have HKS:Hid (∀ W,w2.grownBy W none→(E→nS=2∧∃ g,aS=some ⟨g,0,none⟩∧∀ k (h:k<2),W.cell? ⟨g,k*4,none⟩=some (.int .u8 (((#[110,116]:Array UInt8)[k]'h).toNat:Int)))):=fun W kW he=>by
    obtain ⟨_,_,_,gS,e1,e2,P⟩:=HE2.out he
    obtain ⟨p1,p2,p3,p4,p5,p6,p7⟩:=HE.out he
    obtain ⟨A0,_⟩:=P.num 0 ag rfl p6
    obtain ⟨B0,_⟩:=P.PT 1 (Pure.dK 1000002 3 b (dR t aB s)) rfl
    refine ⟨e2,gS,e1,fun k h=>?_⟩
    match k,h with
    | 0,_=>exact kW.cell A0 (by simp)
    | 1,_=>exact kW.cell B0 (by simp)
   have HI2:=hid (UI E 108 0 none 0 0 aT nT cT ⟨#[116,110,116]⟩ _ _ 6 (by show 3≤100;omega) (fun _=>RT3) (fun he=>⟨rfl,HKT.out _ GTS he⟩))
   have Qj:=hid (And.intro RT RS)
   have HBT:=hid (And.intro bT bS)
   have aah:=hid GTS
   have HXP:=hid xp
   have HTx:=hid (And.intro T1 (And.intro hcl (And.intro T2 (And.intro T3 T4))))
   obtain ⟨t0,t1,t2,t3⟩:=Yi bT
   clear bT bS RT RS RT3 GTS T1 T2 T3 T4 hcl N0 U1 U2 U3 V1 V2 V3 hR kk k0 hkind hv0 HB1 UQ GA ZM HKT GT h4
   go_wp2_with fail
   refine HI2.out.mono ?_
   rintro e w3 ⟨⟨b2,rfl,g3,hb2⟩,hE4⟩
   have HB2:=hid (And.intro hb2 hE4)
   have Qk:=ae aah.out g3
   have HI3:=hid (UI E 108 0 none 0 0 aS nS cS ⟨#[110,116]⟩ w3 _ 6 (by show 2≤100;omega) (fun _=>Qj.out.2.keep (fun b hb=>Qk.block b (by have:=Yj.out;omega) (by simp))) (fun he=>⟨rfl,HKS.out _ Qk he⟩))
   obtain ⟨s0,s1,s2,s3⟩:=Yi (HBT.out.2.grown g3 (by simp))
   have rU:=hid g3
   clear HI2 hb2 hE4 x0 x6 x8 x9 x10 x11 x12 x13 x14 x15 xp y12 y13 y14 y15 t0 t1 t2 t3 g3 Qk HKS
   go_wp2_with fail
   refine HI3.out.mono ?_
   rintro e w4 ⟨⟨b3,rfl,g4,hb3⟩,hE5⟩
   have HB3:=hid (And.intro hb3 hE5)
   have adz:=hid (ae rU.out g4)
   have adA:=hid g4
   have vS:=hid (ae (ae aah.out rU.out) g4)
   have Sz:=hid (And.intro (HBT.out.1.grown (ae rU.out g4) (by simp)) (HBT.out.2.grown (ae rU.out g4) (by simp)))
   have HPp:=hid (vS.out.cell HXP.out (by simp))
   clear HI3 hb3 hE5 s0 s1 s2 s3 g4 yp HBT rU HXP
   cases b2 with
   | false=>
    have HnE:Hid (¬ E):=fun he=>by have:=HB2.out.2 he;simp at this
    clear HB2 HB3 HEx HRx HE2 Qj HTx Sz
    go_wp2
    go_end0
    exact rC HI.out (ae Qi.out vS.out) HnE.out
   | true=>
    cases b3 with
    | false=>
     have HnE:Hid (¬ E):=fun he=>by have:=HB3.out.2 he;simp at this
     clear HB2 HB3 HEx HRx HE2 Qj HTx Sz
     go_wp2
     go_end0
     exact rC HI.out (ae Qi.out vS.out) HnE.out
    | true=>
     obtain ⟨_,hn3,hkT⟩:=HB2.out.1 rfl
     obtain ⟨_,hn2,hkS⟩:=HB3.out.1 rfl
     have ahI:nT=3:=hn3
     have ahJ:nS=2:=hn2
     subst ahI ahJ
     obtain ⟨gT,rfl,_⟩:=hkT 0 (by show 0<3;omega)
     obtain ⟨gS,rfl,_⟩:=hkS 0 (by show 0<2;omega)
     have kT:∀ k (h:k<3) (z:UInt8),(#[116,110,116]:Array UInt8)[k]?=some z→w4.cell? ⟨gT,k*4,none⟩=some (.int .u8 (z.toNat:Int)):=fun k h z hz=>by
      obtain ⟨g',e',hk⟩:=hkT k h
      cases e'
      rw[adz.out.cell hk (by simp)]
      have:(#[116,110,116]:Array UInt8)[k]'h=z:=by rw[Array.getElem?_eq_getElem h] at hz;exact Option.some.inj hz
      rw[←this];rfl
     have kS:∀ k (h:k<2) (z:UInt8),(#[110,116]:Array UInt8)[k]?=some z→w4.cell? ⟨gS,k*4,none⟩=some (.int .u8 (z.toNat:Int)):=fun k h z hz=>by
      obtain ⟨g',e',hk⟩:=hkS k h
      cases e'
      rw[adA.out.cell hk (by simp)]
      have:(#[110,116]:Array UInt8)[k]'h=z:=by rw[Array.getElem?_eq_getElem h] at hz;exact Option.some.inj hz
      rw[←this];rfl
     have RT4:=Qj.out.1.keep (w':=w4) (fun b hb=>vS.out.block b (by have:=Yj.out;omega) (by simp))
     have RS4:=Qj.out.2.keep (w':=w4) (fun b hb=>vS.out.block b (by have:=Yj.out;omega) (by simp))
     obtain ⟨z0,a0,c0,Z1,Z2,Z3,Z4,Z5⟩:=RT4.txt (k:=0) (by omega) (kT 0 (by omega) 116 rfl)
     obtain ⟨v1,Y1,Y2⟩:=RT4.num (k:=1) (by omega) (kT 1 (by omega) 110 rfl)
     obtain ⟨z2,a5,c5,X1,X2,X3,X4,X5⟩:=RT4.txt (k:=2) (by omega) (kT 2 (by omega) 116 rfl)
     obtain ⟨zp,ap,cp,P1,P2,P3,P4,P5⟩:=RS4.txt (k:=1) (by omega) (kS 1 (by omega) 116 rfl)
     obtain ⟨_,_,_,_,eT,okT,_⟩:=RT4 0 (by omega)
     cases eT
     obtain ⟨_,_,_,_,eS,okS,_⟩:=RS4 0 (by omega)
     cases eS
     have HE3:Hid (E→cl=zI∧zp=Pure.dK 1000002 3 b (dR t aB s)):=fun he=>by
      obtain ⟨_,e2,_,gS',e3,_,P⟩:=HE2.out he
      cases e3
      refine ⟨e2,UN (P.keep (w':=w4) (fun b hb=>vS.out.block b (by have:=Yj.out;omega) (by simp))) (k:=1) (l:=Pure.dK 1000002 3 b (dR t aB s)) rfl P1 P3⟩
     have x6:w4.cell? ⟨g,6,none⟩=some (.slice acl cl.length ccl):=vS.out.cell HTx.out.1 (by simp)
     have xq:w4.cell? ⟨w1.heap.size,3,none⟩=some (.slice (some ⟨g,0,none⟩) 4 c3):=HPp.out
     have rs:=iq (P:=Tryz.prog) w4 25 9 5 Tryz.underlying25 Tryz.underlying5 Tryz.underlying9 acl ccl cl (HTx.out.2.2.1.below vS.out)
     have Ho:Hid (∀ b,w.heap.size≤b→¬ O b):=fun b hb q=>by have:=HI.out.lt b q;omega
     have X9:Hid (w.heap.size≤w2.heap.size∧w2.heap.size+2≤w4.heap.size):=by
      have h1:=Qi.out.size
      have h2:=Sz.out.2.lt
      exact ⟨h1,by omega⟩
     have HSf:Hid (w4.cell? ⟨w2.heap.size+1,3,none⟩=some (.slice (some ⟨gS,0,none⟩) 2 cS)∧w4.cell? ⟨gS,6,none⟩=some (.slice ap zp.length cp)∧KH w4 (.slice ap zp.length cp) zp∧w.heap.size≤gS∧∀ b off,ap=some ⟨b,off,none⟩→w.heap.size≤b):=⟨Sz.out.2.cell 3,P1,⟨ap,cp,rfl,P5.1,P5.2.1,P5.2.2,P3⟩,okS.1,fun b off e=>(P4 b off e).1⟩
     have HTf:Hid (w4.cell? ⟨w2.heap.size,3,none⟩=some (.slice (some ⟨gT,0,none⟩) 3 cT)∧w4.cell? ⟨gT,2,none⟩=some (.slice a0 z0.length c0)∧w4.cell? ⟨gT,5,none⟩=some (.int .i64 v1)∧w4.cell? ⟨gT,10,none⟩=some (.slice a5 z2.length c5)∧KH w4 (.slice a0 z0.length c0) z0∧KH w4 (.slice a5 z2.length c5) z2∧w.heap.size≤gT∧(∀ b off,a0=some ⟨b,off,none⟩→w.heap.size≤b)∧∀ b off,a5=some ⟨b,off,none⟩→w.heap.size≤b):=⟨Sz.out.1.cell 3,Z1,Y2,X1,⟨a0,c0,rfl,Z5.1,Z5.2.1,Z5.2.2,Z3⟩,⟨a5,c5,rfl,X5.1,X5.2.1,X5.2.2,X3⟩,okT.1,fun b off e=>(Z4 b off e).1,fun b off e=>(X4 b off e).1⟩
     have Dy:=hid (And.intro Z2 (And.intro X2 Y1))
     have adD:=hid (ae Qi.out vS.out)
     clear kT kS RT4 RS4 Z1 Z2 Z3 Z4 Z5 Y1 Y2 X1 X2 X3 X4 X5 P1 P2 P3 P4 P5 okT okS hkT hkS hn3 hn2 HB2 HB3 Qj HTx Sz HEx HRx HE2 HPp adz adA nH HG2 aah vS Qi ZU Yj
     go_wp2_with fail
     refine (vK w4).mono ?_
     rintro e w5 ⟨rfl,hw5⟩
     have J8:w4.grownBy w5 none:=by rw[←hw5];exact World.grownBy_alloc _ _ none
     have bN:bI w5 w4.heap.size ru:=by rw[←hw5];exact bI.new _ _ _
     have HF:Hid (∀ W,CF w5 W (fun b _=>O b)→W.cell? ⟨w2.heap.size+1,3,none⟩=some (.slice (some ⟨gS,0,none⟩) 2 cS)∧W.cell? ⟨gS,6,none⟩=some (.slice ap zp.length cp)∧KH W (.slice ap zp.length cp) zp∧∀ k v,ru[k]?=some v→W.cell? ⟨w4.heap.size,k,none⟩=some v):=fun W kW=>by
      obtain ⟨h1,h2,h3,h4,h5⟩:=HSf.out
      have hw:=X9.out
      refine ⟨kW.cell (J8.cell h1 (by simp)) (Ho.out _ (by omega)),kW.cell (J8.cell h2 (by simp)) (Ho.out _ h4),KH.ZO (h3.grown J8) kW (fun b off e ⟨_,q⟩=>Ho.out b (h5 b off e) q),fun k v hv=>kW.cell (by rw[bN.cell k];exact hv) (Ho.out _ (by omega))⟩
     have yG:Hid (∀ W,CF w5 W (fun b _=>O b)→W.cell? ⟨w2.heap.size,3,none⟩=some (.slice (some ⟨gT,0,none⟩) 3 cT)∧W.cell? ⟨gT,2,none⟩=some (.slice a0 z0.length c0)∧W.cell? ⟨gT,5,none⟩=some (.int .i64 v1)∧W.cell? ⟨gT,10,none⟩=some (.slice a5 z2.length c5)∧KH W (.slice a0 z0.length c0) z0∧KH W (.slice a5 z2.length c5) z2):=fun W kW=>by
      obtain ⟨h1,h2,h3,h4,h5,h6,h7,h8,h9⟩:=HTf.out
      have hw:=X9.out
      exact ⟨kW.cell (J8.cell h1 (by simp)) (Ho.out _ (by omega)),kW.cell (J8.cell h2 (by simp)) (Ho.out _ h7),kW.cell (J8.cell h3 (by simp)) (Ho.out _ h7),kW.cell (J8.cell h4 (by simp)) (Ho.out _ h7),KH.ZO (h5.grown J8) kW (fun b off e ⟨_,q⟩=>Ho.out b (h8 b off e) q),KH.ZO (h6.grown J8) kW (fun b off e ⟨_,q⟩=>Ho.out b (h9 b off e) q)⟩
     have Xr:=hid (ae adD.out J8)
     clear J8 bN hw5 HSf HTf x6 xq rs adD
     go_wp2
     go_loopw [12] (fun i wr=>∃ (k C':Nat) (Or:Nat→Prop),k≤7∧i = .int .i64 k∧TI w0 L Mp Mq n C' Or wr∧Stp w5 O wr Or∧C≤C'∧C'≤C+k∧(E→C'=C+(if 2≤k then 1 else 0))) (fun i _=>7-(intOf i).toNat)
     case atStart=>exact ⟨0,C,O,by omega,rfl,HI.out.gb Xr.out,Stp.refl _ _,Nat.le_refl _,by omega,fun _=>by simp⟩
     case round=>
      obtain ⟨k,C',Or,hk,rfl,hI',hst,AU,hC2,hEC⟩:=hrel
      have Yk:=hid hI'
      have zL:=hid hst
      have rM:=hid (And.intro AU (And.intro hC2 hEC))
      clear hI' hst AU hC2 hEC
      by_cases hlt:k<7
      ·obtain ⟨f1,f2,f3,f4⟩:=HF.out wr zL.out.cf
       obtain ⟨T,hT,hT6,hTa,hTb⟩:=zJ k hlt
       have f5:wr.cell? ⟨w4.heap.size,k,none⟩=some (.string ⟨T.toArray⟩):=f4 k _ hT
       have hkey:=aad k hlt
       have HPt:=hid (Qg (E∧k=1) (UInt64.ofNat (1000001+k)) 3 b 3 t aB s zp (.slice ap zp.length cp) wr rfl (hid rfl) f3 (NG FV.out Yk.out.Nn) (fun he=>by
        obtain ⟨h1,rfl⟩:=he
        obtain ⟨p1,p2,p3,p4,p5,p6,p7⟩:=HE.out h1
        exact ⟨(HE3.out h1).2,by omega,p4,p7⟩))
       rw[hkey] at HPt
       have rT:(k:Int)<7:=by omega
       have hk0:(0:Int)≤(k:Int):=by omega
       have HTn:=hid (And.intro hT6 (And.intro hTa hTb))
       clear f3 f4 hT hT6 hTa hTb hkey
       go_wp2_with fail
       refine HPt.out.mono ?_
       rintro e w6 ⟨fl,au,st,fi,re,no,jY,nm,op,rfl,g6,Qv⟩
       have HOb:=hid Qv
       obtain ⟨W7,Nb⟩:∃ W,W=w6.alloc (.cells (vM fl au st fi re jY nm no).toArray 79):=⟨_,rfl⟩
       have G67:w6.grownBy W7 none:=by rw[Nb];exact World.grownBy_alloc w6 _ none
       have bG:bI W7 w6.heap.size (vM fl au st fi re jY nm no).toArray:=by rw[Nb];exact bI.new w6 _ _
       have n5:W7.cell? ⟨w4.heap.size,k,none⟩=some (.string ⟨T.toArray⟩):=(ae g6 G67).cell f5 (by simp)
       have Vk:=hid (ae g6 G67)
       have UR:=hid bG
       simp only[vM] at Nb UR
       have HW7:=hid Nb
       clear HPt Qv f1 f2 f5 g6 G67 bG Nb
       simp only[vM]
       have hcmp:=MQ (a:=T) (b:=cl) rfl rfl
       by_cases hm:T=cl
       ·cases op with
        | true=>
         subst hm
         have hcm:((⟨T.toArray⟩:ByteArray).toList==(⟨T.toArray⟩:ByteArray).toList)=true:=by rw[hcmp];simp
         clear hcmp
         obtain ⟨t1,t2,t3,t4,t5,t6⟩:=yG.out W7 (zL.out.cf.trans (Stp.gb (O:=O) Vk.out).cf (fun _ _ _ e=>e))
         have D8:=hid Dy.out
         obtain ⟨l0,hl0⟩:∃ l,z0.length=l:=⟨_,rfl⟩
         obtain ⟨l2,hl2⟩:∃ l,z2.length=l:=⟨_,rfl⟩
         have Ry:=hid t5
         have Cx:=hid t6
         rw[hl0] at t2 Ry
         rw[hl2] at t4 Cx
         have FM:Hid (∀ W,W7.grownBy W none→(fun w'=>w'.cell? ⟨w2.heap.size,3,none⟩=some (.slice (some ⟨gT,0,none⟩) 3 cT)∧w'.cell? ⟨gT,2,none⟩=some (.slice a0 l0 c0)∧w'.cell? ⟨gT,5,none⟩=some (.int .i64 v1)∧w'.cell? ⟨gT,10,none⟩=some (.slice a5 l2 c5)∧w'.cell? ⟨w6.heap.size,0,none⟩=some (.int .i64 fl)∧w'.cell? ⟨w6.heap.size,1,none⟩=some (.int .i64 au)∧w'.cell? ⟨w6.heap.size,2,none⟩=some (.int .i64 st)∧w'.cell? ⟨w6.heap.size,3,none⟩=some (.int .i64 fi)∧w'.cell? ⟨w6.heap.size,4,none⟩=some (.int .i64 re)∧w'.cell? ⟨w6.heap.size,5,none⟩=some (.int .u64 (jY.toNat:Int))∧w'.cell? ⟨w6.heap.size,6,none⟩=some (.string ⟨nm.toArray⟩)∧w'.cell? ⟨w6.heap.size,7,none⟩=some (.int .i64 no)) W):=fun W kW=>⟨kW.cell t1 (by simp),kW.cell t2 (by simp),kW.cell t3 (by simp),kW.cell t4 (by simp),kW.cell (UR.out.cell 0) (by simp),kW.cell (UR.out.cell 1) (by simp),kW.cell (UR.out.cell 2) (by simp),kW.cell (UR.out.cell 3) (by simp),kW.cell (UR.out.cell 4) (by simp),kW.cell (UR.out.cell 5) (by simp),kW.cell (UR.out.cell 6) (by simp),kW.cell (UR.out.cell 7) (by simp)⟩
         have HF7:Hid (([gK 4 z0,aN v1,gK 4 z2]:List (List UInt8)).flatten.length≤700):=by
          have h1:=kM 4 z0
          have h2:=kM 4 z2
          have h3:=gV v1
          have h4:=D8.out
          show _≤_
          simp only[List.flatten_cons,List.flatten_nil,List.length_append,List.length_nil]
          omega
         have Lu:Hid ((([((Value.slice none 0 0),gK 4 z2),((Value.slice none 0 0),aN v1),((Value.slice none 0 0),gK 4 z0)]:List (Value×List UInt8)).reverse.map fun x=>x.2).flatten.length≤100000):=by
          have h1:=kM 4 z0
          have h2:=kM 4 z2
          have h3:=gV v1
          have h4:=D8.out
          show ([gK 4 z0,aN v1,gK 4 z2]:List (List UInt8)).flatten.length≤100000
          simp only[List.flatten_cons,List.flatten_nil,List.length_append,List.length_nil]
          omega
         clear t5 t6
         go_upto_region 15 with (rw[←HW7.out];fail_if_success done)
         go_cut [15] (fun p wx=>xB W7 fl au st fi re jY nm no p wx)
         case first=>
          obtain ⟨ibT,UT,UU,UW,an8⟩:=info_parts Tryz.Mv
          clear HF yG HI FV HE HE3 HR HCn HnR Xr Yk zL rM HTn HOb Vk Ho X9 Dy FM
          refine wp_region_held_drew (S:=fun w'=>W7.grownBy w' none) (by kernel_rfl) (JO (World.grownBy.refl _ _)) (fun hHeld=>?_)
          refine take_at (i:=0) (t:=82) (.pointer (some ⟨w2.heap.size,3,none⟩)) rfl rfl (by kernel_rfl) (by kernel_rfl) (by kernel_rfl) (fun _ _ _ h=>h) (_root_.Or.inl ⟨by rfl,fun w' hSw=>by clear hSw;go_simp⟩) (by assumption) ?_
          simp only[List.setIfInBounds_toArray,List.set_cons_zero,List.set_cons_succ]
          refine take_at (i:=1) (t:=83) (.slice (some ⟨gT,0,none⟩) 3 cT) rfl rfl (by kernel_rfl) (by kernel_rfl) (by kernel_rfl) (fun _ _ _ h=>h) (_root_.Or.inl ⟨by rfl,fun w' hSw=>by have c:=hSw.cell t1 (by simp);clear hSw;go_simp⟩) (by assumption) ?_
          simp only[List.setIfInBounds_toArray,List.set_cons_zero,List.set_cons_succ]
          refine take_at (i:=2) (t:=84) (.pointer (some ⟨gT,0,none⟩)) rfl rfl (by kernel_rfl) (by kernel_rfl) (by kernel_rfl) (fun _ _ _ h=>h) (_root_.Or.inl ⟨by rfl,fun w' hSw=>by clear hSw;go_simp⟩) (by assumption) ?_
          simp only[List.setIfInBounds_toArray,List.set_cons_zero,List.set_cons_succ]
          refine take_at (i:=3) (t:=85) (.pointer (some ⟨gT,2,none⟩)) rfl rfl (by kernel_rfl) (by kernel_rfl) (by kernel_rfl) (fun _ _ _ h=>h) (_root_.Or.inl ⟨by rfl,fun w' hSw=>by clear hSw;go_simp⟩) (by assumption) ?_
          simp only[List.setIfInBounds_toArray,List.set_cons_zero,List.set_cons_succ]
          refine take_at (i:=4) (t:=86) (.slice a0 l0 c0) rfl rfl (by kernel_rfl) (by kernel_rfl) (by kernel_rfl) (fun _ _ _ h=>h) (_root_.Or.inl ⟨by rfl,fun w' hSw=>by have c:=hSw.cell t2 (by simp);clear hSw;go_simp⟩) (by assumption) ?_
          simp only[List.setIfInBounds_toArray,List.set_cons_zero,List.set_cons_succ]
          refine take_at (i:=6) (t:=88) (.pointer (some ⟨w2.heap.size,3,none⟩)) rfl rfl (by kernel_rfl) (by kernel_rfl) (by kernel_rfl) (fun _ _ _ h=>h) (_root_.Or.inl ⟨by rfl,fun w' hSw=>by clear hSw;go_simp⟩) (by assumption) ?_
          simp only[List.setIfInBounds_toArray,List.set_cons_zero,List.set_cons_succ]
          refine take_at (i:=7) (t:=89) (.slice (some ⟨gT,0,none⟩) 3 cT) rfl rfl (by kernel_rfl) (by kernel_rfl) (by kernel_rfl) (fun _ _ _ h=>h) (_root_.Or.inl ⟨by rfl,fun w' hSw=>by have c:=hSw.cell t1 (by simp);clear hSw;go_simp⟩) (by assumption) ?_
          simp only[List.setIfInBounds_toArray,List.set_cons_zero,List.set_cons_succ]
          refine take_at (i:=8) (t:=90) (.pointer (some ⟨gT,4,none⟩)) rfl rfl (by kernel_rfl) (by kernel_rfl) (by kernel_rfl) (fun _ _ _ h=>h) (_root_.Or.inl ⟨by rfl,fun w' hSw=>by clear hSw;go_simp⟩) (by assumption) ?_
          simp only[List.setIfInBounds_toArray,List.set_cons_zero,List.set_cons_succ]
          refine take_at (i:=9) (t:=91) (.pointer (some ⟨gT,5,none⟩)) rfl rfl (by kernel_rfl) (by kernel_rfl) (by kernel_rfl) (fun _ _ _ h=>h) (_root_.Or.inl ⟨by rfl,fun w' hSw=>by clear hSw;go_simp⟩) (by assumption) ?_
          simp only[List.setIfInBounds_toArray,List.set_cons_zero,List.set_cons_succ]
          refine take_at (i:=10) (t:=92) (.int .i64 v1) rfl rfl (by kernel_rfl) (by kernel_rfl) (by kernel_rfl) (fun _ _ _ h=>h) (_root_.Or.inl ⟨by rfl,fun w' hSw=>by have c:=hSw.cell t3 (by simp);clear hSw;go_simp⟩) (by assumption) ?_
          simp only[List.setIfInBounds_toArray,List.set_cons_zero,List.set_cons_succ]
          refine take_at (i:=12) (t:=94) (.pointer (some ⟨w2.heap.size,3,none⟩)) rfl rfl (by kernel_rfl) (by kernel_rfl) (by kernel_rfl) (fun _ _ _ h=>h) (_root_.Or.inl ⟨by rfl,fun w' hSw=>by clear hSw;go_simp⟩) (by assumption) ?_
          simp only[List.setIfInBounds_toArray,List.set_cons_zero,List.set_cons_succ]
          refine take_at (i:=13) (t:=95) (.slice (some ⟨gT,0,none⟩) 3 cT) rfl rfl (by kernel_rfl) (by kernel_rfl) (by kernel_rfl) (fun _ _ _ h=>h) (_root_.Or.inl ⟨by rfl,fun w' hSw=>by have c:=hSw.cell t1 (by simp);clear hSw;go_simp⟩) (by assumption) ?_
          simp only[List.setIfInBounds_toArray,List.set_cons_zero,List.set_cons_succ]
          refine take_at (i:=14) (t:=96) (.pointer (some ⟨gT,8,none⟩)) rfl rfl (by kernel_rfl) (by kernel_rfl) (by kernel_rfl) (fun _ _ _ h=>h) (_root_.Or.inl ⟨by rfl,fun w' hSw=>by clear hSw;go_simp⟩) (by assumption) ?_
          simp only[List.setIfInBounds_toArray,List.set_cons_zero,List.set_cons_succ]
          refine take_at (i:=15) (t:=97) (.pointer (some ⟨gT,10,none⟩)) rfl rfl (by kernel_rfl) (by kernel_rfl) (by kernel_rfl) (fun _ _ _ h=>h) (_root_.Or.inl ⟨by rfl,fun w' hSw=>by clear hSw;go_simp⟩) (by assumption) ?_
          simp only[List.setIfInBounds_toArray,List.set_cons_zero,List.set_cons_succ]
          refine take_at (i:=16) (t:=98) (.slice a5 l2 c5) rfl rfl (by kernel_rfl) (by kernel_rfl) (by kernel_rfl) (fun _ _ _ h=>h) (_root_.Or.inl ⟨by rfl,fun w' hSw=>by have c:=hSw.cell t4 (by simp);clear hSw;go_simp⟩) (by assumption) ?_
          simp only[List.setIfInBounds_toArray,List.set_cons_zero,List.set_cons_succ]
          refine take_at (i:=20) (t:=102) (.agg (List.toArray [.int .i64 fl,.int .i64 au,.int .i64 st,.int .i64 fi,.int .i64 re,.int .u64 (jY.toNat:Int),.string ⟨nm.toArray⟩,.int .i64 no])) rfl rfl (by kernel_rfl) (by kernel_rfl) (by kernel_rfl) (fun _ _ _ h=>h) (yieldsIf_load_mid (by rfl) _ _ rfl w6.heap.size 0 rfl [.int .i64 fl,.int .i64 au,.int .i64 st,.int .i64 fi,.int .i64 re,.int .u64 (jY.toNat:Int),.string ⟨nm.toArray⟩,.int .i64 no] _ (fun w' hSw=>(UR.out.grown hSw (by simp)).range) Tryz.underlying79 rfl Tryz.Mt) (by assumption) ?_
          simp only[List.setIfInBounds_toArray,List.set_cons_zero,List.set_cons_succ]
          refine iB (fun X=>W7.grownBy X none) (JO (World.grownBy.refl _ _)) ?_
          rintro V0 hg0
          have G0:=hid hg0
          clear hg0 t1 t2 t3 t4
          refine mU (i:=5) (j:=22) rfl rfl (by kernel_rfl) (fun K hK=>?_) (fun K hK=>?_)
          ·skip
           go_simp
           refine (pX z0 (.slice a0 l0 c0) V0 (by have:=D8.out;omega) (Ry.out.grown G0.out)).mono ?_
           rintro e w1 ⟨o,rfl,q4,g5⟩
           obtain ⟨a2,c3,hv⟩:=q4.has.shape
           subst hv
           have G6:=hid (ae G0.out g5)
           have A7:=hid ((qY.nil V0).push g5 q4.has)
           clear q4 g5
           go_wp2_with fail
           refine hK.out _ _ G6.out (fun hHeld=>?_)
           clear hK K
           try simp only[Act.put,List.setIfInBounds_toArray,List.set_cons_zero,List.set_cons_succ]
           refine mU (i:=11) (j:=22) rfl rfl (by kernel_rfl) (fun K hK=>?_) (fun K hK=>?_)
           ·skip
            go_simp
            refine (jD v1 w1 D8.out.2.2).mono ?_
            rintro e w8 ⟨o,rfl,Wv,g12⟩
            obtain ⟨a9,c10,hv⟩:=Wv.has.shape
            subst hv
            have WT:=hid (ae G6.out g12)
            have A14:=hid (A7.out.push g12 Wv.has)
            clear Wv g12
            go_wp2_with fail
            refine hK.out _ _ WT.out (fun hHeld=>?_)
            clear hK K
            try simp only[Act.put,List.setIfInBounds_toArray,List.set_cons_zero,List.set_cons_succ]
            refine mU (i:=17) (j:=22) rfl rfl (by kernel_rfl) (fun K hK=>?_) (fun K hK=>?_)
            ·skip
             go_simp
             refine (pX z2 (.slice a5 l2 c5) w8 (by have:=D8.out;omega) (Cx.out.grown WT.out)).mono ?_
             rintro e Ql ⟨o,rfl,q18,g19⟩
             obtain ⟨a16,c17,hv⟩:=q18.has.shape
             subst hv
             have G20:=hid (ae WT.out g19)
             have A21:=hid (A14.out.push g19 q18.has)
             clear q18 g19
             go_wp2_with fail
             refine hK.out _ _ G20.out (fun hHeld=>?_)
             clear hK K
             try simp only[Act.put,List.setIfInBounds_toArray,List.set_cons_zero,List.set_cons_succ]
             refine mU (i:=18) (j:=22) rfl rfl (by kernel_rfl) (fun K hK=>?_) (fun K hK=>?_)
             ·skip
              rw[if_pos (by rfl)]
              refine vQ 36 3 _ rfl 25 ibT _ Tryz.underlying36 UT UW UU [.slice a2 (gK 4 z0).length c3,.slice a9 (aN v1).length c10,.slice a16 (gK 4 z2).length c17] rfl rfl (by decide) (by decide) (p9 _ _ _ _ _ _ _ _ _) ?_
              refine hK.out _ _ (aC G20.out _) (fun hHeld=>?_)
              clear hK K
              try simp only[Act.put,List.setIfInBounds_toArray,List.set_cons_zero,List.set_cons_succ]
              refine iB (fun X=>W7.grownBy X none∧Ql.grownBy X none∧X.rangeAt Ql.heap.size 0 [.slice a2 (gK 4 z0).length c3,.slice a9 (aN v1).length c10,.slice a16 (gK 4 z2).length c17]) ⟨aC G20.out _,World.grownBy_alloc Ql _ none,aQ Ql _ _⟩ ?_
              rintro V22 ⟨hg,hgv,hr⟩
              have Qk:=hid hg
              have A24:=hid (A21.out.grown hgv)
              have R25:=hid hr
              clear hg hgv hr
              refine mU (i:=19) (j:=22) rfl rfl (by kernel_rfl) (fun K hK=>?_) (fun K hK=>?_)
              ·skip
               go_simp
               refine (A24.out.En Ql.heap.size 3 R25.out rfl (by decide) Lu.out).mono ?_
               rintro e Yl ⟨o,rfl,hq,g27⟩
               obtain ⟨zz,hz1,hz2⟩:∃ zz:List UInt8,dL _ Yl o zz∧zz.length≤2000:=⟨_,hq,Nat.le_trans (kM _ _) (Nat.le_trans (Nat.add_le_add_right HF7.out 3) (by decide))⟩
               obtain ⟨rO,c11,nK⟩:=hz1.has.shape
               obtain ⟨n11,tH⟩:∃ n,zz.length=n:=⟨_,rfl⟩
               rw[tH] at nK
               subst nK
               have G28:=hid (ae Qk.out g27)
               have HO:Hid (dL W7.heap.size Yl (.slice rO n11 c11) zz∧zz.length≤2000):=⟨dL.base hz1 Qk.out.size,hz2⟩
               clear hq hz1 hz2 tH g27
               go_wp2_with fail
               refine hK.out _ _ G28.out (fun hHeld=>?_)
               clear hK K
               try simp only[Act.put,List.setIfInBounds_toArray,List.set_cons_zero,List.set_cons_succ]
               refine take_at (i:=21) (t:=103) (.agg #[.slice rO n11 c11,.int .i64 0,.int .i64 0,.int .i64 0,.int .i64 0,.int .i64 0,.int .u64 0,.string ⟨#[]⟩,.int .i64 0,.int .i64 fl,.int .i64 au,.int .i64 st,.int .i64 fi,.int .i64 re,.int .u64 (jY.toNat:Int),.string ⟨nm.toArray⟩,.int .i64 no]) rfl rfl (by kernel_rfl) (by kernel_rfl) (by kernel_rfl) (fun _ _ _ h=>h) (_root_.Or.inl ⟨by rfl,fun w' _=>lK w' 81 _ rfl _ rfl _ (by kernel_rfl)⟩) (by assumption) ?_
               simp only[List.setIfInBounds_toArray,List.set_cons_zero,List.set_cons_succ]
               refine ready_one (i:=22) rfl (by kernel_rfl) (fun K hK=>?_)
               go_simp
               refine hK.out _ _ (aC G28.out _) (fun hHeld=>?_)
               clear hK K
               try simp only[Act.put,List.setIfInBounds_toArray,List.set_cons_zero,List.set_cons_succ]
               refine iB (fun X=>W7.grownBy X none∧bI X Yl.heap.size jH∧dL W7.heap.size X (.slice rO n11 c11) zz) ⟨aC G28.out _,bI.new Yl _ _,HO.out.1.grown (World.grownBy_alloc Yl _ none)⟩ ?_
               rintro V29 ⟨hg,hz,hm⟩
               have MR:Hid (∀ b,(Value.slice rO n11 c11).ownBlock=some b→b≠Yl.heap.size):=fun b e q=>by have:=(HO.out.1.lt b e).2;omega
               have JP:Hid (W7.heap.size≤Yl.heap.size):=G28.out.size
               have tZ:Hid (dL W7.heap.size V29 (.slice rO n11 c11) zz∧zz.length≤2000):=⟨hm,HO.out.2⟩
               have GG:=hid hg
               have ZZ:=hid hz
               clear hg hz hm
               generalize hCS:(#[.slice rO n11 c11,.int .i64 0,.int .i64 0,.int .i64 0,.int .i64 0,.int .i64 0,.int .u64 0,.string ⟨#[]⟩,.int .i64 0,.int .i64 fl,.int .i64 au,.int .i64 st,.int .i64 fi,.int .i64 re,.int .u64 (jY.toNat:Int),.string ⟨nm.toArray⟩,.int .i64 no]:Array Value)=CS
               have F8:Hid (uO (.slice rO n11 c11) fl au st fi re jY nm no=CS):=hCS
               have hsz:=mX hCS
               refine ready_one (i:=23) rfl (by kernel_rfl) (fun K hK=>?_)
               rw[if_pos (by rfl)]
               refine wp_store_mid 81 _ _ rfl Yl.heap.size 0 CS rfl rfl ((mW ZZ.out).there 0 _ (by omega)) (by rw[hsz];exact Tryz.mZ) (by rw[←Array.toArray_toList (xs:=CS)];exact all_oneCell_toArray (nN hCS)) ?_
               refine hK.out _ _ (mV GG.out _ _ JP.out) (fun hHeld=>?_)
               clear hK K
               refine wpAnyH_done (by kernel_rfl) ?_ _
               go_wp2
               go_meet
               exact mY F8.out ZZ.out GG.out JP.out tZ.out MR.out
              ·skip
               go_simp
               refine hK.out _ _ (aC Qk.out _) (fun hHeld=>?_)
               clear hK K
               try simp only[Act.put,List.setIfInBounds_toArray,List.set_cons_zero,List.set_cons_succ]
               refine iB (fun X=>W7.grownBy X none∧V22.grownBy X none∧bI X V22.heap.size jH) ⟨aC Qk.out _,World.grownBy_alloc V22 _ none,bI.new V22 _ _⟩ ?_
               rintro V30 ⟨hg,hgv,hz⟩
               have G31:=hid hg
               have Z32:=hid hz
               have JP:Hid (W7.heap.size≤V22.heap.size):=Qk.out.size
               have A33:=hid (A24.out.grown hgv)
               have R34:=hid (fH R25.out hgv)
               clear hg hgv hz
               refine ready_one (i:=19) rfl (by kernel_rfl) (fun K hK=>?_)
               go_simp
               refine (A33.out.En Ql.heap.size 3 R34.out rfl (by decide) Lu.out).mono ?_
               rintro e w35 ⟨o,rfl,hq,g36⟩
               obtain ⟨zz,hz1,hz2⟩:∃ zz:List UInt8,dL _ w35 o zz∧zz.length≤2000:=⟨_,hq,Nat.le_trans (kM _ _) (Nat.le_trans (Nat.add_le_add_right HF7.out 3) (by decide))⟩
               obtain ⟨rO,c11,nK⟩:=hz1.has.shape
               obtain ⟨n11,tH⟩:∃ n,zz.length=n:=⟨_,rfl⟩
               rw[tH] at nK
               subst nK
               have G37:=hid (ae G31.out g36)
               have HO:Hid (dL W7.heap.size w35 (.slice rO n11 c11) zz∧zz.length≤2000):=⟨dL.base hz1 G31.out.size,hz2⟩
               have Z38:=hid (bI.grown Z32.out g36 (by simp))
               have MR:Hid (∀ b,(Value.slice rO n11 c11).ownBlock=some b→b≠V22.heap.size):=ne_of hz1 (bI.lt Z32.out)
               clear hq hz1 hz2 tH g36
               go_wp2_with fail
               refine hK.out _ _ G37.out (fun hHeld=>?_)
               clear hK K
               try simp only[Act.put,List.setIfInBounds_toArray,List.set_cons_zero,List.set_cons_succ]
               refine take_at (i:=21) (t:=103) (.agg #[.slice rO n11 c11,.int .i64 0,.int .i64 0,.int .i64 0,.int .i64 0,.int .i64 0,.int .u64 0,.string ⟨#[]⟩,.int .i64 0,.int .i64 fl,.int .i64 au,.int .i64 st,.int .i64 fi,.int .i64 re,.int .u64 (jY.toNat:Int),.string ⟨nm.toArray⟩,.int .i64 no]) rfl rfl (by kernel_rfl) (by kernel_rfl) (by kernel_rfl) (fun _ _ _ h=>h) (_root_.Or.inl ⟨by rfl,fun w' _=>lK w' 81 _ rfl _ rfl _ (by kernel_rfl)⟩) (by assumption) ?_
               simp only[List.setIfInBounds_toArray,List.set_cons_zero,List.set_cons_succ]
               have tZ:=hid HO.out
               have GG:=hid G37.out
               have ZZ:=hid Z38.out
               generalize hCS:(#[.slice rO n11 c11,.int .i64 0,.int .i64 0,.int .i64 0,.int .i64 0,.int .i64 0,.int .u64 0,.string ⟨#[]⟩,.int .i64 0,.int .i64 fl,.int .i64 au,.int .i64 st,.int .i64 fi,.int .i64 re,.int .u64 (jY.toNat:Int),.string ⟨nm.toArray⟩,.int .i64 no]:Array Value)=CS
               have F8:Hid (uO (.slice rO n11 c11) fl au st fi re jY nm no=CS):=hCS
               have hsz:=mX hCS
               refine ready_one (i:=23) rfl (by kernel_rfl) (fun K hK=>?_)
               rw[if_pos (by rfl)]
               refine wp_store_mid 81 _ _ rfl V22.heap.size 0 CS rfl rfl ((mW ZZ.out).there 0 _ (by omega)) (by rw[hsz];exact Tryz.mZ) (by rw[←Array.toArray_toList (xs:=CS)];exact all_oneCell_toArray (nN hCS)) ?_
               refine hK.out _ _ (mV GG.out _ _ JP.out) (fun hHeld=>?_)
               clear hK K
               refine wpAnyH_done (by kernel_rfl) ?_ _
               go_wp2
               go_meet
               exact mY F8.out ZZ.out GG.out JP.out tZ.out MR.out
             ·skip
              go_simp
              refine hK.out _ _ (aC G20.out _) (fun hHeld=>?_)
              clear hK K
              try simp only[Act.put,List.setIfInBounds_toArray,List.set_cons_zero,List.set_cons_succ]
              refine iB (fun X=>W7.grownBy X none∧Ql.grownBy X none∧bI X Ql.heap.size jH) ⟨aC G20.out _,World.grownBy_alloc Ql _ none,bI.new Ql _ _⟩ ?_
              rintro V39 ⟨hg,hgv,hz⟩
              have G40:=hid hg
              have Z41:=hid hz
              have JP:Hid (W7.heap.size≤Ql.heap.size):=G20.out.size
              have A42:=hid (A21.out.grown hgv)
              clear hg hgv hz
              refine ready_one (i:=18) rfl (by kernel_rfl) (fun K hK=>?_)
              rw[if_pos (by rfl)]
              refine vQ 36 3 _ rfl 25 ibT _ Tryz.underlying36 UT UW UU [.slice a2 (gK 4 z0).length c3,.slice a9 (aN v1).length c10,.slice a16 (gK 4 z2).length c17] rfl rfl (by decide) (by decide) (p9 _ _ _ _ _ _ _ _ _) ?_
              refine hK.out _ _ (aC G40.out _) (fun hHeld=>?_)
              clear hK K
              try simp only[Act.put,List.setIfInBounds_toArray,List.set_cons_zero,List.set_cons_succ]
              refine iB (fun X=>W7.grownBy X none∧V39.grownBy X none∧X.rangeAt V39.heap.size 0 [.slice a2 (gK 4 z0).length c3,.slice a9 (aN v1).length c10,.slice a16 (gK 4 z2).length c17]) ⟨aC G40.out _,World.grownBy_alloc V39 _ none,aQ V39 _ _⟩ ?_
              rintro V43 ⟨hg,hgv,hr⟩
              have G44:=hid hg
              have A45:=hid (A42.out.grown hgv)
              have R46:=hid hr
              have Z47:=hid (bI.grown Z41.out hgv (by simp))
              clear hg hgv hr
              refine ready_one (i:=19) rfl (by kernel_rfl) (fun K hK=>?_)
              go_simp
              refine (A45.out.En V39.heap.size 3 R46.out rfl (by decide) Lu.out).mono ?_
              rintro e w48 ⟨o,rfl,hq,g49⟩
              obtain ⟨zz,hz1,hz2⟩:∃ zz:List UInt8,dL _ w48 o zz∧zz.length≤2000:=⟨_,hq,Nat.le_trans (kM _ _) (Nat.le_trans (Nat.add_le_add_right HF7.out 3) (by decide))⟩
              obtain ⟨rO,c11,nK⟩:=hz1.has.shape
              obtain ⟨n11,tH⟩:∃ n,zz.length=n:=⟨_,rfl⟩
              rw[tH] at nK
              subst nK
              have G50:=hid (ae G44.out g49)
              have HO:Hid (dL W7.heap.size w48 (.slice rO n11 c11) zz∧zz.length≤2000):=⟨dL.base hz1 G44.out.size,hz2⟩
              have Z51:=hid (bI.grown Z47.out g49 (by simp))
              have MR:Hid (∀ b,(Value.slice rO n11 c11).ownBlock=some b→b≠Ql.heap.size):=ne_of hz1 (bI.lt Z47.out)
              clear hq hz1 hz2 tH g49
              go_wp2_with fail
              refine hK.out _ _ G50.out (fun hHeld=>?_)
              clear hK K
              try simp only[Act.put,List.setIfInBounds_toArray,List.set_cons_zero,List.set_cons_succ]
              refine take_at (i:=21) (t:=103) (.agg #[.slice rO n11 c11,.int .i64 0,.int .i64 0,.int .i64 0,.int .i64 0,.int .i64 0,.int .u64 0,.string ⟨#[]⟩,.int .i64 0,.int .i64 fl,.int .i64 au,.int .i64 st,.int .i64 fi,.int .i64 re,.int .u64 (jY.toNat:Int),.string ⟨nm.toArray⟩,.int .i64 no]) rfl rfl (by kernel_rfl) (by kernel_rfl) (by kernel_rfl) (fun _ _ _ h=>h) (_root_.Or.inl ⟨by rfl,fun w' _=>lK w' 81 _ rfl _ rfl _ (by kernel_rfl)⟩) (by assumption) ?_
              simp only[List.setIfInBounds_toArray,List.set_cons_zero,List.set_cons_succ]
              have tZ:=hid HO.out
              have GG:=hid G50.out
              have ZZ:=hid Z51.out
              generalize hCS:(#[.slice rO n11 c11,.int .i64 0,.int .i64 0,.int .i64 0,.int .i64 0,.int .i64 0,.int .u64 0,.string ⟨#[]⟩,.int .i64 0,.int .i64 fl,.int .i64 au,.int .i64 st,.int .i64 fi,.int .i64 re,.int .u64 (jY.toNat:Int),.string ⟨nm.toArray⟩,.int .i64 no]:Array Value)=CS
              have F8:Hid (uO (.slice rO n11 c11) fl au st fi re jY nm no=CS):=hCS
              have hsz:=mX hCS
              refine ready_one (i:=23) rfl (by kernel_rfl) (fun K hK=>?_)
              rw[if_pos (by rfl)]
              refine wp_store_mid 81 _ _ rfl Ql.heap.size 0 CS rfl rfl ((mW ZZ.out).there 0 _ (by omega)) (by rw[hsz];exact Tryz.mZ) (by rw[←Array.toArray_toList (xs:=CS)];exact all_oneCell_toArray (nN hCS)) ?_
              refine hK.out _ _ (mV GG.out _ _ JP.out) (fun hHeld=>?_)
              clear hK K
              refine wpAnyH_done (by kernel_rfl) ?_ _
              go_wp2
              go_meet
              exact mY F8.out ZZ.out GG.out JP.out tZ.out MR.out
            ·skip
             go_simp
             refine hK.out _ _ (aC WT.out _) (fun hHeld=>?_)
             clear hK K
             try simp only[Act.put,List.setIfInBounds_toArray,List.set_cons_zero,List.set_cons_succ]
             refine iB (fun X=>W7.grownBy X none∧w8.grownBy X none∧bI X w8.heap.size jH) ⟨aC WT.out _,World.grownBy_alloc w8 _ none,bI.new w8 _ _⟩ ?_
             rintro V52 ⟨hg,hgv,hz⟩
             have G53:=hid hg
             have Z54:=hid hz
             have JP:Hid (W7.heap.size≤w8.heap.size):=WT.out.size
             have A55:=hid (A14.out.grown hgv)
             clear hg hgv hz
             refine ready_one (i:=17) rfl (by kernel_rfl) (fun K hK=>?_)
             go_simp
             refine (pX z2 (.slice a5 l2 c5) V52 (by have:=D8.out;omega) (Cx.out.grown G53.out)).mono ?_
             rintro e w56 ⟨o,rfl,q59,g60⟩
             obtain ⟨a57,c58,hv⟩:=q59.has.shape
             subst hv
             have G61:=hid (ae G53.out g60)
             have A62:=hid (A55.out.push g60 q59.has)
             have Z63:=hid (bI.grown Z54.out g60 (by simp))
             clear q59 g60
             go_wp2_with fail
             refine hK.out _ _ G61.out (fun hHeld=>?_)
             clear hK K
             try simp only[Act.put,List.setIfInBounds_toArray,List.set_cons_zero,List.set_cons_succ]
             refine ready_one (i:=18) rfl (by kernel_rfl) (fun K hK=>?_)
             rw[if_pos (by rfl)]
             refine vQ 36 3 _ rfl 25 ibT _ Tryz.underlying36 UT UW UU [.slice a2 (gK 4 z0).length c3,.slice a9 (aN v1).length c10,.slice a57 (gK 4 z2).length c58] rfl rfl (by decide) (by decide) (p9 _ _ _ _ _ _ _ _ _) ?_
             refine hK.out _ _ (aC G61.out _) (fun hHeld=>?_)
             clear hK K
             try simp only[Act.put,List.setIfInBounds_toArray,List.set_cons_zero,List.set_cons_succ]
             refine iB (fun X=>W7.grownBy X none∧w56.grownBy X none∧X.rangeAt w56.heap.size 0 [.slice a2 (gK 4 z0).length c3,.slice a9 (aN v1).length c10,.slice a57 (gK 4 z2).length c58]) ⟨aC G61.out _,World.grownBy_alloc w56 _ none,aQ w56 _ _⟩ ?_
             rintro V64 ⟨hg,hgv,hr⟩
             have G65:=hid hg
             have A66:=hid (A62.out.grown hgv)
             have R67:=hid hr
             have Z68:=hid (bI.grown Z63.out hgv (by simp))
             clear hg hgv hr
             refine ready_one (i:=19) rfl (by kernel_rfl) (fun K hK=>?_)
             go_simp
             refine (A66.out.En w56.heap.size 3 R67.out rfl (by decide) Lu.out).mono ?_
             rintro e w69 ⟨o,rfl,hq,g70⟩
             obtain ⟨zz,hz1,hz2⟩:∃ zz:List UInt8,dL _ w69 o zz∧zz.length≤2000:=⟨_,hq,Nat.le_trans (kM _ _) (Nat.le_trans (Nat.add_le_add_right HF7.out 3) (by decide))⟩
             obtain ⟨rO,c11,nK⟩:=hz1.has.shape
             obtain ⟨n11,tH⟩:∃ n,zz.length=n:=⟨_,rfl⟩
             rw[tH] at nK
             subst nK
             have G71:=hid (ae G65.out g70)
             have HO:Hid (dL W7.heap.size w69 (.slice rO n11 c11) zz∧zz.length≤2000):=⟨dL.base hz1 G65.out.size,hz2⟩
             have Z72:=hid (bI.grown Z68.out g70 (by simp))
             have MR:Hid (∀ b,(Value.slice rO n11 c11).ownBlock=some b→b≠w8.heap.size):=ne_of hz1 (bI.lt Z68.out)
             clear hq hz1 hz2 tH g70
             go_wp2_with fail
             refine hK.out _ _ G71.out (fun hHeld=>?_)
             clear hK K
             try simp only[Act.put,List.setIfInBounds_toArray,List.set_cons_zero,List.set_cons_succ]
             refine take_at (i:=21) (t:=103) (.agg #[.slice rO n11 c11,.int .i64 0,.int .i64 0,.int .i64 0,.int .i64 0,.int .i64 0,.int .u64 0,.string ⟨#[]⟩,.int .i64 0,.int .i64 fl,.int .i64 au,.int .i64 st,.int .i64 fi,.int .i64 re,.int .u64 (jY.toNat:Int),.string ⟨nm.toArray⟩,.int .i64 no]) rfl rfl (by kernel_rfl) (by kernel_rfl) (by kernel_rfl) (fun _ _ _ h=>h) (_root_.Or.inl ⟨by rfl,fun w' _=>lK w' 81 _ rfl _ rfl _ (by kernel_rfl)⟩) (by assumption) ?_
             simp only[List.setIfInBounds_toArray,List.set_cons_zero,List.set_cons_succ]
             have tZ:=hid HO.out
             have GG:=hid G71.out
             have ZZ:=hid Z72.out
             generalize hCS:(#[.slice rO n11 c11,.int .i64 0,.int .i64 0,.int .i64 0,.int .i64 0,.int .i64 0,.int .u64 0,.string ⟨#[]⟩,.int .i64 0,.int .i64 fl,.int .i64 au,.int .i64 st,.int .i64 fi,.int .i64 re,.int .u64 (jY.toNat:Int),.string ⟨nm.toArray⟩,.int .i64 no]:Array Value)=CS
             have F8:Hid (uO (.slice rO n11 c11) fl au st fi re jY nm no=CS):=hCS
             have hsz:=mX hCS
             refine ready_one (i:=23) rfl (by kernel_rfl) (fun K hK=>?_)
             rw[if_pos (by rfl)]
             refine wp_store_mid 81 _ _ rfl w8.heap.size 0 CS rfl rfl ((mW ZZ.out).there 0 _ (by omega)) (by rw[hsz];exact Tryz.mZ) (by rw[←Array.toArray_toList (xs:=CS)];exact all_oneCell_toArray (nN hCS)) ?_
             refine hK.out _ _ (mV GG.out _ _ JP.out) (fun hHeld=>?_)
             clear hK K
             refine wpAnyH_done (by kernel_rfl) ?_ _
             go_wp2
             go_meet
             exact mY F8.out ZZ.out GG.out JP.out tZ.out MR.out
           ·skip
            go_simp
            refine hK.out _ _ (aC G6.out _) (fun hHeld=>?_)
            clear hK K
            try simp only[Act.put,List.setIfInBounds_toArray,List.set_cons_zero,List.set_cons_succ]
            refine iB (fun X=>W7.grownBy X none∧w1.grownBy X none∧bI X w1.heap.size jH) ⟨aC G6.out _,World.grownBy_alloc w1 _ none,bI.new w1 _ _⟩ ?_
            rintro V73 ⟨hg,hgv,hz⟩
            have G74:=hid hg
            have Z75:=hid hz
            have JP:Hid (W7.heap.size≤w1.heap.size):=G6.out.size
            have A76:=hid (A7.out.grown hgv)
            clear hg hgv hz
            refine ready_one (i:=11) rfl (by kernel_rfl) (fun K hK=>?_)
            go_simp
            refine (jD v1 V73 D8.out.2.2).mono ?_
            rintro e w77 ⟨o,rfl,q80,g81⟩
            obtain ⟨a78,c79,hv⟩:=q80.has.shape
            subst hv
            have G82:=hid (ae G74.out g81)
            have A83:=hid (A76.out.push g81 q80.has)
            have Z84:=hid (bI.grown Z75.out g81 (by simp))
            clear q80 g81
            go_wp2_with fail
            refine hK.out _ _ G82.out (fun hHeld=>?_)
            clear hK K
            try simp only[Act.put,List.setIfInBounds_toArray,List.set_cons_zero,List.set_cons_succ]
            refine ready_one (i:=17) rfl (by kernel_rfl) (fun K hK=>?_)
            go_simp
            refine (pX z2 (.slice a5 l2 c5) w77 (by have:=D8.out;omega) (Cx.out.grown G82.out)).mono ?_
            rintro e w85 ⟨o,rfl,q88,g89⟩
            obtain ⟨a86,c87,hv⟩:=q88.has.shape
            subst hv
            have G90:=hid (ae G82.out g89)
            have A91:=hid (A83.out.push g89 q88.has)
            have Z92:=hid (bI.grown Z84.out g89 (by simp))
            clear q88 g89
            go_wp2_with fail
            refine hK.out _ _ G90.out (fun hHeld=>?_)
            clear hK K
            try simp only[Act.put,List.setIfInBounds_toArray,List.set_cons_zero,List.set_cons_succ]
            refine ready_one (i:=18) rfl (by kernel_rfl) (fun K hK=>?_)
            rw[if_pos (by rfl)]
            refine vQ 36 3 _ rfl 25 ibT _ Tryz.underlying36 UT UW UU [.slice a2 (gK 4 z0).length c3,.slice a78 (aN v1).length c79,.slice a86 (gK 4 z2).length c87] rfl rfl (by decide) (by decide) (p9 _ _ _ _ _ _ _ _ _) ?_
            refine hK.out _ _ (aC G90.out _) (fun hHeld=>?_)
            clear hK K
            try simp only[Act.put,List.setIfInBounds_toArray,List.set_cons_zero,List.set_cons_succ]
            refine iB (fun X=>W7.grownBy X none∧w85.grownBy X none∧X.rangeAt w85.heap.size 0 [.slice a2 (gK 4 z0).length c3,.slice a78 (aN v1).length c79,.slice a86 (gK 4 z2).length c87]) ⟨aC G90.out _,World.grownBy_alloc w85 _ none,aQ w85 _ _⟩ ?_
            rintro V93 ⟨hg,hgv,hr⟩
            have G94:=hid hg
            have A95:=hid (A91.out.grown hgv)
            have R96:=hid hr
            have Z97:=hid (bI.grown Z92.out hgv (by simp))
            clear hg hgv hr
            refine ready_one (i:=19) rfl (by kernel_rfl) (fun K hK=>?_)
            go_simp
            refine (A95.out.En w85.heap.size 3 R96.out rfl (by decide) Lu.out).mono ?_
            rintro e w98 ⟨o,rfl,hq,g99⟩
            obtain ⟨zz,hz1,hz2⟩:∃ zz:List UInt8,dL _ w98 o zz∧zz.length≤2000:=⟨_,hq,Nat.le_trans (kM _ _) (Nat.le_trans (Nat.add_le_add_right HF7.out 3) (by decide))⟩
            obtain ⟨rO,c11,nK⟩:=hz1.has.shape
            obtain ⟨n11,tH⟩:∃ n,zz.length=n:=⟨_,rfl⟩
            rw[tH] at nK
            subst nK
            have adL:=hid (ae G94.out g99)
            have HO:Hid (dL W7.heap.size w98 (.slice rO n11 c11) zz∧zz.length≤2000):=⟨dL.base hz1 G94.out.size,hz2⟩
            have ah0:=hid (bI.grown Z97.out g99 (by simp))
            have MR:Hid (∀ b,(Value.slice rO n11 c11).ownBlock=some b→b≠w1.heap.size):=ne_of hz1 (bI.lt Z97.out)
            clear hq hz1 hz2 tH g99
            go_wp2_with fail
            refine hK.out _ _ adL.out (fun hHeld=>?_)
            clear hK K
            try simp only[Act.put,List.setIfInBounds_toArray,List.set_cons_zero,List.set_cons_succ]
            refine take_at (i:=21) (t:=103) (.agg #[.slice rO n11 c11,.int .i64 0,.int .i64 0,.int .i64 0,.int .i64 0,.int .i64 0,.int .u64 0,.string ⟨#[]⟩,.int .i64 0,.int .i64 fl,.int .i64 au,.int .i64 st,.int .i64 fi,.int .i64 re,.int .u64 (jY.toNat:Int),.string ⟨nm.toArray⟩,.int .i64 no]) rfl rfl (by kernel_rfl) (by kernel_rfl) (by kernel_rfl) (fun _ _ _ h=>h) (_root_.Or.inl ⟨by rfl,fun w' _=>lK w' 81 _ rfl _ rfl _ (by kernel_rfl)⟩) (by assumption) ?_
            simp only[List.setIfInBounds_toArray,List.set_cons_zero,List.set_cons_succ]
            have tZ:=hid HO.out
            have GG:=hid adL.out
            have ZZ:=hid ah0.out
            generalize hCS:(#[.slice rO n11 c11,.int .i64 0,.int .i64 0,.int .i64 0,.int .i64 0,.int .i64 0,.int .u64 0,.string ⟨#[]⟩,.int .i64 0,.int .i64 fl,.int .i64 au,.int .i64 st,.int .i64 fi,.int .i64 re,.int .u64 (jY.toNat:Int),.string ⟨nm.toArray⟩,.int .i64 no]:Array Value)=CS
            have F8:Hid (uO (.slice rO n11 c11) fl au st fi re jY nm no=CS):=hCS
            have hsz:=mX hCS
            refine ready_one (i:=23) rfl (by kernel_rfl) (fun K hK=>?_)
            rw[if_pos (by rfl)]
            refine wp_store_mid 81 _ _ rfl w1.heap.size 0 CS rfl rfl ((mW ZZ.out).there 0 _ (by omega)) (by rw[hsz];exact Tryz.mZ) (by rw[←Array.toArray_toList (xs:=CS)];exact all_oneCell_toArray (nN hCS)) ?_
            refine hK.out _ _ (mV GG.out _ _ JP.out) (fun hHeld=>?_)
            clear hK K
            refine wpAnyH_done (by kernel_rfl) ?_ _
            go_wp2
            go_meet
            exact mY F8.out ZZ.out GG.out JP.out tZ.out MR.out
          ·skip
           go_simp
           refine hK.out _ _ (aC G0.out _) (fun hHeld=>?_)
           clear hK K
           try simp only[Act.put,List.setIfInBounds_toArray,List.set_cons_zero,List.set_cons_succ]
           refine iB (fun X=>W7.grownBy X none∧V0.grownBy X none∧bI X V0.heap.size jH) ⟨aC G0.out _,World.grownBy_alloc V0 _ none,bI.new V0 _ _⟩ ?_
           rintro adM ⟨hg,hgv,hz⟩
           have adN:=hid hg
           have ah1:=hid hz
           have JP:Hid (W7.heap.size≤V0.heap.size):=G0.out.size
           clear hg hgv hz
           refine ready_one (i:=5) rfl (by kernel_rfl) (fun K hK=>?_)
           go_simp
           refine (pX z0 (.slice a0 l0 c0) adM (by have:=D8.out;omega) (Ry.out.grown adN.out)).mono ?_
           rintro e ah2 ⟨o,rfl,aak,Xt⟩
           obtain ⟨adO,c107,hv⟩:=aak.has.shape
           subst hv
           have adP:=hid (ae adN.out Xt)
           have ah3:=hid ((qY.nil adM).push Xt aak.has)
           have ah4:=hid (bI.grown ah1.out Xt (by simp))
           clear aak Xt
           go_wp2_with fail
           refine hK.out _ _ adP.out (fun hHeld=>?_)
           clear hK K
           try simp only[Act.put,List.setIfInBounds_toArray,List.set_cons_zero,List.set_cons_succ]
           refine ready_one (i:=11) rfl (by kernel_rfl) (fun K hK=>?_)
           go_simp
           refine (jD v1 ah2 D8.out.2.2).mono ?_
           rintro e ah5 ⟨o,rfl,aal,Xu⟩
           obtain ⟨adQ,adR,hv⟩:=aal.has.shape
           subst hv
           have aam:=hid (ae adP.out Xu)
           have ah6:=hid (ah3.out.push Xu aal.has)
           have ah7:=hid (bI.grown ah4.out Xu (by simp))
           clear aal Xu
           go_wp2_with fail
           refine hK.out _ _ aam.out (fun hHeld=>?_)
           clear hK K
           try simp only[Act.put,List.setIfInBounds_toArray,List.set_cons_zero,List.set_cons_succ]
           refine ready_one (i:=17) rfl (by kernel_rfl) (fun K hK=>?_)
           go_simp
           refine (pX z2 (.slice a5 l2 c5) ah5 (by have:=D8.out;omega) (Cx.out.grown aam.out)).mono ?_
           rintro e UX ⟨o,rfl,aan,Xv⟩
           obtain ⟨adS,adT,hv⟩:=aan.has.shape
           subst hv
           have aao:=hid (ae aam.out Xv)
           have ah8:=hid (ah6.out.push Xv aan.has)
           have ah9:=hid (bI.grown ah7.out Xv (by simp))
           clear aan Xv
           go_wp2_with fail
           refine hK.out _ _ aao.out (fun hHeld=>?_)
           clear hK K
           try simp only[Act.put,List.setIfInBounds_toArray,List.set_cons_zero,List.set_cons_succ]
           refine ready_one (i:=18) rfl (by kernel_rfl) (fun K hK=>?_)
           rw[if_pos (by rfl)]
           refine vQ 36 3 _ rfl 25 ibT _ Tryz.underlying36 UT UW UU [.slice adO (gK 4 z0).length c107,.slice adQ (aN v1).length adR,.slice adS (gK 4 z2).length adT] rfl rfl (by decide) (by decide) (p9 _ _ _ _ _ _ _ _ _) ?_
           refine hK.out _ _ (aC aao.out _) (fun hHeld=>?_)
           clear hK K
           try simp only[Act.put,List.setIfInBounds_toArray,List.set_cons_zero,List.set_cons_succ]
           refine iB (fun X=>W7.grownBy X none∧UX.grownBy X none∧X.rangeAt UX.heap.size 0 [.slice adO (gK 4 z0).length c107,.slice adQ (aN v1).length adR,.slice adS (gK 4 z2).length adT]) ⟨aC aao.out _,World.grownBy_alloc UX _ none,aQ UX _ _⟩ ?_
           rintro aoB ⟨hg,hgv,hr⟩
           have adU:=hid hg
           have aia:=hid (ah8.out.grown hgv)
           have aib:=hid hr
           have adV:=hid (bI.grown ah9.out hgv (by simp))
           clear hg hgv hr
           refine ready_one (i:=19) rfl (by kernel_rfl) (fun K hK=>?_)
           go_simp
           refine (aia.out.En UX.heap.size 3 aib.out rfl (by decide) Lu.out).mono ?_
           rintro e adW ⟨o,rfl,hq,aap⟩
           obtain ⟨zz,hz1,hz2⟩:∃ zz:List UInt8,dL _ adW o zz∧zz.length≤2000:=⟨_,hq,Nat.le_trans (kM _ _) (Nat.le_trans (Nat.add_le_add_right HF7.out 3) (by decide))⟩
           obtain ⟨rO,c11,nK⟩:=hz1.has.shape
           obtain ⟨n11,tH⟩:∃ n,zz.length=n:=⟨_,rfl⟩
           rw[tH] at nK
           subst nK
           have adX:=hid (ae adU.out aap)
           have HO:Hid (dL W7.heap.size adW (.slice rO n11 c11) zz∧zz.length≤2000):=⟨dL.base hz1 adU.out.size,hz2⟩
           have aic:=hid (bI.grown adV.out aap (by simp))
           have MR:Hid (∀ b,(Value.slice rO n11 c11).ownBlock=some b→b≠V0.heap.size):=ne_of hz1 (bI.lt adV.out)
           clear hq hz1 hz2 tH aap
           go_wp2_with fail
           refine hK.out _ _ adX.out (fun hHeld=>?_)
           clear hK K
           try simp only[Act.put,List.setIfInBounds_toArray,List.set_cons_zero,List.set_cons_succ]
           refine take_at (i:=21) (t:=103) (.agg #[.slice rO n11 c11,.int .i64 0,.int .i64 0,.int .i64 0,.int .i64 0,.int .i64 0,.int .u64 0,.string ⟨#[]⟩,.int .i64 0,.int .i64 fl,.int .i64 au,.int .i64 st,.int .i64 fi,.int .i64 re,.int .u64 (jY.toNat:Int),.string ⟨nm.toArray⟩,.int .i64 no]) rfl rfl (by kernel_rfl) (by kernel_rfl) (by kernel_rfl) (fun _ _ _ h=>h) (_root_.Or.inl ⟨by rfl,fun w' _=>lK w' 81 _ rfl _ rfl _ (by kernel_rfl)⟩) (by assumption) ?_
           simp only[List.setIfInBounds_toArray,List.set_cons_zero,List.set_cons_succ]
           have tZ:=hid HO.out
           have GG:=hid adX.out
           have ZZ:=hid aic.out
           generalize hCS:(#[.slice rO n11 c11,.int .i64 0,.int .i64 0,.int .i64 0,.int .i64 0,.int .i64 0,.int .u64 0,.string ⟨#[]⟩,.int .i64 0,.int .i64 fl,.int .i64 au,.int .i64 st,.int .i64 fi,.int .i64 re,.int .u64 (jY.toNat:Int),.string ⟨nm.toArray⟩,.int .i64 no]:Array Value)=CS
           have F8:Hid (uO (.slice rO n11 c11) fl au st fi re jY nm no=CS):=hCS
           have hsz:=mX hCS
           refine ready_one (i:=23) rfl (by kernel_rfl) (fun K hK=>?_)
           rw[if_pos (by rfl)]
           refine wp_store_mid 81 _ _ rfl V0.heap.size 0 CS rfl rfl ((mW ZZ.out).there 0 _ (by omega)) (by rw[hsz];exact Tryz.mZ) (by rw[←Array.toArray_toList (xs:=CS)];exact all_oneCell_toArray (nN hCS)) ?_
           refine hK.out _ _ (mV GG.out _ _ JP.out) (fun hHeld=>?_)
           clear hK K
           refine wpAnyH_done (by kernel_rfl) ?_ _
           go_wp2
           go_meet
           exact mY F8.out ZZ.out GG.out JP.out tZ.out MR.out
         case rest=>
          obtain ⟨cb,v0,v1,v2,v3,v4,v5,v6,v7,v8,v9,v10,v11,v12,v13,v14,v15,v16,rfl,hg,hcb,bC,hCM,hone⟩:=hcut.gen (Yk.out.gb Vk.out).lt
          rename World=>V
          have hIW:=Yk.out.gb (ae Vk.out hg)
          obtain ⟨cs,ls,ms,nw,ca,la,ma,cc,lc,mc,rfl,FU,hcl,hll,Ch⟩:=hIW
          obtain ⟨ib,hib,hb0,hb1,hb2⟩:=info_parts Tryz.UJ
          have HT2:=hid FU
          have HCM:=hid hCM
          have Hlen:=hid (And.intro hcl (And.intro hll Ch))
          have HgV:=hid hg
          have x4:V.cell? ⟨L.pb,4,none⟩=some (.slice ca cs.length cc):=FU.pair.cell 4
          have x4a:=(World.grownBy_alloc V (.cells #[v0,v1,v2,v3,v4,v5,v6,v7,v8,v9,v10,v11,v12,v13,v14,v15,v16] 81) none).cell x4 (by simp)
          obtain ⟨y0,y1,y2,y3,y4,y5,y6,y7,y8,y9,y10,y11,y12,y13,y14,y15,y16⟩:=adw bC
          have hown:=FU.came
          have hl1:cs.length+1≤200000:=by have:=rM.out;have:=HCn.out;omega
          have hby:(cs.length+1)*168≤140737488355328:=by omega
          have hl63:cs.length+1≤maxLen:=by unfold maxLen;omega
          have hpb:L.pb<V.heap.size:=FU.pair.lt
          have RR:∀ a6 c6 w6,w6.ownsRow L.hi 81 17 (.slice a6 (cs.length+1) c6) (cs.length+1) (cs.flatten++[v0,v1,v2,v3,v4,v5,v6,v7,v8,v9,v10,v11,v12,v13,v14,v15,v16])→CF (V.alloc (.cells #[v0,v1,v2,v3,v4,v5,v6,v7,v8,v9,v10,v11,v12,v13,v14,v15,v16] 81)) w6 (fun b _=>(Value.slice ca cs.length cc).ownBlock=some b)→((Value.slice a6 (cs.length+1) c6).ownBlock=(Value.slice ca cs.length cc).ownBlock∨(Value.slice a6 (cs.length+1) c6).ownBlock=some (V.heap.size+1))→
            UM w0 L Mp Mq cs ls ms nw ca la ma lc mc V [v0,v1,v2,v3,v4,v5,v6,v7,v8,v9,v10,v11,v12,v13,v14,v15,v16] (w6.setCell ⟨L.pb,4,none⟩ (.slice a6 (cs.length+1) c6)):=by
           intro a6 c6 w6 ho hc hb
           have k:CF V w6 (fun b _=>jO ca=some b):=(CF.aW (World.grownBy_alloc V _ none) _).trans hc (fun b _ _ e=>by rw[bV] at e;exact e)
           obtain ⟨hS,hs⟩:=HT2.out.WZ (x:=[v0,v1,v2,v3,v4,v5,v6,v7,v8,v9,v10,v11,v12,v13,v14,v15,v16]) k ho (by
            rw[bV,bV] at hb
            rcases hb with hb | hb
            ·exact .inl hb
            ·exact .inr ⟨_,hb,by omega⟩) HCM.out
           exact ⟨a6,c6,hS,hs⟩
          clear FU hcl hll Ch hCM hg hcut bC FM HF7 Lu Ry Cx D8 t1 t2 t3 t4
          go_upto_region 16 with fail
          go_cut [] (fun wx=>UM w0 L Mp Mq cs ls ms nw ca la ma lc mc V [v0,v1,v2,v3,v4,v5,v6,v7,v8,v9,v10,v11,v12,v13,v14,v15,v16] wx)
          case first=>
           clear HF yG HI FV HE HE3 HR HCn HnR Xr Yk zL rM HTn HOb Vk UR Ho X9 Dy
           go_region_law (first|(refine tC rfl _ _ 34 rfl L.hi 81 ib _ 17 168 Tryz.underlying34 hib hb0 hb1 hb2 rfl (by decide) (.slice ca cs.length cc) cs.length _ ?s1 (hown.alloc _) ⟨V.heap.size,0,none⟩ 1 1 [v0,v1,v2,v3,v4,v5,v6,v7,v8,v9,v10,v11,v12,v13,v14,v15,v16] ?s2 rfl ?s3 ?s4 (by omega) hl63 hby ?s5 ?_;(case s1=>first | rfl | simp[Act.eval,Act.put]);(case s2=>first | rfl | simp[Act.eval,Act.put]);(case s3=>exact jS V _ _);(case s4=>exact hone);(case s5=>have:=HT2.out.hil;simp;omega);intro a6 c6 w6 hown6 JK hblk6;have UG:CF (V.alloc (.cells #[v0,v1,v2,v3,v4,v5,v6,v7,v8,v9,v10,v11,v12,v13,v14,v15,v16] 81)) w6 (fun b _=>(Value.slice ca cs.length cc).ownBlock=some b):=⟨JK.os,JK.tape,JK.output,JK.size,JK.block,JK.cells⟩;have Xm:=(HT2.out.pair.alloc (.cells #[v0,v1,v2,v3,v4,v5,v6,v7,v8,v9,v10,v11,v12,v13,v14,v15,v16] 81)).Uq UG (fun o e=>by rw[bV] at e;exact HT2.out.vL.1 e);have z6:=Xm.cell 4;have z6f:=Xm.frozen 4;simp only[List.getElem?_toArray,List.getElem?_cons_zero,List.getElem?_cons_succ] at z6;have R6:=hid (RR a6 c6 w6 hown6 UG (by simpa using hblk6.out))))
           all_goals
            go_wp2
            go_meet
            exact R6.out
          case rest=>
           obtain ⟨ca2,cc2,hS2,hs2⟩:=hcut
           obtain ⟨is,his,hi0,hi1,hi2⟩:=info_parts Tryz.UL
           have HS2:=hid hS2
           have Yj:=hid hs2
           have x5:wc.cell? ⟨L.pb,5,none⟩=some (.slice la ls.length lc):=hS2.pair.cell 5
           have hown5:=hS2.names
           have hll:ls.length+1≤200000:=by have:=Hlen.out;have:=rM.out;have:=HCn.out;omega
           have aie:(ls.length+1)*16≤140737488355328:=by omega
           have adY:ls.length+1≤maxLen:=by unfold maxLen;omega
           have aoI:L.pb<wc.heap.size:=hS2.pair.lt
           have RR5:∀ a6 c6 w6,w6.ownsRow L.hi 9 1 (.slice a6 (ls.length+1) c6) (ls.length+1) (ls.map (fun l=>.string ⟨l.toArray⟩)++[.string ⟨T.toArray⟩])→CF (wc.alloc (.cells #[.string ⟨T.toArray⟩] 9)) w6 (fun b _=>(Value.slice la ls.length lc).ownBlock=some b)→((Value.slice a6 (ls.length+1) c6).ownBlock=(Value.slice la ls.length lc).ownBlock∨(Value.slice a6 (ls.length+1) c6).ownBlock=some (wc.heap.size+1))→
             TI w0 L Mp Mq n (C'+1) (eU L.lo L.hi L.pb ca2 a6 ma) (w6.setCell ⟨L.pb,5,none⟩ (.slice a6 (ls.length+1) c6))∧Stp wc (eU L.lo L.hi L.pb ca2 la ma) (w6.setCell ⟨L.pb,5,none⟩ (.slice a6 (ls.length+1) c6)) (eU L.lo L.hi L.pb ca2 a6 ma):=by
            intro a6 c6 w6 ho hc hb
            have k:CF wc w6 (fun b _=>jO la=some b):=(CF.aW (World.grownBy_alloc wc _ none) _).trans hc (fun b _ _ e=>by rw[bV] at e;exact e)
            obtain ⟨hS,hs⟩:=HS2.out.Xa (l:=T) k ho (by
             rw[bV,bV] at hb
             rcases hb with hb | hb
             ·exact .inl hb
             ·exact .inr ⟨_,hb,by omega⟩) (by have:=HTn.out.1;omega)
            obtain ⟨e1,e2,e3⟩:=Hlen.out
            exact ⟨⟨_,_,_,_,_,_,_,_,_,_,rfl,hS,by simp[e1],by simp[e2],e3⟩,hs⟩
           have f5p:=hS2.pair.frozen 5
           clear hS2 hs2 hown hib hb0 hb1 hb2 RR x4 x4a y0 y1 y2 y3 y4 y5 y6 y7 y8 y9 y10 y11 y12 y13 y14 y15 y16
           go_wp2_with (refine yf _ rfl _ _ 35 rfl L.hi 9 is _ 1 16 Tryz.underlying35 his hi0 hi1 hi2 rfl (by decide) (.slice la ls.length lc) ls.length _ ?s1 (hown5.alloc _) ⟨wc.heap.size,0,none⟩ 1 1 [.string ⟨T.toArray⟩] ?s2 rfl ?s3 ?s4 (by omega) adY aie ?s5 ?_;(case s1=>first | rfl | simp[Act.eval,Act.put]);(case s2=>first | rfl | simp[Act.eval,Act.put]);(case s3=>exact jS wc _ _);(case s4=>intro u hu;simp at hu;rcases hu with rfl;rfl);(case s5=>have:=HS2.out.hil;simp;omega);intro a6 c6 w6 hown6 JK hblk6;have Xm:=(HS2.out.pair.alloc (.cells #[.string ⟨T.toArray⟩] 9)).Uq JK (fun o e=>by rw[bV] at e;exact HS2.out.vL.2.1 e);have z6:=Xm.cell 5;have z6f:=Xm.frozen 5;simp only[List.getElem?_toArray,List.getElem?_cons_zero,List.getElem?_cons_succ] at z6;have R6:=hid (RR5 a6 c6 w6 hown6 JK (by simpa using hblk6.out));clear hown6 JK hblk6 Xm)
           go_roundw
           case rel=>
            obtain ⟨h1,h2,h3⟩:=rM.out
            refine ⟨k+1,C'+1,_,by omega,by go_num,R6.out.1,(zL.out.trans (Stp.gb (ae Vk.out HgV.out))).trans (Yj.out.trans R6.out.2),by omega,by omega,fun he=>?_⟩
            have hk1:k=1:=HTn.out.2.1 ((HE3.out he).1)
            rw[h3 he,hk1]
            rfl
           case measure=>simp[intOf];omega
        | false=>
         have hcm:((⟨T.toArray⟩:ByteArray).toList==(⟨cl.toArray⟩:ByteArray).toList)=true:=by rw[hcmp,hm];simp
         clear hcmp
         go_wp2_with (rw[←HW7.out];fail_if_success done)
         go_roundw
         case rel=>
          obtain ⟨h1,h2,h3⟩:=rM.out
          refine ⟨k+1,C',Or,by omega,by go_num,Yk.out.gb Vk.out,zL.out.trans (Stp.gb Vk.out),h1,by omega,fun he=>?_⟩
          rw[h3 he]
          have hk1:k≠1:=fun e=>by have:=HOb.out ⟨he,e⟩;simp at this
          congr 1
          by_cases hk2:2≤k
          ·rw[if_pos hk2,if_pos (by omega)]
          ·rw[if_neg hk2,if_neg (by omega)]
         case measure=>simp[intOf];omega
       ·have hcm:((⟨T.toArray⟩:ByteArray).toList==(⟨cl.toArray⟩:ByteArray).toList)=false:=by rw[hcmp];simpa using hm
        clear hcmp
        go_wp2_with (rw[←HW7.out];fail_if_success done)
        go_roundw
        case rel=>
         obtain ⟨h1,h2,h3⟩:=rM.out
         refine ⟨k+1,C',Or,by omega,by go_num,Yk.out.gb Vk.out,zL.out.trans (Stp.gb Vk.out),h1,by omega,fun he=>?_⟩
         rw[h3 he]
         have hk1:k≠1:=fun e=>hm ((HTn.out.2.2 e).trans (HE3.out he).1.symm)
         congr 1
         by_cases hk2:2≤k
         ·rw[if_pos hk2,if_pos (by omega)]
         ·rw[if_neg hk2,if_neg (by omega)]
        case measure=>simp[intOf];omega
      ·have hk7:k=7:=by omega
       subst hk7
       have rT:¬ ((7:Nat):Int)<7:=by omega
       go_wp2
       go_end0
       obtain ⟨h1,h2,h3⟩:=rM.out
       refine ⟨rfl,Or,C',Yk.out,(Stp.gb Xr.out).trans zL.out,h1,h2,fun hr=>absurd hr HnR.out,fun he=>?_⟩
       rw[h3 he,if_pos (by decide)]
  ·have HnE:Hid (¬ E):=fun he=>nK (HE2.out he).1
   clear hR kk k0 hkind N0 T1 T2 T3 T4 U1 U2 U3 V1 V2 V3 RT RS HE2 HB1 HEx HRx UQ GA ZM hcl
   have hvb:(v0 != 11)=true:=by simpa using nK
   go_wp2
   go_end0
   exact rC HI.out Qi.out HnE.out
end Go.Proofs.YtpibgolaaaemnaaGreatDoor
