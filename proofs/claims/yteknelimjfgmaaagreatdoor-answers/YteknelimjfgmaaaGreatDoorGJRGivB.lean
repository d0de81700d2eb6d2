import Derived.Test.YteknelimjfgmaaaGreatDoorGJRPieF
namespace Go.Proofs.YteknelimjfgmaaaGreatDoor
open Go.RowKit
set_option maxRecDepth 100000
variable {E T:Nat} {t:TK} {d:UInt64} {W:World}
theorem aeV {p:Prop} (h:p:=by
 rintro e w' ⟨o,q1,q2,q3⟩
 exact ⟨o,q1,Has.own (by rw[Pure.dz];exact q2),q3⟩):p:=h
theorem F5 (key use draw:UInt64) (x:Int) (zs:List UInt8) (v:Value) (w:World) (hx1:1<=x) (hx2:x<=5) (hu:x=use.toNat) (hl:zs.length<=1000) (h:Has w v zs) :
  Calls Tryz.prog 47 #[.int .u64 (key.toNat:Int),.int .i64 x,.int .u64 (draw.toNat:Int),v] w fun e w'=>∃ o,e = .returned o/\Has w' o (Pure.fq key use draw zs)/\w.grownBy w' none:=by
 obtain ⟨ao,cap,rfl,h2,h3,h4,h5⟩:=h
 refine (uN key use draw x zs zs.length ao cap w ⟨hx1,hx2⟩ (hid hu) (hid rfl) hl h4 h5).mono ?_
 exact aeV
theorem aeW {p:Prop} (h:p:=by
 rintro e w' ⟨o,q1,q2,q3⟩
 exact ⟨o,q1,Has.own (by rw[Pure.bX];exact q2),q3⟩):p:=h
theorem KL (v:UInt64) (w:World):Calls Tryz.prog 84 #[.int .u64 (v.toNat:Int)] w fun e w'=>∃ o,e = .returned o/\Has w' o (Pure.be v 8)/\w.grownBy w' none:=by
 refine (ni v w).mono ?_;exact aeW
structure TE (W:World) (T E:Nat) (t:TK) (d:UInt64) (s:RE):Prop where
 t:W.rangeAt T 0 [.int .i64 t.ay,.int .u64 (d.toNat:Int),.string ⟨t.ax.toArray⟩,.int .i64 t.dY,.int .i64 t.start,.int .i64 t.fin,.int .i64 t.aD]
 e:W.rangeAt E 0 s.cells
theorem TE.grown {W':World} {s:RE} (h:TE W T E t d s) (k:W.grownBy W' none):TE W' T E t d s:=⟨aA h.t k,aA h.e k⟩
theorem TE.drew {s:RE} (h:TE W T E t d s):TE W.drew T E t d s:=h.grown (bD (bh _ _))
theorem TE.alloc {s:RE} (h:TE W T E t d s) (o:Obj):TE (W.alloc o) T E t d s:=h.grown (aE _ _ _)
theorem TE.s4 {s:RE} (h:TE W T E t d s):W.cell? ⟨T,0,none⟩=some (.int .i64 t.ay)/\W.cell? ⟨T,1,none⟩=some (.int .u64 (d.toNat:Int))/\W.cell? ⟨T,2,none⟩=some (.string ⟨t.ax.toArray⟩)/\W.cell? ⟨T,3,none⟩=some (.int .i64 t.dY)/\W.cell? ⟨T,4,none⟩=some (.int .i64 t.start)/\W.cell? ⟨T,5,none⟩=some (.int .i64 t.fin)/\W.cell? ⟨T,6,none⟩=some (.int .i64 t.aD):=
 ⟨h.t 0 _ rfl,h.t 1 _ rfl,h.t 2 _ rfl,h.t 3 _ rfl,h.t 4 _ rfl,h.t 5 _ rfl,h.t 6 _ rfl⟩
theorem TE.s5 {s:RE} (h:TE W T E t d s):W.cell? ⟨E,1,none⟩=some (.string ⟨s.name.toArray⟩)/\W.cell? ⟨E,7,none⟩=some (.int .i64 s.aH)/\W.cell? ⟨E,8,none⟩=some (.int .u64 (s.key.toNat:Int)):=
 ⟨h.e 1 _ rfl,h.e 7 _ rfl,h.e 8 _ rfl⟩
theorem TE.s6 {s:RE} (h:TE W T E t d s):W.cell? ⟨T,0,none⟩=some (.int .i64 t.ay)/\W.cell? ⟨T,1,none⟩=some (.int .u64 (d.toNat:Int))/\W.cell? ⟨T,3,none⟩=some (.int .i64 t.dY)/\W.cell? ⟨T,4,none⟩=some (.int .i64 t.start)/\W.cell? ⟨T,5,none⟩=some (.int .i64 t.fin)/\W.cell? ⟨T,6,none⟩=some (.int .i64 t.aD)/\W.cell? ⟨E,1,none⟩=some (.string ⟨s.name.toArray⟩):=
 ⟨h.t 0 _ rfl,h.t 1 _ rfl,h.t 3 _ rfl,h.t 4 _ rfl,h.t 5 _ rfl,h.t 6 _ rfl,h.e 1 _ rfl⟩
theorem pV {w w':World} {b r:Nat} {o:Nat} {cs:List Value} (h:w.rangeAt b o cs) (k:w.grownBy w' (some r)) (hr:b≠r):w'.rangeAt b o cs:=fun i v hv=>k.cell (h i v hv) (fun e=>hr afI)
theorem gQ {a b c:World} {r:Nat} (h:a.grownBy b (some r)) (k:b.grownBy c (some r)):a.grownBy c (some r):=
 ⟨k.os.trans h.os,k.tape.trans h.tape,k.output.trans h.output,br h.size k.size,fun i hi hx=>(k.block i (fW hi h.size) hx).trans (h.block i hi hx)⟩
theorem lh {a b:World} (h:a.grownBy b none) (r:Nat):a.grownBy b (some r):=⟨h.os,h.tape,h.output,h.size,fun i hi _=>h.block i hi aft⟩
theorem Acc.VA {W:World} {B:Nat} {L:List (Value×List UInt8)} (h:Acc W B L) (vs:Array Value) (n:Nat) (hvs:vs=(L.reverse.map fun x=>x.1).toArray) (hn:L.reverse.length=n) (zm:n<=1000) (hB:n*B<=140737488351232) :
  Calls Tryz.prog 62 #[.slice (some ⟨W.heap.size,0,none⟩) n n] (W.alloc (.cells vs 37)) fun e w'=>∃ (o:Value) (z:List UInt8),e = .returned o/\w'.ownsRow W.heap.size 5 1 o z.length (z.map U8)/\0<z.length/\z.length<=n*B+4/\W.grownBy w' none:=by
 have hc:(oG L.reverse).length<=n*B:=by rw[<-hn];exact Dt _ B (fun x hx=>(h x (List.mem_reverse.1 hx)).2)
 refine (xh L.reverse vs n W (fun x hx=>(h x (List.mem_reverse.1 hx)).1) hvs hn zm afp).mono ?_
 rintro e w' ⟨o,q1,q2,q3⟩
 refine ⟨o,_,q1,q2,?_,br (nR 48 _) (Nat.add_le_add_right hc 4),q3⟩
 show 0<(Box.box 48 _).length
 rw[Box.jG]
 split
 ·omega
 ·split <;> omega
set_option maxHeartbeats 1000000
def Made (n:Nat) (w:World) (o:Value) (z:List UInt8):Prop:=w.ownsRow n 5 1 o z.length (z.map U8)
theorem Made.has {n:Nat} {w:World} {o:Value} {z:List UInt8} (h:Made n w o z):Has w o z:=Has.own h
theorem Made.base {n m:Nat} {w:World} {o:Value} {z:List UInt8} (h:Made n w o z) (hm:m<=n):Made m w o z:=fT h hm
theorem Acc.ZW {W:World} {B:Nat} {L:List (Value×List UInt8)} (h:Acc W B L) (vs:Array Value) (n:Nat) (hvs:vs=(L.reverse.map fun x=>x.1).toArray) (hn:L.reverse.length=n) (zm:n<=1000) (hB:n*B<=140737488351232) :
  Calls Tryz.prog 62 #[.slice (some ⟨W.heap.size,0,none⟩) n n] (W.alloc (.cells vs 37)) fun e w'=>∃ o,e = .returned o/\Made W.heap.size w' o (jm (L.reverse.map fun x=>x.2))/\(jm (L.reverse.map fun x=>x.2)).length<=n*B+4/\W.grownBy w' none:=by
 have hc:(oG L.reverse).length<=n*B:=by rw[<-hn];exact Dt _ B (fun x hx=>(h x (List.mem_reverse.1 hx)).2)
 refine (xh L.reverse vs n W (fun x hx=>(h x (List.mem_reverse.1 hx)).1) hvs hn zm afp).mono ?_
 exact aeo
theorem xJ (now code:Int) (w:World) (h1:In64 now) (h2:In64 code) :
  Calls Tryz.prog 69 #[.int .i64 now,.int .i64 code] w fun e w'=>∃ o,e = .returned o/\Made w.heap.size w' o (bu now code)/\w.grownBy w' none:=by
 have h30:In64 30:=⟨by decide,by decide⟩
 go_enter Tryz.func69,Tryz.ntmps69
 go_wp2_with fail
 refine (bR 30 _ h30).mono ?_
 rintro e w1 ⟨o1,rfl,q1,g1⟩
 obtain ⟨a1,c1,rfl⟩:=q1.shape
 have A1:=hid ((Acc.nil w 100).push g1 q1 (jA _ _ afq))
 clear q1
 go_wp2_with fail
 refine (bR now _ h1).mono ?_
 rintro e w2 ⟨o2,rfl,q2,g2⟩
 obtain ⟨a2,c2,rfl⟩:=q2.shape
 have A2:=hid (A1.o.push g2 q2 (jA _ _ afq))
 clear q2 A1
 go_wp2_with fail
 refine (bR code _ h2).mono ?_
 rintro e w3 ⟨o3,rfl,q3,g3⟩
 obtain ⟨a3,c3,rfl⟩:=q3.shape
 have A3:=hid (A2.o.push g3 q3 (jA _ _ afq))
 have G3:=hid (aa (aa g1 g2) g3)
 clear q3 A2 g1 g2 g3
 go_wp2_with fail
 refine (A3.o.ZW _ 3 rfl rfl afq afq).mono ?_
 rintro e w4 ⟨o4,rfl,q4,_,g4⟩
 have HR:=hid (And.intro (q4.base G3.o.size) (aa G3.o g4))
 clear q4 g4
 go_wp2
 go_ret
 exact ⟨_,rfl,HR.o.1,HR.o.2⟩
set_option maxHeartbeats 8000000
theorem afE {p:Prop} (h:p:=by rw[Pure.dz];omega):p:=h
theorem afN {p:Prop} (h:p:=by rw[Pure.bX];decide):p:=h
theorem VB {w w':World} {b n r:Nat} (h:Live w b n) (k:w.grownBy w' (some r)) (hr:b≠r):Live w' b n:=by
 obtain ⟨cur,e,h1,h2⟩:=h;have hb:b<w.heap.size:=by
  rw[eA] at h1;exact h1.1
 exact ⟨cur,e,(k.block b hb (fun e=>hr afI)).trans h1,h2⟩
theorem TE.s7 {W:World} {T E:Nat} {t:TK} {d:UInt64} {s:RE} (h:TE W T E t d s):W.cell? ⟨T,2,none⟩=some (.string ⟨t.ax.toArray⟩):=h.t 2 _ rfl
theorem abL {w:World} {b:Nat} {v0 u v2 v3 v4 v5 v6:Value} (h:w.rangeAt b 0 [v0,u,v2,v3,v4,v5,v6]) (d:Value):(w.setCell ⟨b,1,none⟩ d).rangeAt b 0 [v0,d,v2,v3,v4,v5,v6]:=by
 intro j x hx;by_cases hj:j=1
 ·subst hj;have hd:d=x:=by simpa using hx
  subst hd;exact World.cell?_setCell_same _ _ _ (h 1 u rfl)
 ·have hx2:[v0,u,v2,v3,v4,v5,v6][j]?=some x:=by
   rcases j with _ | _ | j
   ·exact hx
   ·exact absurd rfl hj
   ·exact hx
  rw[World.cell?_setCell_other _ _ _ _ (fun e=>hj (by have:=eh Addr.off e;simp at this;omega))];exact h j x hx2
theorem KO (base yb:Nat) (M:DM) (g:RG) (kind bS aH:Int) (t:TK) (s:RE) (key use:UInt64) (x:Int) (w:World) (hD:RD w base yb M g) (Er:24<=M.aO.length) (hdl:M.aO.length<=140737488355328) (hbase:base<=w.heap.size) (hx1:1<=x) (hx2:x<=5) (hu:x=use.toNat) (i0:In64 kind) (i1:In64 bS) (i2:In64 aH) (i3:In64 s.aH) (hin:t.In) (hcl:t.ax.length<=90) (hsn:s.name.length<=90) :
  Calls Tryz.prog 109 #[.pointer (some ⟨yb,0,none⟩),.int .i64 kind,.agg t.cells.toArray,.agg s.arr,.int .i64 bS,.int .i64 aH,.int .u64 (key.toNat:Int),.int .i64 x] w fun e w'=>
   ∃ o,e = .returned o/\Made w.heap.size w' o (kQ kind {t with aM:=eO M.aO 0} s.be bS aH key use (eO M.aO 1) (eO M.aO 2))/\(∃ v,RD w' base yb {M with aO:=M.aO.drop 24} {g with dv:=v}/\NewAt w.heap.size v)/\w.grownBy w' (some yb):=by
 obtain ⟨n0,n1,n2,n3,n4⟩:=hin
 have HU:=hid hu
 clear hu
 have hyb:=hD.dF.blk.lt
 obtain ⟨d0,hd0⟩:=aq (eO M.aO 0)
 obtain ⟨d1,hd1⟩:=aq (eO M.aO 1)
 obtain ⟨d2,hd2⟩:=aq (eO M.aO 2)
 have G0:=aR (aE w (.cells t.cells.toArray 43) none) (.cells s.arr 166)
 have RT:((w.alloc (.cells t.cells.toArray 43)).alloc (.cells s.arr 166)).rangeAt w.heap.size 0 t.cells:=aA (aW w t.cells.toArray _) (aE _ _ _)
 have RE:((w.alloc (.cells t.cells.toArray 43)).alloc (.cells s.arr 166)).rangeAt (w.heap.size+1) 0 s.cells:=by
  have h:=vG (w.alloc (.cells t.cells.toArray 43)) s;rw[ch] at h;exact h
 have LT:Live ((w.alloc (.cells t.cells.toArray 43)).alloc (.cells s.arr 166)) w.heap.size 7:=(Live.new w t.cells.toArray 43).grown (aE _ _ _)
 have hD0:RD ((w.alloc (.cells t.cells.toArray 43)).alloc (.cells s.arr 166)) base yb M g:=hD.keep (fun b hb=>G0.block b (hD.lt b hb).2 aft)
 have C1:=hid (zP base yb M g _ hD0 afp hdl (br hbase G0.size))
 have C2:=hid (fun (v:Value) (W:World) (hW:RD W base yb {M with aO:=M.aO.drop 8} {g with dv:=v}) (hb:base<=W.heap.size)=>zP base yb {M with aO:=M.aO.drop 8} {g with dv:=v} W hW (by show 8<=(M.aO.drop 8).length;rw[cy];omega) (by show (M.aO.drop 8).length<=_;rw[cy];omega) hb)
 have C3:=hid (fun (v:Value) (W:World) (hW:RD W base yb {M with aO:=(M.aO.drop 8).drop 8} {g with dv:=v}) (hb:base<=W.heap.size)=>zP base yb {M with aO:=(M.aO.drop 8).drop 8} {g with dv:=v} W hW (by show 8<=((M.aO.drop 8).drop 8).length;rw[cy,cy];omega) (by show ((M.aO.drop 8).drop 8).length<=_;rw[cy,cy];omega) hb)
 have e0:Pure.joinL 0 (M.aO.take 8)=d0:=by rw[<-hd0];rfl
 have e1:Pure.joinL 0 ((M.aO.drop 8).take 8)=d1:=by rw[<-hd1];rfl
 have e2:Pure.joinL 0 (((M.aO.drop 8).drop 8).take 8)=d2:=by rw[<-hd2,List.drop_drop];rfl
 rw[e0] at C1
 simp only[e1] at C2
 simp only[e2] at C3
 rw[hd0,hd1,hd2]
 have HD:=hid hD
 have Pg:=hid (And.intro G0 (And.intro RT (And.intro RE LT)))
 clear hd0 hd1 hd2 e0 e1 e2 hD hD0 G0 RT RE LT Er hdl
 rw[TK.nQ t] at C1 Pg ⊢
 go_enter Tryz.func109,Tryz.ntmps109
 go_wp2_with fail
 refine C1.o.mono ?_
 rintro e w1 ⟨rfl,v1,D1,g1,nv1⟩
 obtain ⟨G0,RT,RE,LT⟩:=Pg.o
 have hne0:w.heap.size≠yb:=by omega
 have hne1:w.heap.size+1≠yb:=by omega
 have R1:=pV RT g1 hne0
 have E1:=pV RE g1 hne1
 have L1:=VB LT g1 hne0
 have k1:w1.cell? ⟨w.heap.size,1,none⟩=some (.int .u64 (t.aM.toNat:Int)):=R1 1 _ rfl
 have f1:=L1.frozen 1
 have F1:∀ b,({g with dv:=v1}:RG).foot yb b->b≠w.heap.size:=by
  rintro b (e | e | e | e) hb
  ·omega
  ·have:=(HD.o.lt b (.inr (.inl e))).2;omega
  ·have:=(HD.o.lt b (.inr (.inr (.inl e)))).2;omega
  ·have h1:=nv1 b e;rw[ch,ch] at h1;omega
 have D1s:∀ u,RD (w1.setCell ⟨w.heap.size,1,none⟩ u) base yb {M with aO:=M.aO.drop 8} {g with dv:=v1}:=fun u=>D1.keep (fun b hb=>by
  have:=F1 b hb
  simp[World.setCell,Array.getElem?_modify,Ne.symm this])
 have sz1:(w1.setCell ⟨w.heap.size,1,none⟩ (.int .u64 (d0.toNat:Int))).heap.size=w1.heap.size:=by simp[World.setCell]
 have b1:base<=(w1.setCell ⟨w.heap.size,1,none⟩ (.int .u64 (d0.toNat:Int))).heap.size:=by rw[sz1];exact br hbase (br G0.size g1.size)
 have LJ:=hid (C2.o v1 _ (D1s (.int .u64 (d0.toNat:Int))) b1)
 have JX:Hid ((w1.setCell ⟨w.heap.size,1,none⟩ (.int .u64 (d0.toNat:Int))).rangeAt w.heap.size 0 [.int .i64 t.ay,.int .u64 (d0.toNat:Int),.string ⟨t.ax.toArray⟩,.int .i64 t.dY,.int .i64 t.start,.int .i64 t.fin,.int .i64 t.aD]/\(w1.setCell ⟨w.heap.size,1,none⟩ (.int .u64 (d0.toNat:Int))).rangeAt (w.heap.size+1) 0 s.cells):=⟨abL R1 _,fun j v hv=>by
  rw[World.cell?_setCell_far _ _ _ _ (show w.heap.size≠w.heap.size+1 by omega)]
  exact E1 j v hv⟩
 have jC:Hid (w.grownBy (w1.setCell ⟨w.heap.size,1,none⟩ (.int .u64 (d0.toNat:Int))) (some yb)):=by
  have h:=gQ (lh G0 yb) g1
  exact ⟨h.os,h.tape,h.output,by rw[sz1];exact h.size,fun b hb hx=>by
   rw[show (w1.setCell ⟨w.heap.size,1,none⟩ (.int .u64 (d0.toNat:Int))).heap[b]?=w1.heap[b]? from by simp[World.setCell,Array.getElem?_modify,show w.heap.size≠b by omega]]
   exact h.block b hb hx⟩
 obtain ⟨W1,hW1⟩:=aq (w1.setCell ⟨w.heap.size,1,none⟩ (.int .u64 (d0.toNat:Int)))
 rw[hW1] at LJ JX jC
 have HW1:=hid hW1
 clear C1 C2 D1 D1s g1 nv1 R1 E1 L1 F1 sz1 b1 hW1 G0 RT RE LT Pg
 go_wp2_with (first|(rw[HW1.o];fail_if_success done)|(go_at_call 146;refine LJ.o.mono ?_))
 clear HW1 k1 f1
 rintro e w2 ⟨rfl,v2,D2,g2,nv2⟩
 have XT:=hid (C3.o v2 _ D2 (br hbase (br jC.o.size g2.size)))
 have HS2:=hid (And.intro (pV JX.o.1 g2 hne0) (pV JX.o.2 g2 hne1))
 have HG2:=hid (gQ jC.o g2)
 clear LJ C3 D2 g2 nv2 JX jC
 go_wp2_with fail
 refine XT.o.mono ?_
 rintro e w3 ⟨rfl,v3,D3,g3,nv3⟩
 have ky:Hid (TE w3.drew w.heap.size (w.heap.size+1) t d0 s):=(TE.mk (pV HS2.o.1 g3 hne0) (pV HS2.o.2 g3 hne1)).drew
 have mf:=hid (gQ HG2.o g3)
 have HD3:=hid D3
 have Yd:Hid (NewAt w.heap.size v3):=fun b hb=>br HG2.o.size (nv3 b hb)
 have HG:Hid (w3.grownBy w3.drew none):=bD (bh _ _)
 obtain ⟨PL,hPL⟩:=aq (TK.plain {t with aM:=d0})
 obtain ⟨TB,abM⟩:=aq (jm [dw s.name,bQ s.aH,dw (Pure.fq s.key 2 d1 PL)])
 obtain ⟨PQ,hPQ⟩:=aq (nC {t with aM:=d0} bS s.be)
 obtain ⟨IN,hIN⟩:=aq (jm [bQ aH,dw (Pure.fq key use d2 PQ)])
 obtain ⟨GB,hGB⟩:=aq (jm [bQ kind,dw t.ax,TB,IN])
 have NP:=hid hPL
 have Sr:=hid abM
 have HPQ:=hid hPQ
 have HIN:=hid hIN
 have HGA:=hid hGB
 have HGB:Hid (kQ kind {t with aM:=d0} s.be bS aH key use d1 d2=GB):=by
  show _=_;rw[<-hGB,<-hIN,<-hPQ,<-abM,<-hPL];rfl
 clear hPL abM hPQ hIN hGB
 have HA:=hid (Acc.nil w3.drew 100)
 have HK:=hid (Acc.nil w3.drew 100000)
 clear XT D3 g3 nv3 HS2 HG2 HD
 obtain ⟨s0,s1,s2,s3,s4,s5,s6⟩:=(ky.o).s4
 go_wp2_with fail
 go_region_held3 (fun w'=>w'.cell? ⟨w.heap.size,0,none⟩=some (.int .i64 t.ay)/\w'.cell? ⟨w.heap.size,1,none⟩=some (.int .u64 (d0.toNat:Int))/\w'.cell? ⟨w.heap.size,2,none⟩=some (.string ⟨t.ax.toArray⟩)/\w'.cell? ⟨w.heap.size,3,none⟩=some (.int .i64 t.dY)/\w'.cell? ⟨w.heap.size,4,none⟩=some (.int .i64 t.start)/\w'.cell? ⟨w.heap.size,5,none⟩=some (.int .i64 t.fin)/\w'.cell? ⟨w.heap.size,6,none⟩=some (.int .i64 t.aD)) (first|(with_reducible exact TE.s4 ky.o)|(with_reducible exact TE.s4 ky.o.drew)|(with_reducible exact TE.s4 (ky.o.alloc _))|(with_reducible exact TE.s4 (ky.o.drew.alloc _)) | go_keep) (first|(go_at_call 64;refine (bR _ _ (by assumption)).mono ?_;rintro e w5 ⟨o5,rfl,q5,g5⟩;obtain ⟨a5,c5,rfl⟩:=q5.shape;replace HA:=hid (HA.o.push g5 q5 (jA _ _ afq));replace ky:=hid (ky.o.grown g5);replace HK:=hid (HK.o.grown g5);replace HG:=hid (aa HG.o g5);clear q5 g5)|(go_at_call 84;refine (KL _ _).mono ?_;rintro e w5 ⟨o5,rfl,q5,g5⟩;obtain ⟨a5,c5,rfl⟩:=q5.shape;have HE8:=hid (q5);replace HA:=hid (HA.o.grown g5);replace ky:=hid (ky.o.grown g5);replace HK:=hid (HK.o.grown g5);replace HG:=hid (aa HG.o g5);clear q5 g5)|(go_at_call 65;refine (kR _ _ _ HE8.o afN).mono ?_;rintro e w5 ⟨o5,rfl,q5,g5⟩;obtain ⟨a5,c5,rfl⟩:=q5.shape;replace HA:=hid (HA.o.push g5 q5 (FZ d0 _ afq));replace ky:=hid (ky.o.grown g5);replace HK:=hid (HK.o.grown g5);replace HG:=hid (aa HG.o g5);clear HE8 q5 g5)|(go_at_call 63;refine (jX _ _ afp).mono ?_;rintro e w5 ⟨o5,rfl,q5,g5⟩;obtain ⟨a5,c5,rfl⟩:=q5.shape;replace HA:=hid (HA.o.push g5 q5 (fH _ _ afp));replace ky:=hid (ky.o.grown g5);replace HK:=hid (HK.o.grown g5);replace HG:=hid (aa HG.o g5);clear q5 g5)|(go_at_call 62;refine (HA.o.list _ 7 rfl rfl afq afq).mono ?_;rintro e w5 ⟨o5,rfl,q5,l5,g5⟩;have q6:Has w5 o5 PL:=(by rw[<-NP.o];exact q5);have l6:PL.length<=704:=(by rw[<-NP.o];exact l5);clear q5 l5;obtain ⟨aP,cP,rfl⟩:=q6.shape;replace HK:=hid (HK.o.push g5 q6 (br l6 afq));have HPl:=hid (l6);replace ky:=hid (ky.o.grown g5);replace HG:=hid (aa HG.o g5);clear HA q6 l6 g5))
 clear s0 s1 s2 s3 s4 s5 s6
 have hpl:=HPl.o
 have KP:=hid ky.o.drew
 have Nk:=hid (bD HG.o)
 have WY:=hid (HK.o.grown (bD (bh w5 none)))
 have HA:=hid (Acc.nil w5.drew 2000)
 clear ky HG HK
 have ky:=KP
 have HG:=Nk
 have HK:=WY
 clear KP Nk WY
 obtain ⟨s0,s1,s2⟩:=ky.o.s5
 go_wp2_with fail
 go_region_held3 (fun w'=>w'.cell? ⟨w.heap.size+1,1,none⟩=some (.string ⟨s.name.toArray⟩)/\w'.cell? ⟨w.heap.size+1,7,none⟩=some (.int .i64 s.aH)/\w'.cell? ⟨w.heap.size+1,8,none⟩=some (.int .u64 (s.key.toNat:Int))) (first|(with_reducible exact TE.s5 ky.o)|(with_reducible exact TE.s5 ky.o.drew)|(with_reducible exact TE.s5 (ky.o.alloc _))|(with_reducible exact TE.s5 (ky.o.drew.alloc _)) | go_keep) (first|(go_at_call 63;refine (jX _ _ afp).mono ?_;rintro e w5 ⟨o5,rfl,q5,g5⟩;obtain ⟨a5,c5,rfl⟩:=q5.shape;replace HA:=hid (HA.o.push g5 q5 (fH _ _ afp));replace ky:=hid (ky.o.grown g5);replace HK:=hid (HK.o.grown g5);replace HG:=hid (aa HG.o g5);clear q5 g5)|(go_at_call 64;refine (bR _ _ (by assumption)).mono ?_;rintro e w5 ⟨o5,rfl,q5,g5⟩;obtain ⟨a5,c5,rfl⟩:=q5.shape;replace HA:=hid (HA.o.push g5 q5 (jA _ _ afq));replace ky:=hid (ky.o.grown g5);replace HK:=hid (HK.o.grown g5);replace HG:=hid (aa HG.o g5);clear q5 g5)|(go_at_call 47;refine (F5 s.key 2 d1 2 PL _ _ afq afq rfl afp (HK.o (Value.slice aP PL.length cP,PL) aft).1).mono ?_;rintro e w5 ⟨o5,rfl,q5,g5⟩;obtain ⟨a5,c5,rfl⟩:=q5.shape;have ZX:=hid (q5);replace HA:=hid (HA.o.grown g5);replace ky:=hid (ky.o.grown g5);replace HK:=hid (HK.o.grown g5);replace HG:=hid (aa HG.o g5);clear q5 g5)|(go_at_call 65;refine (kR _ _ _ ZX.o afE).mono ?_;rintro e w5 ⟨o5,rfl,q5,g5⟩;obtain ⟨a5,c5,rfl⟩:=q5.shape;replace HA:=hid (HA.o.push g5 q5 (fH _ _ afE));replace ky:=hid (ky.o.grown g5);replace HK:=hid (HK.o.grown g5);replace HG:=hid (aa HG.o g5);clear ZX q5 g5)|(go_at_call 62;refine (HA.o.list _ 3 rfl rfl afq afq).mono ?_;rintro e w5 ⟨o5,rfl,q5,l5,g5⟩;have q6:Has w5 o5 TB:=(by rw[<-Sr.o];exact q5);have l6:TB.length<=6004:=(by rw[<-Sr.o];exact l5);have HTl:=hid l6;clear q5 l5;obtain ⟨aK,cK,rfl⟩:=q6.shape;replace HK:=hid (HK.o.push g5 q6 (br l6 afq));replace ky:=hid (ky.o.grown g5);replace HG:=hid (aa HG.o g5);clear HA q6 l6 g5))
 clear s0 s1 s2
 have KP:=hid ky.o.drew
 have Nk:=hid (bD HG.o)
 have WY:=hid (HK.o.grown (bD (bh w5 none)))
 have HA:=hid (Acc.nil w5.drew 100)
 clear ky HG HK
 have ky:=KP
 have HG:=Nk
 have HK:=WY
 clear KP Nk WY
 obtain ⟨s0,s1,s2,s3,s4,s5,s6⟩:=ky.o.s6
 go_wp2_with fail
 go_region_held3 (fun w'=>w'.cell? ⟨w.heap.size,0,none⟩=some (.int .i64 t.ay)/\w'.cell? ⟨w.heap.size,1,none⟩=some (.int .u64 (d0.toNat:Int))/\w'.cell? ⟨w.heap.size,3,none⟩=some (.int .i64 t.dY)/\w'.cell? ⟨w.heap.size,4,none⟩=some (.int .i64 t.start)/\w'.cell? ⟨w.heap.size,5,none⟩=some (.int .i64 t.fin)/\w'.cell? ⟨w.heap.size,6,none⟩=some (.int .i64 t.aD)/\w'.cell? ⟨w.heap.size+1,1,none⟩=some (.string ⟨s.name.toArray⟩)) (first|(with_reducible exact TE.s6 ky.o)|(with_reducible exact TE.s6 ky.o.drew)|(with_reducible exact TE.s6 (ky.o.alloc _))|(with_reducible exact TE.s6 (ky.o.drew.alloc _)) | go_keep) (first|(go_at_call 84;refine (KL _ _).mono ?_;rintro e w5 ⟨o5,rfl,q5,g5⟩;obtain ⟨a5,c5,rfl⟩:=q5.shape;have HE8:=hid (q5);replace HA:=hid (HA.o.grown g5);replace ky:=hid (ky.o.grown g5);replace HK:=hid (HK.o.grown g5);replace HG:=hid (aa HG.o g5);clear q5 g5)|(go_at_call 65;refine (kR _ _ _ HE8.o afN).mono ?_;rintro e w5 ⟨o5,rfl,q5,g5⟩;obtain ⟨a5,c5,rfl⟩:=q5.shape;replace HA:=hid (HA.o.push g5 q5 (FZ d0 _ afq));replace ky:=hid (ky.o.grown g5);replace HK:=hid (HK.o.grown g5);replace HG:=hid (aa HG.o g5);clear HE8 q5 g5)|(go_at_call 64;refine (bR _ _ (by assumption)).mono ?_;rintro e w5 ⟨o5,rfl,q5,g5⟩;obtain ⟨a5,c5,rfl⟩:=q5.shape;replace HA:=hid (HA.o.push g5 q5 (jA _ _ afq));replace ky:=hid (ky.o.grown g5);replace HK:=hid (HK.o.grown g5);replace HG:=hid (aa HG.o g5);clear q5 g5)|(go_at_call 63;refine (jX _ _ afp).mono ?_;rintro e w5 ⟨o5,rfl,q5,g5⟩;obtain ⟨a5,c5,rfl⟩:=q5.shape;replace HA:=hid (HA.o.push g5 q5 (fH _ _ afp));replace ky:=hid (ky.o.grown g5);replace HK:=hid (HK.o.grown g5);replace HG:=hid (aa HG.o g5);clear q5 g5)|(go_at_call 62;refine (HA.o.list _ 8 rfl rfl afq afq).mono ?_;rintro e w5 ⟨o5,rfl,q5,l5,g5⟩;have q6:Has w5 o5 PQ:=(by rw[<-HPQ.o];exact q5);have l6:PQ.length<=804:=(by rw[<-HPQ.o];exact l5);clear q5 l5;obtain ⟨aQ,cQ,rfl⟩:=q6.shape;replace HK:=hid (HK.o.push g5 q6 (br l6 afq));have HPq:=hid (l6);replace ky:=hid (ky.o.grown g5);replace HG:=hid (aa HG.o g5);clear HA q6 l6 g5))
 clear s0 s1 s2 s3 s4 s5 s6
 have hpq:=HPq.o
 have KP:=hid ky.o.drew
 have Nk:=hid (bD HG.o)
 have WY:=hid (HK.o.grown (bD (bh w5 none)))
 have HA:=hid (Acc.nil w5.drew 10000)
 have HB:=hid (Acc.nil w5.drew 2000)
 clear ky HG HK
 have ky:=KP
 have HG:=Nk
 have HK:=WY
 clear KP Nk WY
 have hTB:TB.length<=10000:=br HTl.o afq
 have s0:=ky.o.s7
 have ZY:=hid (fun W=>bR kind W i0)
 go_wp2_with fail
 go_region_held3 (fun w'=>w'.cell? ⟨w.heap.size,2,none⟩=some (.string ⟨t.ax.toArray⟩)) (first|(with_reducible exact TE.s7 ky.o)|(with_reducible exact TE.s7 ky.o.drew)|(with_reducible exact TE.s7 (ky.o.alloc _))|(with_reducible exact TE.s7 (ky.o.drew.alloc _)) | go_keep) (first|(go_at_call 64;refine (ZY.o _).mono ?_;clear ZY;rintro e w5 ⟨o5,rfl,q5,g5⟩;obtain ⟨a5,c5,rfl⟩:=q5.shape;replace HA:=hid (HA.o.push g5 q5 (jA _ _ afq));replace HB:=hid (HB.o.grown g5);replace ky:=hid (ky.o.grown g5);replace HK:=hid (HK.o.grown g5);replace HG:=hid (aa HG.o g5);clear q5 g5)|(go_at_call 63;refine (jX _ _ afp).mono ?_;rintro e w5 ⟨o5,rfl,q5,g5⟩;obtain ⟨a5,c5,rfl⟩:=q5.shape;replace HA:=hid (HA.o.push g5 q5 (fH _ _ afp));replace HB:=hid (HB.o.grown g5);replace ky:=hid (ky.o.grown g5);replace HK:=hid (HK.o.grown g5);replace HG:=hid (aa HG.o g5);clear q5 g5)|(go_at_call 64;refine (bR aH _ i2).mono ?_;rintro e w5 ⟨o5,rfl,q5,g5⟩;obtain ⟨a5,c5,rfl⟩:=q5.shape;replace HB:=hid (HB.o.push g5 q5 (jA _ _ afq));replace HA:=hid (HA.o.grown g5);replace ky:=hid (ky.o.grown g5);replace HK:=hid (HK.o.grown g5);replace HG:=hid (aa HG.o g5);clear q5 g5)|(go_at_call 47;refine (F5 key use d2 x PQ _ _ hx1 hx2 HU.o afp (HK.o (Value.slice aQ PQ.length cQ,PQ) aft).1).mono ?_;rintro e w5 ⟨o5,rfl,q5,g5⟩;obtain ⟨a5,c5,rfl⟩:=q5.shape;have ZX:=hid (q5);replace HA:=hid (HA.o.grown g5);replace HB:=hid (HB.o.grown g5);replace ky:=hid (ky.o.grown g5);replace HK:=hid (HK.o.grown g5);replace HG:=hid (aa HG.o g5);clear q5 g5)|(go_at_call 65;refine (kR _ _ _ ZX.o afE).mono ?_;rintro e w5 ⟨o5,rfl,q5,g5⟩;obtain ⟨a5,c5,rfl⟩:=q5.shape;replace HB:=hid (HB.o.push g5 q5 (fH _ _ afE));replace HA:=hid (HA.o.grown g5);replace ky:=hid (ky.o.grown g5);replace HK:=hid (HK.o.grown g5);replace HG:=hid (aa HG.o g5);clear ZX q5 g5)|(go_at_call 62;refine (HB.o.list _ 2 rfl rfl afq afq).mono ?_;rintro e w5 ⟨o5,rfl,q5,l5,g5⟩;have q6:Has w5 o5 IN:=(by rw[<-HIN.o];exact q5);have l6:IN.length<=4004:=(by rw[<-HIN.o];exact l5);clear q5 l5;obtain ⟨a5,c5,rfl⟩:=q6.shape;replace HA:=hid ((HA.o.push g5 ((HK.o (Value.slice aK TB.length cK,TB) aft).1.grown g5) hTB).push (bh _ _) q6 (br l6 afq));replace ky:=hid (ky.o.grown g5);replace HK:=hid (HK.o.grown g5);replace HG:=hid (aa HG.o g5);clear HB q6 l6 g5)|(go_at_call 62;refine (HA.o.ZW _ 4 rfl rfl afq afq).mono ?_;rintro e w5 ⟨o5,rfl,q5,l5,g5⟩;have q6:Made w.heap.size w5 o5 GB:=(by rw[<-HGA.o];exact q5.base (br mf.o.size HG.o.size));have l6:GB.length<=40004:=(by rw[<-HGA.o];exact l5);clear q5 l5;obtain ⟨a5,c5,rfl⟩:=q6.has.shape;have YR:=hid (q6);replace ky:=hid (ky.o.grown g5);replace HG:=hid (aa HG.o g5);clear HA HK q6 l6 g5))
 go_wp2
 go_ret
 refine ⟨_,rfl,by rw[HGB.o];exact YR.o,⟨v3,?_,Yd.o⟩,gQ mf.o (lh HG.o yb)⟩
 have h:=HD3.o.keep (w':=w5) (fun b hb=>HG.o.block b (HD3.o.lt b hb).2 aft)
 rw[List.drop_drop,List.drop_drop] at h
 exact h
open Proofs.Tryz
variable {x:BE} {aC n now:Int} {l z:List UInt8}
def vH (aC now:Int) (x:BE) (n:Int) (z:List UInt8):Int:=
 match (eH x.key 1 z).bind jH with
 | none=>24
 | some t=>if n≠x.aH then 24 else if aC<dM t now then 37 else 0
theorem Rh (h:n≠x.aH):vH aC now x n z=24:=by
 unfold vH;split
 ·rfl
 ·rw[if_pos h]
theorem VC (h:eH x.key 1 z=none):vH aC now x n z=24:=by
 unfold vH;rw[h];rfl
theorem zQ (h:eH x.key 1 z=some l) (ht:jH l=none):vH aC now x n z=24:=by
 unfold vH;rw[h];show (match jH l with | none=>(24:Int) | some t=>_)=24;rw[ht]
theorem VD {t:Int} (hn:n=x.aH) (h:eH x.key 1 z=some l) (ht:jH l=some t):vH aC now x n z=if aC<dM t now then 37 else 0:=by
 unfold vH;rw[h];show (match jH l with | none=>(24:Int) | some t=>_)=_;rw[ht];show (if n≠x.aH then 24 else _)=_;rw[if_neg (fun q=>q hn)]
theorem KQ (h:Box.cut l=none):jH l=none:=by unfold jH;rw[h]
theorem KR {i r:List UInt8} {t:UInt8} (h:Box.cut l=some (t,i,r)) (hr:r≠[]):jH l=none:=by
 unfold jH;rw[h];cases r with
 | nil=>exact absurd rfl hr
 | cons a r=>rfl
theorem NR {i:List UInt8} {t:UInt8} (h:Box.cut l=some (t,i,[])):jH l=bF (t,i):=by unfold jH;rw[h]
theorem acI {p:Prop} (h:p:=by
 clear HS
 go_wp2_with fail
 go_quiet (first|(go_at_call 145;refine (C4.o _).mono ?_;rintro e w' ⟨rfl,rfl⟩;exact ⟨rfl,_,rfl⟩))
 go_wp2
 go_ret
 exact ⟨bE HS2.o.symm,aY mf.o _⟩):p:=h
theorem afn {p:Prop} (h:p:=by
 go_wp2
 go_ret
 exact ⟨bE HS.o.symm,mf.o⟩):p:=h
theorem KS (base yb:Nat) (M:DM) (g:RG) (e:RE) (now n:Int) (z:List UInt8) (zv:Value) (w:World) (hD:RD w base yb M g) (hz:vg w zv z) (hzl:z.length<=900) (dm:In64 now) :
  Calls prog 103 #[.pointer (some ⟨yb,0,none⟩),.agg e.arr,.int .i64 now,.int .i64 n,zv] w fun r w'=>r = .returned (.int .i64 (vH M.aC now e.be n z))/\w.grownBy w' none:=by
 have G0:=aE w (.cells e.arr 166) none
 have HG:=hid G0
 have HE:=hid (vG w e)
 have HB:=hid (hD.dF.blk.grown G0 aft)
 have C1:Hid (Calls prog 49 #[.int .u64 (e.key.toNat:Int),.int .i64 1,zv] (w.alloc (.cells e.arr 166)) fun r w'=>∃ o,r = .returned (.tuple #[o,.bool (eH e.key 1 z).isSome])/\(∀ l,eH e.key 1 z=some l->Has w' o l/\l.length<=900)/\(eH e.key 1 z=none->o = .slice none 0 0)/\(w.alloc (.cells e.arr 166)).grownBy w' none):=wh e.key 1 1 z zv _ afq afq rfl hzl (hz.grown G0)
 obtain ⟨R,hR⟩:=aq (vH M.aC now e.be n z)
 rw[hR]
 obtain ⟨sk,hsk⟩:=aq M.aC
 rw[hsk] at HB hR
 have HR:=hid hR
 clear hR hsk hD hz hzl G0
 have x7:(w.alloc (.cells e.arr 166)).cell? ⟨w.heap.size,7,none⟩=some (.int .i64 e.aH):=HE.o 7 _ rfl
 have x8:(w.alloc (.cells e.arr 166)).cell? ⟨w.heap.size,8,none⟩=some (.int .u64 (e.key.toNat:Int)):=HE.o 8 _ rfl
 obtain ⟨O,hO⟩:=aq (eH e.key 1 z)
 have HO:Hid (eH e.be.key 1 z=O):=hO
 rw[hO] at C1
 clear hO
 go_enter func103,ntmps103
 go_wp2_with fail
 refine C1.o.mono ?_
 rintro r w1 ⟨o,rfl,h1,h2,g1⟩
 have jC:=hid (aa HG.o g1)
 have HB1:=hid (HB.o.grown g1 aft)
 have y7:w1.cell? ⟨w.heap.size,7,none⟩=some (.int .i64 e.aH):=g1.cell x7 aft
 clear C1 HG HB g1 x7 x8 HE
 by_cases hn:n=e.aH
 ·have bn:(n != e.aH)=false:=by rw[eN];exact hn
  have HN:Hid (n=e.be.aH):=hn;clear hn;cases O with
  | none=>
   obtain rfl:=h2 rfl;have HS:Hid (R=24):=(by show _=_;rw[<-HR.o,VC HO.o]);clear h1 h2 HR HN;simp only[Option.isSome_none];go_wp2;go_ret;exact ⟨bE HS.o.symm,jC.o⟩
  | some l=>
   obtain ⟨hl,hll⟩:=h1 l rfl;have C2:=hid (JE l o w1 hl afp);obtain ⟨ao,co,rfl⟩:=hl.shape;clear h1 h2 hl hll;obtain ⟨cc,hcc⟩:=aq (Box.cut l);rw[hcc] at C2;have LY:=hid hcc;clear hcc;simp only[cY];go_wp2_with fail;refine C2.o.mono ?_;rintro r w2 ⟨t,a1,i,c1,a2,rr,c2,rfl,k1,k2,k3,k4,k5,k6,g2⟩;have G2:=aR g2 (.cells #[.int .u8 (t.toNat:Int),.slice a1 i.length c1] 117);have HG2:=hid (aa jC.o G2);have HB2:=hid ((HB1.o.grown g2 aft).alloc (.cells #[.int .u8 (t.toNat:Int),.slice a1 i.length c1] 117));have C3:Hid (Calls prog 70 #[.agg #[.int .u8 (t.toNat:Int),.slice a1 i.length c1]] (w2.alloc (.cells #[.int .u8 (t.toNat:Int),.slice a1 i.length c1] 117)) fun e w'=>∃ v,e = .returned (.tuple #[.int .i64 v,.bool (bF (t,i)).isSome])/\(In64 v/\∀ y,bF (t,i)=some y->v=y)/\(w2.alloc (.cells #[.int .u8 (t.toNat:Int),.slice a1 i.length c1] 117)).grownBy w' none):=sH ⟨t,a1,c1,i⟩ _ (k2.below (aE _ _ _));have HK1:=hid k1;clear C2 jC HB1 g2 G2 k1 k2 k3 k4 k5 k6 y7;obtain ⟨N,hN⟩:=aq (bF (t,i));rw[hN] at C3;have HPN:=hid hN;clear hN;go_wp2_with fail;refine C3.o.mono ?_;rintro r w3 ⟨v,rfl,hv,g3⟩;have HV:=hid hv;have mf:=hid (aa HG2.o g3);have HB3:=hid (HB2.o.grown g3 aft);clear C3 HG2 HB2 g3 hv;cases cc with
   | none=>
    have HS:Hid (R=24):=(by show _=_;rw[<-HR.o,zQ HO.o (KQ LY.o)]);clear HR HN LY HK1;simp only[Option.isSome_none];exact afn
   | some q=>
    obtain rfl:=HK1.o q rfl;clear HK1;simp only[cY];by_cases hr:rr=[]
    ·subst hr;simp only[List.length_nil];have HT:Hid (jH l=N):=(by show _=_;rw[NR LY.o,HPN.o]);clear LY HPN;cases N with
     | none=>
      have HS:Hid (R=24):=(by show _=_;rw[<-HR.o,zQ HO.o HT.o]);clear HR HN HT;simp only[Option.isSome_none];exact afn
     | some y=>
      obtain rfl:=HV.o.2 y rfl;have HS:Hid (R=if sk<dM v now then 37 else 0):=(by show _=_;rw[<-HR.o,VD HN.o HO.o HT.o]);have C4:=hid (fun m=>xI v now (w3.drewN m) HV.o.1 dm);have d0:=HB3.o.cell 0;simp only[cx,ct] at d0;obtain ⟨ap,hap⟩:=aq (dM v now);rw[hap] at C4 HS;clear HR HN HT hap HO HV;simp only[cY];by_cases hsk:sk<ap
      ·have HS2:Hid (R=37):=(by show _=_;rw[HS.o,if_pos hsk]);exact acI
      ·have HS2:Hid (R=0):=(by show _=_;rw[HS.o,if_neg hsk]);exact acI
    ·have HS:Hid (R=24):=(by show _=_;rw[<-HR.o,zQ HO.o (KR LY.o hr)]);have hrl:(0:Int)<(rr.length:Int):=by
      have:=fL.2 hr;omega
     obtain ⟨rl,afa⟩:=aq rr.length;rw[afa] at hrl ⊢;clear HR HN LY hr afa;exact afn
 ·have bn:(n != e.aH)=true:=by rw[fj];exact hn
  have HS:Hid (R=24):=by show _=_;rw[<-HR.o];exact Rh hn
  clear HR hn h1 h2;go_wp2;go_ret;exact ⟨bE HS.o.symm,jC.o⟩
variable {fi fl rn:Int} {x:RE} {w:World}
structure FW (w W:World) (old:TK) (x s:RE) (fl st fi rn:Int):Prop where
 o:W.rangeAt w.heap.size 0 old.cells
 x:W.rangeAt (w.heap.size+1) 0 x.cells
 s:W.rangeAt (w.heap.size+2) 0 s.cells
 r:Live W (w.heap.size+3) 7
 t:W.rangeAt (w.heap.size+4) 0 [.int .i64 fl,.int .u64 (old.aM.toNat:Int),.string ⟨old.ax.toArray⟩,.int .i64 old.dY,.int .i64 st,.int .i64 fi,.int .i64 rn]
 lt:Live W (w.heap.size+4) 7
 g:w.grownBy W none
theorem FW.grown {W':World} {old:TK} {s:RE} {st:Int} (h:FW w W old x s fl st fi rn) (k:W.grownBy W' none):FW w W' old x s fl st fi rn:=
 ⟨aA h.o k,aA h.x k,aA h.s k,h.r.grown k,aA h.t k,h.lt.grown k,aa h.g k⟩
theorem FW.drew {old:TK} {s:RE} {st:Int} (h:FW w W old x s fl st fi rn):FW w W.drew old x s fl st fi rn:=h.grown (bD (bh _ _))
theorem FW.set {old:TK} {s:RE} {st:Int} (h:FW w W old x s fl st fi rn) (k:Nat) (v:Value) (hk:k<7) :
  (W.setCell ⟨w.heap.size+4,k,none⟩ v).rangeAt w.heap.size 0 old.cells/\(W.setCell ⟨w.heap.size+4,k,none⟩ v).rangeAt (w.heap.size+1) 0 x.cells/\(W.setCell ⟨w.heap.size+4,k,none⟩ v).rangeAt (w.heap.size+2) 0 s.cells/\Live (W.setCell ⟨w.heap.size+4,k,none⟩ v) (w.heap.size+3) 7/\Live (W.setCell ⟨w.heap.size+4,k,none⟩ v) (w.heap.size+4) 7/\w.grownBy (W.setCell ⟨w.heap.size+4,k,none⟩ v) none/\(W.setCell ⟨w.heap.size+4,k,none⟩ v).rangeAt (w.heap.size+4) 0 ([.int .i64 fl,.int .u64 (old.aM.toNat:Int),.string ⟨old.ax.toArray⟩,.int .i64 old.dY,.int .i64 st,.int .i64 fi,.int .i64 rn].set k v):=
 ⟨eT h.o afp _,eT h.x afp _,eT h.s afp _,bP h.r _,bP h.lt _,az h.g afp,range_one h.t afD _⟩
theorem FW.Am {old:TK} {s:RE} {st:Int} (h:FW w W old x s fl st fi rn) (v:Int):FW w (W.setCell ⟨w.heap.size+4,0,none⟩ (.int .i64 v)) old x s v st fi rn:=by
 obtain ⟨a,b,c,d,e,f,g⟩:=h.set 0 (.int .i64 v) afq;exact ⟨a,b,c,d,g,e,f⟩
theorem FW.setSt {old:TK} {s:RE} {st:Int} (h:FW w W old x s fl st fi rn) (v:Int):FW w (W.setCell ⟨w.heap.size+4,4,none⟩ (.int .i64 v)) old x s fl v fi rn:=by
 obtain ⟨a,b,c,d,e,f,g⟩:=h.set 4 (.int .i64 v) afq;exact ⟨a,b,c,d,g,e,f⟩
theorem FW.wU {old:TK} {s:RE} {st:Int} (h:FW w W old x s fl st fi rn) (v:Int):FW w (W.setCell ⟨w.heap.size+4,5,none⟩ (.int .i64 v)) old x s fl st v rn:=by
 obtain ⟨a,b,c,d,e,f,g⟩:=h.set 5 (.int .i64 v) afq;exact ⟨a,b,c,d,g,e,f⟩
theorem FW.afb {old:TK} {s:RE} {st:Int} (h:FW w W old x s fl st fi rn) (v:Int):FW w (W.setCell ⟨w.heap.size+4,6,none⟩ (.int .i64 v)) old x s fl st fi v:=by
 obtain ⟨a,b,c,d,e,f,g⟩:=h.set 6 (.int .i64 v) afq;exact ⟨a,b,c,d,g,e,f⟩
theorem FW.tc {old:TK} {s:RE} {st:Int} (h:FW w W old x s fl st fi rn):W.cell? ⟨w.heap.size+4,0,none⟩=some (.int .i64 fl)/\W.cell? ⟨w.heap.size+4,1,none⟩=some (.int .u64 (old.aM.toNat:Int))/\W.cell? ⟨w.heap.size+4,2,none⟩=some (.string ⟨old.ax.toArray⟩)/\W.cell? ⟨w.heap.size+4,3,none⟩=some (.int .i64 old.dY)/\W.cell? ⟨w.heap.size+4,4,none⟩=some (.int .i64 st)/\W.cell? ⟨w.heap.size+4,5,none⟩=some (.int .i64 fi)/\W.cell? ⟨w.heap.size+4,6,none⟩=some (.int .i64 rn):=
 ⟨h.t 0 _ rfl,h.t 1 _ rfl,h.t 2 _ rfl,h.t 3 _ rfl,h.t 4 _ rfl,h.t 5 _ rfl,h.t 6 _ rfl⟩
theorem FW.oc {old:TK} {s:RE} {st:Int} (h:FW w W old x s fl st fi rn):W.cell? ⟨w.heap.size,0,none⟩=some (.int .i64 old.ay)/\W.cell? ⟨w.heap.size,4,none⟩=some (.int .i64 old.start)/\W.cell? ⟨w.heap.size,5,none⟩=some (.int .i64 old.fin)/\W.cell? ⟨w.heap.size,6,none⟩=some (.int .i64 old.aD):=
 ⟨h.o 0 _ rfl,h.o 4 _ rfl,h.o 5 _ rfl,h.o 6 _ rfl⟩
theorem zR (key use draw:UInt64) (x:Int) (zs:List UInt8) (v:Value) (w:World) (hx1:1<=x) (hx2:x<=5) (hu:x=use.toNat) (hl:zs.length<=8388608) (h:Has w v zs) :
  Calls Tryz.prog 47 #[.int .u64 (key.toNat:Int),.int .i64 x,.int .u64 (draw.toNat:Int),v] w fun e w'=>∃ o,e = .returned o/\Has w' o (Pure.fq key use draw zs)/\w.grownBy w' none:=by
 obtain ⟨ao,cap,rfl,h2,h3,h4,h5⟩:=h
 refine (EO key use draw x zs zs.length ao cap w ⟨hx1,hx2⟩ (hid hu) (hid rfl) hl h4 h5).mono ?_
 exact aeV
end Go.Proofs.YteknelimjfgmaaaGreatDoor
