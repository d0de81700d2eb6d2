import Derived.Test.YteknelimjfgmaaaGreatDoorGJDeskE
namespace Go.Proofs.YteknelimjfgmaaaGreatDoor
set_option maxHeartbeats 2000000
open Go.RowKit
set_option maxRecDepth 100000
theorem RE.dE (e:RE):e.cells.length=10:=rfl
theorem iW (y:RE) (es:List RE):bK (y::es)=y.cells++bK es:=by simp[bK]
theorem set_left (xs ys:List Value) (j:Nat) (v:Value) (h:j<xs.length):(xs++ys).set j v=xs.set j v++ys:=by rw[List.set_append,if_pos h]
theorem set_right (xs ys:List Value) (j:Nat) (v:Value):(xs++ys).set (xs.length+j) v=xs++ys.set j v:=by rw[List.set_append,if_neg afp,Nat.add_sub_cancel_left]
def RE.iU (x:RE) (key:UInt64):RE:=⟨x.k,x.name,x.yo,x.bI,x.aD,x.bC,x.ay,x.aH+1,key,x.key⟩
theorem Ei (key:UInt64):∀ (es:List RE) (i:Nat) (hi:i<es.length),(((bK es).set (i*10+7) (.int .i64 (es[i].aH+1))).set (i*10+8) (.int .u64 (key.toNat:Int))).set (i*10+9) (.int .u64 (es[i].key.toNat:Int))=bK (es.set i (es[i].iU key)):=by
 intro es;induction es with
 | nil=>intro i hi;simp at hi
 | cons y es ih=>
  intro i hi;cases i with
  | zero=>
   rw[iW,gi,cC,cC,cC,set_left _ _ 7 _ (by rw[RE.dE];omega),set_left _ _ 8 _ (by rw[cU,RE.dE];omega),set_left _ _ 9 _ (by rw[cU,cU,RE.dE];omega)];show _=bK (y.iU key::es);rw[iW];rfl
  | succ i=>
   have h:=ih i (by simpa using hi);rw[iW,show (i+1)*10+7=y.cells.length+(i*10+7) from by rw[RE.dE];omega,show (i+1)*10+8=y.cells.length+(i*10+8) from by rw[RE.dE];omega,show (i+1)*10+9=y.cells.length+(i*10+9) from by rw[RE.dE];omega,set_right,set_right,set_right];show _=bK (y::es.set i _);rw[iW];exact eh _ h
theorem Be {w:World} {g i:Nat} {x:RE} (hc:∀ j,j<10->w.cell? ⟨g,i*10+j,none⟩=x.cells[j]?):w.cell? ⟨g,i*10,none⟩=some (.int .i64 x.k)/\w.cell? ⟨g,i*10+1,none⟩=some (.string ⟨x.name.toArray⟩)/\w.cell? ⟨g,i*10+2,none⟩=some (.int .u64 (x.yo.toNat:Int))/\w.cell? ⟨g,i*10+3,none⟩=some (.int .i64 x.bI)/\w.cell? ⟨g,i*10+4,none⟩=some (.int .i64 x.aD)/\w.cell? ⟨g,i*10+5,none⟩=some (.int .i64 x.bC)/\w.cell? ⟨g,i*10+6,none⟩=some (.int .i64 x.ay)/\w.cell? ⟨g,i*10+7,none⟩=some (.int .i64 x.aH)/\w.cell? ⟨g,i*10+8,none⟩=some (.int .u64 (x.key.toNat:Int))/\w.cell? ⟨g,i*10+9,none⟩=some (.int .u64 (x.before.toNat:Int)):=
 ⟨hc 0 afp,hc 1 afp,hc 2 afp,hc 3 afp,hc 4 afp,hc 5 afp,hc 6 afp,hc 7 afp,hc 8 afp,hc 9 afp⟩
theorem acZ {p:Prop} (h:p:=by
 rw[hbk.cellAt (i*10+j) afp,iV es i j BV hj]):p:=h
theorem adg {p:Prop} (h:p:=by
 go_wp2_with fail
 go_region
 all_goals
  go_wp2
  go_ret
  refine ⟨rfl,?_⟩
  have h:=HRD.o
  rw[HW3.o] at h
  exact h):p:=h
theorem Gz (base pb:Nat) (aC:Int) (g0 cb:Nat) (pv dv:Value) (es:List RE) (ds:List UInt8) (m i:Nat) (a:jV) (w:World) (hD:iG w base pb aC (.slice (some ⟨g0,0,none⟩) m cb) pv dv es ds) (hm:Hid (es.length=m)) (zm:m<=20) (hak:a.kind=3) (hfi:fP es a.name=(i:Int)) (him:i<m) (BV:i<es.length) (iL:es[i].aH<4611686018427387904) (adX:0<=es[i].aH) :
  Calls Tryz.prog 32 #[.pointer (some ⟨pb,0,none⟩),.agg a.cells] w fun r w'=>r = .returned (.int .i64 0)/\iG w' base pb aC (.slice (some ⟨g0,0,none⟩) m cb) pv dv (es.set i (es[i].iU a.key)) ds/\lN w w' (fun g=>g=g0):=by
 have pM:=fun w=>lZ a w
 have hF:=fun w hx=>nA base pb aC (.slice (some ⟨g0,0,none⟩) m cb) pv dv es ds a.name m ⟨a.name.toArray⟩ w hx hm afp (hid rfl)
 rw[hfi] at hF
 generalize a.oN=pl at pM
 obtain ⟨ak,an,key,bI,aD,bC,ay⟩:=a
 obtain rfl:ak=3:=hak
 simp only[jV.cells] at pM hF ⊢
 have G0:w.grownBy (w.alloc (.cells #[.int .i64 3,.string ⟨an.toArray⟩,.int .u64 (key.toNat:Int),.int .i64 bI,.int .i64 aD,.int .i64 bC,.int .i64 ay] 41)) none:=aE w _ none
 have hB0:=dX.new w #[.int .i64 3,.string ⟨an.toArray⟩,.int .u64 (key.toNat:Int),.int .i64 bI,.int .i64 aD,.int .i64 bC,.int .i64 ay] 41
 have Bd:=hF _ (hD.grown G0)
 clear hF hfi
 go_enter Tryz.func32,Tryz.ntmps32
 go_wp2_with fail
 refine Bd.mono ?_
 rintro e w1 ⟨rfl,hg1⟩
 have hB1:=hB0.grown hg1 aft
 have G1:=aa G0 hg1
 have f0:=hB1.cell 0
 have f1:=hB1.cell 1
 have f2:=hB1.cell 2
 have f3:=hB1.cell 3
 have f4:=hB1.cell 4
 have f5:=hB1.cell 5
 have f6:=hB1.cell 6
 simp only[cx,ct,cD] at f0 f1 f2 f3 f4 f5 f6
 clear Bd hg1
 go_wp2_with fail
 refine (pM _).mono ?_
 rintro e w2 ⟨rfl,hg2⟩
 have hB2:=hB1.grown hg2 aft
 have G2:=aa G1 hg2
 have hD2:=hD.grown G2
 clear f0 f1 f2 f3 f4 f5 f6 pM hg2 hB1
 have f0:=hB2.cell 0
 have f2:=hB2.cell 2
 have c1:=hD2.blk.cell 1
 simp only[cx,ct,cD] at f0 f2 c1
 have hbk:=hD2.bg
 rw[hm.o] at hbk
 have hc:∀ j,j<10->w2.cell? ⟨g0,i*10+j,none⟩=(es[i]).cells[j]?:=fun j hj=>by
  exact acZ
 obtain ⟨x,hx⟩:=ar (es[i])
 have HX:=hid hx
 rw[<-hx] at hc iL adX
 clear hx
 obtain ⟨d0,d1,d2,d3,d4,d5,d6,d7,d8,d9⟩:=Be hc
 have LG:(i:Int)<(m:Int):=by omega
 have hi0:(0:Int)<=(i:Int):=by omega
 have Ka:=aE w2 (.cells x.arr 166) none
 have c1a:=Ka.cell c1 aft
 have f0a:=Ka.cell f0 aft
 have f2a:=Ka.cell f2 aft
 have d7a:=Ka.cell d7 aft
 have h7f:(w2.alloc (.cells x.arr 166)).frozen? ⟨g0,i*10+7,none⟩=false:=tF (hbk.alloc _) _
 have Zz:=(hD.bg.lt g0 rfl).2
 have hne1:pb≠g0:=fun e=>hD.bne (by rw[e];rfl)
 have hs2:=G2.size
 have ZA:=hbk.alloc (.cells x.arr 166)
 have E9:=nX ZA (i*10+7) (.int .i64 (x.aH+1))
 have far:∀ (W:World) (j:Nat) (u:Value) (b o:Nat) (y:Option Value),b≠g0->W.cell? ⟨b,o,none⟩=y->(W.setCell ⟨g0,j,none⟩ u).cell? ⟨b,o,none⟩=y:=fun W j u b o y hb hy=>by
  rw[show (W.setCell ⟨g0,j,none⟩ u).cell? ⟨b,o,none⟩=W.cell? ⟨b,o,none⟩ from by simp[World.cell?,Below.heap_setCell W ⟨g0,j,none⟩ u b hb]];exact hy
 have z1:=far _ (i*10+7) (.int .i64 (x.aH+1)) pb 1 _ hne1 c1a
 have z2:=far _ (i*10+7) (.int .i64 (x.aH+1)) w.heap.size 2 _ afp f2a
 have z8:((w2.alloc (.cells x.arr 166)).setCell ⟨g0,i*10+7,none⟩ (.int .i64 (x.aH+1))).cell? ⟨w2.heap.size,8,none⟩=some (.int .u64 (x.key.toNat:Int)):=far _ _ _ _ _ _ afp (by rw[World.cell?_alloc_at (hn:=rfl)];rfl)
 have e8:((w2.alloc (.cells x.arr 166)).setCell ⟨g0,i*10+7,none⟩ (.int .i64 (x.aH+1))).cell? ⟨g0,i*10+8,none⟩=some (.int .u64 (x.key.toNat:Int)):=by
  rw[E9.cellAt (i*10+8) afp,fm afp,iV es i 8 BV afp,<-HX.o];rfl
 have e9:((w2.alloc (.cells x.arr 166)).setCell ⟨g0,i*10+7,none⟩ (.int .i64 (x.aH+1))).cell? ⟨g0,i*10+9,none⟩=some (.int .u64 (x.before.toNat:Int)):=by
  rw[E9.cellAt (i*10+9) afp,fm afp,iV es i 9 BV afp,<-HX.o];rfl
 have e8f:=tF E9 (i*10+8)
 have e9f:=tF E9 (i*10+9)
 have ZB:=nX E9 (i*10+8) (.int .u64 (key.toNat:Int))
 have TG:=nX ZB (i*10+9) (.int .u64 (x.key.toNat:Int))
 have hdn:dv.ownBlock≠some g0:=fun e=>by
  rcases hD.apart with h | h
  ·cases h
  ·exact h (by rw[e];rfl)
 have hset:(((bK es).set (i*10+7) (.int .i64 (x.aH+1))).set (i*10+8) (.int .u64 (key.toNat:Int))).set (i*10+9) (.int .u64 (x.key.toNat:Int))=bK (es.set i (es[i].iU key)):=by
  rw[HX.o];exact Ei key es i BV
 rw[hset] at TG
 have RD:∃ W3,W3=((((w2.alloc (.cells x.arr 166)).setCell ⟨g0,i*10+7,none⟩ (.int .i64 (x.aH+1))).setCell ⟨g0,i*10+8,none⟩ (.int .u64 (key.toNat:Int))).setCell ⟨g0,i*10+9,none⟩ (.int .u64 (x.key.toNat:Int)))/\iG W3 base pb aC (.slice (some ⟨g0,0,none⟩) m cb) pv dv (es.set i (es[i].iU key)) ds/\lN w W3 (fun g=>g=g0):=by
  refine ⟨_,rfl,⟨(((hD2.blk.alloc _).other _ _ hne1).other _ _ hne1).other _ _ hne1,by rw[cU,hm.o];exact TG,ownsRow_setCell_other (ownsRow_setCell_other (ownsRow_setCell_other (hD2.aO.alloc _) hdn _) hdn _) hdn _,hD.here,hD.bne,hD.Qd,hD.apart⟩,⟨G2.os,G2.tape,G2.output,by simp only[World.size_setCell,ch];omega,fun g hg hne=>?_⟩⟩;rw[Below.heap_setCell _ _ _ _ hne,Below.heap_setCell _ _ _ _ hne,Below.heap_setCell _ _ _ _ hne,Below.heap_alloc w2 _ g afp,G2.block g hg aft]
 obtain ⟨W3,(HW3:Hid _),Jm,Qg⟩:=RD
 have HRD:Hid (iG W3.drew.drew base pb aC (.slice (some ⟨g0,0,none⟩) m cb) pv dv (es.set i (es[i].iU key)) ds/\lN w W3.drew.drew (fun g=>g=g0)):=⟨⟨Jm.blk.drew.drew,Jm.bg,Jm.aO,Jm.here,Jm.bne,Jm.Qd,Jm.apart⟩,⟨Qg.os,Qg.tape,Qg.output,Qg.size,Qg.block⟩⟩
 clear  Jm Qg hset
 clear hc E9 ZB TG ZA far
 go_wp2_with fail
 go_region
 exact adg
theorem afH {p:Prop} (h:p:=by simp only[cU,RE.dE];omega):p:=h
def RE.qa (x:RE) (a:jV):RE:=⟨a.kind,a.name,a.key,a.bI,a.aD,a.bC,a.ay,x.aH,x.key,x.before⟩
theorem Ej (a:jV):∀ (es:List RE) (i:Nat) (hi:i<es.length),((((((((bK es).set (i*10) (.int .i64 a.kind)).set (i*10+1) (.string ⟨a.name.toArray⟩)).set (i*10+2) (.int .u64 (a.key.toNat:Int))).set (i*10+3) (.int .i64 a.bI)).set (i*10+4) (.int .i64 a.aD)).set (i*10+5) (.int .i64 a.bC)).set (i*10+6) (.int .i64 a.ay))=bK (es.set i (es[i].qa a)):=by
 intro es;induction es with
 | nil=>intro i hi;simp at hi
 | cons y es ih=>
  intro i hi;cases i with
  | zero=>
   rw[iW];simp only[gi,cC];rw[set_left _ _ 0 _ (by rw[RE.dE];omega),set_left _ _ 1 _ afH,set_left _ _ 2 _ afH,set_left _ _ 3 _ afH,set_left _ _ 4 _ afH,set_left _ _ 5 _ afH,set_left _ _ 6 _ afH];show _=bK (y.qa a::es);rw[iW];rfl
  | succ i=>
   have h:=ih i (by simpa using hi);rw[iW,show (i+1)*10+1=y.cells.length+(i*10+1) from by rw[RE.dE];omega,show (i+1)*10+2=y.cells.length+(i*10+2) from by rw[RE.dE];omega,show (i+1)*10+3=y.cells.length+(i*10+3) from by rw[RE.dE];omega,show (i+1)*10+4=y.cells.length+(i*10+4) from by rw[RE.dE];omega,show (i+1)*10+5=y.cells.length+(i*10+5) from by rw[RE.dE];omega,show (i+1)*10+6=y.cells.length+(i*10+6) from by rw[RE.dE];omega,show (i+1)*10=y.cells.length+i*10 from by rw[RE.dE];omega,set_right,set_right,set_right,set_right,set_right,set_right,set_right];show _=bK (y::es.set i _);rw[iW];exact eh _ h
theorem GA (base pb:Nat) (aC:Int) (g0 cb:Nat) (pv dv:Value) (es:List RE) (ds:List UInt8) (m i:Nat) (a:jV) (w:World) (hD:iG w base pb aC (.slice (some ⟨g0,0,none⟩) m cb) pv dv es ds) (hm:Hid (es.length=m)) (zm:m<=20) (hak:a.kind=4) (hfi:fP es a.name=(i:Int)) (him:i<m) (BV:i<es.length) (AB:a.oN=true) :
  Calls Tryz.prog 32 #[.pointer (some ⟨pb,0,none⟩),.agg a.cells] w fun r w'=>r = .returned (.int .i64 0)/\iG w' base pb aC (.slice (some ⟨g0,0,none⟩) m cb) pv dv (es.set i (es[i].qa a)) ds/\lN w w' (fun g=>g=g0):=by
 have pM:=fun w=>lZ a w
 have hF:=fun w hx=>nA base pb aC (.slice (some ⟨g0,0,none⟩) m cb) pv dv es ds a.name m ⟨a.name.toArray⟩ w hx hm afp (hid rfl)
 rw[hfi] at hF
 rw[AB] at pM
 clear AB
 obtain ⟨ak,an,key,bI,aD,bC,ay⟩:=a
 obtain rfl:ak=4:=hak
 simp only[jV.cells] at pM hF ⊢
 have G0:w.grownBy (w.alloc (.cells #[.int .i64 4,.string ⟨an.toArray⟩,.int .u64 (key.toNat:Int),.int .i64 bI,.int .i64 aD,.int .i64 bC,.int .i64 ay] 41)) none:=aE w _ none
 have hB0:=dX.new w #[.int .i64 4,.string ⟨an.toArray⟩,.int .u64 (key.toNat:Int),.int .i64 bI,.int .i64 aD,.int .i64 bC,.int .i64 ay] 41
 have Bd:=hF _ (hD.grown G0)
 clear hF hfi
 go_enter Tryz.func32,Tryz.ntmps32
 go_wp2_with fail
 refine Bd.mono ?_
 rintro e w1 ⟨rfl,hg1⟩
 have hB1:=hB0.grown hg1 aft
 have G1:=aa G0 hg1
 have f0:=hB1.cell 0
 have f1:=hB1.cell 1
 have f2:=hB1.cell 2
 have f3:=hB1.cell 3
 have f4:=hB1.cell 4
 have f5:=hB1.cell 5
 have f6:=hB1.cell 6
 simp only[cx,ct,cD] at f0 f1 f2 f3 f4 f5 f6
 clear Bd hg1
 go_wp2_with fail
 refine (pM _).mono ?_
 rintro e w2 ⟨rfl,hg2⟩
 have hB2:=hB1.grown hg2 aft
 have G2:=aa G1 hg2
 have hD2:=hD.grown G2
 clear f0 f1 f2 f3 f4 f5 f6 pM hg2 hB1
 have f0:=hB2.cell 0
 have f1:=hB2.cell 1
 have f2:=hB2.cell 2
 have f3:=hB2.cell 3
 have f4:=hB2.cell 4
 have f5:=hB2.cell 5
 have f6:=hB2.cell 6
 have c1:=hD2.blk.cell 1
 simp only[cx,ct,cD] at f0 f1 f2 f3 f4 f5 f6 c1
 have hbk:=hD2.bg
 rw[hm.o] at hbk
 have hc:∀ j,j<10->w2.cell? ⟨g0,i*10+j,none⟩=(es[i]).cells[j]?:=fun j hj=>by
  exact acZ
 obtain ⟨x,hx⟩:=ar (es[i])
 rw[<-hx] at hc
 clear hx
 obtain ⟨d0,d1,d2,d3,d4,d5,d6,d7,d8,d9⟩:=Be hc
 have LG:(i:Int)<(m:Int):=by omega
 have hi0:(0:Int)<=(i:Int):=by omega
 have Ka:=aE w2 (.cells x.arr 166) none
 have c1a:=Ka.cell c1 aft
 have f0a:=Ka.cell f0 aft
 have f1a:=Ka.cell f1 aft
 have f2a:=Ka.cell f2 aft
 have f3a:=Ka.cell f3 aft
 have f4a:=Ka.cell f4 aft
 have f5a:=Ka.cell f5 aft
 have f6a:=Ka.cell f6 aft
 have d0a:=Ka.cell d0 aft
 have d1a:=Ka.cell d1 aft
 have d2a:=Ka.cell d2 aft
 have d3a:=Ka.cell d3 aft
 have d4a:=Ka.cell d4 aft
 have d5a:=Ka.cell d5 aft
 have d6a:=Ka.cell d6 aft
 have Sd:=fun j=>tF (hbk.alloc (.cells x.arr 166)) j
 have h0f:=Sd (i*10)
 have h1f:=Sd (i*10+1)
 have h2f:=Sd (i*10+2)
 have h3f:=Sd (i*10+3)
 have h4f:=Sd (i*10+4)
 have h5f:=Sd (i*10+5)
 have h6f:=Sd (i*10+6)
 have hne1:pb≠g0:=fun e=>hD.bne (by rw[e];rfl)
 have hr0:=nX (hbk.alloc (.cells x.arr 166)) (i*10) (.int .i64 4)
 have hr1:=nX hr0 (i*10+1) (.string ⟨an.toArray⟩)
 have hr2:=nX hr1 (i*10+2) (.int .u64 (key.toNat:Int))
 have hr3:=nX hr2 (i*10+3) (.int .i64 bI)
 have hr4:=nX hr3 (i*10+4) (.int .i64 aD)
 have hr5:=nX hr4 (i*10+5) (.int .i64 bC)
 have hr6:=nX hr5 (i*10+6) (.int .i64 ay)
 have hdn:dv.ownBlock≠some g0:=fun e=>by
  rcases hD.apart with h | h
  ·cases h
  ·exact h (by rw[e];rfl)
 rw[Ej ⟨4,an,key,bI,aD,bC,ay⟩ es i BV] at hr6
 have RD:∃ W3,W3=((((((((w2.alloc (.cells x.arr 166)).setCell ⟨g0,i*10,none⟩ (.int .i64 4)).setCell ⟨g0,i*10+1,none⟩ (.string ⟨an.toArray⟩)).setCell ⟨g0,i*10+2,none⟩ (.int .u64 (key.toNat:Int))).setCell ⟨g0,i*10+3,none⟩ (.int .i64 bI)).setCell ⟨g0,i*10+4,none⟩ (.int .i64 aD)).setCell ⟨g0,i*10+5,none⟩ (.int .i64 bC)).setCell ⟨g0,i*10+6,none⟩ (.int .i64 ay))/\iG W3 base pb aC (.slice (some ⟨g0,0,none⟩) m cb) pv dv (es.set i (es[i].qa ⟨4,an,key,bI,aD,bC,ay⟩)) ds/\lN w W3 (fun g=>g=g0):=by
  refine ⟨_,rfl,⟨((((((((hD2.blk.alloc _).other _ _ hne1).other _ _ hne1).other _ _ hne1).other _ _ hne1).other _ _ hne1).other _ _ hne1).other _ _ hne1),by rw[cU,hm.o];exact hr6,(ownsRow_setCell_other (ownsRow_setCell_other (ownsRow_setCell_other (ownsRow_setCell_other (ownsRow_setCell_other (ownsRow_setCell_other (ownsRow_setCell_other (hD2.aO.alloc _) hdn _) hdn _) hdn _) hdn _) hdn _) hdn _) hdn _),hD.here,hD.bne,hD.Qd,hD.apart⟩,?_⟩;iterate 7 refine lN.set (g:=g0) (ex:=fun g=>g=g0) ?_ (Eq.refl g0) _ _
  exact lN.OC (aa G2 Ka) _
 obtain ⟨W3,(HW3:Hid _),Jm,Qg⟩:=RD
 have HRD:Hid (iG W3.drew base pb aC (.slice (some ⟨g0,0,none⟩) m cb) pv dv (es.set i (es[i].qa ⟨4,an,key,bI,aD,bC,ay⟩)) ds/\lN w W3.drew (fun g=>g=g0)):=⟨⟨Jm.blk.drew,Jm.bg,Jm.aO,Jm.here,Jm.bne,Jm.Qd,Jm.apart⟩,⟨Qg.os,Qg.tape,Qg.output,Qg.size,Qg.block⟩⟩
 clear  Jm Qg hc hr0 hr1 hr2 hr3 hr4 hr5 hr6 Sd
 exact adg
open Proofs.Tryz
theorem MC (base pb:Nat) (aC:Int) (g0 cb:Nat) (pv dv:Value) (es:List RE) (ds:List UInt8) (m i:Nat) (a:jV) (w:World) (hD:iG w base pb aC (.slice (some ⟨g0,0,none⟩) m cb) pv dv es ds) (hm:Hid (es.length=m)) (zm:m<=20) (hak:a.kind=2) (hfi:fP es a.name=(i:Int)) (him:i<m) (BV:i<es.length) (hbase:base<=w.heap.size) :
  Calls prog 32 #[.pointer (some ⟨pb,0,none⟩),.agg a.cells] w fun r w'=>r = .returned (.int .i64 0)/\∃ LH,iG w' base pb aC LH pv dv (es.take i++es.drop (i+1)) ds/\w.grownBy w' (some pb)/\NewAt w.heap.size LH:=by
 obtain ⟨ie,hie,he0,he1,he2⟩:=info_parts Tryz.Ty
 have pM:=fun w=>lZ a w
 have hF:=fun w hx=>nA base pb aC (.slice (some ⟨g0,0,none⟩) m cb) pv dv es ds a.name m ⟨a.name.toArray⟩ w hx hm afp (hid rfl)
 rw[hfi] at hF
 generalize a.oN=pl at pM
 obtain ⟨ak,an,key,bI,aD,bC,ay⟩:=a
 obtain rfl:ak=2:=hak
 simp only[jV.cells] at pM hF ⊢
 have G0:w.grownBy (w.alloc (.cells #[.int .i64 2,.string ⟨an.toArray⟩,.int .u64 (key.toNat:Int),.int .i64 bI,.int .i64 aD,.int .i64 bC,.int .i64 ay] 41)) none:=aE w _ none
 have hB0:=dX.new w #[.int .i64 2,.string ⟨an.toArray⟩,.int .u64 (key.toNat:Int),.int .i64 bI,.int .i64 aD,.int .i64 bC,.int .i64 ay] 41
 have Bd:=hF _ (hD.grown G0)
 clear hF hfi
 go_enter func32,ntmps32
 go_wp2_with fail
 refine Bd.mono ?_
 rintro e w1 ⟨rfl,hg1⟩
 have hB1:=hB0.grown hg1 aft
 have G1:=aa G0 hg1
 have f0:=hB1.cell 0
 have f1:=hB1.cell 1
 have f2:=hB1.cell 2
 have f3:=hB1.cell 3
 have f4:=hB1.cell 4
 have f5:=hB1.cell 5
 have f6:=hB1.cell 6
 simp only[cx,ct,cD] at f0 f1 f2 f3 f4 f5 f6
 clear Bd hg1
 go_wp2_with fail
 refine (pM _).mono ?_
 rintro e w2 ⟨rfl,hg2⟩
 have hB2:=hB1.grown hg2 aft
 have G2:=aa G1 hg2
 have hD2:=hD.grown G2
 clear f0 f1 f2 f3 f4 f5 f6 pM hg2 hB1
 have f0:=hB2.cell 0
 have f2:=hB2.cell 2
 have c1:=hD2.blk.cell 1
 simp only[cx,ct,cD] at f0 f2 c1
 have hbk:=hD2.bg
 rw[hm.o] at hbk
 have hc:∀ j,j<10->w2.cell? ⟨g0,i*10+j,none⟩=(es[i]).cells[j]?:=fun j hj=>by
  exact acZ
 obtain ⟨x,hx⟩:=ar (es[i])
 rw[<-hx] at hc
 clear hx
 obtain ⟨d0,d1,d2,d3,d4,d5,d6,d7,d8,d9⟩:=Be hc
 have LG:(i:Int)<(m:Int):=by omega
 have hi0:(0:Int)<=(i:Int):=by omega
 have Ka:=aE w2 (.cells x.arr 166) none
 have c1a:=Ka.cell c1 aft
 have f0a:=Ka.cell f0 aft
 have Gx:=aa G2 Ka
 have hpb:=hD.blk.lt
 have hs2:=G2.size
 have hDx:=hD.grown Gx
 have XI:=hDx.bg
 rw[hm.o] at XI
 have ZC:=xZ XI
 have hcap:=OA XI
 have Qf:Hid ((bK es).length=m*10):=by show _=_;rw[eY,hm.o]
 have hto:=fun w=>OB (P:=prog) 141 166 ie 10 underlying141 hie he1 (some ⟨g0,0,none⟩) m cb i (i:Int) rfl afp w
 obtain ⟨af,adV,Jl,TC⟩:=ET (P:=prog) 141 166 ie 10 underlying141 hie he1 (some ⟨g0,0,none⟩) m cb (i+1) ((i:Int)+1) afp afp hcap.1 Qf.o
 have hsrc1:D5 (w2.alloc (.cells x.arr 166)) (some ⟨g0,0,none⟩) (bK (es.take i)):=by
  rw[<-yu es i afp];exact ZC.take _
 have hl1:(bK (es.take i)).length=i*10:=by rw[eY,cG];congr 1;omega
 have hx1:(some (⟨g0,0,none⟩:Addr))=none->cb=0/\i=0:=fun h=>by cases h
 have hx2:0+i<=maxLen:=by unfold maxLen;omega
 have hx3:(0+i)*88<=140737488355328:=by omega
 clear hc
 go_wp2_with (at_builtin;refine iT _ rfl _ _ 141 rfl (w.heap.size+1) 166 ie _ 10 88 underlying141 hie he0 he1 he2 rfl afq (.slice none 0 0) 0 [] rfl (World.ownsRow_nil _ _ _ _) (some ⟨g0,0,none⟩) i cb (bK (es.take i)) rfl hl1 hsrc1 hx1 (oC _) hx2 hx3 ?b1 ?_)
 case b1=>have:=hB2.lt;simp;omega
 intro v3 w3 hown3 hg3;have hg3':(w2.alloc (.cells x.arr 166)).grownBy w3 none:=by simpa[Value.ownBlock] using hg3
 have G3:=aa Gx hg3';have GD:w3.ownsRow (w.heap.size+1) 166 10 v3 i (bK (es.take i)):=by simpa using hown3
 obtain ⟨a3,k3,rfl⟩:=cu GD;have hD3:=hD.grown G3;have c13:=hD3.blk.cell 1;simp only[cx,ct,cD] at c13;have aaQ:=hD3.bg;rw[hm.o] at aaQ;have BS:=Jl w3 (xZ aaQ);rw[yw es (i+1) afp] at BS;have hl3:(bK (es.drop (i+1))).length=(m-(i+1))*10:=by rw[eY,cy,hm.o]
 have hz1':af=none->cb-(i+1)=0/\m-(i+1)=0:=fun h=>⟨TC (fun h=>by cases h) h,by have:=TC (fun h=>by cases h) h;omega⟩
 have hz2':i+(m-(i+1))<=maxLen:=by unfold maxLen;omega
 have aaM:(i+(m-(i+1)))*88<=140737488355328:=by omega
 have hs3:w.heap.size+1<=w3.heap.size:=by have h1:=hg3'.size;have h2:=hB2.lt;simp at h1;omega
 have adY:∀ g,g<w.heap.size+1->some g≠(Value.slice a3 i k3).ownBlock:=fun g hg e=>by have:=(GD.lt g e.symm).1;omega
 clear hown3 hg3 hsrc1 hx1 hto ZC XI Jl;go_wp2_with (at_builtin;refine iT _ rfl _ _ 141 rfl (w.heap.size+1) 166 ie _ 10 88 underlying141 hie he0 he1 he2 rfl afq (.slice a3 i k3) i (bK (es.take i)) rfl GD af (m-(i+1)) (cb-(i+1)) (bK (es.drop (i+1))) rfl hl3 BS hz1' (oC _) hz2' aaM hs3 ?_)
 intro v4 w4 si hg4;obtain ⟨a4,k4,rfl⟩:=cu si;have hB4:=hD3.blk.grown hg4 (adY _ afp);have c14:=hB4.cell 1;have aoa:=hB4.frozen 1;simp only[cx,ct,cD] at c14;have ZE:∀ g,g<w.heap.size->w4.heap[g]?=w.heap[g]?:=fun g hg=>by
  rw[hg4.block g afp (adY g afp),G3.block g hg aft]
 have hs4:=hg4.size;have hlen:(es.take i++es.drop (i+1)).length=i+(m-(i+1)):=by simp[hm.o];omega
 have hrow:w4.ownsRow (w.heap.size+1) 166 10 (.slice a4 (i+(m-(i+1))) k4) (i+(m-(i+1))) (bK (es.take i++es.drop (i+1))):=by
  rw[kE];exact si
 have GB:w.grownBy (w4.setCell ⟨pb,1,none⟩ (.slice a4 (i+(m-(i+1))) k4)) (some pb):=
  ⟨hg4.os.trans G3.os,hg4.tape.trans G3.tape,hg4.output.trans G3.output,by rw[World.size_setCell];omega,fun g hg hr=>(Below.heap_setCell w4 _ _ g (by show g≠pb;intro e;exact hr af4)).trans (ZE g hg)⟩
 have RD:iG (w4.setCell ⟨pb,1,none⟩ (.slice a4 (i+(m-(i+1))) k4)) base pb aC (.slice a4 (i+(m-(i+1))) k4) pv dv (es.take i++es.drop (i+1)) ds:=by
  refine ⟨by simpa using hB4.set 1 (.slice a4 (i+(m-(i+1))) k4),?_,hD.aO.kept GB (.inr hD.Qd),hD.here,fun h=>by have:=(hrow.lt _ h).1;omega,hD.Qd,?_⟩
  ·rw[hlen];exact aeL
  ·cases hx:(Value.slice a4 (i+(m-(i+1))) k4).ownBlock with
   | none=>exact .inl rfl
   | some g=>
    exact aeE
 have NA:NewAt w.heap.size (.slice a4 (i+(m-(i+1))) k4):=fun g h=>by have:=(hrow.lt g h).1;omega
 have HR:=hid (And.intro RD GB);clear hD hD2 hD3 hDx hrow hB4 ZE RD GB si GD hg4 BS aaQ;go_wp2;go_ret;exact ⟨rfl,_,HR.o.1,HR.o.2,NA⟩
theorem GG (base pb:Nat) (aC:Int) (g0 cb:Nat) (pv dv:Value) (es:List RE) (ds:List UInt8) (m i:Nat) (a:jV) (w:World) (hD:iG w base pb aC (.slice (some ⟨g0,0,none⟩) m cb) pv dv es ds) (hm:Hid (es.length=m)) (zm:m<=20) (hak:a.kind=4) (hfi:fP es a.name=(i:Int)) (him:i<m) (BV:i<es.length) (AB:a.oN=false) :
  Calls prog 32 #[.pointer (some ⟨pb,0,none⟩),.agg a.cells] w fun r w'=>r = .returned (.int .i64 1)/\w.grownBy w' none:=by
 have pM:=fun w=>lZ a w
 have hF:=fun w hx=>nA base pb aC (.slice (some ⟨g0,0,none⟩) m cb) pv dv es ds a.name m ⟨a.name.toArray⟩ w hx hm afp (hid rfl)
 rw[hfi] at hF
 rw[AB] at pM
 clear AB
 obtain ⟨ak,an,key,bI,aD,bC,ay⟩:=a
 obtain rfl:ak=4:=hak
 simp only[jV.cells] at pM hF ⊢
 have G0:w.grownBy (w.alloc (.cells #[.int .i64 4,.string ⟨an.toArray⟩,.int .u64 (key.toNat:Int),.int .i64 bI,.int .i64 aD,.int .i64 bC,.int .i64 ay] 41)) none:=aE w _ none
 have hB0:=dX.new w #[.int .i64 4,.string ⟨an.toArray⟩,.int .u64 (key.toNat:Int),.int .i64 bI,.int .i64 aD,.int .i64 bC,.int .i64 ay] 41
 have Bd:=hF _ (hD.grown G0)
 clear hF hfi
 go_enter func32,ntmps32
 go_wp2_with fail
 refine Bd.mono ?_
 rintro e w1 ⟨rfl,hg1⟩
 have hB1:=hB0.grown hg1 aft
 have G1:=aa G0 hg1
 have f0:=hB1.cell 0
 have f1:=hB1.cell 1
 have f2:=hB1.cell 2
 have f3:=hB1.cell 3
 have f4:=hB1.cell 4
 have f5:=hB1.cell 5
 have f6:=hB1.cell 6
 simp only[cx,ct,cD] at f0 f1 f2 f3 f4 f5 f6
 clear Bd hg1
 go_wp2_with fail
 refine (pM _).mono ?_
 rintro e w2 ⟨rfl,hg2⟩
 have hB2:=hB1.grown hg2 aft
 have G2:=aa G1 hg2
 have hD2:=hD.grown G2
 clear f0 f1 f2 f3 f4 f5 f6 pM hg2 hB1
 have f0:=hB2.cell 0
 have f1:=hB2.cell 1
 have f2:=hB2.cell 2
 have f3:=hB2.cell 3
 have f4:=hB2.cell 4
 have f5:=hB2.cell 5
 have f6:=hB2.cell 6
 have c1:=hD2.blk.cell 1
 simp only[cx,ct,cD] at f0 f1 f2 f3 f4 f5 f6 c1
 have hbk:=hD2.bg
 rw[hm.o] at hbk
 have hc:∀ j,j<10->w2.cell? ⟨g0,i*10+j,none⟩=(es[i]).cells[j]?:=fun j hj=>by
  exact acZ
 obtain ⟨x,hx⟩:=ar (es[i])
 rw[<-hx] at hc
 clear hx
 obtain ⟨d0,d1,d2,d3,d4,d5,d6,d7,d8,d9⟩:=Be hc
 have LG:(i:Int)<(m:Int):=by omega
 have hi0:(0:Int)<=(i:Int):=by omega
 have Ka:=aE w2 (.cells x.arr 166) none
 have f0a:=Ka.cell f0 aft
 have Gx:=aa G2 Ka
 clear hc
 go_wp2
 go_ret
 exact ⟨rfl,Gx⟩
def RE.be (e:RE):BE:=⟨e.name,e.aH,e.key,e.before,e.bI,e.aD,e.bC,e.ay⟩
theorem OG (es:List RE) (l:List UInt8):BE.ny (es.map RE.be) l=es.findIdx? (fun e=>e.name==l):=by
 rw[BE.ny,List.findIdx?_map];rfl
theorem aaR (es:List RE) (l:List UInt8):BE.ins (es.map RE.be) l=qY es l:=by
 induction es with
 | nil=>rfl
 | cons e es ih=>simp only[dj,BE.ins,qY,ih];rfl
theorem afI {p:Prop} (h:p:=by injection e):p:=h
variable {M:DM} {yb:Nat} {w w':World}
def PF.cells (p:PF):List Value:=[.string ⟨p.ax.toArray⟩,.int .i64 p.time,.int .i64 p.count]
def fI (l:List PF):List Value:=(l.map PF.cells).flatten
structure RG where
 bv:Value
 pv:Value
 dv:Value
 es:List RE
def RG.foot (g:RG) (yb b:Nat):Prop:=b=yb\/g.bv.ownBlock=some b\/g.pv.ownBlock=some b\/g.dv.ownBlock=some b
structure RD (w:World) (base yb:Nat) (M:DM) (g:RG):Prop where
 dF:iG w base yb M.aC g.bv g.pv g.dv g.es M.aO
 bg:g.es.map RE.be=M.bg
 aN:w.ownsRow base 283 3 g.pv M.aN.length (fI M.aN)
 pne:g.pv.ownBlock≠some yb
 pb:g.pv.ownBlock=none\/g.pv.ownBlock≠g.bv.ownBlock
 pd:g.pv.ownBlock=none\/g.pv.ownBlock≠g.dv.ownBlock
theorem iG.keep {base pb:Nat} {aC:Int} {bv pv dv:Value} {es:List RE} {ds:List UInt8} (h:iG w base pb aC bv pv dv es ds) (k:∀ b,b=pb\/bv.ownBlock=some b\/dv.ownBlock=some b->w'.heap[b]?=w.heap[b]?):iG w' base pb aC bv pv dv es ds:=
 ⟨h.blk.kept (k _ (.inl rfl)),eF h.bg (fun b hb=>k b (.inr (.inl hb))),eF h.aO (fun b hb=>k b (.inr (.inr hb))),h.here,h.bne,h.Qd,h.apart⟩
theorem RD.keep {base:Nat} {g:RG} (h:RD w base yb M g) (k:∀ b,g.foot yb b->w'.heap[b]?=w.heap[b]?):RD w' base yb M g:=
 ⟨h.dF.keep (fun b hb=>k b (by rcases hb with e | e | e;exact .inl e;exact .inr (.inl e);exact .inr (.inr (.inr e)))),h.bg,eF h.aN (fun b hb=>k b (.inr (.inr (.inl hb)))),h.pne,h.pb,h.pd⟩
theorem RD.lt {base:Nat} {g:RG} (h:RD w base yb M g) (b:Nat) (hb:g.foot yb b):base<=b/\b<w.heap.size:=by
 rcases hb with e | e | e | e
 ·subst e;exact ⟨h.dF.here,h.dF.blk.lt⟩
 ·exact h.dF.bg.lt b e
 ·exact h.aN.lt b e
 ·exact h.dF.aO.lt b e
theorem RD.down {base base':Nat} {g:RG} (h:RD w base yb M g) (hb:base'<=base):RD w base' yb M g:=
 ⟨⟨h.dF.blk,fT h.dF.bg hb,fT h.dF.aO hb,br hb h.dF.here,h.dF.bne,h.dF.Qd,h.dF.apart⟩,h.bg,fT h.aN hb,h.pne,h.pb,h.pd⟩
theorem XJ (es:List RE) (a:jV):(gy (es.map RE.be) a).2=qf es a:=by
 unfold gy qf;rw[OG];have hl:(es.map RE.be).length=es.length:=cw _;rw[hl];unfold fP;cases h:es.findIdx? (fun e=>e.name==a.name) with
 | none=>
  by_cases k1:a.kind=1
  ·simp only[k1,ez];repeat' split
   all_goals simp_all
  ·simp only[k1,eC];split <;> simp
 | some i=>
  have hi:=(List.findIdx?_eq_some_iff_getElem.1 h).1;by_cases k1:a.kind=1
  ·simp only[k1,ez];repeat' split
   all_goals simp_all
   all_goals omega
  ·simp only[k1,eC];have hx:(es.map RE.be)[i]?=some (es[i].be):=(by simp[hi]);by_cases k2:a.kind=2
   ·simp[k2]
   ·by_cases k3:a.kind=3
    ·simp[k3,hx]
    ·by_cases k4:a.kind=4
     ·simp only[k4,hx];by_cases hp:a.oN=false
      ·simp[hp]
      ·simp[hp]
     ·simp[k2,k3,k4]
theorem TH (es:List BE) (a:jV) (h:(gy es a).2≠0):(gy es a).1=es:=by
 unfold gy at h ⊢;repeat' split
 all_goals simp_all
theorem yz (es:List RE) (l:List UInt8) (i:Nat) (h:es.findIdx? (fun e=>e.name==l)=some i):fP es l=(i:Int):=by rw[fP,h]
theorem BZ (es:List RE) (l:List UInt8) (h:es.findIdx? (fun e=>e.name==l)=none):fP es l=-1:=by rw[fP,h]
def iB (base yb:Nat) (M:DM) (g:RG) (a:jV) (w w':World):Prop:=
 ∃ g',RD w' base yb {M with bg:=(gy M.bg a).1} g'/\lN w w' (g.foot yb)/\∀ b,g'.foot yb b->g.foot yb b\/w.heap.size<=b
theorem iB.new {base:Nat} {g:RG} {a:jV} (hD:RD w base yb M g) {LH:Value} {es':List RE} (h1:iG w' base yb M.aC LH g.pv g.dv es' M.aO) (h2:es'.map RE.be=(gy M.bg a).1) (h3:w.grownBy w' (some yb)) (h4:NewAt w.heap.size LH):iB base yb M g a w w':=by
 refine ⟨⟨LH,g.pv,g.dv,es'⟩,⟨h1,h2,eF hD.aN (fun b hb=>h3.block b (hD.aN.lt b hb).2 (fun e=>hD.pne afR)),hD.pne,?_,hD.pd⟩,⟨h3.os,h3.tape,h3.output,h3.size,fun b hb hx=>h3.block b hb (fun e=>hx (.inl afI))⟩,?_⟩
 ·cases hp:g.pv.ownBlock with
  | none=>exact .inl rfl
  | some p=>
   refine .inr (fun e=>?_);have:=h4 p e.symm;have:=(hD.aN.lt p hp).2;omega
 ·rintro b (e | e | e | e)
  ·exact .inl (.inl e)
  ·exact .inr (h4 b e)
  ·exact .inl (.inr (.inr (.inl e)))
  ·exact .inl (.inr (.inr (.inr e)))
theorem iB.inPlace {base:Nat} {g:RG} {a:jV} (hD:RD w base yb M g) {g0:Nat} {es':List RE} (h1:iG w' base yb M.aC g.bv g.pv g.dv es' M.aO) (h2:es'.map RE.be=(gy M.bg a).1) (h3:lN w w' fun b=>b=g0) (h4:g.bv.ownBlock=some g0):iB base yb M g a w w':=by
 refine ⟨⟨g.bv,g.pv,g.dv,es'⟩,⟨h1,h2,eF hD.aN (fun b hb=>h3.block b (hD.aN.lt b hb).2 (fun e=>?_)),hD.pne,hD.pb,hD.pd⟩,h3.mono (fun b _ e=>.inr (.inl (by rw[h4,e]))),fun b hb=>.inl hb⟩;rcases hD.pb with h | h
 ·rw[h] at hb;cases hb
 ·exact h (by rw[hb,h4,e])
theorem iB.same {base:Nat} {g:RG} {a:jV} (hD:RD w base yb M g) (h2:(gy M.bg a).1=M.bg) (h3:w.grownBy w' none):iB base yb M g a w w':=by
 refine ⟨g,?_,lN.OC h3 _,fun b hb=>.inl hb⟩;rw[h2];exact hD.keep (fun b hb=>h3.block b (hD.lt b hb).2 aft)
theorem adJ {p:Prop} (h:p:=by
 rcases hde.bg.2 with ⟨_,h2⟩ | ⟨g,cap,cur,h,_⟩
 ·omega
 ·rw[hbv] at h;simp at h;exact ⟨g,h.1⟩):p:=h
theorem aev {p:Prop} (h:p:=by
 rintro r w' ⟨rfl,LH,r1,r2,r3⟩
 exact ⟨by rw[hres],iB.new hD r1 (by rw[hres]) r2 r3⟩):p:=h
theorem aey {p:Prop} (h:p:=by
 rintro r w' ⟨rfl,r1,r2⟩
 exact ⟨by rw[hres],iB.inPlace hD r1 (by rw[hres]) r2 rfl⟩):p:=h
theorem ME (n base yb:Nat) (M:DM) (g:RG) (a:jV) (w:World) (hD:RD w base yb M g) (hok:gU n M.bg) (hn:n<4611686018427387904) (hna:a.name.length<=9223372036854775807) (hbase:base<=w.heap.size) :
  Calls Tryz.prog 32 #[.pointer (some ⟨yb,0,none⟩),.agg a.cells] w fun r w'=>r = .returned (.int .i64 (gy M.bg a).2)/\iB base yb M g a w w':=by
 obtain ⟨bv,pv,dv,es⟩:=g
 have hb:es.map RE.be=M.bg:=hD.bg
 have hde:iG w base yb M.aC bv pv dv es M.aO:=hD.dF
 have hlen:es.length<=20:=by rw[<-cw (f:=RE.be),hb];exact hok.len
 have Mx:=XJ es a
 rw[hb] at Mx
 obtain ⟨ab,cb,hbv⟩:=cu hde.bg
 by_cases hz:qf es a=0
 ·by_cases k1:a.kind=1
  ·have hx:=hz;rw[qf,if_pos k1] at hx;have q1:cO a.name=true:=(by cases h:cO a.name <;> simp_all);have q2:a.oN=true:=(by cases h:a.oN <;> simp_all);have q3:fP es a.name=-1:=by
    rcases Gy es a.name with h | h
    ·rw[q1,q2] at hx;by_cases h5:0<=fP es a.name
     ·simp[h5] at hx
     ·omega
    ·exact h
   have q4:es.length<20:=by
    rw[q1,q2,q3] at hx;by_cases h5:20<=es.length
    ·simp[h5] at hx
    ·omega
   have q5:es.findIdx? (fun e=>e.name==a.name)=none:=by
    cases h:es.findIdx? (fun e=>e.name==a.name) with
    | none=>rfl
    | some i=>rw[yz es a.name i h] at q3;omega
   have hres:(gy M.bg a)=((Ms es (TF a)).map RE.be,0):=by
    rw[<-hb,gy,if_pos k1,OG,q5,q1,q2,cw,aaR];simp only[Bool.true_eq_false,eC,Option.isSome_none,fh,if_neg (show ¬ 20<=es.length by omega)];rw[Ms];simp[TF,BE.new,RE.be,List.map_take,List.map_drop]
   refine (MB base yb M.aC bv pv dv es M.aO es.length a w hde (hid rfl) q4 hna ⟨k1,q1,q2,q3⟩ hbase).mono ?_;exact aev
  ·have hx:=hz;rw[qf,if_neg k1] at hx;have q1:a.kind=2\/a.kind=3\/a.kind=4:=by
    by_cases h:a.kind=2\/a.kind=3\/a.kind=4
    ·exact h
    ·rw[if_neg h] at hx;omega
   rw[if_pos q1] at hx;cases h:es.findIdx? (fun e=>e.name==a.name) with
   | none=>rw[BZ es _ h] at hx;simp at hx
   | some i=>
    have hf:=yz es a.name i h;obtain ⟨hi,hin,_⟩:=List.findIdx?_eq_some_iff_getElem.1 h;obtain ⟨g0,hab⟩:∃ g0,ab=some ⟨g0,0,none⟩:=by
     exact adJ
    subst hab;subst hbv;have hmem:es[i].be∈M.bg:=(by rw[<-hb];exact ev (cJ hi));have iL:=hok.num _ hmem;have akA:1<=es[i].aH/\es[i].aH<=(n:Int):=iL;have hget:(es.map RE.be)[i]?=some es[i].be:=(by simp[hi]);have hall:gy M.bg a=if a.kind=2 then ((es.map RE.be).take i++(es.map RE.be).drop (i+1),0) else if a.kind=3 then ((es.map RE.be).set i (es[i].be.iU a.key),0) else if a.oN=false then (es.map RE.be,1) else ((es.map RE.be).set i (es[i].be.qa a),0):=by
     rw[<-hb,gy,if_neg k1,if_pos q1,OG,h];simp only[hget]
    by_cases k2:a.kind=2
    ·have hres:gy M.bg a=((es.take i++es.drop (i+1)).map RE.be,0):=by
      rw[hall,if_pos k2];simp[List.map_take,List.map_drop]
     refine (MC base yb M.aC g0 cb pv dv es M.aO es.length i a w hde (hid rfl) hlen k2 hf hi hi hbase).mono ?_;exact aev
    ·by_cases k3:a.kind=3
     ·have hres:gy M.bg a=((es.set i (es[i].iU a.key)).map RE.be,0):=by
       rw[hall,if_neg k2,if_pos k3];simp[List.map_set,RE.iU,BE.iU,RE.be]
      refine (Gz base yb M.aC g0 cb pv dv es M.aO es.length i a w hde (hid rfl) hlen k3 hf hi hi afp afp).mono ?_;exact aey
     ·have k4:a.kind=4:=(by omega);have hp:a.oN=true:=by
       rw[hf] at hx;cases h:a.oN with
       | true=>rfl
       | false=>simp[h,k4] at hx;omega
      have hres:gy M.bg a=((es.set i (es[i].qa a)).map RE.be,0):=by
       rw[hall,if_neg k2,if_neg k3,hp];have hnm:es[i].name=a.name:=(by simpa using hin);simp[List.map_set,RE.qa,BE.qa,RE.be,hnm]
      refine (GA base yb M.aC g0 cb pv dv es M.aO es.length i a w hde (hid rfl) hlen k4 hf hi hi hp).mono ?_;exact aey
 ·have hsame:=TH M.bg a (by rw[Mx];exact hz);by_cases k4:a.kind=4/\0<=fP es a.name
  ·have hx:=hz;cases h:es.findIdx? (fun e=>e.name==a.name) with
   | none=>have:=BZ es _ h;omega
   | some i=>
    have hf:=yz es a.name i h;obtain ⟨hi,hin,_⟩:=List.findIdx?_eq_some_iff_getElem.1 h;obtain ⟨g0,hab⟩:∃ g0,ab=some ⟨g0,0,none⟩:=by
     exact adJ
    subst hab;subst hbv;have hv:qf es a=if a.oN=false then 1 else 0:=by
     rw[qf,if_neg afp,if_pos afp,if_neg afp];simp[k4.1]
    have hp:a.oN=false:=by
     cases h:a.oN with
     | false=>rfl
     | true=>rw[hv,h] at hz;simp at hz
    have h1:(gy M.bg a).2=1:=(by rw[Mx,hv,hp];rfl);refine (GG base yb M.aC g0 cb pv dv es M.aO es.length i a w hde (hid rfl) hlen k4.1 hf hi hi hp).mono ?_;rintro r w' ⟨rfl,r1⟩;exact ⟨by rw[h1],iB.same hD hsame r1⟩
  ·refine (Mw base yb M.aC bv pv dv es M.aO es.length a w hde (hid rfl) afp hna (hid hz) (hid (fun h=>?_))).mono ?_
   ·by_cases h2:0<=fP es a.name
    ·exact absurd ⟨h,h2⟩ k4
    ·omega
   ·rintro r w' ⟨rfl,r1⟩;exact ⟨by rw[Mx],iB.same hD hsame r1⟩
end Go.Proofs.YteknelimjfgmaaaGreatDoor
