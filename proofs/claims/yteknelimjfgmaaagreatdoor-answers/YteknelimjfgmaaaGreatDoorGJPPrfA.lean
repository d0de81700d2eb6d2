import Derived.Test.YteknelimjfgmaaaGreatDoorGJPFillA
namespace Go.Proofs.YteknelimjfgmaaaGreatDoor
set_option maxHeartbeats 1000000
open Proofs.Tryz Go.RowKit
set_option maxRecDepth 100000
theorem aga {p:Prop} (h:p:=by rw[hy];rfl):p:=h
theorem mH (a b:List PF):bZ (a++b)=bZ a++bZ b:=by simp[bZ]
theorem JH (l:List PF):∀ (k j:Nat) (hk:k<l.length),j<3->(bZ l)[k*3+j]?=(l[k]).bG[j]?:=by
 induction l with
 | nil=>intro k j hk;simp at hk
 | cons x l ih=>
  intro k j hk hj;have e:bZ (x::l)=x.bG++bZ l:=by simp[bZ]
  rw[e];cases k with
  | zero=>rw[gi,cC,cF (by show j<3;exact hj)];rfl
  | succ k=>
   rw[cM (by show 3<=(k+1)*3+j;omega),show (k+1)*3+j-x.bG.length=k*3+j from by show (k+1)*3+j-3=k*3+j;omega];exact ih k j (by simpa using hk) hj
theorem yK {w:World} {g o:Nat} {l:List PF} (h:w.rangeAt g o (bZ l)) (k:Nat) (hk:k<l.length) (j:Nat) (hj:j<3) (v:Value) (hv:(l[k]).bG[j]?=some v):w.cell? ⟨g,o+k*3+j,none⟩=some v:=by
 have:=h (k*3+j) v (by rw[JH l k j hk hj];exact hv);rw[<-fN] at this;exact this
theorem vk (g o n:Nat) (w:World) (hn:n<=8) (h:w.cell? ⟨g,o+24,none⟩=some (.int .i64 (n:Int))) :
  Calls prog 258 #[.pointer (some ⟨g,o,none⟩)] w fun e w'=>e = .returned (.slice (some ⟨g,o,none⟩) n 8)/\∃ m,w'=w.drewN m:=by
 have hnI:(n:Int)<=8:=by omega
 go_enter func258,ntmps258
 go_wp2
 go_quiet (fail)
 exact acY
theorem aa1 (x y:PF) (w:World):(binOp .eql 131 (.agg x.bG.toArray) (.agg y.bG.toArray)).run prog w = .ok (.bool (decide (x=y))) w:=by
 have hs:prog.stoodInHeld 131=false:=by kernel_rfl
 have hu:=underlying131;have hf:prog.underlying 131=some (.struct (prog.fieldsOf 131)):=by rw[Program.fieldsOf,hu]
 rw[run_eql_struct,run_equalIn_struct w 9999 _ _ _ hf hs,Program.fieldsOf,hu];have e9:∀ (a b:ByteArray) (w:World),(Op.equalIn 9999 9 (.string a) (.string b)).run prog w = .ok (a.toList==b.toList) w:=fun a b w=>run_equalIn_string w 9998 9 a b underlying9;have e2:∀ (a b:Int) (w:World),(Op.equalIn 9999 2 (.int .i64 a) (.int .i64 b)).run prog w = .ok (a==b) w:=fun a b w=>run_equalIn_int w 9998 2 .i64 .i64 a b underlying2;obtain ⟨xc,xt,xn⟩:=x;obtain ⟨yc,yt,yn⟩:=y;simp[Op.eqFields,go_sem,PF.bG,e9,e2];by_cases h1:xc=yc <;> by_cases h2:xt=yt <;> by_cases h3:xn=yn <;> simp[h1,h2,h3]
theorem Uf (x y:PF) (op:BinOp) (a b:Operand) (w:World):(eqGuard op 131 a b (.agg x.bG.toArray) (.agg y.bG.toArray)).run prog w = .ok () w:=
 run_eqGuard_agg w op _ a b _ _ afv
theorem MO (g o n c:Nat) (l:List PF) (x:PF) (w:World) (hn:Hid (l.length=n)) (EX:n<=8) (hc:n<=c) (h:w.rangeAt g o (bZ l)) :
  Calls prog 263 #[.slice (some ⟨g,o,none⟩) n c,.agg x.bG.toArray] w fun e w'=>∃ i:Int,e = .returned (.int .i64 i)/\((decide (0<=i))=decide (x∈l))/\-1<=i/\i<=8/\w.grownBy w' none:=by
 have HH:=hid h
 clear h
 have HGD:=hid (fun (y:PF) (op:BinOp) (a b:Operand) (w:World)=>Uf x y op a b w)
 have HEQ:=hid (fun (y:PF) (w:World)=>aa1 x y w)
 obtain ⟨W0,hW0⟩:=ar (w.alloc (.cells x.bG.toArray 131))
 have uH:Hid (w.grownBy W0 none):=by show _;rw[hW0];exact aE w _ none
 have HX:Hid (W0.rangeAt w.heap.size 0 x.bG):=by show _;rw[hW0];exact aW w x.bG.toArray _
 have HW0:=hid hW0
 clear hW0
 go_enter func263,ntmps263
 go_wp2
 rw[<-HW0.o]
 go_loopw [5,8] (fun _ i wr=>∃ k q:Nat,k<=n/\i = .int .i64 k/\wr=W0.drewN q/\Hid (∀ j (hj:j<l.length),j<k->x≠l[j])) (fun _ i _=>n-(intOf i).toNat)
 case atStart=>exact ⟨0,0,cE _,rfl,rfl,fun j _ hj=>by omega⟩
 case round=>
  obtain ⟨k,q,hk,rfl,rfl,hI⟩:=hrel;by_cases hlt:k<n
  ·have rF:(k:Int)<(n:Int):=(by omega);have hlt':k<l.length:=(by rw[hn.o];exact hlt);obtain ⟨y,hy⟩:=aq (l[k]);have hr:=HH.o;have y0:∀ m,(W0.drewN m).cell? ⟨g,o+k*3,none⟩=some (.string ⟨y.ax.toArray⟩):=fun m=>uH.o.cell (yK hr k hlt' 0 afp _ aga) aft;have y1:∀ m,(W0.drewN m).cell? ⟨g,o+k*3+1,none⟩=some (.int .i64 y.time):=fun m=>uH.o.cell (yK hr k hlt' 1 afp _ aga) aft;have y2:∀ m,(W0.drewN m).cell? ⟨g,o+k*3+2,none⟩=some (.int .i64 y.count):=fun m=>uH.o.cell (yK hr k hlt' 2 afp _ aga) aft;have x0:∀ m,(W0.drewN m).cell? ⟨w.heap.size,0,none⟩=some (.string ⟨x.ax.toArray⟩):=fun m=>HX.o 0 _ rfl;have x1:∀ m,(W0.drewN m).cell? ⟨w.heap.size,1,none⟩=some (.int .i64 x.time):=fun m=>HX.o 1 _ rfl;have x2:∀ m,(W0.drewN m).cell? ⟨w.heap.size,2,none⟩=some (.int .i64 x.count):=fun m=>HX.o 2 _ rfl;obtain ⟨d,hd⟩:=aq (decide (x=y));have qe:∀ w:World,(binOp .eql 131 (.agg #[.string ⟨x.ax.toArray⟩,.int .i64 x.time,.int .i64 x.count]) (.agg #[.string ⟨y.ax.toArray⟩,.int .i64 y.time,.int .i64 y.count])).run prog w = .ok (.bool d) w:=fun w=>by rw[<-hd];exact HEQ.o y w
   have qg:∀ (op:BinOp) (a b:Operand) (w:World),(eqGuard op 131 a b (.agg #[.string ⟨x.ax.toArray⟩,.int .i64 x.time,.int .i64 x.count]) (.agg #[.string ⟨y.ax.toArray⟩,.int .i64 y.time,.int .i64 y.count])).run prog w = .ok () w:=fun op a b w=>HGD.o y op a b w;have HY:=hid hy;have HD:=hid hd;clear hy hd hr;cases d with
   | true=>
    go_wp2_with fail;go_quiet (fail)
    go_wp2;go_ret;refine ⟨k,rfl,?_,by omega,by omega,aY (aY uH.o _) _⟩;have hxy:x=y:=of_decide_eq_true HD.o;have hm:x∈l:=(by rw[hxy,<-HY.o];exact cJ hlt');rw[cH hm,cH afp]
   | false=>
    go_wp2_with fail;go_quiet (fail)
    go_wp2;go_roundw
    case rel=>
     refine ⟨k+1,_,by omega,by go_num,rfl,fun j hj hjk=>?_⟩;by_cases e:j=k
     ·subst e;rw[HY.o];exact of_decide_eq_false HD.o
     ·exact hI.o j hj afp
    case measure=>simp[intOf];omega
  ·have hks:k=n:=(by omega);subst hks;go_wp2;go_ret;refine ⟨-1,rfl,?_,by omega,by omega,aY uH.o _⟩;have:x∉l:=fun e=>by
    obtain ⟨j,hj,e⟩:=List.getElem_of_mem e;exact hI.o j hj (by rw[<-hn.o];exact hj) e.symm
   rw[cA this];rfl
theorem Es (g o n c:Nat) (l:List PF) (x:PF) (w:World) (hn:Hid (l.length=n)) (EX:n<=8) (hc:n<=c) (h:w.rangeAt g o (bZ l)) :
  Calls prog 260 #[.slice (some ⟨g,o,none⟩) n c,.agg x.bG.toArray] w fun e w'=>e = .returned (.bool (decide (x∈l)))/\w.grownBy w' none:=by
 obtain ⟨W0,hW0⟩:=ar (w.alloc (.cells x.bG.toArray 131))
 have hG0:w.grownBy W0 none:=by rw[hW0];exact aE w _ none
 have hX:W0.rangeAt w.heap.size 0 x.bG:=by rw[hW0];exact aW w x.bG.toArray _
 have x0:W0.cell? ⟨w.heap.size,0,none⟩=some (.string ⟨x.ax.toArray⟩):=hX 0 _ rfl
 have x1:W0.cell? ⟨w.heap.size,1,none⟩=some (.int .i64 x.time):=hX 1 _ rfl
 have x2:W0.cell? ⟨w.heap.size,2,none⟩=some (.int .i64 x.count):=hX 2 _ rfl
 have HI:=hid (MO g o n c l x W0 hn EX hc ((CF.bN hG0 (fun _ _=>False)).range h (fun _ _ e=>e)))
 have HG:=hid hG0
 have HW0:=hid hW0
 clear hG0 hX hW0 h
 go_enter func260,ntmps260
 go_wp2_with (first|(rw[<-HW0.o];fail_if_success done) | fail)
 refine HI.o.mono ?_
 rintro e w2 ⟨i,rfl,(HI2:Hid _),h0,h1,g2⟩
 have HG2:=hid (aa HG.o g2)
 clear  g2 HI
 go_wp2
 go_ret
 exact ⟨by rw[<-HI2.o];rfl,HG2.o⟩
theorem Ug (g o:Nat) (l:List PF) (x:PF) (w:World) (h:w.rangeAt g o (bZ l)) (hc:w.cell? ⟨g,o+24,none⟩=some (.int .i64 l.length)) (EX:l.length<=8) :
  Calls prog 245 #[.pointer (some ⟨g,o,none⟩),.agg x.bG.toArray] w fun e w'=>e = .returned (.bool (decide (x∈l)))/\w.grownBy w' none:=by
 obtain ⟨W0,hW0⟩:=ar (w.alloc (.cells x.bG.toArray 131))
 have hG0:w.grownBy W0 none:=by rw[hW0];exact aE w _ none
 have hX:W0.rangeAt w.heap.size 0 x.bG:=by rw[hW0];exact aW w x.bG.toArray _
 have x0:W0.cell? ⟨w.heap.size,0,none⟩=some (.string ⟨x.ax.toArray⟩):=hX 0 _ rfl
 have x1:W0.cell? ⟨w.heap.size,1,none⟩=some (.int .i64 x.time):=hX 1 _ rfl
 have x2:W0.cell? ⟨w.heap.size,2,none⟩=some (.int .i64 x.count):=hX 2 _ rfl
 obtain ⟨n,hn⟩:=aq l.length
 have HR:Hid (∀ m,Calls prog 258 #[.pointer (some ⟨g,o,none⟩)] (W0.drewN m) fun e w'=>e = .returned (.slice (some ⟨g,o,none⟩) n 8)/\∃ m',w'=W0.drewN m'):=by
  intro m;refine (vk g o n (W0.drewN m) afp ((aY hG0 m).cell (by rw[<-hn];exact hc) aft)).mono ?_;rintro e w' ⟨e1,m',e2⟩;exact ⟨e1,m+m',by rw[e2,World.drewN_drewN]⟩
 have HI:Hid (∀ m,Calls prog 260 #[.slice (some ⟨g,o,none⟩) n 8,.agg x.bG.toArray] (W0.drewN m) fun e w'=>e = .returned (.bool (decide (x∈l)))/\W0.grownBy w' none):=by
  intro m;refine (Es g o n 8 l x (W0.drewN m) hn afp afp ((CF.bN (aY hG0 m) (fun _ _=>False)).range h (fun _ _ e=>e))).mono ?_;rintro e w' ⟨e1,e2⟩;exact ⟨e1,aa (aY (bh _ _) m) e2⟩
 have HX:Hid (∀ W,W0.grownBy W none->W.cell? ⟨w.heap.size,0,none⟩=some (.string ⟨x.ax.toArray⟩)/\W.cell? ⟨w.heap.size,1,none⟩=some (.int .i64 x.time)/\W.cell? ⟨w.heap.size,2,none⟩=some (.int .i64 x.count)):=
  fun W k=>⟨k.cell x0 aft,k.cell x1 aft,k.cell x2 aft⟩
 have HG:=hid hG0
 have HW0:=hid hW0
 clear hG0 hX hW0 h hc hn
 go_enter func245,ntmps245
 go_wp2_with fail
 rw[<-HW0.o]
 go_region_held3 (fun w'=>w'.cell? ⟨w.heap.size,0,none⟩=some (.string ⟨x.ax.toArray⟩)/\w'.cell? ⟨w.heap.size,1,none⟩=some (.int .i64 x.time)/\w'.cell? ⟨w.heap.size,2,none⟩=some (.int .i64 x.count)) (go_keep) (first|(go_at_call 258;refine (HR.o _).mono ?_;rintro e w' ⟨rfl,m,rfl⟩)|(go_at_call 260;refine (HI.o _).mono ?_;rintro e w2 ⟨rfl,g2⟩;obtain ⟨e0,e1,e2⟩:=HX.o w2 g2;have HG2:=hid (aa HG.o g2);clear g2))
 all_goals
  go_wp2
  go_ret
  exact ⟨rfl,HG2.o⟩
theorem afC {p:Prop} (h:p:=by injection e with _ e;exact e.symm):p:=h
theorem Qu (g o:Nat) (x:PF) (w:World) (hc:w.cell? ⟨g,o+24,none⟩=some (.int .i64 8)) :
  Calls prog 246 #[.pointer (some ⟨g,o,none⟩),.agg x.bG.toArray] w fun e w'=>e = .returned (.bool false)/\w.grownBy w' none:=by
 have G0:=aE w (.cells x.bG.toArray 131) none
 have c1:=G0.cell hc aft
 have HG:=hid G0
 clear G0
 go_enter func246,ntmps246
 go_wp2
 go_ret
 exact ⟨rfl,HG.o⟩
theorem acw {p:Prop} (h:p:=by
 exact World.cell?_setCell_same _ _ _ (by rw[World.cell?_setCell_other _ _ _ _ (fun e=>by injection e with _ e;omega),World.cell?_setCell_other _ _ _ _ (fun e=>by injection e with _ e;omega)];exact q2)):p:=h
theorem ac2 {p:Prop} (h:p:=by
 exact World.cell?_setCell_same _ _ _ (by rw[World.cell?_setCell_other _ _ _ _ (fun e=>by injection e with _ e;omega)];exact q1)):p:=h
theorem XZ (g o n:Nat) (l:List PF) (x:PF) (w:World) (hl:Live w g (o+25)) (h:w.rangeAt g o (bZ l)) (hc:w.cell? ⟨g,o+24,none⟩=some (.int .i64 n)) (hn:Hid (l.length=n)) (EX:n<8) :
  Calls prog 246 #[.pointer (some ⟨g,o,none⟩),.agg x.bG.toArray] w fun e w'=>e = .returned (.bool true)/\w'.rangeAt g o (bZ (l++[x]))/\w'.cell? ⟨g,o+24,none⟩=some (.int .i64 ((n:Int)+1))/\CF w w' (fun b y=>b=g/\o<=y/\y<o+25):=by
 obtain ⟨W0,hW0⟩:=ar (w.alloc (.cells x.bG.toArray 131))
 have hG0:w.grownBy W0 none:=by rw[hW0];exact aE w _ none
 have hX:W0.rangeAt w.heap.size 0 x.bG:=by rw[hW0];exact aW w x.bG.toArray _
 have x0:W0.cell? ⟨w.heap.size,0,none⟩=some (.string ⟨x.ax.toArray⟩):=hX 0 _ rfl
 have x1:W0.cell? ⟨w.heap.size,1,none⟩=some (.int .i64 x.time):=hX 1 _ rfl
 have x2:W0.cell? ⟨w.heap.size,2,none⟩=some (.int .i64 x.count):=hX 2 _ rfl
 have c1:=hG0.cell hc aft
 have hne:w.heap.size≠g:=fun e=>by have:=hl.lt;omega
 have hL:=hl.grown hG0
 have f0:=hL.frozen (o+n*3)
 have f1:=hL.frozen (o+n*3+1)
 have f2:=hL.frozen (o+n*3+2)
 obtain ⟨d0,q0⟩:=bw.1 (hL.some (o+n*3) afp)
 obtain ⟨d1,q1⟩:=bw.1 (hL.some (o+n*3+1) afp)
 obtain ⟨d2,q2⟩:=bw.1 (hL.some (o+n*3+2) afp)
 have hnI:(n:Int)<8:=by omega
 have aoq:((n:Int)==8)=false:=by rw[cg];omega
 have HG:=hid hG0
 have HW0:=hid hW0
 have HH:=hid h
 have HL:=hid hl
 clear hG0 hX hW0 h hc hL hl
 go_enter func246,ntmps246
 go_wp2_with (first|(rw[<-HW0.o];fail_if_success done) | fail)
 have k0:o+n*3≠o+24:=by omega
 have k1:o+n*3+1≠o+24:=by omega
 have k2:o+n*3+2≠o+24:=by omega
 obtain ⟨W1,hW1⟩:=ar (((W0.setCell ⟨g,o+n*3,none⟩ (.string ⟨x.ax.toArray⟩)).setCell ⟨g,o+n*3+1,none⟩ (.int .i64 x.time)).setCell ⟨g,o+n*3+2,none⟩ (.int .i64 x.count))
 have pI:∀ y,W1.cell? ⟨w.heap.size,y,none⟩=W0.cell? ⟨w.heap.size,y,none⟩:=fun y=>by
  rw[hW1,World.cell?_setCell_far _ _ _ _ (fun e=>hne e.symm),World.cell?_setCell_far _ _ _ _ (fun e=>hne e.symm),World.cell?_setCell_far _ _ _ _ (fun e=>hne e.symm)]
 have hoff:∀ y,y≠o+n*3->y≠o+n*3+1->y≠o+n*3+2->W1.cell? ⟨g,y,none⟩=W0.cell? ⟨g,y,none⟩:=fun y e0 e1 e2=>by
  rw[hW1,World.cell?_setCell_other _ _ _ _ (fun e=>e2 afC),World.cell?_setCell_other _ _ _ _ (fun e=>e1 afC),World.cell?_setCell_other _ _ _ _ (fun e=>e0 afC)]
 have HY:Hid (W1.cell? ⟨g,o+24,none⟩=some (.int .i64 n)/\W1.cell? ⟨w.heap.size,0,none⟩=some (.string ⟨x.ax.toArray⟩)/\W1.cell? ⟨w.heap.size,1,none⟩=some (.int .i64 x.time)/\W1.cell? ⟨w.heap.size,2,none⟩=some (.int .i64 x.count)):=
  ⟨by rw[hoff _ k0.symm k1.symm k2.symm];exact c1,by rw[pI];exact x0,by rw[pI];exact x1,by rw[pI];exact x2⟩
 have HCF:Hid (CF w W1 (fun b y=>b=g/\o<=y/\y<o+25)):=by
  show CF _ _ _;rw[hW1];exact (((CF.bN HG.o _).setCell g (o+n*3) _ (fun _=>⟨rfl,by omega,by omega⟩)).setCell g (o+n*3+1) _ (fun _=>⟨rfl,by omega,by omega⟩)).setCell g (o+n*3+2) _ (fun _=>⟨rfl,by omega,by omega⟩)
 have HRG:Hid (W1.rangeAt g o (bZ (l++[x]))):=by
  show World.rangeAt _ _ _ _;intro j u hu;rw[mH] at hu;have hpl:=iH l;rw[hn.o] at hpl;by_cases hj:j<n*3
  ·rw[cF afp] at hu;rw[hoff _ afp afp afp];exact HG.o.cell (HH.o j u hu) aft
  ·rw[cM afp,hpl] at hu;have hj3:j-n*3<3:=(by have:=(cq.1 hu).1;simp[bZ,PF.bG] at this;omega);have h0:W1.cell? ⟨g,o+n*3,none⟩=some (.string ⟨x.ax.toArray⟩):=by
    rw[hW1,World.cell?_setCell_other _ _ _ _ (fun e=>by injection e with _ e;omega),World.cell?_setCell_other _ _ _ _ (fun e=>by injection e with _ e;omega)];exact World.cell?_setCell_same _ _ _ q0
   have h1:W1.cell? ⟨g,o+n*3+1,none⟩=some (.int .i64 x.time):=by
    rw[hW1,World.cell?_setCell_other _ _ _ _ (fun e=>by injection e with _ e;omega)];exact ac2
   have h2:W1.cell? ⟨g,o+n*3+2,none⟩=some (.int .i64 x.count):=by
    rw[hW1];exact acw
   obtain ⟨i,hi⟩:=aq (j-n*3);rw[hi] at hu hj3;have hji:j=n*3+i:=(by omega);subst hji;match i,hj3 with
   | 0,_=>simp[bZ,PF.bG] at hu;rw[<-hu];exact h0
   | 1,_=>simp[bZ,PF.bG] at hu;rw[<-hu];exact h1
   | 2,_=>simp[bZ,PF.bG] at hu;rw[<-hu];exact h2
 have GZ:Hid (W1.frozen? ⟨g,o+24,none⟩=false):=(HL.o.cf HCF.o).frozen _
 have HW1:=hid hW1
 clear pI hoff hW1
 have y1:W1.drew.cell? ⟨g,o+24,none⟩=some (.int .i64 n):=HY.o.1
 have z0:W1.drew.frozen? ⟨g,o+24,none⟩=false:=GZ.o
 go_region
 all_goals
  rw[<-HW1.o]
  go_wp2
  go_ret
  refine ⟨rfl,?_,World.cell?_setCell_same _ _ _ y1,HCF.o.drew.setCell g (o+24) _ (fun _=>⟨rfl,by omega,by omega⟩)⟩
  intro j u hu
  have hj:=(cq.1 hu).1
  rw[iH,bj,hn.o,fX] at hj
  show (W1.setCell ⟨g,o+24,none⟩ (.int .i64 ((n:Int)+1))).cell? ⟨g,o+j,none⟩=some u
  rw[World.cell?_setCell_other _ _ _ _ (fun e=>by injection e with _ e;omega)]
  exact HRG.o j u hu
theorem JI (a b:Int):dM a b=dM b a:=by
 unfold dM;by_cases h:a<b
 ·rw[if_pos h,if_neg afp]
 ·by_cases h2:b<a
  ·rw[if_neg h,if_pos h2]
  ·have:a=b:=by omega
   subst this;rfl
theorem X4 (a b:Int) (w:World) (nq:Nat) (ha:In64 a) (hb:In64 b) :
  Calls prog 238 #[.int .i64 a,.int .i64 b] (w.drewN nq) fun e w''=>e = .returned (.int .i64 (dM a b))/\∃ m,w''=w.drewN m:=
 (Qw a b _ ha.1 ha.2 hb.1 hb.2).mono fun _ _ ⟨h1,h2⟩=>⟨h1,nq,h2⟩
theorem aed (a b:Int) (w:World) (nq:Nat) (ha:In64 a) (hb:In64 b) :
  Calls prog 223 #[.int .i64 a,.int .i64 b] (w.drewN nq) fun e w''=>e = .returned (.int .i64 (aX a b))/\∃ m,w''=w.drewN m:=
 (Bf a b _ ha.1 ha.2 hb.1 hb.2).mono fun _ _ ⟨h1,h2⟩=>⟨h1,nq,h2⟩
theorem vW (hb g:Nat) (now aC t:Int) (w:World) (c3:w.cell? ⟨hb,3,none⟩=some (.pointer (some ⟨g,0,none⟩))) (c4:w.cell? ⟨hb,4,none⟩=some (.int .i64 now)) (cs:w.cell? ⟨g,0,none⟩=some (.int .i64 aC)) (dm:In64 now) (ht:In64 t) :
  Calls prog 212 #[.pointer (some ⟨hb,0,none⟩),.int .i64 t] w fun e w'=>e = .returned (.bool (decide (aC<dM t now)))/\∃ m,w'=w.drewN m:=by
 have HA:Hid (∀ nq,Calls prog 238 #[.int .i64 now,.int .i64 t] (w.drewN nq) fun e w''=>e = .returned (.int .i64 (dM t now))/\∃ m,w''=w.drewN m):=fun nq=>by rw[JI];exact X4 now t w nq dm ht
 clear dm ht
 generalize dM t now=a at *
 go_enter func212,ntmps212
 go_wp2_with fail
 go_quiet (first|(go_at_call 238;exact HA.o _))
 exact acY
theorem Ad (hb g:Nat) (now aC t:Int) (w:World) (c3:w.cell? ⟨hb,3,none⟩=some (.pointer (some ⟨g,0,none⟩))) (c4:w.cell? ⟨hb,4,none⟩=some (.int .i64 now)) (cs:w.cell? ⟨g,0,none⟩=some (.int .i64 aC)) (dm:In64 now) (hsk:In64 aC) :
  Calls prog 186 #[.pointer (some ⟨hb,0,none⟩),.int .i64 t] w fun e w'=>e = .returned (.bool (decide (aX now aC<t)))/\∃ m,w'=w.drewN m:=by
 have HA:Hid (∀ nq,Calls prog 223 #[.int .i64 now,.int .i64 aC] (w.drewN nq) fun e w''=>e = .returned (.int .i64 (aX now aC))/\∃ m,w''=w.drewN m):=fun nq=>aed now aC w nq dm hsk
 clear dm hsk
 generalize aX now aC=a at *
 go_enter func186,ntmps186
 go_wp2_with fail
 go_quiet (first|(go_at_call 223;exact HA.o _))
 exact acY
def MP (hb:Nat):Value:=.func (.func 212) #[.pointer (some ⟨hb,0,none⟩)] #[]
def JJ (cb:Nat):Value:=.func (.func 259) #[] #[.pointer (some ⟨cb,0,none⟩)]
structure wP (w:World) (cb hb g:Nat) (now aC:Int):Prop where
 box:w.cell? ⟨cb,0,none⟩=some (MP hb)
 dF:w.cell? ⟨hb,3,none⟩=some (.pointer (some ⟨g,0,none⟩))
 now:w.cell? ⟨hb,4,none⟩=some (.int .i64 now)
 aC:w.cell? ⟨g,0,none⟩=some (.int .i64 aC)
theorem wP.grown {w w':World} {cb hb g:Nat} {now aC:Int} (h:wP w cb hb g now aC) (k:w.grownBy w' none):wP w' cb hb g now aC:=
 ⟨k.cell h.box aft,k.cell h.dF aft,k.cell h.now aft,k.cell h.aC aft⟩
def oU (aC now:Int) (y:PF):Bool:=decide (aC<dM y.time now)
theorem Fx (cb hb g:Nat) (now aC:Int) (y:PF) (w:World) (h:wP w cb hb g now aC) (dm:In64 now) (ht:In64 y.time) :
  Calls prog 259 #[.agg y.bG.toArray,.pointer (some ⟨cb,0,none⟩)] w fun e w'=>e = .returned (.bool (oU aC now y))/\w.grownBy w' none:=by
 obtain ⟨W0,hW0⟩:=ar (w.alloc (.cells y.bG.toArray 131))
 have hG0:w.grownBy W0 none:=by rw[hW0];exact aE w _ none
 have hX:W0.rangeAt w.heap.size 0 y.bG:=by rw[hW0];exact aW w y.bG.toArray _
 have x1:W0.cell? ⟨w.heap.size,1,none⟩=some (.int .i64 y.time):=hX 1 _ rfl
 have h0:=h.grown hG0
 have cb0:=h0.box
 unfold MP at cb0
 have HI:=hid (vW hb g now aC y.time W0 h0.dF h0.now h0.aC dm ht)
 have HG:=hid hG0
 have HW0:=hid hW0
 clear hG0 hX hW0 h h0 dm ht
 go_enter func259,ntmps259
 go_wp2_with (first|(rw[<-HW0.o];fail_if_success done) | fail)
 refine HI.o.mono ?_
 rintro e w2 ⟨rfl,m,rfl⟩
 have HG2:=hid (aY HG.o m)
 go_wp2
 go_ret
 exact ⟨rfl,HG2.o⟩
theorem JK (cb hb dg g o n c:Nat) (now aC:Int) (l:List PF) (w:World) (hf:wP w cb hb dg now aC) (dm:In64 now) (ht:∀ y∈l,In64 y.time) (hn:Hid (l.length=n)) (EX:n<=8) (hc:n<=c) (h:w.rangeAt g o (bZ l)) :
  Calls prog 262 #[.slice (some ⟨g,o,none⟩) n c,JJ cb] w fun e w'=>(e = .returned (.int .i64 (-1))/\(∀ j (hj:j<l.length),oU aC now l[j]=false)\/∃ k,∃ hk:k<l.length,e = .returned (.int .i64 (k:Int))/\oU aC now l[k]=true/\∀ j (hj:j<l.length),j<k->oU aC now l[j]=false)/\w.grownBy w' none:=by
 have HH:=hid h
 have HF:=hid hf
 have HT:=hid ht
 have MQ:=hid dm
 clear h hf ht dm
 unfold JJ
 go_enter func262,ntmps262
 go_wp2
 go_loopw [5,8] (fun _ i wr=>∃ k:Nat,k<=n/\i = .int .i64 k/\Hid (w.grownBy wr none)/\Hid (∀ j (hj:j<l.length),j<k->oU aC now l[j]=false)) (fun _ i _=>n-(intOf i).toNat)
 case atStart=>exact ⟨0,cE _,rfl,bh _ _,fun j _ hj=>by omega⟩
 case round=>
  obtain ⟨k,hk,rfl,hG,hI⟩:=hrel;by_cases hlt:k<n
  ·have rF:(k:Int)<(n:Int):=(by omega);have hlt':k<l.length:=(by rw[hn.o];exact hlt);obtain ⟨y,hy⟩:=aq (l[k]);have hr:=HH.o;have y0:wr.cell? ⟨g,o+k*3,none⟩=some (.string ⟨y.ax.toArray⟩):=hG.o.cell (yK hr k hlt' 0 afp _ aga) aft;have y1:wr.cell? ⟨g,o+k*3+1,none⟩=some (.int .i64 y.time):=hG.o.cell (yK hr k hlt' 1 afp _ aga) aft;have y2:wr.cell? ⟨g,o+k*3+2,none⟩=some (.int .i64 y.count):=hG.o.cell (yK hr k hlt' 2 afp _ aga) aft;have HD:=hid (Fx cb hb dg now aC y wr (HF.o.grown hG.o) MQ.o (HT.o y (by rw[<-hy];exact cJ hlt')));obtain ⟨d,hd⟩:=aq (oU aC now y);rw[hd] at HD;have HY:=hid hy;have HDD:=hid hd;clear hy hd hr;cases d with
   | true=>
    go_wp2_with (go_at_call 259;refine HD.o.mono ?_;rintro e w2 ⟨rfl,g2⟩;have HG2:=hid (aa hG.o g2);clear g2)
    go_wp2;go_ret;exact ⟨.inr ⟨k,hlt',rfl,by rw[HY.o];exact HDD.o,hI.o⟩,HG2.o⟩
   | false=>
    go_wp2_with (go_at_call 259;refine HD.o.mono ?_;rintro e w2 ⟨rfl,g2⟩;have HG2:=hid (aa hG.o g2);clear g2)
    go_wp2;go_roundw
    case rel=>
     refine ⟨k+1,by omega,by go_num,HG2.o,fun j hj hjk=>?_⟩;by_cases e:j=k
     ·subst e;rw[HY.o];exact HDD.o
     ·exact hI.o j hj afp
    case measure=>simp[intOf];omega
  ·have hks:k=n:=(by omega);subst hks;go_wp2;go_ret;exact ⟨.inl ⟨rfl,fun j hj=>hI.o j hj (by rw[<-hn.o];exact hj)⟩,hG.o⟩
variable {aC now:Int} {l:List PF}
def vo:Array Value:=#[.string ⟨#[]⟩,.int .i64 0,.int .i64 0]
theorem MS (m:Nat):∀ v∈(Builtin.zeroCells vo m).toList,v.oneCell'=true:=by
 intro v hv;simp[Builtin.zeroCells] at hv;obtain ⟨i,_,e⟩:=hv;have h3:i % 3<3:=Nat.mod_lt _ afp;have hs:vo.size=3:=rfl;rw[hs] at e;rw[<-e];generalize i % 3=j at *;match j,h3 with
 | 0,_=>rfl
 | 1,_=>rfl
 | 2,_=>rfl
theorem Uj (w:World) (g o m c:Nat) (ty:TypeId) (hm:0<m) (hl:Live w g (o+m*3)) :
  (Builtin.clear_ #[397] ty #[.slice (some ⟨g,o,none⟩) m c]).run Tryz.prog w = .ok (.tuple #[]) (w.setCells g o (Builtin.zeroCells vo m).toList):=by
 have hz:(Builtin.zeroCells vo m).toList.length=m*3:=by simp[Builtin.zeroCells];rfl
 have hst:=run_storeCells_cells (P:=Tryz.prog) g o (Builtin.zeroCells vo m).toList 0 w (fun j hj=>by rw[eR];exact hl.some _ (by rw[hz] at hj;omega)) (fun j hj=>by rw[eR];exact hl.frozen _) (MS m)
 simp only[eR] at hst
 obtain ⟨k,rfl⟩:∃ k,m=k+1:=⟨m-1,by omega⟩
 simp[Builtin.clear_,run_underlying Tryz.underlying397,Value.cells]
 show ((Sem.run Tryz.prog (storeCells ⟨g,o,none⟩ (Builtin.zeroCells vo (k+1)).toList) w).andThen _)=_
 rw[hst]
 rfl
def Cq (g o:Nat) (b y:Nat):Prop:=b=g/\o<=y/\y<o+24
theorem wP.cf {w w':World} {cb hb dg g o:Nat} (h:wP w cb hb dg now aC) (k:CF w w' (Cq g o)) (h1:cb≠g) (h2:hb≠g) (h3:0<o):wP w' cb hb dg now aC:=
 ⟨k.cell h.box (fun e=>h1 e.1),k.cell h.dF (fun e=>h2 e.1),k.cell h.now (fun e=>h2 e.1),k.cell h.aC (fun e=>by have:=e.2.1;omega)⟩
def Ae (aC now:Int) (y:PF):Bool:=!oU aC now y
def mI (aC now:Int) (l:List PF):List PF:=l.filter (Ae aC now)
theorem Cr {k:Nat} (h:k<l.length):mI aC now (l.take (k+1))=mI aC now (l.take k)++(if Ae aC now l[k]=true then [l[k]] else []):=by
 unfold mI;rw[ee h,List.filter_append];cases hb:Ae aC now l[k] <;> simp[hb]
theorem zC (h:∀ j (hj:j<l.length),oU aC now l[j]=false):mI aC now l=l:=by
 unfold mI;apply List.filter_eq_self.2;intro x hx;obtain ⟨j,hj,rfl⟩:=List.getElem_of_mem hx;simp[Ae,h j hj]
theorem JL {k:Nat} (hk:k<l.length) (h1:oU aC now l[k]=true) (h:∀ j (hj:j<l.length),j<k->oU aC now l[j]=false):mI aC now (l.take (k+1))=l.take k:=by
 rw[Cr hk,zC (l:=l.take k) (fun j hj=>?_)]
 ·simp[Ae,h1]
 ·rw[List.getElem_take];exact h j _ (by rw[cG] at hj;omega)
theorem JM (aC now:Int) (l:List PF):(mI aC now l).length<=l.length:=List.length_filter_le _ _
set_option maxHeartbeats 2000000
def Cs (w:World) (g o:Nat) (x:PF):World:=((w.setCell ⟨g,o,none⟩ (.string ⟨x.ax.toArray⟩)).setCell ⟨g,o+1,none⟩ (.int .i64 x.time)).setCell ⟨g,o+2,none⟩ (.int .i64 x.count)
theorem JN (w:World) (g o:Nat) (x:PF) (y:Nat) (e0:y≠o) (e1:y≠o+1) (e2:y≠o+2):(Cs w g o x).cell? ⟨g,y,none⟩=w.cell? ⟨g,y,none⟩:=by
 rw[Cs,World.cell?_setCell_other _ _ _ _ (fun e=>e2 afC),World.cell?_setCell_other _ _ _ _ (fun e=>e1 afC),World.cell?_setCell_other _ _ _ _ (fun e=>e0 afC)]
theorem MU (w:World) (g o i:Nat) (x:PF) (l:List PF) (hL:Live w g (o+i*3+3)) (hl:l.length=i) (h:w.rangeAt g o (bZ l)):(Cs w g (o+i*3) x).rangeAt g o (bZ (l++[x])):=by
 obtain ⟨d0,q0⟩:=bw.1 (hL.some (o+i*3) afp);obtain ⟨d1,q1⟩:=bw.1 (hL.some (o+i*3+1) afp);obtain ⟨d2,q2⟩:=bw.1 (hL.some (o+i*3+2) afp);intro j u hu;rw[mH] at hu;have hpl:=iH l;rw[hl] at hpl;by_cases hj:j<i*3
 ·rw[cF afp] at hu;rw[JN _ _ _ _ _ afp afp afp];exact h j u hu
 ·rw[cM afp,hpl] at hu;have hj3:j-i*3<3:=by have:=(cq.1 hu).1;simp[bZ,PF.bG] at this;omega
  have h0:(Cs w g (o+i*3) x).cell? ⟨g,o+i*3,none⟩=some (.string ⟨x.ax.toArray⟩):=by
   rw[Cs,World.cell?_setCell_other _ _ _ _ (fun e=>by injection e with _ e;omega),World.cell?_setCell_other _ _ _ _ (fun e=>by injection e with _ e;omega)];exact World.cell?_setCell_same _ _ _ q0
  have h1:(Cs w g (o+i*3) x).cell? ⟨g,o+i*3+1,none⟩=some (.int .i64 x.time):=by
   rw[Cs,World.cell?_setCell_other _ _ _ _ (fun e=>by injection e with _ e;omega)];exact ac2
  have h2:(Cs w g (o+i*3) x).cell? ⟨g,o+i*3+2,none⟩=some (.int .i64 x.count):=by
   rw[Cs];exact acw
  obtain ⟨k,hk⟩:=aq (j-i*3);rw[hk] at hu hj3;have hji:j=i*3+k:=by omega
  subst hji;match k,hj3 with
  | 0,_=>simp[bZ,PF.bG] at hu;rw[<-hu];exact h0
  | 1,_=>simp[bZ,PF.bG] at hu;rw[<-hu];exact h1
  | 2,_=>simp[bZ,PF.bG] at hu;rw[<-hu];exact h2
theorem JO (cb hb dg g o n c:Nat) (now aC:Int) (l:List PF) (w:World) (hf:wP w cb hb dg now aC) (h1:cb≠g) (h2:hb≠g) (h3:0<o) (dm:In64 now) (ht:∀ y∈l,In64 y.time) (hn:Hid (l.length=n)) (EX:n<=8) (hc:n<=c) (hc8:c<=8) (hl:Live w g (o+24)) (h:w.rangeAt g o (bZ l)) :
  Calls Tryz.prog 257 #[.slice (some ⟨g,o,none⟩) n c,JJ cb] w fun e w'=>e = .returned (.slice (some ⟨g,o,none⟩) (mI aC now l).length c)/\w'.rangeAt g o (bZ (mI aC now l))/\CF w w' (Cq g o):=by
 have HI:=hid (JK cb hb dg g o n c now aC l w hf dm ht hn EX hc h)
 have HH:=hid h
 have HF:=hid hf
 have HT:=hid ht
 have MQ:=hid dm
 have HL:=hid hl
 clear h hf ht dm hl
 unfold JJ at HI
 unfold JJ
 go_enter Tryz.func257,Tryz.ntmps257
 go_wp2_with fail
 refine HI.o.mono ?_
 clear HI
 rintro e w1 ⟨⟨rfl,hall⟩ | ⟨k,hk,rfl,hk1,hk2⟩,g1⟩
 ·have HA:=hid hall;have HG:=hid g1;clear hall g1;go_wp2;go_ret;refine ⟨?_,?_,CF.bN HG.o _⟩
  ·rw[zC HA.o,hn.o];rfl
  ·rw[zC HA.o];exact (CF.bN HG.o (fun _ _=>False)).range HH.o (fun _ _ e=>e)
 ·have hkn:k<n:=by rw[<-hn.o];exact hk
  have rF:((k:Int)==-1)=false:=by rw[cg];omega
  have HK:=hid (JL hk hk1 hk2);have HG:=hid g1;clear hk1 hk2 g1;go_wp2;go_loopw [5,6,7] (fun ai aj _ wr=>∃ i j:Nat,i<j/\j<=n/\ai = .int .i64 i/\aj = .int .i64 j/\Hid ((mI aC now (l.take j)).length=i/\wr.rangeAt g o (bZ (mI aC now (l.take j)))/\wr.rangeAt g (o+j*3) (bZ (l.drop j))/\CF w wr (Cq g o))) (fun _ aj _ _=>n-(intOf aj).toNat)
  case atStart=>
   refine ⟨k,k+1,by omega,by omega,rfl,by go_num,?_,?_,?_,CF.bN HG.o _⟩
   ·rw[HK.o,cG];omega
   ·rw[HK.o];have hr:=(CF.bN HG.o (fun _ _=>False)).range HH.o (fun _ _ e=>e);rw[<-ey k l,mH] at hr;exact wW hr
   ·have hr:=(CF.bN HG.o (fun _ _=>False)).range HH.o (fun _ _ e=>e);rw[<-ey (k+1) l,mH] at hr;have hr2:=qU hr;rw[iH,cG,fY afp] at hr2;exact hr2
  case round=>
   obtain ⟨i,j,hij,hjn,rfl,rfl,hI⟩:=hrel;by_cases hlt:j<n
   ·have XE:(j:Int)<(n:Int):=(by omega);have hlt':j<l.length:=(by rw[hn.o];exact hlt);obtain ⟨y,hy⟩:=aq (l[j]);have hdr:=hI.o.2.2.1;have hdj:(l.drop j)[0]?=some y:=(by rw[List.getElem?_drop,eR,cr hlt',hy]);have hdl:0<(l.drop j).length:=(by rw[cy];omega);have hd0:(l.drop j)[0]=y:=(by rw[cr hdl] at hdj;injection hdj);have y0:wr.cell? ⟨g,o+j*3,none⟩=some (.string ⟨y.ax.toArray⟩):=yK hdr 0 hdl 0 afp _ (by rw[hd0];rfl);have y1:wr.cell? ⟨g,o+j*3+1,none⟩=some (.int .i64 y.time):=yK hdr 0 hdl 1 afp _ (by rw[hd0];rfl);have y2:wr.cell? ⟨g,o+j*3+2,none⟩=some (.int .i64 y.count):=yK hdr 0 hdl 2 afp _ (by rw[hd0];rfl);obtain ⟨Wb,hWb⟩:=ar (wr.alloc (.cells #[.string ⟨y.ax.toArray⟩,.int .i64 y.time,.int .i64 y.count] 131));have hGb:wr.grownBy Wb none:=(by rw[hWb];exact aE wr _ none);have hXb:Wb.rangeAt wr.heap.size 0 y.bG:=(by rw[hWb];exact aW wr y.bG.toArray _);have HD:=hid (Fx cb hb dg now aC y Wb ((HF.o.cf hI.o.2.2.2 h1 h2 h3).grown hGb) MQ.o (HT.o y (by rw[<-hy];exact cJ hlt')))
    have HX:Hid (∀ W,Wb.grownBy W none->W.cell? ⟨wr.heap.size,0,none⟩=some (.string ⟨y.ax.toArray⟩)/\W.cell? ⟨wr.heap.size,1,none⟩=some (.int .i64 y.time)/\W.cell? ⟨wr.heap.size,2,none⟩=some (.int .i64 y.count)):=
     fun W q=>⟨q.cell (hXb 0 _ rfl) aft,q.cell (hXb 1 _ rfl) aft,q.cell (hXb 2 _ rfl) aft⟩
    obtain ⟨d,hd⟩:=aq (oU aC now y);rw[hd] at HD;have hkt:=Cr (aC:=aC) (now:=now) hlt';rw[hy] at hkt;have hne:(if Ae aC now y=true then [y] else [])=(if d=false then [y] else []):=(by unfold Ae;rw[hd];cases d <;> rfl);rw[hne] at hkt;have HKT:=hid hkt;have JP:=hid (HL.o.cf hI.o.2.2.2);have HGb:=hid hGb;have HWb:=hid hWb;have hi8:i<8:=(by omega);have hdrop:l.drop j=y::l.drop (j+1):=(by rw[<-hy];exact List.drop_eq_getElem_cons hlt');have HDR:Hid (∀ W:World,W.rangeAt g (o+j*3) (bZ (l.drop j))->W.rangeAt g (o+(j+1)*3) (bZ (l.drop (j+1)))):=by
     intro W hW;rw[hdrop] at hW;have e:bZ (y::l.drop (j+1))=y.bG++bZ (l.drop (j+1)):=(by simp[bZ]);rw[e] at hW;have:=qU hW;rw[show o+(j+1)*3=o+j*3+y.bG.length from by show _=_+3;omega];exact this
    clear hy hdr hdj hdl hd0 hGb hXb hWb hd hkt hne hdrop;cases d with
    | true=>
     go_wp2_with (go_at_call 259;rw[<-HWb.o];refine HD.o.mono ?_;rintro e w2 ⟨rfl,g2⟩;have HG2:=hid (aa HGb.o g2);clear g2)
     go_wp2;go_roundw
     case rel=>
      refine ⟨i,j+1,by omega,by omega,rfl,by go_num,?_⟩;have hkt:=HKT.o;rw[if_neg afq,fg] at hkt;obtain ⟨a1,a2,a3,a4⟩:=hI.o;have hcf:CF wr w2 (fun _ _=>False):=CF.bN HG2.o _;rw[hkt];exact ⟨a1,hcf.range a2 (fun _ _ e=>e),HDR.o w2 (hcf.range a3 (fun _ _ e=>e)),a4.grown HG2.o⟩
     case measure=>simp[intOf];omega
    | false=>
     go_wp2_with (go_at_call 259;rw[<-HWb.o];refine HD.o.mono ?_;rintro e w2 ⟨rfl,g2⟩;obtain ⟨e0,e1,e2⟩:=HX.o w2 g2;have HG2:=hid (aa HGb.o g2);clear g2;have L2:=JP.o.grown HG2.o;have f0:=L2.frozen (o+i*3);have f1:=L2.frozen (o+i*3+1);have f2:=L2.frozen (o+i*3+2);obtain ⟨d0,q0⟩:=bw.1 (L2.some (o+i*3) afp);obtain ⟨d1,q1⟩:=bw.1 (L2.some (o+i*3+1) afp);obtain ⟨d2,q2⟩:=bw.1 (L2.some (o+i*3+2) afp);have HL2:=hid L2;clear L2)
     go_wp2;go_roundw
     case rel=>
      refine ⟨i+1,j+1,by omega,by omega,by go_num,by go_num,?_⟩;have hkt:=HKT.o;rw[if_pos trivial] at hkt;obtain ⟨a1,a2,a3,a4⟩:=hI.o;have hcf:CF wr w2 (fun _ _=>False):=CF.bN HG2.o _;rw[hkt];have r1:=MU w2 g o i y _ (HL2.o.mono afp) a1 (hcf.range a2 (fun _ _ e=>e));have r2:(Cs w2 g (o+i*3) y).rangeAt g (o+j*3) (bZ (l.drop j)):=by
       intro q u hu;rw[JN _ _ _ _ _ afp afp afp];exact (hcf.range a3 (fun _ _ e=>e)) q u hu
      have r3:CF w (Cs w2 g (o+i*3) y) (Cq g o):=(((a4.grown HG2.o).setCell g (o+i*3) _ (fun _=>⟨rfl,by omega,by omega⟩)).setCell g (o+i*3+1) _ (fun _=>⟨rfl,by omega,by omega⟩)).setCell g (o+i*3+2) _ (fun _=>⟨rfl,by omega,by omega⟩);exact ⟨by rw[bj,a1];rfl,r1,HDR.o _ r2,r3⟩
     case measure=>simp[intOf];omega
   ·have ah2:j=n:=(by omega);subst ah2
    have hcl:∀ ty,(Builtin.clear_ #[397] ty #[.slice (some ⟨g,o+i*3,none⟩) (j-i) (c-i)]).run Tryz.prog wr = .ok (.tuple #[]) (wr.setCells g (o+i*3) (Builtin.zeroCells vo (j-i)).toList):=
     fun ty=>Uj wr g (o+i*3) (j-i) (c-i) ty afp ((HL.o.cf hI.o.2.2.2).mono afp)
    have hci:c≠i:=(by omega);have aot:(i:Int)<=(c:Int):=(by omega);go_wp2;go_ret;have htk:l.take j=l:=cV afM;have hz:(Builtin.zeroCells vo (j-i)).toList.length=(j-i)*3:=(by simp[Builtin.zeroCells];rfl);obtain ⟨a1,a2,_,a4⟩:=hI.o;rw[htk] at a1 a2;refine ⟨by rw[a1];rfl,?_,CF.setCells g _ _ wr a4 (fun q hq _=>⟨rfl,by omega,by rw[hz] at hq;omega⟩)⟩;intro q u hu;have hq:=(cq.1 hu).1;rw[iH,a1] at hq;rw[World.cell?_setCells_out g _ _ wr _ (fun _ _=>Or.inl (by show o+q<_;omega))];exact a2 q u hu
theorem JQ (hb dg g o n:Nat) (now aC:Int) (l:List PF) (w:World) (c3:w.cell? ⟨hb,3,none⟩=some (.pointer (some ⟨dg,0,none⟩))) (c4:w.cell? ⟨hb,4,none⟩=some (.int .i64 now)) (cs:w.cell? ⟨dg,0,none⟩=some (.int .i64 aC)) (h2:hb≠g) (h3:0<o) (dm:In64 now) (ht:∀ y∈l,In64 y.time) (hn:Hid (l.length=n)) (EX:n<=8) (hl:Live w g (o+25)) (h:w.rangeAt g o (bZ l)) (hc:w.cell? ⟨g,o+24,none⟩=some (.int .i64 n)) :
  Calls prog 244 #[.pointer (some ⟨g,o,none⟩),MP hb] w fun e w'=>e = .returned (.tuple #[])/\w'.rangeAt g o (bZ (mI aC now l))/\w'.cell? ⟨g,o+24,none⟩=some (.int .i64 (mI aC now l).length)/\CF w w' (fun b y=>b=g/\o<=y/\y<o+25):=by
 have hmf:∀ (fn:Fn) (first cap:Array Value) (w:World),(Instr.makeFunc fn first cap).run prog w = .ok (.func fn first cap) w:=fun _ _ _ _=>rfl
 obtain ⟨W0,hW0⟩:=ar (w.alloc (.cells #[MP hb] 281))
 have hG0:w.grownBy W0 none:=by rw[hW0];exact aE w _ none
 have hb0:W0.cell? ⟨w.heap.size,0,none⟩=some (MP hb):=by rw[hW0];exact aW w #[MP hb] _ 0 _ rfl
 have hne:w.heap.size≠g:=fun e=>by have:=hl.lt;omega
 have HR:=hid (vk g o n W0 EX (hG0.cell hc aft))
 have aee:∀ m,wP (W0.drewN m) w.heap.size hb dg now aC:=fun m=>⟨hb0,(aY hG0 m).cell c3 aft,(aY hG0 m).cell c4 aft,(aY hG0 m).cell cs aft⟩
 have HD:Hid (∀ m,Calls prog 257 #[.slice (some ⟨g,o,none⟩) n 8,.func (.func 259) #[] #[.pointer (some ⟨w.heap.size,0,none⟩)]] (W0.drewN m) fun e w'=>e = .returned (.slice (some ⟨g,o,none⟩) (mI aC now l).length 8)/\w'.rangeAt g o (bZ (mI aC now l))/\CF w w' (Cq g o)):=by
  intro m;refine (JO w.heap.size hb dg g o n 8 now aC l (W0.drewN m) (aee m) hne h2 h3 dm ht hn EX EX afp ((hl.grown (aY hG0 m)).mono afp) ((CF.bN (aY hG0 m) (fun _ _=>False)).range h (fun _ _ e=>e))).mono ?_;rintro e w' ⟨e1,e2,e3⟩;exact ⟨e1,e2,e3.before (aY hG0 m)⟩
 have HL:=hid hl
 have HW0:=hid hW0
 have HKN:=hid (JM aC now l)
 obtain ⟨K,hK⟩:=aq (mI aC now l)
 rw[hK] at HD HKN
 rw[hK]
 have WS:K.length<=8:=by have:=HKN.o;have:=hn.o;omega
 have HC:=hid hc
 clear hmf hG0 hb0 aee hW0 hl h hc c3 c4 cs hK dm ht
 have hmf:∀ (fn:Fn) (first cap:Array Value) (w:World),(Instr.makeFunc fn first cap).run prog w = .ok (.func fn first cap) w:=fun _ _ _ _=>rfl
 unfold MP at *
 go_enter func244,ntmps244
 go_wp2_with (first
  | (rw[<-HW0.o];fail_if_success done)
  | (go_at_call 258;refine HR.o.mono ?_;clear HR;rintro e w1 ⟨rfl,m,rfl⟩)
  | (go_at_call 257;refine (HD.o _).mono ?_;rintro e w2 ⟨rfl,r2,f2⟩;have HRR:=hid r2;have HFF:=hid f2;have q0:=f2.cell HC.o (fun e=>by have:=e.2.2;omega);have z0:=(HL.o.cf f2).frozen (o+24);clear r2 f2))
 go_wp2
 go_end0
 refine ⟨rfl,?_,World.cell?_setCell_same _ _ _ q0,(HFF.o.mono (fun b y _ e=>⟨e.1,e.2.1,by have:=e.2.2;omega⟩)).setCell g (o+24) _ (fun _=>⟨rfl,by omega,by omega⟩)⟩
 intro j u hu
 have hj:=(cq.1 hu).1
 rw[iH] at hj
 rw[World.cell?_setCell_other _ _ _ _ (fun e=>by injection e with _ e;omega)]
 exact HRR.o j u hu
theorem MV (aC now:Int) (l:List PF):mI aC now l=ig aC now l:=by
 unfold mI ig;congr 1;funext y;unfold Ae oU;by_cases h:aC<dM y.time now
 ·rw[cH h,cA afp];rfl
 ·rw[cA h,cH afp];rfl
theorem Ct (hb dg:Nat) (now aC:Int) (x:PF) (w:World) (c3:w.cell? ⟨hb,3,none⟩=some (.pointer (some ⟨dg,0,none⟩))) (c4:w.cell? ⟨hb,4,none⟩=some (.int .i64 now)) (cs:w.cell? ⟨dg,0,none⟩=some (.int .i64 aC)) (dm:In64 now) (ht:In64 x.time) (pI:aC<dM x.time now) :
  Calls prog 222 #[.pointer (some ⟨hb,0,none⟩),.agg x.bG.toArray] w fun e w'=>e = .returned (.int .i64 37)/\w.grownBy w' none:=by
 obtain ⟨W0,hW0⟩:=ar (w.alloc (.cells x.bG.toArray 131))
 have hG0:w.grownBy W0 none:=by rw[hW0];exact aE w _ none
 have hX:W0.rangeAt w.heap.size 0 x.bG:=by rw[hW0];exact aW w x.bG.toArray _
 have x1:W0.cell? ⟨w.heap.size,1,none⟩=some (.int .i64 x.time):=hX 1 _ rfl
 have hI:=vW hb dg now aC x.time W0 (hG0.cell c3 aft) (hG0.cell c4 aft) (hG0.cell cs aft) dm ht
 rw[cH pI] at hI
 have HI:=hid hI
 have HG:=hid hG0
 have HW0:=hid hW0
 clear hG0 hX hW0 c3 c4 cs dm ht pI hI
 go_enter func222,ntmps222
 go_wp2_with (first
  | (rw[<-HW0.o];fail_if_success done)
  | (go_at_call 212;refine HI.o.mono ?_;clear HI;rintro e w1 ⟨rfl,m,rfl⟩))
 go_wp2
 go_ret
 exact ⟨rfl,aY HG.o m⟩
theorem AO (hb dg:Nat) (now aC:Int) (l:List PF) (x:PF) (w:World) (c3:w.cell? ⟨hb,3,none⟩=some (.pointer (some ⟨dg,0,none⟩))) (c4:w.cell? ⟨hb,4,none⟩=some (.int .i64 now)) (cs:w.cell? ⟨dg,0,none⟩=some (.int .i64 aC)) (h2:hb≠dg) (dm:In64 now) (hx:In64 x.time) (ht:∀ y∈l,In64 y.time) (EX:l.length<=8) (hl:Live w dg 188) (h:w.rangeAt dg 163 (bZ l)) (hc:w.cell? ⟨dg,187,none⟩=some (.int .i64 l.length)) (hnf:¬ aC<dM x.time now) :
  Calls prog 222 #[.pointer (some ⟨hb,0,none⟩),.agg x.bG.toArray] w fun e w'=>e = .returned (.int .i64 (bL aC now l x))/\w'.rangeAt dg 163 (bZ (bM aC now l x))/\w'.cell? ⟨dg,187,none⟩=some (.int .i64 (bM aC now l x).length)/\CF w w' (fun b y=>b=dg/\163<=y/\y<188):=by
 obtain ⟨W0,hW0⟩:=ar (w.alloc (.cells x.bG.toArray 131))
 have hG0:w.grownBy W0 none:=by rw[hW0];exact aE w _ none
 have hX:W0.rangeAt w.heap.size 0 x.bG:=by rw[hW0];exact aW w x.bG.toArray _
 have x1:W0.cell? ⟨w.heap.size,1,none⟩=some (.int .i64 x.time):=hX 1 _ rfl
 have hne:w.heap.size≠dg:=fun e=>by have:=hl.lt;omega
 have hI:=vW hb dg now aC x.time W0 (hG0.cell c3 aft) (hG0.cell c4 aft) (hG0.cell cs aft) dm hx
 rw[cA hnf] at hI
 have HI:=hid hI
 obtain ⟨K,hK⟩:=aq (ig aC now l)
 have hK2:mI aC now l=K:=by rw[MV,hK]
 have HP:Hid (∀ m,Calls prog 244 #[.pointer (some ⟨dg,163,none⟩),.func (.func 212) #[.pointer (some ⟨hb,0,none⟩)] #[]] (W0.drewN m) fun e w'=>e = .returned (.tuple #[])/\w'.rangeAt dg 163 (bZ K)/\w'.cell? ⟨dg,187,none⟩=some (.int .i64 K.length)/\CF W0 w' (fun b y=>b=dg/\163<=y/\y<188)):=by
  intro m;have gm:=aY hG0 m;have:=JQ hb dg dg 163 l.length now aC l (W0.drewN m) (gm.cell c3 aft) (gm.cell c4 aft) (gm.cell cs aft) h2 afp dm ht (hid rfl) EX (hl.grown gm) ((CF.bN gm (fun _ _=>False)).range h (fun _ _ e=>e)) (gm.cell hc aft);rw[hK2] at this;refine this.mono ?_;rintro e w' ⟨e1,e2,e3,e4⟩;exact ⟨e1,e2,e3,e4.mh⟩
 have WS:K.length<=8:=by have:=JM aC now l;rw[hK2] at this;omega
 have HX:Hid (∀ W,CF W0 W (fun b y=>b=dg/\163<=y/\y<188)->W.cell? ⟨w.heap.size,0,none⟩=some (.string ⟨x.ax.toArray⟩)/\W.cell? ⟨w.heap.size,1,none⟩=some (.int .i64 x.time)/\W.cell? ⟨w.heap.size,2,none⟩=some (.int .i64 x.count)):=
  fun W q=>⟨q.cell (hX 0 _ rfl) (fun e=>hne e.1),q.cell (hX 1 _ rfl) (fun e=>hne e.1),q.cell (hX 2 _ rfl) (fun e=>hne e.1)⟩
 have hcode:bL aC now l x=if x∈K then 34 else if 8<=K.length then 60 else 0:=by rw[bL,hK]
 have hnext:bM aC now l x=if bL aC now l x=0 then K++[x] else K:=by rw[bM,hK]
 have pK:=hG0.cell c3 aft
 have HG:=hid hG0
 have HW0:=hid hW0
 have HL:=hid (hl.grown hG0)
 have HM:=hid (And.intro hcode hnext)
 clear hG0 hX hW0 c3 c4 cs dm ht hx hnf hI hK hK2 hl h hc hcode hnext
 go_enter func222,ntmps222
 go_wp2_with (first
  | (rw[<-HW0.o];fail_if_success done)
  | (go_at_call 212;refine HI.o.mono ?_;clear HI;rintro e w1 ⟨rfl,m,rfl⟩)
  | (go_at_call 244;refine (HP.o _).mono ?_;clear HP;rintro e w2 ⟨rfl,r2,k2,f2⟩;obtain ⟨e0,e1,e2⟩:=HX.o w2 f2;have HR2:=hid r2;have ZH:=hid k2;have mg:=hid f2;have HH:=hid (Ug dg 163 K x w2 r2 k2 WS);clear r2 k2 f2))
 by_cases hm:x∈K
 ·have OO:=HH;rw[cH hm] at OO;have MX:=hid hm;clear HH hm;refine OO.o.mono ?_;rintro e w3 ⟨rfl,(mf:Hid _)⟩;clear  OO;go_wp2;go_ret;have hcode:bL aC now l x=34:=by rw[HM.o.1,if_pos MX.o]
  have hnext:bM aC now l x=K:=by rw[HM.o.2,hcode,if_neg afq]
  rw[hnext,hcode];exact ⟨rfl,(CF.bN mf.o (fun _ _=>False)).range HR2.o (fun _ _ e=>e),mf.o.cell ZH.o aft,(mg.o.before HG.o).grown mf.o⟩
 ·have OO:=HH;rw[cA hm] at OO;have MX:=hid hm;clear HH hm;refine OO.o.mono ?_;rintro e w3 ⟨rfl,g3⟩;have b0:=g3.cell e0 aft;have b1:=g3.cell e1 aft;have b2:=g3.cell e2 aft;have mf:=hid g3;clear g3 OO;by_cases h8:K.length=8
  ·have k8:=ZH.o;rw[h8] at k8;have HA:=hid (Qu dg 163 x w3 (mf.o.cell k8 aft));have H8:=hid h8;clear k8 h8;go_wp2_with (go_at_call 246;refine HA.o.mono ?_;rintro e w4 ⟨rfl,g4⟩;have xu:=hid (aa mf.o g4);clear g4)
   go_wp2;go_ret;have hcode:bL aC now l x=60:=(by rw[HM.o.1,if_neg MX.o,if_pos (by have:=H8.o;omega)]);have hnext:bM aC now l x=K:=(by rw[HM.o.2,hcode,if_neg afq]);rw[hnext,hcode];exact ⟨rfl,(CF.bN xu.o (fun _ _=>False)).range HR2.o (fun _ _ e=>e),xu.o.cell ZH.o aft,(mg.o.before HG.o).grown xu.o⟩
  ·have HA:=hid (XZ dg 163 K.length K x w3 ((HL.o.cf mg.o).grown mf.o) ((CF.bN mf.o (fun _ _=>False)).range HR2.o (fun _ _ e=>e)) (mf.o.cell ZH.o aft) (hid rfl) afp);have H8:=hid h8;clear h8;go_wp2_with (go_at_call 246;refine HA.o.mono ?_;rintro e w4 ⟨rfl,r4,k4,f4⟩;have HR4:=hid r4;have HK4:=hid k4;have HF4:=hid f4;clear r4 k4 f4)
   go_wp2;go_ret;have hcode:bL aC now l x=0:=(by rw[HM.o.1,if_neg MX.o,if_neg (by have:=H8.o;omega)]);have hnext:bM aC now l x=K++[x]:=(by rw[HM.o.2,hcode,if_pos rfl]);rw[hnext,hcode];refine ⟨rfl,HR4.o,?_,((mg.o.before HG.o).grown mf.o).trans HF4.o (fun _ _ _ e=>e)⟩;rw[bj,fX];exact HK4.o
end Go.Proofs.YteknelimjfgmaaaGreatDoor
