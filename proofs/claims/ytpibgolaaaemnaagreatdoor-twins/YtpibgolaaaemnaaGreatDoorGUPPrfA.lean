/-
  
  
  
  
  
-/
import Derived.Test.YtpibgolaaaemnaaGreatDoorGUPFillA
import Derived.Laws.StructEq
import Derived.Test.YtpibgolaaaemnaaGreatDoorGUBoxA
import Derived.Lib.SliceRun
namespace Go.Proofs.YtpibgolaaaemnaaGreatDoor
open Go.RowKit
set_option maxRecDepth 100000
theorem kE (a b:List PF):bH (a++b)=bH a++bH b:=by simp[bH]
theorem Hf (l:List PF):∀ (k j:Nat) (hk:k<l.length),j<3→(bH l)[k*3+j]?=(l[k]).aR[j]?:=by
 induction l with
 | nil=>intro k j hk;simp at hk
 | cons x l ih=>
  intro k j hk hj
  have e:bH (x::l)=x.aR++bH l:=by simp[bH]
  rw[e]
  cases k with
  | zero=>rw[Nat.zero_mul,Nat.zero_add,List.getElem?_append_left (by show j<3;exact hj)];rfl
  | succ k=>
   rw[List.getElem?_append_right (by show 3≤(k+1)*3+j;omega),show (k+1)*3+j-x.aR.length=k*3+j from by show (k+1)*3+j-3=k*3+j;omega]
   exact ih k j (by simpa using hk) hj
theorem wJ {w:World} {g o:Nat} {l:List PF} (h:w.rangeAt g o (bH l)) (k:Nat) (hk:k<l.length) (j:Nat) (hj:j<3) (v:Value) (hv:(l[k]).aR[j]?=some v):w.cell? ⟨g,o+k*3+j,none⟩=some v:=by
 have:=h (k*3+j) v (by rw[Hf l k j hk hj];exact hv)
 rw[←Nat.add_assoc] at this
 exact this
set_option maxHeartbeats 400000 in
theorem sM (g o n:Nat) (w:World) (hn:n≤8) (h:w.cell? ⟨g,o+24,none⟩=some (.int .i64 (n:Int))) :
  Calls Tryz.prog 190 #[.pointer (some ⟨g,o,none⟩)] w fun e w'=>e = .returned (.slice (some ⟨g,o,none⟩) n 8)∧∃ m,w'=w.drewN m:=by
 have hnI:(n:Int)≤8:=by omega
 go_enter Tryz.func190,Tryz.ntmps190
 go_wp2
 go_quiet (fail)
 go_wp2
 go_ret
 exact ⟨rfl,_,rfl⟩
theorem YL (x y:PF) (w:World):(binOp .eql 92 (.agg x.aR.toArray) (.agg y.aR.toArray)).run Tryz.prog w = .ok (.bool (decide (x=y))) w:=by
 have hs:Tryz.prog.stoodInHeld 92=false:=by kernel_rfl
 have hu:=Tryz.underlying92
 have hf:Tryz.prog.underlying 92=some (.struct (Tryz.prog.fieldsOf 92)):=by rw[Program.fieldsOf,hu]
 rw[run_eql_struct,run_equalIn_struct w 9999 _ _ _ hf hs,Program.fieldsOf,hu]
 have e9:∀ (a b:ByteArray) (w:World),(Op.equalIn 9999 9 (.string a) (.string b)).run Tryz.prog w = .ok (a.toList==b.toList) w:=fun a b w=>run_equalIn_string w 9998 9 a b Tryz.underlying9
 have e2:∀ (a b:Int) (w:World),(Op.equalIn 9999 2 (.int .i64 a) (.int .i64 b)).run Tryz.prog w = .ok (a==b) w:=fun a b w=>run_equalIn_int w 9998 2 .i64 .i64 a b Tryz.underlying2
 obtain ⟨xc,xt,xn⟩:=x
 obtain ⟨yc,yt,yn⟩:=y
 simp[Op.eqFields,go_sem,PF.aR,e9,e2]
 by_cases h1:xc=yc <;> by_cases h2:xt=yt <;> by_cases h3:xn=yn <;> simp[h1,h2,h3]
theorem Rq (x y:PF) (op:BinOp) (a b:Operand) (w:World):(eqGuard op 92 a b (.agg x.aR.toArray) (.agg y.aR.toArray)).run Tryz.prog w = .ok () w:=
 run_eqGuard_agg w op _ a b _ _ (by kernel_rfl)
set_option maxHeartbeats 1000000 in
theorem Kz (g o n c:Nat) (l:List PF) (x:PF) (w:World) (hn:Hid (l.length=n)) (Dq:n≤8) (hc:n≤c) (h:w.rangeAt g o (bH l)) :
  Calls Tryz.prog 200 #[.slice (some ⟨g,o,none⟩) n c,.agg x.aR.toArray] w fun e w'=>∃ i:Int,e = .returned (.int .i64 i)∧((decide (0≤i))=decide (x∈l))∧-1≤i∧i≤8∧w.grownBy w' none:=by
 have HH:=hid h
 clear h
 have HGD:=hid (fun (y:PF) (op:BinOp) (a b:Operand) (w:World)=>Rq x y op a b w)
 have HEQ:=hid (fun (y:PF) (w:World)=>YL x y w)
 obtain ⟨W0,hW0⟩:∃ W,W=w.alloc (.cells x.aR.toArray 92):=⟨_,rfl⟩
 have mD:Hid (w.grownBy W0 none):=by show _;rw[hW0];exact World.grownBy_alloc w _ none
 have HX:Hid (W0.rangeAt w.heap.size 0 x.aR):=by show _;rw[hW0];exact aQ w x.aR.toArray _
 have HW0:=hid hW0
 clear hW0
 go_enter Tryz.func200,Tryz.ntmps200
 go_wp2
 rw[←HW0.out]
 go_loopw [5,8] (fun _ i wr=>∃ k q:Nat,k≤n∧i = .int .i64 k∧wr=W0.drewN q∧Hid (∀ j (hj:j<l.length),j<k→x≠l[j])) (fun _ i _=>n-(intOf i).toNat)
 case atStart=>exact ⟨0,0,Nat.zero_le _,rfl,rfl,fun j _ hj=>by omega⟩
 case round=>
  obtain ⟨k,q,hk,rfl,rfl,hI⟩:=hrel
  by_cases hlt:k<n
  ·have rT:(k:Int)<(n:Int):=by omega
   have hlt':k<l.length:=by rw[hn.out];exact hlt
   obtain ⟨y,hy⟩:∃ y,l[k]=y:=⟨_,rfl⟩
   have hr:=HH.out
   have y0:∀ m,(W0.drewN m).cell? ⟨g,o+k*3,none⟩=some (.string ⟨y.af.toArray⟩):=fun m=>mD.out.cell (wJ hr k hlt' 0 (by omega) _ (by rw[hy];rfl)) (by simp)
   have y1:∀ m,(W0.drewN m).cell? ⟨g,o+k*3+1,none⟩=some (.int .i64 y.time):=fun m=>mD.out.cell (wJ hr k hlt' 1 (by omega) _ (by rw[hy];rfl)) (by simp)
   have y2:∀ m,(W0.drewN m).cell? ⟨g,o+k*3+2,none⟩=some (.int .i64 y.count):=fun m=>mD.out.cell (wJ hr k hlt' 2 (by omega) _ (by rw[hy];rfl)) (by simp)
   have x0:∀ m,(W0.drewN m).cell? ⟨w.heap.size,0,none⟩=some (.string ⟨x.af.toArray⟩):=fun m=>HX.out 0 _ rfl
   have x1:∀ m,(W0.drewN m).cell? ⟨w.heap.size,1,none⟩=some (.int .i64 x.time):=fun m=>HX.out 1 _ rfl
   have x2:∀ m,(W0.drewN m).cell? ⟨w.heap.size,2,none⟩=some (.int .i64 x.count):=fun m=>HX.out 2 _ rfl
   obtain ⟨d,hd⟩:∃ d,decide (x=y)=d:=⟨_,rfl⟩
   have qe:∀ w:World,(binOp .eql 92 (.agg #[.string ⟨x.af.toArray⟩,.int .i64 x.time,.int .i64 x.count]) (.agg #[.string ⟨y.af.toArray⟩,.int .i64 y.time,.int .i64 y.count])).run Tryz.prog w = .ok (.bool d) w:=fun w=>by rw[←hd];exact HEQ.out y w
   have qg:∀ (op:BinOp) (a b:Operand) (w:World),(eqGuard op 92 a b (.agg #[.string ⟨x.af.toArray⟩,.int .i64 x.time,.int .i64 x.count]) (.agg #[.string ⟨y.af.toArray⟩,.int .i64 y.time,.int .i64 y.count])).run Tryz.prog w = .ok () w:=fun op a b w=>HGD.out y op a b w
   have HY:=hid hy
   have HD:=hid hd
   clear hy hd hr
   cases d with
   | true=>
    go_wp2_with fail
    go_quiet (fail)
    go_wp2
    go_ret
    refine ⟨k,rfl,?_,by omega,by omega,aO (aO mD.out _) _⟩
    have hxy:x=y:=of_decide_eq_true HD.out
    have hm:x∈l:=by rw[hxy,←HY.out];exact List.getElem_mem hlt'
    rw[decide_eq_true hm,decide_eq_true (by omega)]
   | false=>
    go_wp2_with fail
    go_quiet (fail)
    go_wp2
    go_roundw
    case rel=>
     refine ⟨k+1,_,by omega,by go_num,rfl,fun j hj hjk=>?_⟩
     by_cases e:j=k
     ·subst e
      rw[HY.out]
      exact of_decide_eq_false HD.out
     ·exact hI.out j hj (by omega)
    case measure=>simp[intOf];omega
  ·have hks:k=n:=by omega
   subst hks
   go_wp2
   go_ret
   refine ⟨-1,rfl,?_,by omega,by omega,aO mD.out _⟩
   have:x∉l:=fun e=>by
    obtain ⟨j,hj,e⟩:=List.getElem_of_mem e
    exact hI.out j hj (by rw[←hn.out];exact hj) e.symm
   rw[decide_eq_false this]
   rfl
set_option maxHeartbeats 400000 in
theorem Cw (g o n c:Nat) (l:List PF) (x:PF) (w:World) (hn:Hid (l.length=n)) (Dq:n≤8) (hc:n≤c) (h:w.rangeAt g o (bH l)) :
  Calls Tryz.prog 192 #[.slice (some ⟨g,o,none⟩) n c,.agg x.aR.toArray] w fun e w'=>e = .returned (.bool (decide (x∈l)))∧w.grownBy w' none:=by
 obtain ⟨W0,hW0⟩:∃ W,W=w.alloc (.cells x.aR.toArray 92):=⟨_,rfl⟩
 have hG0:w.grownBy W0 none:=by rw[hW0];exact World.grownBy_alloc w _ none
 have hX:W0.rangeAt w.heap.size 0 x.aR:=by rw[hW0];exact aQ w x.aR.toArray _
 have x0:W0.cell? ⟨w.heap.size,0,none⟩=some (.string ⟨x.af.toArray⟩):=hX 0 _ rfl
 have x1:W0.cell? ⟨w.heap.size,1,none⟩=some (.int .i64 x.time):=hX 1 _ rfl
 have x2:W0.cell? ⟨w.heap.size,2,none⟩=some (.int .i64 x.count):=hX 2 _ rfl
 have HI:=hid (Kz g o n c l x W0 hn Dq hc ((CF.aW hG0 (fun _ _=>False)).range h (fun _ _ e=>e)))
 have HG:=hid hG0
 have HW0:=hid hW0
 clear hG0 hX hW0 h
 go_enter Tryz.func192,Tryz.ntmps192
 go_wp2_with (first|(rw[←HW0.out];fail_if_success done) | fail)
 refine HI.out.mono ?_
 rintro e w2 ⟨i,rfl,hi,h0,h1,g2⟩
 have HI2:=hid hi
 have HG2:=hid (ae HG.out g2)
 clear hi g2 HI
 go_wp2
 go_ret
 exact ⟨by rw[←HI2.out];rfl,HG2.out⟩
set_option maxHeartbeats 400000 in
theorem Rs (g o:Nat) (l:List PF) (x:PF) (w:World) (h:w.rangeAt g o (bH l)) (hc:w.cell? ⟨g,o+24,none⟩=some (.int .i64 l.length)) (Dq:l.length≤8) :
  Calls Tryz.prog 169 #[.pointer (some ⟨g,o,none⟩),.agg x.aR.toArray] w fun e w'=>e = .returned (.bool (decide (x∈l)))∧w.grownBy w' none:=by
 obtain ⟨W0,hW0⟩:∃ W,W=w.alloc (.cells x.aR.toArray 92):=⟨_,rfl⟩
 have hG0:w.grownBy W0 none:=by rw[hW0];exact World.grownBy_alloc w _ none
 have hX:W0.rangeAt w.heap.size 0 x.aR:=by rw[hW0];exact aQ w x.aR.toArray _
 have x0:W0.cell? ⟨w.heap.size,0,none⟩=some (.string ⟨x.af.toArray⟩):=hX 0 _ rfl
 have x1:W0.cell? ⟨w.heap.size,1,none⟩=some (.int .i64 x.time):=hX 1 _ rfl
 have x2:W0.cell? ⟨w.heap.size,2,none⟩=some (.int .i64 x.count):=hX 2 _ rfl
 obtain ⟨n,hn⟩:∃ n,l.length=n:=⟨_,rfl⟩
 have HR:Hid (∀ m,Calls Tryz.prog 190 #[.pointer (some ⟨g,o,none⟩)] (W0.drewN m) fun e w'=>e = .returned (.slice (some ⟨g,o,none⟩) n 8)∧∃ m',w'=W0.drewN m'):=by
  intro m
  refine (sM g o n (W0.drewN m) (by omega) ((aO hG0 m).cell (by rw[←hn];exact hc) (by simp))).mono ?_
  rintro e w' ⟨e1,m',e2⟩
  exact ⟨e1,m+m',by rw[e2,World.drewN_drewN]⟩
 have HI:Hid (∀ m,Calls Tryz.prog 192 #[.slice (some ⟨g,o,none⟩) n 8,.agg x.aR.toArray] (W0.drewN m) fun e w'=>e = .returned (.bool (decide (x∈l)))∧W0.grownBy w' none):=by
  intro m
  refine (Cw g o n 8 l x (W0.drewN m) hn (by omega) (by omega) ((CF.aW (aO hG0 m) (fun _ _=>False)).range h (fun _ _ e=>e))).mono ?_
  rintro e w' ⟨e1,e2⟩
  exact ⟨e1,ae (aO (World.grownBy.refl _ _) m) e2⟩
 have HX:Hid (∀ W,W0.grownBy W none→W.cell? ⟨w.heap.size,0,none⟩=some (.string ⟨x.af.toArray⟩)∧W.cell? ⟨w.heap.size,1,none⟩=some (.int .i64 x.time)∧W.cell? ⟨w.heap.size,2,none⟩=some (.int .i64 x.count)):=
  fun W k=>⟨k.cell x0 (by simp),k.cell x1 (by simp),k.cell x2 (by simp)⟩
 have HG:=hid hG0
 have HW0:=hid hW0
 clear hG0 hX hW0 h hc hn
 go_enter Tryz.func169,Tryz.ntmps169
 go_wp2_with fail
 rw[←HW0.out]
 go_region_held3 (fun w'=>w'.cell? ⟨w.heap.size,0,none⟩=some (.string ⟨x.af.toArray⟩)∧w'.cell? ⟨w.heap.size,1,none⟩=some (.int .i64 x.time)∧w'.cell? ⟨w.heap.size,2,none⟩=some (.int .i64 x.count)) (go_keep) (first|(go_at_call 190;refine (HR.out _).mono ?_;rintro e w' ⟨rfl,m,rfl⟩)|(go_at_call 192;refine (HI.out _).mono ?_;rintro e w2 ⟨rfl,g2⟩;obtain ⟨e0,e1,e2⟩:=HX.out w2 g2;have HG2:=hid (ae HG.out g2);clear g2))
 all_goals
  go_wp2
  go_ret
  exact ⟨rfl,HG2.out⟩
end Go.Proofs.YtpibgolaaaemnaaGreatDoor
namespace Go.Proofs.YtpibgolaaaemnaaGreatDoor
open Go.RowKit
set_option maxRecDepth 100000
set_option maxHeartbeats 400000 in
theorem Oi (g o:Nat) (x:PF) (w:World) (hc:w.cell? ⟨g,o+24,none⟩=some (.int .i64 8)) :
  Calls Tryz.prog 170 #[.pointer (some ⟨g,o,none⟩),.agg x.aR.toArray] w fun e w'=>e = .returned (.bool false)∧w.grownBy w' none:=by
 have G0:=World.grownBy_alloc w (.cells x.aR.toArray 92) none
 have c1:=G0.cell hc (by simp)
 have HG:=hid G0
 clear G0
 go_enter Tryz.func170,Tryz.ntmps170
 go_wp2
 go_ret
 exact ⟨rfl,HG.out⟩
set_option maxHeartbeats 1000000 in
theorem VM (g o n:Nat) (l:List PF) (x:PF) (w:World) (hl:Live w g (o+25)) (h:w.rangeAt g o (bH l)) (hc:w.cell? ⟨g,o+24,none⟩=some (.int .i64 n)) (hn:Hid (l.length=n)) (Dq:n<8) :
  Calls Tryz.prog 170 #[.pointer (some ⟨g,o,none⟩),.agg x.aR.toArray] w fun e w'=>e = .returned (.bool true)∧w'.rangeAt g o (bH (l++[x]))∧w'.cell? ⟨g,o+24,none⟩=some (.int .i64 ((n:Int)+1))∧CF w w' (fun b y=>b=g∧o≤y∧y<o+25):=by
 obtain ⟨W0,hW0⟩:∃ W,W=w.alloc (.cells x.aR.toArray 92):=⟨_,rfl⟩
 have hG0:w.grownBy W0 none:=by rw[hW0];exact World.grownBy_alloc w _ none
 have hX:W0.rangeAt w.heap.size 0 x.aR:=by rw[hW0];exact aQ w x.aR.toArray _
 have x0:W0.cell? ⟨w.heap.size,0,none⟩=some (.string ⟨x.af.toArray⟩):=hX 0 _ rfl
 have x1:W0.cell? ⟨w.heap.size,1,none⟩=some (.int .i64 x.time):=hX 1 _ rfl
 have x2:W0.cell? ⟨w.heap.size,2,none⟩=some (.int .i64 x.count):=hX 2 _ rfl
 have c1:=hG0.cell hc (by simp)
 have hne:w.heap.size≠g:=fun e=>by have:=hl.lt;omega
 have hL:=hl.grown hG0
 have f0:=hL.frozen (o+n*3)
 have f1:=hL.frozen (o+n*3+1)
 have f2:=hL.frozen (o+n*3+2)
 have f3:=hL.frozen (o+24)
 obtain ⟨d0,q0⟩:=Option.isSome_iff_exists.1 (hL.some (o+n*3) (by omega))
 obtain ⟨d1,q1⟩:=Option.isSome_iff_exists.1 (hL.some (o+n*3+1) (by omega))
 obtain ⟨d2,q2⟩:=Option.isSome_iff_exists.1 (hL.some (o+n*3+2) (by omega))
 have hnI:(n:Int)<8:=by omega
 have amr:((n:Int)==8)=false:=by rw[beq_eq_false_iff_ne];omega
 have HG:=hid hG0
 have HW0:=hid hW0
 have HH:=hid h
 have HL:=hid hl
 clear hG0 hX hW0 h hc hL hl
 go_enter Tryz.func170,Tryz.ntmps170
 go_wp2_with (first|(rw[←HW0.out];fail_if_success done) | fail)
 have k0:o+n*3≠o+24:=by omega
 have k1:o+n*3+1≠o+24:=by omega
 have k2:o+n*3+2≠o+24:=by omega
 obtain ⟨W1,hW1⟩:∃ W,W=((W0.setCell ⟨g,o+n*3,none⟩ (.string ⟨x.af.toArray⟩)).setCell ⟨g,o+n*3+1,none⟩ (.int .i64 x.time)).setCell ⟨g,o+n*3+2,none⟩ (.int .i64 x.count):=⟨_,rfl⟩
 have lu:∀ y,W1.cell? ⟨w.heap.size,y,none⟩=W0.cell? ⟨w.heap.size,y,none⟩:=fun y=>by
  rw[hW1,World.cell?_setCell_far _ _ _ _ (fun e=>hne e.symm),World.cell?_setCell_far _ _ _ _ (fun e=>hne e.symm),World.cell?_setCell_far _ _ _ _ (fun e=>hne e.symm)]
 have hoff:∀ y,y≠o+n*3→y≠o+n*3+1→y≠o+n*3+2→W1.cell? ⟨g,y,none⟩=W0.cell? ⟨g,y,none⟩:=fun y e0 e1 e2=>by
  rw[hW1,World.cell?_setCell_other _ _ _ _ (fun e=>e2 (by injection e with _ e;exact e.symm)),World.cell?_setCell_other _ _ _ _ (fun e=>e1 (by injection e with _ e;exact e.symm)),World.cell?_setCell_other _ _ _ _ (fun e=>e0 (by injection e with _ e;exact e.symm))]
 have HY:Hid (W1.cell? ⟨g,o+24,none⟩=some (.int .i64 n)∧W1.cell? ⟨w.heap.size,0,none⟩=some (.string ⟨x.af.toArray⟩)∧W1.cell? ⟨w.heap.size,1,none⟩=some (.int .i64 x.time)∧W1.cell? ⟨w.heap.size,2,none⟩=some (.int .i64 x.count)):=
  ⟨by rw[hoff _ k0.symm k1.symm k2.symm];exact c1,by rw[lu];exact x0,by rw[lu];exact x1,by rw[lu];exact x2⟩
 have U9:Hid (CF w W1 (fun b y=>b=g∧o≤y∧y<o+25)):=by
  show CF _ _ _
  rw[hW1]
  exact (((CF.aW HG.out _).setCell g (o+n*3) _ (fun _=>⟨rfl,by omega,by omega⟩)).setCell g (o+n*3+1) _ (fun _=>⟨rfl,by omega,by omega⟩)).setCell g (o+n*3+2) _ (fun _=>⟨rfl,by omega,by omega⟩)
 have HRG:Hid (W1.rangeAt g o (bH (l++[x]))):=by
  show World.rangeAt _ _ _ _
  intro j u hu
  rw[kE] at hu
  have hpl:=gI l
  rw[hn.out] at hpl
  by_cases hj:j<n*3
  ·rw[List.getElem?_append_left (by omega)] at hu
   rw[hoff _ (by omega) (by omega) (by omega)]
   exact HG.out.cell (HH.out j u hu) (by simp)
  ·rw[List.getElem?_append_right (by omega),hpl] at hu
   have hj3:j-n*3<3:=by have:=(List.getElem?_eq_some_iff.1 hu).1;simp[bH,PF.aR] at this;omega
   have h0:W1.cell? ⟨g,o+n*3,none⟩=some (.string ⟨x.af.toArray⟩):=by
    rw[hW1,World.cell?_setCell_other _ _ _ _ (fun e=>by injection e with _ e;omega),World.cell?_setCell_other _ _ _ _ (fun e=>by injection e with _ e;omega)]
    exact World.cell?_setCell_same _ _ _ q0
   have h1:W1.cell? ⟨g,o+n*3+1,none⟩=some (.int .i64 x.time):=by
    rw[hW1,World.cell?_setCell_other _ _ _ _ (fun e=>by injection e with _ e;omega)]
    exact World.cell?_setCell_same _ _ _ (by rw[World.cell?_setCell_other _ _ _ _ (fun e=>by injection e with _ e;omega)];exact q1)
   have h2:W1.cell? ⟨g,o+n*3+2,none⟩=some (.int .i64 x.count):=by
    rw[hW1]
    exact World.cell?_setCell_same _ _ _ (by rw[World.cell?_setCell_other _ _ _ _ (fun e=>by injection e with _ e;omega),World.cell?_setCell_other _ _ _ _ (fun e=>by injection e with _ e;omega)];exact q2)
   obtain ⟨i,hi⟩:∃ i,j-n*3=i:=⟨_,rfl⟩
   rw[hi] at hu hj3
   have hji:j=n*3+i:=by omega
   subst hji
   match i,hj3 with
   | 0,_=>simp[bH,PF.aR] at hu;rw[←hu];exact h0
   | 1,_=>simp[bH,PF.aR] at hu;rw[←hu];exact h1
   | 2,_=>simp[bH,PF.aR] at hu;rw[←hu];exact h2
 have HF3:Hid (W1.frozen? ⟨g,o+24,none⟩=false):=(HL.out.cf U9.out).frozen _
 have HW1:=hid hW1
 clear lu hoff hW1
 have y1:W1.drew.cell? ⟨g,o+24,none⟩=some (.int .i64 n):=HY.out.1
 have z0:W1.drew.frozen? ⟨g,o+24,none⟩=false:=HF3.out
 go_region
 all_goals
  rw[←HW1.out]
  go_wp2
  go_ret
  refine ⟨rfl,?_,World.cell?_setCell_same _ _ _ y1,U9.out.drew.setCell g (o+24) _ (fun _=>⟨rfl,by omega,by omega⟩)⟩
  intro j u hu
  have hj:=(List.getElem?_eq_some_iff.1 hu).1
  rw[gI,List.length_append,hn.out,List.length_singleton] at hj
  show (W1.setCell ⟨g,o+24,none⟩ (.int .i64 ((n:Int)+1))).cell? ⟨g,o+j,none⟩=some u
  rw[World.cell?_setCell_other _ _ _ _ (fun e=>by injection e with _ e;omega)]
  exact HRG.out j u hu
end Go.Proofs.YtpibgolaaaemnaaGreatDoor
namespace Go.Proofs.YtpibgolaaaemnaaGreatDoor
open Go.RowKit
set_option maxRecDepth 100000
theorem Hl (a b:Int):fE a b=fE b a:=by
 unfold fE
 by_cases h:a<b
 ·rw[if_pos h,if_neg (by omega)]
 ·by_cases h2:b<a
  ·rw[if_neg h,if_pos h2]
  ·have:a=b:=by omega
   subst this
   rfl
theorem VO (a b:Int) (w:World) (nq:Nat) (ha:In64 a) (hb:In64 b) :
  Calls Tryz.prog 162 #[.int .i64 a,.int .i64 b] (w.drewN nq) fun e w''=>e = .returned (.int .i64 (fE a b))∧∃ m,w''=w.drewN m:=
 (Oo a b _ ha.1 ha.2 hb.1 hb.2).mono fun _ _ ⟨h1,h2⟩=>⟨h1,nq,h2⟩
theorem abG (a b:Int) (w:World) (nq:Nat) (ha:In64 a) (hb:In64 b) :
  Calls Tryz.prog 136 #[.int .i64 a,.int .i64 b] (w.drewN nq) fun e w''=>e = .returned (.int .i64 (aX a b))∧∃ m,w''=w.drewN m:=
 (zy a b _ ha.1 ha.2 hb.1 hb.2).mono fun _ _ ⟨h1,h2⟩=>⟨h1,nq,h2⟩
set_option maxHeartbeats 400000 in
theorem tY (hb g:Nat) (now ax t:Int) (w:World) (c3:w.cell? ⟨hb,3,none⟩=some (.pointer (some ⟨g,0,none⟩))) (c4:w.cell? ⟨hb,4,none⟩=some (.int .i64 now)) (cs:w.cell? ⟨g,0,none⟩=some (.int .i64 ax)) (dC:In64 now) (ht:In64 t) :
  Calls Tryz.prog 125 #[.pointer (some ⟨hb,0,none⟩),.int .i64 t] w fun e w'=>e = .returned (.bool (decide (ax<fE t now)))∧∃ m,w'=w.drewN m:=by
 have HA:Hid (∀ nq,Calls Tryz.prog 162 #[.int .i64 now,.int .i64 t] (w.drewN nq) fun e w''=>e = .returned (.int .i64 (fE t now))∧∃ m,w''=w.drewN m):=fun nq=>by rw[Hl];exact VO now t w nq dC ht
 clear dC ht
 generalize fE t now=a at *
 go_enter Tryz.func125,Tryz.ntmps125
 go_wp2_with fail
 go_quiet (first|(go_at_call 162;exact HA.out _))
 go_wp2
 go_ret
 exact ⟨rfl,_,rfl⟩
set_option maxHeartbeats 400000 in
theorem yE (hb g:Nat) (now ax t:Int) (w:World) (c3:w.cell? ⟨hb,3,none⟩=some (.pointer (some ⟨g,0,none⟩))) (c4:w.cell? ⟨hb,4,none⟩=some (.int .i64 now)) (cs:w.cell? ⟨g,0,none⟩=some (.int .i64 ax)) (dC:In64 now) (hsk:In64 ax) :
  Calls Tryz.prog 100 #[.pointer (some ⟨hb,0,none⟩),.int .i64 t] w fun e w'=>e = .returned (.bool (decide (aX now ax<t)))∧∃ m,w'=w.drewN m:=by
 have HA:Hid (∀ nq,Calls Tryz.prog 136 #[.int .i64 now,.int .i64 ax] (w.drewN nq) fun e w''=>e = .returned (.int .i64 (aX now ax))∧∃ m,w''=w.drewN m):=fun nq=>abG now ax w nq dC hsk
 clear dC hsk
 generalize aX now ax=a at *
 go_enter Tryz.func100,Tryz.ntmps100
 go_wp2_with fail
 go_quiet (first|(go_at_call 136;exact HA.out _))
 go_wp2
 go_ret
 exact ⟨rfl,_,rfl⟩
end Go.Proofs.YtpibgolaaaemnaaGreatDoor
namespace Go.Proofs.YtpibgolaaaemnaaGreatDoor
open Go.RowKit
set_option maxRecDepth 100000
def KA (hb:Nat):Value:=.func (.func 125) #[.pointer (some ⟨hb,0,none⟩)] #[]
def Hq (cb:Nat):Value:=.func (.func 191) #[] #[.pointer (some ⟨cb,0,none⟩)]
structure uE (w:World) (cb hb g:Nat) (now ax:Int):Prop where
 box:w.cell? ⟨cb,0,none⟩=some (KA hb)
 dX:w.cell? ⟨hb,3,none⟩=some (.pointer (some ⟨g,0,none⟩))
 now:w.cell? ⟨hb,4,none⟩=some (.int .i64 now)
 ax:w.cell? ⟨g,0,none⟩=some (.int .i64 ax)
theorem uE.grown {w w':World} {cb hb g:Nat} {now ax:Int} (h:uE w cb hb g now ax) (k:w.grownBy w' none):uE w' cb hb g now ax:=
 ⟨k.cell h.box (by simp),k.cell h.dX (by simp),k.cell h.now (by simp),k.cell h.ax (by simp)⟩
def mg (ax now:Int) (y:PF):Bool:=decide (ax<fE y.time now)
set_option maxHeartbeats 400000 in
theorem DD (cb hb g:Nat) (now ax:Int) (y:PF) (w:World) (h:uE w cb hb g now ax) (dC:In64 now) (ht:In64 y.time) :
  Calls Tryz.prog 191 #[.agg y.aR.toArray,.pointer (some ⟨cb,0,none⟩)] w fun e w'=>e = .returned (.bool (mg ax now y))∧w.grownBy w' none:=by
 obtain ⟨W0,hW0⟩:∃ W,W=w.alloc (.cells y.aR.toArray 92):=⟨_,rfl⟩
 have hG0:w.grownBy W0 none:=by rw[hW0];exact World.grownBy_alloc w _ none
 have hX:W0.rangeAt w.heap.size 0 y.aR:=by rw[hW0];exact aQ w y.aR.toArray _
 have x1:W0.cell? ⟨w.heap.size,1,none⟩=some (.int .i64 y.time):=hX 1 _ rfl
 have h0:=h.grown hG0
 have cb0:=h0.box
 unfold KA at cb0
 have HI:=hid (tY hb g now ax y.time W0 h0.dX h0.now h0.ax dC ht)
 have HG:=hid hG0
 have HW0:=hid hW0
 clear hG0 hX hW0 h h0 dC ht
 go_enter Tryz.func191,Tryz.ntmps191
 go_wp2_with (first|(rw[←HW0.out];fail_if_success done) | fail)
 refine HI.out.mono ?_
 rintro e w2 ⟨rfl,m,rfl⟩
 have HG2:=hid (aO HG.out m)
 go_wp2
 go_ret
 exact ⟨rfl,HG2.out⟩
set_option maxHeartbeats 1000000 in
theorem Hr (cb hb dg g o n c:Nat) (now ax:Int) (l:List PF) (w:World) (hf:uE w cb hb dg now ax) (dC:In64 now) (ht:∀ y∈l,In64 y.time) (hn:Hid (l.length=n)) (Dq:n≤8) (hc:n≤c) (h:w.rangeAt g o (bH l)) :
  Calls Tryz.prog 199 #[.slice (some ⟨g,o,none⟩) n c,Hq cb] w fun e w'=>(e = .returned (.int .i64 (-1))∧(∀ j (hj:j<l.length),mg ax now l[j]=false)∨∃ k,∃ hk:k<l.length,e = .returned (.int .i64 (k:Int))∧mg ax now l[k]=true∧∀ j (hj:j<l.length),j<k→mg ax now l[j]=false)∧w.grownBy w' none:=by
 have HH:=hid h
 have HF:=hid hf
 have HT:=hid ht
 have VP:=hid dC
 clear h hf ht dC
 unfold Hq
 go_enter Tryz.func199,Tryz.ntmps199
 go_wp2
 go_loopw [5,8] (fun _ i wr=>∃ k:Nat,k≤n∧i = .int .i64 k∧Hid (w.grownBy wr none)∧Hid (∀ j (hj:j<l.length),j<k→mg ax now l[j]=false)) (fun _ i _=>n-(intOf i).toNat)
 case atStart=>exact ⟨0,Nat.zero_le _,rfl,World.grownBy.refl _ _,fun j _ hj=>by omega⟩
 case round=>
  obtain ⟨k,hk,rfl,hG,hI⟩:=hrel
  by_cases hlt:k<n
  ·have rT:(k:Int)<(n:Int):=by omega
   have hlt':k<l.length:=by rw[hn.out];exact hlt
   obtain ⟨y,hy⟩:∃ y,l[k]=y:=⟨_,rfl⟩
   have hr:=HH.out
   have y0:wr.cell? ⟨g,o+k*3,none⟩=some (.string ⟨y.af.toArray⟩):=hG.out.cell (wJ hr k hlt' 0 (by omega) _ (by rw[hy];rfl)) (by simp)
   have y1:wr.cell? ⟨g,o+k*3+1,none⟩=some (.int .i64 y.time):=hG.out.cell (wJ hr k hlt' 1 (by omega) _ (by rw[hy];rfl)) (by simp)
   have y2:wr.cell? ⟨g,o+k*3+2,none⟩=some (.int .i64 y.count):=hG.out.cell (wJ hr k hlt' 2 (by omega) _ (by rw[hy];rfl)) (by simp)
   have HD:=hid (DD cb hb dg now ax y wr (HF.out.grown hG.out) VP.out (HT.out y (by rw[←hy];exact List.getElem_mem hlt')))
   obtain ⟨d,hd⟩:∃ d,mg ax now y=d:=⟨_,rfl⟩
   rw[hd] at HD
   have HY:=hid hy
   have HDD:=hid hd
   clear hy hd hr
   cases d with
   | true=>
    go_wp2_with (go_at_call 191;refine HD.out.mono ?_;rintro e w2 ⟨rfl,g2⟩;have HG2:=hid (ae hG.out g2);clear g2)
    go_wp2
    go_ret
    exact ⟨.inr ⟨k,hlt',rfl,by rw[HY.out];exact HDD.out,hI.out⟩,HG2.out⟩
   | false=>
    go_wp2_with (go_at_call 191;refine HD.out.mono ?_;rintro e w2 ⟨rfl,g2⟩;have HG2:=hid (ae hG.out g2);clear g2)
    go_wp2
    go_roundw
    case rel=>
     refine ⟨k+1,by omega,by go_num,HG2.out,fun j hj hjk=>?_⟩
     by_cases e:j=k
     ·subst e
      rw[HY.out]
      exact HDD.out
     ·exact hI.out j hj (by omega)
    case measure=>simp[intOf];omega
  ·have hks:k=n:=by omega
   subst hks
   go_wp2
   go_ret
   exact ⟨.inl ⟨rfl,fun j hj=>hI.out j hj (by rw[←hn.out];exact hj)⟩,hG.out⟩
end Go.Proofs.YtpibgolaaaemnaaGreatDoor
namespace Go.Proofs.YtpibgolaaaemnaaGreatDoor
open Go.RowKit
set_option maxRecDepth 100000
def sO:Array Value:=#[.string ⟨#[]⟩,.int .i64 0,.int .i64 0]
theorem KC (m:Nat):∀ v∈(Builtin.zeroCells sO m).toList,v.oneCell'=true:=by
 intro v hv
 simp[Builtin.zeroCells] at hv
 obtain ⟨i,_,e⟩:=hv
 have h3:i % 3<3:=Nat.mod_lt _ (by omega)
 have hs:sO.size=3:=rfl
 rw[hs] at e
 rw[←e]
 generalize i % 3=j at *
 match j,h3 with
 | 0,_=>rfl
 | 1,_=>rfl
 | 2,_=>rfl
theorem Rv (w:World) (g o m c:Nat) (ty:TypeId) (hm:0<m) (hl:Live w g (o+m*3)) :
  (Builtin.clear_ #[307] ty #[.slice (some ⟨g,o,none⟩) m c]).run Tryz.prog w = .ok (.tuple #[]) (w.setCells g o (Builtin.zeroCells sO m).toList):=by
 have hz:(Builtin.zeroCells sO m).toList.length=m*3:=by simp[Builtin.zeroCells];rfl
 have hst:=run_storeCells_cells (P:=Tryz.prog) g o (Builtin.zeroCells sO m).toList 0 w (fun j hj=>by rw[Nat.add_zero];exact hl.some _ (by rw[hz] at hj;omega)) (fun j hj=>by rw[Nat.add_zero];exact hl.frozen _) (KC m)
 simp only[Nat.add_zero] at hst
 obtain ⟨k,rfl⟩:∃ k,m=k+1:=⟨m-1,by omega⟩
 simp[Builtin.clear_,run_underlying Tryz.underlying307,Value.cells]
 show ((Sem.run Tryz.prog (storeCells ⟨g,o,none⟩ (Builtin.zeroCells sO (k+1)).toList) w).andThen _)=_
 rw[hst]
 rfl
def AA (g o:Nat) (b y:Nat):Prop:=b=g∧o≤y∧y<o+24
theorem uE.cf {w w':World} {cb hb dg g o:Nat} {now ax:Int} (h:uE w cb hb dg now ax) (k:CF w w' (AA g o)) (h1:cb≠g) (h2:hb≠g) (h3:0<o):uE w' cb hb dg now ax:=
 ⟨k.cell h.box (fun e=>h1 e.1),k.cell h.dX (fun e=>h2 e.1),k.cell h.now (fun e=>h2 e.1),k.cell h.ax (fun e=>by have:=e.2.1;omega)⟩
def yF (ax now:Int) (y:PF):Bool:=!mg ax now y
def kF (ax now:Int) (l:List PF):List PF:=l.filter (yF ax now)
theorem AB {ax now:Int} {l:List PF} {k:Nat} (h:k<l.length):kF ax now (l.take (k+1))=kF ax now (l.take k)++(if yF ax now l[k]=true then [l[k]] else []):=by
 unfold kF
 rw[List.take_succ_eq_append_getElem h,List.filter_append]
 cases hb:yF ax now l[k] <;> simp[hb]
theorem xL {ax now:Int} {l:List PF} (h:∀ j (hj:j<l.length),mg ax now l[j]=false):kF ax now l=l:=by
 unfold kF
 apply List.filter_eq_self.2
 intro x hx
 obtain ⟨j,hj,rfl⟩:=List.getElem_of_mem hx
 simp[yF,h j hj]
theorem Ht {ax now:Int} {l:List PF} {k:Nat} (hk:k<l.length) (h1:mg ax now l[k]=true) (h:∀ j (hj:j<l.length),j<k→mg ax now l[j]=false):kF ax now (l.take (k+1))=l.take k:=by
 rw[AB hk,xL (l:=l.take k) (fun j hj=>?_)]
 ·simp[yF,h1]
 ·rw[List.getElem_take]
  exact h j _ (by rw[List.length_take] at hj;omega)
theorem Hw (ax now:Int) (l:List PF):(kF ax now l).length≤l.length:=List.length_filter_le _ _
end Go.Proofs.YtpibgolaaaemnaaGreatDoor
