/-
  
-/
import Derived.Test.YtpibgolaaaemnaaGreatDoorGUPBookA
import Derived.Test.YtpibgolaaaemnaaGreatDoorGUOwn
import Derived.Test.YtpibgolaaaemnaaGreatDoorGUSep
import Derived.Deep.OwnRows
namespace Go.Proofs.YtpibgolaaaemnaaGreatDoor
open Go.RowKit
set_option maxRecDepth 100000
theorem Tryz.VG:(Tryz.prog.info? 9).map (fun i=>(i.zero,i.size,i.bytes))=some (some (.string ⟨#[]⟩),1,16):=by kernel_rfl
theorem Tryz.VH:(Tryz.prog.info? 3).map (fun i=>(i.zero,i.size,i.bytes))=some (some (.int .i64 0),1,8):=by kernel_rfl
theorem Oc (z:Value) (n:Nat):(madeCells #[z] n).toList=List.replicate n z:=by
 refine List.ext_getElem? fun i=>?_
 simp only[madeCells,Array.toList_map,Array.toList_range,List.getElem?_map,List.getElem?_replicate]
 by_cases h:i<n
 ·rw[List.getElem?_range h,if_pos h]
  simp[Nat.mod_one]
 ·rw[List.getElem?_eq_none (by rw[List.length_range];omega),if_neg h]
  rfl
theorem GN (w:World) (z:Value) (n:Nat) (e:TypeId) (hn:n≤maxLen):(w.alloc (.cells (madeCells #[z] n) e)).ownsRow w.heap.size e 1 (.slice (some ⟨w.heap.size,0,none⟩) n n) n (List.replicate n z):=
 ⟨by rw[List.length_replicate,Nat.mul_one],.inr ⟨_,n,madeCells #[z] n,rfl,Nat.le_refl _,heap_alloc_new w _,Nat.le_refl _,hn,by rw[size_madeCells,Nat.mul_one],by rw[Oc,Nat.mul_one,List.take_of_length_le (by rw[List.length_replicate];exact Nat.le_refl _)]⟩⟩
theorem xK {w:World} {base:Nat} {e:TypeId} {g n c:Nat} {xs:List Value} (h:w.ownsRow base e 1 (.slice (some ⟨g,0,none⟩) n c) n xs):g<w.heap.size∧∀ j,j<n→∃ v,w.cell? ⟨g,j,none⟩=some v:=by
 rcases h.2 with ⟨hv,_⟩ | ⟨g',cap,cur,hv,hb,hg,hnc,hcm,hcs,htk⟩
 ·cases hv
 ·injection hv with e1 _ e3
  injection e1 with e1
  injection e1 with e1 _ _
  subst e1 e3
  refine ⟨(Array.getElem?_eq_some_iff.1 hg).1,fun j hj=>?_⟩
  have hjc:j<cur.size:=by rw[hcs];omega
  exact ⟨cur[j],by simp[World.cell?,hg,hjc]⟩
def partly (z:Value) (xs:List Value) (n k:Nat):List Value:=xs.take k++List.replicate (n-k) z
theorem yD (z:Value) (xs:List Value) (n:Nat):partly z xs n 0=List.replicate n z:=by simp[partly]
theorem Aq (z:Value) (xs:List Value) (n:Nat) (h:xs.length=n):partly z xs n n=xs:=by simp[partly,←h]
theorem Ar (z:Value) (xs:List Value) (n k:Nat) (h:xs.length=n) (hk:k<n):(partly z xs n k).set k (xs[k]'(by omega))=partly z xs n (k+1):=by
 unfold partly
 rw[List.set_append_right _ _ (by rw[List.length_take];omega),List.length_take,Nat.min_eq_left (by omega),Nat.sub_self,show n-k=(n-(k+1))+1 from by omega,List.replicate_succ,List.set_cons_zero,List.take_succ_eq_append_getElem (by omega),List.append_assoc]
 rfl
set_option maxHeartbeats 1000000 in
theorem Od (g o:Nat) (es:List BE) (w:World) (h:bE w g o es) :
  Calls Tryz.prog 51 #[.pointer (some ⟨g,o,none⟩)] w fun e w'=>∃ b,e = .returned (.slice (some ⟨b,0,none⟩) es.length es.length)∧w'.ownsRow w.heap.size 9 1 (.slice (some ⟨b,0,none⟩) es.length es.length) es.length (es.map fun x=>.string ⟨x.name.toArray⟩)∧w.grownBy w' none:=by
 have hc:=h.count
 have hl:=h.len
 have hgw:=h.live.lt
 have HE:=hid (fun w h=>sI g o es w h)
 obtain ⟨n,Dy⟩:∃ n,Hid (es.length=n):=⟨_,hid rfl⟩
 rw[Dy.out] at hc hl HE ⊢
 have hmk:=fun w=>run_make_row' (P:=Tryz.prog) 35 9 (.string ⟨#[]⟩) 16 Tryz.underlying35 Tryz.VG rfl .i64 .i64 n (by omega) (by omega) w
 have G0:=hid (World.grownBy_alloc w (.cells (madeCells #[.string ⟨#[]⟩] n) 9) none)
 have O0:=hid (GN w (.string ⟨#[]⟩) n 9 (by unfold maxLen;omega))
 have HB:=hid h
 obtain ⟨xs,YG⟩:∃ xs:List Value,Hid (xs=es.map fun x=>.string ⟨x.name.toArray⟩):=⟨_,hid rfl⟩
 have VI:Hid (xs.length=n):=by show _=_;rw[YG.out,List.length_map];exact Dy.out
 rw[←YG.out]
 clear h
 go_enter Tryz.func51,Tryz.ntmps51
 go_wp2_with fail
 refine (HE.out _ (HB.out.grown G0.out)).mono ?_
 rintro e w' ⟨rfl,q,rfl⟩
 clear HE hmk
 have O1:Hid (((w.alloc (.cells (madeCells #[.string ⟨#[]⟩] n) 9)).drewN q).ownsRow w.heap.size 9 1 (.slice (some ⟨w.heap.size,0,none⟩) n n) n (partly (.string ⟨#[]⟩) xs n 0)):=by
  rw[yD];exact O0.out
 have G1:=hid (aO G0.out q)
 clear O0 G0
 go_wp2_with fail
 go_loopw [14] (fun c wr=>∃ k:Nat,k≤n∧c = .int .i64 k∧wr.ownsRow w.heap.size 9 1 (.slice (some ⟨w.heap.size,0,none⟩) n n) n (partly (.string ⟨#[]⟩) xs n k)∧w.grownBy wr none) (fun c _=>((n:Int)-intOf c).toNat)
 case atStart=>exact ⟨0,Nat.zero_le _,rfl,O1.out,G1.out⟩
 case round=>
  obtain ⟨k,hk,rfl,hown,hgr⟩:=hrel
  by_cases hlt:k<n
  ·have hkl:k<es.length:=by rw[Dy.out];exact hlt
   have rT:(k:Int)<(n:Int):=by omega
   have hk0:(0:Int)≤(k:Int):=by omega
   have hBr:=HB.out.grown hgr
   obtain ⟨k0,k1,k2,k3,k4,k5,k6,k7⟩:=hBr.eight k hkl _ rfl
   have HV:Hid (xs[k]'(by rw[VI.out];exact hlt) = .string ⟨(es[k]).name.toArray⟩):=by show _=_;simp only[YG.out,List.getElem_map]
   obtain ⟨hbs,hth⟩:=xK hown
   obtain ⟨vk,hvk⟩:=hth k hlt
   have hfz:=Am hown k
   clear hBr hth
   go_wp2
   go_roundw
   case rel=>
    refine ⟨k+1,hlt,rfl,?_,aC (aK hgr (Nat.le_refl _)) _⟩
    have S:=MN hown k (xs[k]'(by rw[VI.out];exact hlt))
    rw[Ar _ xs n k VI.out hlt,HV.out] at S
    exact pM S (fun b hb=>heap_alloc_old _ _ (by injection hb with hb;subst hb;rw[World.size_setCell];exact hbs))
   case measure=>simp[intOf];omega
  ·have rT:¬ (k:Int)<(n:Int):=by omega
   have hkn:k=n:=by omega
   subst hkn
   go_wp2
   go_ret
   exact ⟨w.heap.size,rfl,by rw[←Aq (.string ⟨#[]⟩) xs k VI.out];exact hown,hgr⟩
set_option maxHeartbeats 1000000 in
theorem GQ (g o:Nat) (es:List BE) (w:World) (h:bE w g o es) :
  Calls Tryz.prog 52 #[.pointer (some ⟨g,o,none⟩)] w fun e w'=>∃ b,e = .returned (.slice (some ⟨b,0,none⟩) es.length es.length)∧w'.ownsRow w.heap.size 3 1 (.slice (some ⟨b,0,none⟩) es.length es.length) es.length (es.map fun x=>.int .i64 x.ag)∧w.grownBy w' none:=by
 have hc:=h.count
 have hl:=h.len
 have hgw:=h.live.lt
 have HE:=hid (fun w h=>sI g o es w h)
 obtain ⟨n,Dy⟩:∃ n,Hid (es.length=n):=⟨_,hid rfl⟩
 rw[Dy.out] at hc hl HE ⊢
 have hmk:=fun w=>run_make_row' (P:=Tryz.prog) 22 3 (.int .i64 0) 8 Tryz.underlying22 Tryz.VH rfl .i64 .i64 n (by omega) (by omega) w
 have G0:=hid (World.grownBy_alloc w (.cells (madeCells #[.int .i64 0] n) 3) none)
 have O0:=hid (GN w (.int .i64 0) n 3 (by unfold maxLen;omega))
 have HB:=hid h
 obtain ⟨xs,YG⟩:∃ xs:List Value,Hid (xs=es.map fun x=>.int .i64 x.ag):=⟨_,hid rfl⟩
 have VI:Hid (xs.length=n):=by show _=_;rw[YG.out,List.length_map];exact Dy.out
 rw[←YG.out]
 clear h
 go_enter Tryz.func52,Tryz.ntmps52
 go_wp2_with fail
 refine (HE.out _ (HB.out.grown G0.out)).mono ?_
 rintro e w' ⟨rfl,q,rfl⟩
 clear HE hmk
 have O1:Hid (((w.alloc (.cells (madeCells #[.int .i64 0] n) 3)).drewN q).ownsRow w.heap.size 3 1 (.slice (some ⟨w.heap.size,0,none⟩) n n) n (partly (.int .i64 0) xs n 0)):=by
  rw[yD];exact O0.out
 have G1:=hid (aO G0.out q)
 clear O0 G0
 go_wp2_with fail
 go_loopw [14] (fun c wr=>∃ k:Nat,k≤n∧c = .int .i64 k∧wr.ownsRow w.heap.size 3 1 (.slice (some ⟨w.heap.size,0,none⟩) n n) n (partly (.int .i64 0) xs n k)∧w.grownBy wr none) (fun c _=>((n:Int)-intOf c).toNat)
 case atStart=>exact ⟨0,Nat.zero_le _,rfl,O1.out,G1.out⟩
 case round=>
  obtain ⟨k,hk,rfl,hown,hgr⟩:=hrel
  by_cases hlt:k<n
  ·have hkl:k<es.length:=by rw[Dy.out];exact hlt
   have rT:(k:Int)<(n:Int):=by omega
   have hk0:(0:Int)≤(k:Int):=by omega
   have hBr:=HB.out.grown hgr
   obtain ⟨k0,k1,k2,k3,k4,k5,k6,k7⟩:=hBr.eight k hkl _ rfl
   have HV:Hid (xs[k]'(by rw[VI.out];exact hlt) = .int .i64 (es[k]).ag):=by show _=_;simp only[YG.out,List.getElem_map]
   obtain ⟨hbs,hth⟩:=xK hown
   obtain ⟨vk,hvk⟩:=hth k hlt
   have hfz:=Am hown k
   clear hBr hth
   go_wp2
   go_roundw
   case rel=>
    refine ⟨k+1,hlt,rfl,?_,aC (aK hgr (Nat.le_refl _)) _⟩
    have S:=MN hown k (xs[k]'(by rw[VI.out];exact hlt))
    rw[Ar _ xs n k VI.out hlt,HV.out] at S
    exact pM S (fun b hb=>heap_alloc_old _ _ (by injection hb with hb;subst hb;rw[World.size_setCell];exact hbs))
   case measure=>simp[intOf];omega
  ·have rT:¬ (k:Int)<(n:Int):=by omega
   have hkn:k=n:=by omega
   subst hkn
   go_wp2
   go_ret
   exact ⟨w.heap.size,rfl,by rw[←Aq (.int .i64 0) xs k VI.out];exact hown,hgr⟩
end Go.Proofs.YtpibgolaaaemnaaGreatDoor
