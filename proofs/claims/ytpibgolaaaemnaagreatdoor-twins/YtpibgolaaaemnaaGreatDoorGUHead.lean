/-
  
-/
import Derived.Test.YtpibgolaaaemnaaGreatDoorGUBase
import Derived.Test.YtpibgolaaaemnaaGreatDoorGUMem
namespace Go.Proofs.YtpibgolaaaemnaaGreatDoor
open Go.RowKit
set_option maxRecDepth 100000
set_option maxHeartbeats 400000 in
theorem vY (key use draw:UInt64) (x:Int) (w:World) (hx:x=use.toNat) (hv:use.toNat<9223372036854775808) :
  Calls Tryz.prog 108 #[.int .u64 (key.toNat:Int),.int .i64 x,.int .u64 (draw.toNat:Int)] w fun e w'=>e = .returned (.int .u64 ((Pure.head key use draw).toNat:Int))∧w.grownBy w' none:=by
 subst hx
 go_enter Tryz.func108,Tryz.ntmps108
 go_wp2_with fail
 refine (ql w.heap.size 17 [] key 8 0 _ (Buf.new w _ _ 17 rfl (by decide)) rfl (by omega) (by simp)).mono ?_
 rintro e w1 ⟨rfl,hb1,hg1⟩
 go_wp2_with fail
 refine (uz w.heap.size 17 _ use 1 8 _ hb1 (by simp[Pure.di]) (by omega) (by simp[Pure.di]) _ rfl hv).mono ?_
 rintro e w2 ⟨rfl,hb2,hg2⟩
 go_wp2_with fail
 refine (ql w.heap.size 17 _ draw 8 9 _ hb2 (by simp[Pure.di]) (by omega) (by simp[Pure.di])).mono ?_
 rintro e w3 ⟨rfl,hb3,hg3⟩
 go_wp2_with fail
 have h17:17=(Pure.Dg key use draw).length:=by simp[Pure.Dg,Pure.di]
 have hat:At w3 (some ⟨w.heap.size,0,none⟩) (Pure.Dg key use draw):=by
  have:=hb3.at
  simpa[Pure.Dg] using this
 have G:w.grownBy w3 none:=Es (Es (Es (World.grownBy_alloc w _ none) hg1 (Nat.le_refl _)) hg2 (Nat.le_refl _)) hg3 (Nat.le_refl _)
 have C:=QD (Pure.Dg key use draw) (some ⟨w.heap.size,0,none⟩) 17 w3 (by rw[←h17];omega) hat
 rw[←h17] at C
 clear hb1 hb2 hb3 hg1 hg2 hg3 hat h17
 refine C.mono ?_
 rintro e w4 ⟨rfl,rfl⟩
 go_wp2
 go_ret
 exact ⟨rfl,G⟩
theorem QE (head:UInt64) (zs:List UInt8) (k:Nat) (hk:k<zs.length):(Pure.veil head (zs.take k)++zs.drop k).set k (zs[k] ^^^ Pure.mask head k)=Pure.veil head (zs.take (k+1))++zs.drop (k+1):=by
 have hl:(Pure.veil head (zs.take k)).length=k:=by rw[Pure.eu,List.length_take];omega
 rw[List.set_append_right _ _ (by omega),hl,Nat.sub_self,List.drop_eq_getElem_cons hk,List.set_cons_zero,Pure.NJ head zs k hk,List.append_assoc]
 rfl
theorem QF (head:UInt64) (zs:List UInt8) (k:Nat) (hk:k<zs.length):(Pure.veil head (zs.take k)++zs.drop k)[k]?=some zs[k]:=by
 have hl:(Pure.veil head (zs.take k)).length=k:=by rw[Pure.eu,List.length_take];omega
 rw[List.getElem?_append_right (by omega),hl,Nat.sub_self,List.getElem?_drop,Nat.add_zero,List.getElem?_eq_getElem hk]
theorem NN {w:World} {b o:Nat} {cs:List Value} (h:w.rangeAt b o cs) (k:Nat) (v:Value):(w.setCell ⟨b,o+k,none⟩ v).rangeAt b o (cs.set k v):=by
 intro j u hu
 rw[List.getElem?_set] at hu
 split at hu
 ·rename_i e
  subst e
  split at hu
  ·rename_i hk
   injection hu with hu
   subst hu
   exact World.cell?_setCell_same _ _ _ (h k cs[k] (List.getElem?_eq_getElem hk))
  ·cases hu
 ·rename_i e
  rw[World.cell?_setCell_other _ _ _ _ (fun e'=>e (by injection e' with _ e';omega))]
  exact h j u hu
set_option maxHeartbeats 1000000 in
theorem MB (g off cap n:Nat) (head:UInt64) (zs:List UInt8) (w:World) (hL:Live w g (off+n)) (hn:Hid (zs.length=n)) (hl:n≤140737488355328) (hz:w.rangeAt g off (zs.map U8)) :
  Calls Tryz.prog 110 #[.slice (some ⟨g,off,none⟩) n cap,.int .u64 (head.toNat:Int)] w fun e w'=>e = .returned (.tuple #[])∧w'.rangeAt g off ((Pure.veil head zs).map U8)∧CF w w' (fun b o=>b=g∧off≤o∧o<off+n):=by
 have hgw:=hL.lt
 go_enter Tryz.func110,Tryz.ntmps110
 go_wp2
 go_loopw [5,6,9] (fun _ _ i wr=>∃ k:Nat,k≤n∧i = .int .i64 k∧wr.rangeAt g off ((Pure.veil head (zs.take k)++zs.drop k).map U8)∧Buf wr w.heap.size 2 []∧CF w wr (fun b o=>b=g∧off≤o∧o<off+n)) (fun _ _ i _=>n-(intOf i).toNat)
 case atStart=>exact ⟨0,Nat.zero_le _,rfl,by simpa[Pure.veil] using World.rangeAt_alloc hz _,Buf.new w _ _ 2 rfl (by decide),(CF.refl _ _).alloc _⟩
 case round=>
  obtain ⟨k,hk,rfl,hbr,hrr,hgr⟩:=hrel
  by_cases hlt:k<n
  ·have rT:(k:Int)<(n:Int):=by omega
   have hk0:(0:Int)≤(k:Int):=by omega
   have hkz:k<zs.length:=by rw[hn.out];exact hlt
   have hck:wr.cell? ⟨g,off+k,none⟩=some (.int .u8 (zs[k].toNat:Int)):=hbr k (U8 zs[k]) (by rw[List.getElem?_map,QF head zs k hkz];rfl)
   have e1:(UInt64.ofNat k).toNat=k:=Pure.jR k (by omega)
   have X:Hid ((k:Int)=(((UInt64.ofNat k).toNat:Nat):Int)):=by rw[e1];exact rfl
   have Y:(UInt64.ofNat k).toNat<9223372036854775808:=by rw[e1];omega
   clear e1
   go_wp2_with fail
   refine (uz w.heap.size 2 [] (UInt64.ofNat k) 2 0 _ hrr rfl (by omega) (by simp) _ X.out Y).mono ?_
   rintro e w1 ⟨rfl,hb1,hg1⟩
   have al6:w1.cell? ⟨g,off+k,none⟩=some (.int .u8 (zs[k].toNat:Int)):=hg1.cell hck (by simp;omega)
   have afi:w1.rangeAt g off ((Pure.veil head (zs.take k)++zs.drop k).map U8):=fun j u hu=>hg1.cell (hbr j u hu) (by simp;omega)
   have G1:CF w w1 (fun b o=>b=g∧off≤o∧o<off+n):=hgr.row hg1 (Nat.le_refl _)
   clear hbr hrr hgr hck hg1
   go_wp2_with fail
   refine (qj head (Pure.be (UInt64.ofNat k) 2) (some ⟨w.heap.size,0,none⟩) 2 w1 (by rw[Pure.di];omega) (by simpa using hb1.at)).mono ?_
   rintro e w2 ⟨rfl,rfl⟩
   have hfz:w1.frozen? ⟨g,off+k,none⟩=false:=(hL.cf G1).frozen _
   have HM:=hid (QC (Pure.lQ head (Pure.be (UInt64.ofNat k) 2)) zs[k])
   go_wp2_with fail
   rw[HM.out]
   refine ⟨⟨k+1,by omega,by go_num,?_,hb1.empty.kept (Below.heap_setCell _ _ _ _ (by show w.heap.size≠g;omega)),G1.setCell g (off+k) _ (fun _=>⟨rfl,by omega,by omega⟩)⟩,by simp[intOf];omega⟩
   rw[←QE head zs k hkz,List.map_set]
   exact NN afi k _
  ·have hks:k=n:=by omega
   subst hks
   go_wp2
   go_end0
   exact ⟨rfl,by rw[List.take_of_length_le (by rw[hn.out];exact Nat.le_refl _),List.drop_eq_nil_of_le (by rw[hn.out];exact Nat.le_refl _),List.append_nil] at hbr;exact hbr,hgr⟩
set_option maxHeartbeats 400000 in
theorem Di (ao:Option Addr) (cap:Nat) (head:UInt64) (w:World) :
  Calls Tryz.prog 110 #[.slice ao 0 cap,.int .u64 (head.toNat:Int)] w fun e w'=>e = .returned (.tuple #[])∧w.grownBy w' none:=by
 go_enter Tryz.func110,Tryz.ntmps110
 go_wp2
 refine wp_loop_rounds 1 ?_
 rw[rounds_succ]
 go_wp2
 go_end0
 exact ⟨rfl,World.grownBy_alloc _ _ _⟩
end Go.Proofs.YtpibgolaaaemnaaGreatDoor
