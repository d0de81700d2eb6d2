import Derived.Test.YteknelimjfgmaaaGreatDoorGJBase
import Derived.Test.YteknelimjfgmaaaGreatDoorGJMem
namespace Go.Proofs.YteknelimjfgmaaaGreatDoor
set_option maxHeartbeats 1000000
open Proofs.Tryz Go.RowKit
set_option maxRecDepth 100000
theorem afM {p:Prop} (h:p:=by rw[hn.o];exact bd _):p:=h
theorem xU (key use draw:UInt64) (x:Int) (w:World) (hx:x=use.toNat) (hv:use.toNat<9223372036854775808) :
  Calls prog 123 #[.int .u64 (key.toNat:Int),.int .i64 x,.int .u64 (draw.toNat:Int)] w fun e w'=>e = .returned (.int .u64 ((Pure.head key use draw).toNat:Int))/\w.grownBy w' none:=by
 subst hx
 go_enter func123,ntmps123
 go_wp2_with fail
 refine (sW w.heap.size 17 [] key 8 0 _ (Buf.new w _ _ 17 rfl afq) rfl afp aft).mono ?_
 rintro e w1 ⟨rfl,hb1,hg1⟩
 go_wp2_with fail
 refine (wI w.heap.size 17 _ use 1 8 _ hb1 (by simp[Pure.bX]) afp (by simp[Pure.bX]) _ rfl hv).mono ?_
 rintro e w2 ⟨rfl,hb2,hg2⟩
 go_wp2_with fail
 refine (sW w.heap.size 17 _ draw 8 9 _ hb2 (by simp[Pure.bX]) afp (by simp[Pure.bX])).mono ?_
 rintro e w3 ⟨rfl,hb3,hg3⟩
 go_wp2_with fail
 have h17:17=(Pure.Bu key use draw).length:=by simp[Pure.Bu,Pure.bX]
 have hat:At w3 (some ⟨w.heap.size,0,none⟩) (Pure.Bu key use draw):=by
  have:=hb3.at;simpa[Pure.Bu] using this
 have G:w.grownBy w3 none:=Gi (Gi (Gi (aE w _ none) hg1 (bd _)) hg2 (bd _)) hg3 (bd _)
 have C:=Sz (Pure.Bu key use draw) (some ⟨w.heap.size,0,none⟩) 17 w3 (by rw[<-h17];omega) hat
 rw[<-h17] at C
 clear hb1 hb2 hb3 hg1 hg2 hg3 hat h17
 refine C.mono ?_
 rintro e w4 ⟨rfl,rfl⟩
 go_wp2
 go_ret
 exact ⟨rfl,G⟩
theorem SA (head:UInt64) (zs:List UInt8) (k:Nat) (hk:k<zs.length):(Pure.veil head (zs.take k)++zs.drop k).set k (zs[k] ^^^ Pure.mask head k)=Pure.veil head (zs.take (k+1))++zs.drop (k+1):=by
 have hl:(Pure.veil head (zs.take k)).length=k:=by rw[Pure.gq,cG];omega
 rw[List.set_append_right _ _ afp,hl,gE,List.drop_eq_getElem_cons hk,dy,Pure.EI head zs k hk,cR];rfl
theorem SB (head:UInt64) (zs:List UInt8) (k:Nat) (hk:k<zs.length):(Pure.veil head (zs.take k)++zs.drop k)[k]?=some zs[k]:=by
 have hl:(Pure.veil head (zs.take k)).length=k:=by rw[Pure.gq,cG];omega
 rw[cM afp,hl,gE,List.getElem?_drop,eR,cr hk]
theorem EJ {w:World} {b o:Nat} {cs:List Value} (h:w.rangeAt b o cs) (k:Nat) (v:Value):(w.setCell ⟨b,o+k,none⟩ v).rangeAt b o (cs.set k v):=by
 intro j u hu;rw[List.getElem?_set] at hu;split at hu
 ·rename_i e;subst e;split at hu
  ·rename_i hk;injection hu with hu;subst hu;exact World.cell?_setCell_same _ _ _ (h k cs[k] (cr hk))
  ·cases hu
 ·rename_i e;rw[World.cell?_setCell_other _ _ _ _ (fun e'=>e (by injection e' with _ e';omega))];exact h j u hu
theorem Oy (g off cap n:Nat) (head:UInt64) (zs:List UInt8) (w:World) (hL:Live w g (off+n)) (hn:Hid (zs.length=n)) (hl:n<=140737488355328) (hz:w.rangeAt g off (zs.map U8)) :
  Calls prog 124 #[.slice (some ⟨g,off,none⟩) n cap,.int .u64 (head.toNat:Int)] w fun e w'=>e = .returned (.tuple #[])/\w'.rangeAt g off ((Pure.veil head zs).map U8)/\CF w w' (fun b o=>b=g/\off<=o/\o<off+n):=by
 have hgw:=hL.lt
 go_enter func124,ntmps124
 go_wp2
 go_loopw [5,6,9] (fun _ _ i wr=>∃ k:Nat,k<=n/\i = .int .i64 k/\wr.rangeAt g off ((Pure.veil head (zs.take k)++zs.drop k).map U8)/\Buf wr w.heap.size 2 []/\CF w wr (fun b o=>b=g/\off<=o/\o<off+n)) (fun _ _ i _=>n-(intOf i).toNat)
 case atStart=>exact ⟨0,cE _,rfl,by simpa[Pure.veil] using World.rangeAt_alloc hz _,Buf.new w _ _ 2 rfl afq,(CF.refl _ _).alloc _⟩
 case round=>
  obtain ⟨k,hk,rfl,hbr,hrr,hgr⟩:=hrel;by_cases hlt:k<n
  ·have rF:(k:Int)<(n:Int):=(by omega);have hk0:(0:Int)<=(k:Int):=(by omega);have hkz:k<zs.length:=(by rw[hn.o];exact hlt);have hck:wr.cell? ⟨g,off+k,none⟩=some (.int .u8 (zs[k].toNat:Int)):=hbr k (U8 zs[k]) (by rw[List.getElem?_map,SB head zs k hkz];rfl);have e1:(UInt64.ofNat k).toNat=k:=Pure.lX k afp;have X:Hid ((k:Int)=(((UInt64.ofNat k).toNat:Nat):Int)):=(by rw[e1];exact rfl);have Y:(UInt64.ofNat k).toNat<9223372036854775808:=(by rw[e1];omega);clear e1;go_wp2_with fail;refine (wI w.heap.size 2 [] (UInt64.ofNat k) 2 0 _ hrr rfl afp aft _ X.o Y).mono ?_;rintro e w1 ⟨rfl,hb1,hg1⟩;have anF:w1.cell? ⟨g,off+k,none⟩=some (.int .u8 (zs[k].toNat:Int)):=hg1.cell hck afz;have ahq:w1.rangeAt g off ((Pure.veil head (zs.take k)++zs.drop k).map U8):=fun j u hu=>hg1.cell (hbr j u hu) afz;have G1:CF w w1 (fun b o=>b=g/\off<=o/\o<off+n):=hgr.row hg1 (bd _);clear hbr hrr hgr hck hg1;go_wp2_with fail;refine (sV head (Pure.be (UInt64.ofNat k) 2) (some ⟨w.heap.size,0,none⟩) 2 w1 (by rw[Pure.bX];omega) (by simpa using hb1.at)).mono ?_;rintro e w2 ⟨rfl,rfl⟩;have hfz:w1.frozen? ⟨g,off+k,none⟩=false:=(hL.cf G1).frozen _;have HM:=hid (Sw (Pure.ic head (Pure.be (UInt64.ofNat k) 2)) zs[k]);go_wp2_with fail;rw[HM.o];refine ⟨⟨k+1,by omega,by go_num,?_,hb1.empty.kept (Below.heap_setCell _ _ _ _ (by show w.heap.size≠g;omega)),G1.setCell g (off+k) _ (fun _=>⟨rfl,by omega,by omega⟩)⟩,by simp[intOf];omega⟩;rw[<-SA head zs k hkz,List.map_set];exact EJ ahq k _
  ·have hks:k=n:=(by omega);subst hks;go_wp2;go_end0;exact ⟨rfl,by rw[cV afM,List.drop_eq_nil_of_le afM,fg] at hbr;exact hbr,hgr⟩
theorem EK (ao:Option Addr) (cap:Nat) (head:UInt64) (w:World) :
  Calls prog 124 #[.slice ao 0 cap,.int .u64 (head.toNat:Int)] w fun e w'=>e = .returned (.tuple #[])/\w.grownBy w' none:=by
 go_enter func124,ntmps124
 go_wp2
 refine wp_loop_rounds 1 ?_
 rw[rounds_succ]
 go_wp2
 go_end0
 exact ⟨rfl,aE _ _ _⟩
end Go.Proofs.YteknelimjfgmaaaGreatDoor
