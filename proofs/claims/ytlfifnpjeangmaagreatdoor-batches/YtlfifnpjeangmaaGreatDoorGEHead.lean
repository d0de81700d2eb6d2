import Derived.Test.YtlfifnpjeangmaaGreatDoorGEBase
import Derived.Test.YtlfifnpjeangmaaGreatDoorGEMem
namespace Go.Proofs.YtlfifnpjeangmaaGreatDoor
set_option maxHeartbeats 1000000
open Proofs.Tryz Go.RowKit
set_option maxRecDepth 100000
theorem ag4{p:Prop}(h:p:=by rw[hn.o];exact hlt):p:=h
theorem yS(key a draw)(x)(w)(k:x=a.toNat)(l:a.toNat<9223372036854775808):
  Calls prog 121 #[υ key.toNat,ι x,υ draw.toNat] w λe w'=>e=.returned (υ ((Pure.head key a draw).toNat:Int))/\w.grownBy w' none:=by
 subst k
 go_enter func121,ntmps121
 go_wp2_with fail
 refine(uq w.heap.size 17 [] key 8 0 _ (Buf.new w _ _ 17 rfl agF) rfl agE agI).mono ?_
 rintro e m ⟨rfl,g,i⟩
 go_wp2_with fail
 refine(xE w.heap.size 17 _ a 1 8 _ g (by simp[Pure.dm]) agE (by simp[Pure.dm]) _ rfl l).mono ?_
 rintro e w2 ⟨rfl,d,c⟩
 go_wp2_with fail
 refine(uq w.heap.size 17 _ draw 8 9 _ d (by simp[Pure.dm]) agE (by simp[Pure.dm])).mono ?_
 rintro e w3 ⟨rfl,j,f⟩
 go_wp2_with fail
 have b:17=(Pure.CX key a draw).length:=by simp[Pure.CX,Pure.dm]
 have h:At w3 (some ⟨w.heap.size,0,none⟩) (Pure.CX key a draw):=by
  grind [Buf.at,Pure.CX]
 have G:=Ja (Ja (Ja (cx w _ none) i (cy _)) c (cy _)) f (cy _)
 have C:=Wz (Pure.CX key a draw) (some ⟨w.heap.size,0,none⟩) 17 w3 (by rw[<-b];omega) h
 rw[<-b]at C
 clear g d j i c f h b
 refine C.mono ?_
 rintro e n ⟨rfl,rfl⟩
 go_wp2
 go_ret
 exact⟨rfl,G⟩
theorem WA(head)(zs:List UInt8)(k)(a:k<zs.length):(Pure.veil head (zs.take k)++zs.drop k).set k (zs[k] ^^^ Pure.mask head k)=Pure.veil head (zs.take (k+1))++zs.drop (k+1):=by
 have b:(Pure.veil head (zs.take k)).length=k:=by grind [Pure.gP]
 rw[List.set_append_right _ _ agE,b,gE,List.drop_eq_getElem_cons a,ej,Pure.G8 head zs k a,du];rfl
theorem WB(head)(zs:List UInt8)(k)(a:k<zs.length):(Pure.veil head (zs.take k)++zs.drop k)[k]?=some zs[k]:=by
 have b:(Pure.veil head (zs.take k)).length=k:=by grind [Pure.gP]
 rw[cY agE,b,gE,List.getElem?_drop,ft,cL a]
theorem G9{w:World}{b o:Nat}{cs:List Value}(h:w.rangeAt b o cs)(k)(v):(w.setCell (b,o+k) v).rangeAt b o (cs.set k v):=by
 intro j u a;rw[List.getElem?_set]at a;split at a
 ·rename_i e;subst e;split at a
  ·rename_i hk;injection a with a;subst a;exact World.cell?_setCell_same _ _ _ (h k cs[k] (cL hk))
  ·cases a
 ·rename_i e;rw[World.cell?_setCell_other _ _ _ _ agM];exact h j u a
theorem RX(g off cap n:Nat)(head)(zs)(w)(t:Live w g (off+n))(hn:Hid (zs.length=n))(E:n<=140737488355328)(F:w.rangeAt g off (zs.map U8)):
  Calls prog 122 #[.slice (some (g,off)) n cap,υ head.toNat] w λe w'=>e=.returned (.tuple #[])/\w'.rangeAt g off ((Pure.veil head zs).map U8)/\CF w w' (λb o=>b=g/\off<=o/\o<off+n):=by
 have x:=t.lt
 go_enter func122,ntmps122
 go_wp2
 go_loopw [5,6,9] (λ_ _ i wr=>∃k:Nat,k<=n/\i = ι k/\wr.rangeAt g off ((Pure.veil head (zs.take k)++zs.drop k).map U8)/\Buf wr w.heap.size 2 []/\CF w wr (λb o=>b=g/\off<=o/\o<off+n)) (λ_ _ i _=>n-(intOf i).toNat)
 case atStart=>exact⟨0,cS _,rfl,by grind [World.rangeAt_alloc,Pure.veil],Buf.new w _ _ 2 rfl agF,(CF.refl _ _).alloc _⟩
 case round=>
  obtain⟨k,D,rfl,c,l,f⟩:=hrel;by_cases hlt:k<n
  ·have G:(k:Int)<(n:Int):=agE;have v:(0:Int)<=(k:Int):=agE;have m:k<zs.length:=ag4;have d:wr.cell? (g,off+k)=some (.int .u8 (zs[k].toNat:Int)):=c k (U8 zs[k]) (by grind [WB]);have q:=Pure.mR k agE;have X:Hid ((k:Int)=(((UInt64.ofNat k).toNat:Nat):Int)):=(by rw[q];exact rfl);have Y:(UInt64.ofNat k).toNat<9223372036854775808:=(by rw[q];omega);clear q;go_wp2_with fail;refine(xE w.heap.size 2 [] (UInt64.ofNat k) 2 0 _ l rfl agE agI _ X.o Y).mono ?_;rintro e r ⟨rfl,h,a⟩;have z:=a.cell d ag2;have s:r.rangeAt g off ((Pure.veil head (zs.take k)++zs.drop k).map U8):=λj u A=>a.cell (c j u A) ag2;have B:=f.row a (cy _);clear c l f d a;go_wp2_with fail;refine(uo head (Pure.be (UInt64.ofNat k) 2) (some ⟨w.heap.size,0,none⟩) 2 r (by rw[Pure.dm];omega) (by simpa using h.at)).mono ?_;rintro e w2 ⟨rfl,rfl⟩;have C:r.frozen? (g,off+k)=false:=(t.cf B).frozen _;have y:=hid (Wx (Pure.iG head (Pure.be (UInt64.ofNat k) 2)) zs[k]);go_wp2_with fail;rw[y.o];refine⟨⟨k+1,by omega,by go_num,?_,h.empty.kept ahF,(by grind [CF.setCell])⟩,by simp[intOf];omega⟩;rw[<-WA head zs k m,List.map_set];exact G9 s k _
  ·have p:k=n:=agE;subst p;go_wp2;go_end0;grind [RowKit.Hid.o]
theorem Ha(a)(cap)(head:UInt64)(w):
  Calls prog 122 #[.slice a 0 cap,υ head.toNat] w λe w'=>e=.returned (.tuple #[])/\w.grownBy w' none:=by
 go_enter func122,ntmps122
 go_wp2
 refine wp_loop_rounds 1 ?_
 rw[rounds_succ]
 go_wp2
 go_end0
 grind [cx]
end Go.Proofs.YtlfifnpjeangmaaGreatDoor
