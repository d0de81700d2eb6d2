import Derived.Test.YtlfifnpjeangmaaGreatDoorGEBase
import Derived.Test.YtlfifnpjeangmaaGreatDoorGEMem
namespace Go.Proofs.YtlfifnpjeangmaaGreatDoor
set_option maxHeartbeats 1000000
open Proofs.Tryz Go.RowKit
set_option maxRecDepth 100000
theorem mT{p:Prop}(h:p:=by rw[hn];exact hlt):p:=h
theorem yU(d b a)(x)(w)(o:x=b.toNat)(n:b.toNat<9223372036854775808):Calls prog 121 #[H (d.toNat:Int),Y x,H (a.toNat:Int)] w λe f=>e=.returned (H ((Pure.head d b a).toNat:Int))/\w.grownBy f none:=by
 subst o
 go_in
 go_wp2_with fail
 refine(uz w.1.size 17 [] d 8 0 _ (gU.new w _ _ 17 rfl O) rfl aZ Z).mono ?_
 rintro e p ⟨rfl,h,j⟩
 go_wp2_with fail
 refine(xI w.1.size 17 _ b 1 8 _ h (by simp[Pure.bQ]) aZ (by simp[Pure.bQ]) _ rfl n).mono ?_
 rintro e q ⟨rfl,i,k⟩
 go_wp2_with fail
 refine(uz w.1.size 17 _ a 8 9 _ i (by simp[Pure.bQ]) aZ (by simp[Pure.bQ])).mono ?_
 rintro e w3 ⟨rfl,m,l⟩
 go_wp2_with fail
 have f:17=(Pure.Db d b a).length:=by simp[Pure.Db,Pure.bQ]
 have g:At w3 (some ⟨w.1.size,0,none⟩) (Pure.Db d b a):=by
  grind [gU.at,Pure.Db]
 have G:=Je (Je (Je (cx w _ none) j (cy _)) k (cy _)) l (cy _)
 have C:=WV (Pure.Db d b a) (some ⟨w.1.size,0,none⟩) 17 w3 (by rw[<-f];omega) g
 rw[<-f]at C
 clear h i m j k l g f
 refine C.mono ?_
 rintro e f ⟨rfl,rfl⟩
 go_wp2
 go_ret
 exact⟨rfl,G⟩
theorem WW(head)(a:E)(k)(b:k<a.length):(Pure.veil head (a.take k)++a.drop k).set k (a[k] ^^^ Pure.mask head k)=Pure.veil head (a.take (k+1))++a.drop (k+1):=by
 have d:(Pure.veil head (a.take k)).length=k:=by grind [Pure.eD]
 rw[List.set_append_right _ _ G,d,gE,List.drop_eq_getElem_cons b,ej,Pure.Ha head a k b,du];rfl
theorem WX(head)(a:E)(k)(b:k<a.length):(Pure.veil head (a.take k)++a.drop k)[k]?=some a[k]:=by
 have d:(Pure.veil head (a.take k)).length=k:=by grind [Pure.eD]
 rw[cY G,d,gE,List.getElem?_drop,ft,cL b]
theorem He{w:World}{b o:Nat}{d:List Value}(h:w.rangeAt b o d)(k)(v):(w.setCell (F b (o+k)) v).rangeAt b o (d.set k v):=by
 intro j u a;rw[List.getElem?_set]at a;split at a
 .rename_i e;subst e;split at a
  .rename_i hk;injection a with a;subst a;exact World.cell?_setCell_same _ _ _ (h k d[k] (cL hk))
  .cases a
 .rename_i e;rw[iA _ _ _ _ fA];exact h j u a
theorem Sd(g a q n)(head)(d)(w)(v:b' w g (a+n))(hn:Hid (d.length=n))(D:n<=140737488355328)(J:w.rangeAt g a (d.map U8)):Calls prog 122 #[ς g a n q,H (head.toNat:Int)] w λe f=>e=.returned (.tuple #[])/\f.rangeAt g a ((Pure.veil head d).map U8)/\CF w f (λb o=>b=g/\a<=o/\o<a+n):=by
 have y:=v.lt
 go_in
 go_wp2
 go_loopw [5,6,9] (λ_ _ i wr=>∃k:Nat,k<=n/\i = ι k/\wr.rangeAt g a ((Pure.veil head (d.take k)++d.drop k).map U8)/\gU wr w.1.size 2 []/\CF w wr (λb o=>b=g/\a<=o/\o<a+n)) (λ_ _ i _=>n-(intOf i).toNat)
 case atStart=>exact⟨0,cS _,rfl,by grind [World.rangeAt_alloc,Pure.veil],gU.new w _ _ 2 rfl O,(CF.refl _ _).alloc _⟩
 case round=>
  obtain⟨k,C,rfl,f,m,l⟩:=hrel;by_cases hlt:k<n
  .have K:(k:Int)<(n:Int):=G;have A:(0:Int)<=(k:Int):=G;have r:k<d.length:=mT;have i:wr.c g (a+k)=some (.int .u8 (d[k].toNat:Int)):=f k (U8 d[k]) (by grind [WX]);have b:=Pure.mV k G;have X:Hid ((k:Int)=(((UInt64.ofNat k).toNat:Nat):Int)):=(by rw[b];exact rfl);have Y:(UInt64.ofNat k).toNat<9223372036854775808:=(by rw[b];omega);clear b;go_wp2_with fail;refine(xI w.1.size 2 [] (UInt64.ofNat k) 2 0 _ m rfl G Z _ X Y).mono ?_;rintro e t ⟨rfl,h,b⟩;have x:=b.cell i j';have p:t.rangeAt g a ((Pure.veil head (d.take k)++d.drop k).map U8):=λj u B=>b.cell (f j u B) j';have j:=l.row b (cy _);clear f m l i b;go_wp2_with fail;refine(uy head (Pure.be (UInt64.ofNat k) 2) (some ⟨w.1.size,0,none⟩) 2 t (by rw[Pure.bQ];omega) (by simpa using h.at)).mono ?_;rintro e l ⟨rfl,rfl⟩;have i:t.z g (a+k)=false:=(v.cf j).frozen _;have f:=I (WU (Pure.fG head (Pure.be (UInt64.ofNat k) 2)) d[k]);go_wp2_with fail;rw[f];refine⟨⟨k+1,by omega,by go_num,?_,h.empty.kept ud,(by grind [CF.setCell])⟩,by simp[intOf];omega⟩;rw[<-WW head d k r,List.map_set];exact He p k _
  .have b:k=n:=G;subst b;go_wp2;go_end0;grind [Hid.o]
theorem Hf(b)(a)(head:UInt64)(w):Calls prog 122 #[.slice b 0 a,H (head.toNat:Int)] w λe d=>e=.returned (.tuple #[])/\w.grownBy d none:=by
 go_in
 go_wp2
 refine wp_loop_rounds 1 ?_
 rw[rounds_succ]
 go_wp2
 go_end0
 grind [cx]
