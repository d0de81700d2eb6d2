import Derived.Test.YticfhckmhcaigaaGreatDoorGEBase
import Derived.Test.YticfhckmhcaigaaGreatDoorGEMem
namespace Go.Proofs.YticfhckmhcaigaaGreatDoor
set_option maxHeartbeats 1000000
open Proofs.Tryz Go.RowKit
set_option maxRecDepth 100000
theorem nB{p:Prop}(h:p:=by rw[hn];exact hlt):p:=h
theorem zY(d b a)(x)(w)(o:x=b.toNat)(n:b.toNat<9223372036854775808):Calls prog 121 #[O (d.toNat:Int),Y x,O (a.toNat:Int)] w λe f=>e=.returned (O ((Pure.head d b a).toNat:Int))/\w.grownBy f none:=by
 subst o
 go_in
 go_wp2_with fail
 refine(ve w.1.size 17 [] d 8 0 _ (iA.new w _ _ 17 rfl H) rfl aZ Z).mono ?_
 rintro e p ⟨rfl,h,j⟩
 go_wp2_with fail
 refine(yN w.1.size 17 _ b 1 8 _ h (by simp[Pure.dB]) aZ (by simp[Pure.dB]) _ rfl n).mono ?_
 rintro e q ⟨rfl,i,k⟩
 go_wp2_with fail
 refine(ve w.1.size 17 _ a 8 9 _ i (by simp[Pure.dB]) aZ (by simp[Pure.dB])).mono ?_
 rintro e w3 ⟨rfl,m,l⟩
 go_wp2_with fail
 have f:17=(Pure.Es d b a).length:=by simp[Pure.Es,Pure.dB]
 have g:At w3 (some ⟨w.1.size,0,none⟩) (Pure.Es d b a):=by
  grind [iA.at,Pure.Es]
 have G:=KO (KO (KO (cy w _ none) j (cA _)) k (cA _)) l (cA _)
 have C:=Nl (Pure.Es d b a) (some ⟨w.1.size,0,none⟩) 17 w3 (by rw[<-f];omega) g
 rw[<-f]at C
 clear h i m j k l g f
 refine C.mono ?_
 rintro e f ⟨rfl,rfl⟩
 go_wp2
 go_ret
 exact⟨rfl,G⟩
theorem Zd(head)(a:E)(k)(b:k<a.length):(Pure.veil head (a.take k)++a.drop k).set k (a[k] ^^^ Pure.mask head k)=Pure.veil head (a.take (k+1))++a.drop (k+1):=by
 have d:(Pure.veil head (a.take k)).length=k:=by grind [Pure.ic]
 rw[List.set_append_right _ _ G,d,ia,List.drop_eq_getElem_cons b,eo,Pure.Jr head a k b,eg];rfl
theorem Ze(head)(a:E)(k)(b:k<a.length):(Pure.veil head (a.take k)++a.drop k)[k]?=some a[k]:=by
 have d:(Pure.veil head (a.take k)).length=k:=by grind [Pure.ic]
 rw[dr G,d,ia,List.getElem?_drop,fN,cN b]
theorem Js{w:World}{b o:Nat}{d:List Value}(h:w.rangeAt b o d)(k)(v):(w.setCell (F b (o+k)) v).rangeAt b o (d.set k v):=by
 intro j u a;rw[List.getElem?_set]at a;split at a
 .rename_i e;subst e;split at a
  .rename_i hk;injection a with a;subst a;exact World.cell?_setCell_same _ _ _ (h k d[k] (cN hk))
  .cases a
 .rename_i e;rw[j9 _ _ _ _ dT];exact h j u a
theorem UN(g a q n)(head)(d)(w)(v:b9 w g (a+n))(hn:Hid (d.length=n))(D:n<=140737488355328)(J:w.rangeAt g a (d.map U8)):Calls prog 122 #[ς g a n q,O (head.toNat:Int)] w λe f=>e=.returned (.tuple #[])/\f.rangeAt g a ((Pure.veil head d).map U8)/\CF w f (λb o=>b=g/\a<=o/\o<a+n):=by
 have y:=v.lt
 go_in
 go_wp2
 go_loopw [5,6,9] (λ_ _ i wr=>∃k:Nat,k<=n/\i = ι k/\wr.rangeAt g a ((Pure.veil head (d.take k)++d.drop k).map U8)/\iA wr w.1.size 2 []/\CF w wr (λb o=>b=g/\a<=o/\o<a+n)) (λ_ _ i _=>n-(intOf i).toNat)
 case atStart=>exact⟨0,cS _,rfl,by grind [World.rangeAt_alloc,Pure.veil],iA.new w _ _ 2 rfl H,(CF.refl _ _).alloc _⟩
 case round=>
  obtain⟨k,C,rfl,f,m,l⟩:=hrel;by_cases hlt:k<n
  .have K:(k:Int)<(n:Int):=G;have A:(0:Int)<=(k:Int):=G;have r:k<d.length:=nB;have i:wr.c g (a+k)=some (.int .u8 (d[k].toNat:Int)):=f k (U8 d[k]) (by grind [Ze]);have b:=Pure.lG k G;have X:Hid ((k:Int)=(((UInt64.ofNat k).toNat:Nat):Int)):=(by rw[b];exact rfl);have Y:(UInt64.ofNat k).toNat<9223372036854775808:=(by rw[b];omega);clear b;go_wp2_with fail;refine(yN w.1.size 2 [] (UInt64.ofNat k) 2 0 _ m rfl G Z _ X Y).mono ?_;rintro e t ⟨rfl,h,b⟩;have x:=b.cell i iS;have p:t.rangeAt g a ((Pure.veil head (d.take k)++d.drop k).map U8):=λj u B=>b.cell (f j u B) iS;have j:=l.row b (cA _);clear f m l i b;go_wp2_with fail;refine(uZ head (Pure.be (UInt64.ofNat k) 2) (some ⟨w.1.size,0,none⟩) 2 t (by rw[Pure.dB];omega) (by simpa using h.at)).mono ?_;rintro e l ⟨rfl,rfl⟩;have i:t.z g (a+k)=false:=(v.cf j).frozen _;have f:=I (Zc (Pure.iD head (Pure.be (UInt64.ofNat k) 2)) d[k]);go_wp2_with fail;rw[f];refine⟨⟨k+1,by omega,by go_num,?_,h.empty.kept vt,(by grind [CF.setCell])⟩,by simp[intOf];omega⟩;rw[<-Zd head d k r,List.map_set];exact Js p k _
  .have b:k=n:=G;subst b;go_wp2;go_end0;grind [Hid.o]
theorem Jt(b)(a)(head:UInt64)(w):Calls prog 122 #[.slice b 0 a,O (head.toNat:Int)] w λe d=>e=.returned (.tuple #[])/\w.grownBy d none:=by
 go_in
 go_wp2
 refine wp_loop_rounds 1 ?_
 rw[rounds_succ]
 go_wp2
 go_end0
 grind [cy]
