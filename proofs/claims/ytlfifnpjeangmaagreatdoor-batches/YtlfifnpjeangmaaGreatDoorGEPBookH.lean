import Derived.Test.YtlfifnpjeangmaaGreatDoorGEPBookA
import Derived.Test.YtlfifnpjeangmaaGreatDoorGESep
namespace Go.Proofs.YtlfifnpjeangmaaGreatDoor
set_option maxHeartbeats 1000000
open Proofs.Tryz Go.RowKit
set_option maxRecDepth 100000
theorem Tryz.abL:(prog.info? 9).map (λi=>(i.zero,i.size,i.bytes))=some (some (.string ⟨#[]⟩),1,16):=by kernel_rfl
theorem Tryz.abM:(prog.info? 3).map (λi=>(i.zero,i.size,i.bytes))=some (some (ι 0),1,8):=by kernel_rfl
theorem T9(z)(n):(madeCells #[z] n).toList=List.replicate n z:=by
 refine List.ext_getElem? λi=>?_;simp only[madeCells,Array.toList_map,Array.toList_range,eA,List.getElem?_replicate];grind
theorem LH(w:World)(z)(n)(e)(hn:n<=maxLen):(w.alloc (.cells (madeCells #[z] n) e)).ownsRow w.heap.size e 1 (.slice (some (w,0)) n n) n (List.replicate n z):=
 ⟨by rw[fs,fR],.inr ⟨_,n,madeCells #[z] n,rfl,cy _,heap_alloc_new w _,cy _,hn,by rw[size_madeCells,fR],by rw[T9,fR,cU agM]⟩⟩
theorem Am{w:World}{base:Nat}{e:TypeId}{g n c:Nat}{l:List Value}(h:w.ownsRow base e 1 (.slice (some (g,0)) n c) n l):g<w.heap.size/\∀j,j<n->∃v,w.cell? ⟨g,j,none⟩=some v:=by
 rcases h.2 with⟨d,_⟩|⟨q,cap,a,d,r,o,m,i,b,k⟩
 ·cases d
 ·injection d with e1 _ e3;injection e1 with e1;injection e1 with e1 _ _;subst e1 e3;refine⟨agM,λj p=>?_⟩;have f:j<a.size:=by rw[b];omega
  exact⟨a[j],by simp[World.cell?,o,f]⟩
def partly(z:Value)(xs:List Value)(n k:Nat):List Value:=xs.take k++List.replicate (n-k) z
theorem Bh(z)(a)(n):partly z a n 0=List.replicate n z:=by simp[partly]
theorem DY(z)(a)(n)(h:a.length=n):partly z a n n=a:=by simp[partly,<-h]
theorem DZ(z)(a)(n k)(h:a.length=n)(b:k<n):(partly z a n k).set k (a[k]'agE)=partly z a n (k+1):=by
 unfold partly;rw[List.set_append_right _ _ (by rw[ep];omega),ep,gh agE,gE,show n-k=(n-(k+1))+1 from by omega,List.replicate_succ,ej,dy agE,du];rfl
theorem aaY{p:Prop}(h:p:=by
 obtain⟨hbs,hth⟩:=Am hown
 obtain⟨vk,hvk⟩:=hth k hlt
 have hfz:=oh hown k
 clear hBr hth
 go_wp2
 go_roundw
 case rel=>
  refine⟨k+1,hlt,rfl,?_,aM (az hgr (cy _)) _⟩
  have S:=mG hown k (xs[k]'(by rw[HXl.o];exact hlt))
  rw[DZ _ xs n k HXl.o hlt,HV.o]at S
  exact bZ S (λb hb=>heap_alloc_old _ _ (by injection hb with hb;subst hb;rw[World.size_setCell];exact hbs))
 case measure=>simp[intOf];omega):p:=h
theorem Ua(g o:Nat)(a)(w)(h:bS w g o a):
  Calls prog 114 #[(g,o)] w λe w'=>∃b,e=.returned (.slice (some ⟨b,0,none⟩) a.length a.length)/\w'.ownsRow w.heap.size 9 1 (.slice (some ⟨b,0,none⟩) a.length a.length) a.length (a.map λx=>.string x.name)/\w.grownBy w' none:=by
 have u:=h.count
 have t:=h.len
 have r:=h.live.lt
 have f:=hid (λw h=>vN g o a w h)
 obtain⟨n,m⟩:∃n,Hid (a.length=n):=⟨_,hid rfl⟩
 rw[m.o]at u t f⊢
 have l:=λw=>run_make_row' (P:=prog) 62 9 (.string ⟨#[]⟩) 16 underlying62 Tryz.abL rfl .i64 .i64 n agE agE w
 have i:=hid (cx w (.cells (madeCells #[.string ⟨#[]⟩] n) 9) none)
 have p:=hid (LH w (.string ⟨#[]⟩) n 9 ag1)
 have HB:=hid h
 obtain⟨xs,d⟩:∃xs:List Value,Hid (xs=a.map λx=>.string x.name):=⟨_,hid rfl⟩
 have HXl:Hid (xs.length=n):=by show _=_;rw[d.o,cR];exact m.o
 rw[<-d.o]
 clear h
 go_enter func114,ntmps114
 go_wp2_with fail
 refine(f.o _ (HB.o.grown i.o)).mono ?_
 rintro e w' ⟨rfl,q,rfl⟩
 clear f l
 have v:Hid (((w.alloc (.cells (madeCells #[.string ⟨#[]⟩] n) 9)).drewN q).ownsRow w.heap.size 9 1 (.slice (some (w,0)) n n) n (partly (.string ⟨#[]⟩) xs n 0)):=by
  rw[Bh];exact p.o
 have z:=hid (aR i.o q)
 clear p i
 go_wp2_with fail
 go_loopw [14] (λc wr=>∃k:Nat,k<=n/\c = ι k/\wr.ownsRow w.heap.size 9 1 (.slice (some ⟨w.heap.size,0,none⟩) n n) n (partly (.string ⟨#[]⟩) xs n k)/\w.grownBy wr none) (λc _=>((n:Int)-intOf c).toNat)
 case atStart=>exact⟨0,cS _,rfl,v.o,z.o⟩
 case round=>
  obtain⟨k,B,rfl,hown,hgr⟩:=hrel;by_cases hlt:k<n
  ·have hkl:k<a.length:=(by rw[m.o];exact hlt);have y:(k:Int)<(n:Int):=agE;have s:(0:Int)<=(k:Int):=agE;have hBr:=HB.o.grown hgr;obtain⟨F,A,C,E,I,G,H,D⟩:=hBr.eight k hkl _ rfl;have HV:Hid (xs[k]'(by rw[HXl.o];exact hlt)=.string ⟨(a[k]).name.toArray⟩):=(by show _=_;simp only[d.o,List.getElem_map]);exact aaY
  ·have y:¬ (k:Int)<(n:Int):=agE;have j:k=n:=agE;subst j;go_wp2;go_ret;exact⟨w.heap.size,rfl,by rw[<-DY (.string ⟨#[]⟩) xs k HXl.o];exact hown,hgr⟩
theorem LK(g o:Nat)(a)(w)(h:bS w g o a):
  Calls prog 115 #[(g,o)] w λe w'=>∃b,e=.returned (.slice (some ⟨b,0,none⟩) a.length a.length)/\w'.ownsRow w.heap.size 3 1 (.slice (some ⟨b,0,none⟩) a.length a.length) a.length (a.map λx=>ι x.aH)/\w.grownBy w' none:=by
 have u:=h.count
 have t:=h.len
 have r:=h.live.lt
 have f:=hid (λw h=>vN g o a w h)
 obtain⟨n,m⟩:∃n,Hid (a.length=n):=⟨_,hid rfl⟩
 rw[m.o]at u t f⊢
 have l:=λw=>run_make_row' (P:=prog) 24 3 (ι 0) 8 underlying24 Tryz.abM rfl .i64 .i64 n agE agE w
 have i:=hid (cx w (.cells (madeCells #[ι 0] n) 3) none)
 have p:=hid (LH w (ι 0) n 3 ag1)
 have HB:=hid h
 obtain⟨xs,d⟩:∃xs:List Value,Hid (xs=a.map λx=>ι x.aH):=⟨_,hid rfl⟩
 have HXl:Hid (xs.length=n):=by show _=_;rw[d.o,cR];exact m.o
 rw[<-d.o]
 clear h
 go_enter func115,ntmps115
 go_wp2_with fail
 refine(f.o _ (HB.o.grown i.o)).mono ?_
 rintro e w' ⟨rfl,q,rfl⟩
 clear f l
 have v:Hid (((w.alloc (.cells (madeCells #[ι 0] n) 3)).drewN q).ownsRow w.heap.size 3 1 (.slice (some (w,0)) n n) n (partly (ι 0) xs n 0)):=by
  rw[Bh];exact p.o
 have z:=hid (aR i.o q)
 clear p i
 go_wp2_with fail
 go_loopw [14] (λc wr=>∃k:Nat,k<=n/\c = ι k/\wr.ownsRow w.heap.size 3 1 (.slice (some ⟨w.heap.size,0,none⟩) n n) n (partly (ι 0) xs n k)/\w.grownBy wr none) (λc _=>((n:Int)-intOf c).toNat)
 case atStart=>exact⟨0,cS _,rfl,v.o,z.o⟩
 case round=>
  obtain⟨k,B,rfl,hown,hgr⟩:=hrel;by_cases hlt:k<n
  ·have hkl:k<a.length:=(by rw[m.o];exact hlt);have y:(k:Int)<(n:Int):=agE;have s:(0:Int)<=(k:Int):=agE;have hBr:=HB.o.grown hgr;obtain⟨F,A,C,E,I,G,H,D⟩:=hBr.eight k hkl _ rfl;have HV:Hid (xs[k]'(by rw[HXl.o];exact hlt) = ι (a[k]).aH):=(by show _=_;simp only[d.o,List.getElem_map]);exact aaY
  ·have y:¬ (k:Int)<(n:Int):=agE;have j:k=n:=agE;subst j;go_wp2;go_ret;exact⟨w.heap.size,rfl,by rw[<-DY (ι 0) xs k HXl.o];exact hown,hgr⟩
end Go.Proofs.YtlfifnpjeangmaaGreatDoor
