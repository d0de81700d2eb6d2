import Derived.Test.YtlfifnpjeangmaaGreatDoorGEPBookA
import Derived.Test.YtlfifnpjeangmaaGreatDoorGESep
namespace Go.Proofs.YtlfifnpjeangmaaGreatDoor
set_option maxHeartbeats 1000000
open Proofs.Tryz Go.RowKit
set_option maxRecDepth 100000
theorem Tryz.abX:(prog.info? 9).map (λi=>(i.zero,i.size,i.bytes))=some (some ε,1,16):=by kernel_rfl
theorem Tryz.abY:(prog.info? 3).map (λi=>(i.zero,i.size,i.bytes))=some (some (Y 0),1,8):=by kernel_rfl
theorem Uk(z)(n):(madeCells #[z] n).toList=List.replicate n z:=by
 refine List.ext_getElem? λi=>?_;simp only[madeCells,Array.toList_map,Array.toList_range,eA,List.getElem?_replicate];grind
theorem LW(w:World)(z)(n)(e)(a:n<=maxLen):(w.alloc (.cells (madeCells #[z] n) e)).ownsRow w.1.size e 1 (ς w.1.size 0 n n) n (List.replicate n z):=
 ⟨by rw[fs,fR],.inr ⟨_,n,madeCells #[z] n,rfl,cy _,heap_alloc_new w _,cy _,a,by rw[size_madeCells,fR],by rw[Uk,fR,cU fA]⟩⟩
theorem Ar{w:World}{a:Nat}{e:TypeId}{g n c:Nat}{q:List Value}(h:w.ownsRow a e 1 (ς g 0 n c) n q):g<w.1.size/\∀j,j<n->∃v,w.c g j=some v:=by
 rcases h.2 with⟨i,_⟩|⟨r,k,b,i,t,m,o,l,d,p⟩
 .cases i
 .injection i with e1 _ e3;injection e1 with e1;injection e1 with e1 _ _;subst e1 e3;refine⟨fA,λj f=>?_⟩;have f:j<b.size:=by rw[d];omega
  exact⟨b[j],by simp[World.cell?,m,f]⟩
def oA(z:Value)(xs:List Value)(n k:Nat):List Value:=xs.take k++List.replicate (n-k) z
theorem Bn(z)(a)(n):oA z a n 0=List.replicate n z:=by simp[oA]
theorem D5(z)(a)(n)(h:a.length=n):oA z a n n=a:=by simp[oA,<-h]
theorem D6(z)(a)(n k)(h:a.length=n)(b:k<n):(oA z a n k).set k (a[k]'G)=oA z a n (k+1):=by
 unfold oA;rw[List.set_append_right _ _ (by rw[ep];omega),ep,gh G,gE,show n-k=(n-(k+1))+1 from by omega,List.replicate_succ,ej,dy G,du];rfl
theorem JT{p:Prop}(h:p:=by
 obtain⟨hbs,hth⟩:=Ar hown
 obtain⟨vk,hvk⟩:=hth k hlt
 have hfz:=ou hown k
 clear hBr hth
 go_wp2
 go_roundw
 case rel=>
  refine⟨k+1,hlt,rfl,?_,aM (az hgr (cy _)) _⟩
  have S:=mH hown k (xs[k]'(by rw[HXl];exact hlt))
  rw[D6 _ xs n k HXl.o hlt,HV]at S
  exact cB S (λb hb=>heap_alloc_old _ _ (by injection hb with hb;subst hb;rw[World.size_setCell];exact hbs))
 case measure=>simp[intOf];omega):p:=h
theorem Ul(g o)(a)(w)(h:bU w g o a):Calls prog 114 #[π g o] w λe m=>∃b,e=.returned (ς b 0 a.length a.length)/\m.ownsRow w.1.size 9 1 (ς b 0 a.length a.length) a.length (a.map λx=>.string ⟨x.name.toArray⟩)/\w.grownBy m none:=by
 have r:=h.count
 have u:=h.len
 have t:=h.live.lt
 have j:=I (λw h=>vR g o a w h)
 obtain⟨n,f⟩:∃n,Hid (a.length=n):=⟨_,I rfl⟩
 rw[f]at r u j⊢
 have l:=λw=>run_make_row' (P:=prog) 62 9 ε 16 underlying62 Tryz.abX rfl .i64 .i64 n G G w
 have i:=I (cx w (.cells (madeCells #[ε] n) 9) none)
 have p:=I (LW w ε n 9 kO)
 have HB:=I h
 obtain⟨xs,d⟩:∃xs:List Value,Hid (xs=a.map λx=>.string ⟨x.name.toArray⟩):=⟨_,I rfl⟩
 have HXl:Hid (xs.length=n):=by show _=_;rw[d,cR];exact f.o
 rw[<-d]
 clear h
 go_in
 go_wp2_with fail
 refine(j _ (HB.grown i)).mono ?_
 rintro e m ⟨rfl,q,rfl⟩
 clear j l
 have l:Hid (((w.alloc (.cells (madeCells #[ε] n) 9)).drewN q).ownsRow w.1.size 9 1 (ς w.1.size 0 n n) n (oA ε xs n 0)):=by
  rw[Bn];exact p.o
 have j:=I (aR i q)
 clear p i
 go_wp2_with fail
 go_loopw [14] (λc wr=>∃k:Nat,k<=n/\c = Y k/\wr.ownsRow w.1.size 9 1 (ς w.1.size 0 n n) n (oA ε xs n k)/\w.grownBy wr none) (λc _=>((n:Int)-intOf c).toNat)
 case atStart=>exact⟨0,cS _,rfl,l,j⟩
 case round=>
  obtain⟨k,p,rfl,hown,hgr⟩:=hrel;by_cases hlt:k<n
  .have gO:k<a.length:=(by rw[f];exact hlt);have i:(k:Int)<(n:Int):=G;have h:(0:Int)<=(k:Int):=G;have hBr:=HB.grown hgr;obtain⟨v,y,A,B,C,D,J,K⟩:=hBr.eight k gO _ rfl;have HV:Hid (xs[k]'(by rw[HXl];exact hlt)=.string ⟨(a[k]).name.toArray⟩):=(by show _=_;simp only[d.o,List.getElem_map]);exact JT
  .have i:¬ (k:Int)<(n:Int):=G;have h:k=n:=G;subst h;go_wp2;go_ret;exact⟨w.1.size,rfl,by rw[<-D5 ε xs k HXl.o];exact hown,hgr⟩
theorem LX(g o)(a)(w)(h:bU w g o a):Calls prog 115 #[π g o] w λe m=>∃b,e=.returned (ς b 0 a.length a.length)/\m.ownsRow w.1.size 3 1 (ς b 0 a.length a.length) a.length (a.map λx=>Y x.aH)/\w.grownBy m none:=by
 have r:=h.count
 have u:=h.len
 have t:=h.live.lt
 have j:=I (λw h=>vR g o a w h)
 obtain⟨n,f⟩:∃n,Hid (a.length=n):=⟨_,I rfl⟩
 rw[f]at r u j⊢
 have l:=λw=>run_make_row' (P:=prog) 24 3 (Y 0) 8 underlying24 Tryz.abY rfl .i64 .i64 n G G w
 have i:=I (cx w (.cells (madeCells #[Y 0] n) 3) none)
 have p:=I (LW w (Y 0) n 3 kO)
 have HB:=I h
 obtain⟨xs,d⟩:∃xs:List Value,Hid (xs=a.map λx=>Y x.aH):=⟨_,I rfl⟩
 have HXl:Hid (xs.length=n):=by show _=_;rw[d,cR];exact f.o
 rw[<-d]
 clear h
 go_in
 go_wp2_with fail
 refine(j _ (HB.grown i)).mono ?_
 rintro e m ⟨rfl,q,rfl⟩
 clear j l
 have l:Hid (((w.alloc (.cells (madeCells #[Y 0] n) 3)).drewN q).ownsRow w.1.size 3 1 (ς w.1.size 0 n n) n (oA (Y 0) xs n 0)):=by
  rw[Bn];exact p.o
 have j:=I (aR i q)
 clear p i
 go_wp2_with fail
 go_loopw [14] (λc wr=>∃k:Nat,k<=n/\c = Y k/\wr.ownsRow w.1.size 3 1 (ς w.1.size 0 n n) n (oA (Y 0) xs n k)/\w.grownBy wr none) (λc _=>((n:Int)-intOf c).toNat)
 case atStart=>exact⟨0,cS _,rfl,l,j⟩
 case round=>
  obtain⟨k,p,rfl,hown,hgr⟩:=hrel;by_cases hlt:k<n
  .have gO:k<a.length:=(by rw[f];exact hlt);have i:(k:Int)<(n:Int):=G;have h:(0:Int)<=(k:Int):=G;have hBr:=HB.grown hgr;obtain⟨v,y,A,B,C,D,J,K⟩:=hBr.eight k gO _ rfl;have HV:Hid (xs[k]'(by rw[HXl];exact hlt) = Y (a[k]).aH):=(by show _=_;simp only[d.o,List.getElem_map]);exact JT
  .have i:¬ (k:Int)<(n:Int):=G;have h:k=n:=G;subst h;go_wp2;go_ret;exact⟨w.1.size,rfl,by rw[<-D5 (Y 0) xs k HXl.o];exact hown,hgr⟩
