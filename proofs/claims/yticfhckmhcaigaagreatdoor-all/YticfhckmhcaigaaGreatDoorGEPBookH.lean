import Derived.Test.YticfhckmhcaigaaGreatDoorGEPBookA
import Derived.Test.YticfhckmhcaigaaGreatDoorGESep
namespace Go.Proofs.YticfhckmhcaigaaGreatDoor
set_option maxHeartbeats 1000000
open Proofs.Tryz Go.RowKit
set_option maxRecDepth 100000
theorem Tryz.aeu:(prog.info? 9).map (λi=>(i.zero,i.size,i.bytes))=some (some ε,1,16):=by kernel_rfl
theorem Tryz.aev:(prog.info? 3).map (λi=>(i.zero,i.size,i.bytes))=some (some (Y 0),1,8):=by kernel_rfl
theorem WH(z)(n):(madeCells #[z] n).toList=List.replicate n z:=by
 refine List.ext_getElem? λi=>?_;simp only[madeCells,Array.toList_map,Array.toList_range,eJ,List.getElem?_replicate];grind
theorem Og(w:World)(z)(n)(e)(a:n<=maxLen):(w.alloc (.cells (madeCells #[z] n) e)).ownsRow w.1.size e 1 (ς w.1.size 0 n n) n (List.replicate n z):=
 ⟨by rw[fL,fY],.inr ⟨_,n,madeCells #[z] n,rfl,cA _,heap_alloc_new w _,cA _,a,by rw[size_madeCells,fY],by rw[WH,fY,cW dT]⟩⟩
theorem BK{w:World}{a:Nat}{e:TypeId}{g n c:Nat}{q:List Value}(h:w.ownsRow a e 1 (ς g 0 n c) n q):g<w.1.size/\∀j,j<n->∃v,w.c g j=some v:=by
 rcases h.2 with⟨i,_⟩|⟨r,k,b,i,t,m,o,l,d,p⟩
 .cases i
 .injection i with e1 _ e3;injection e1 with e1;injection e1 with e1 _ _;subst e1 e3;refine⟨dT,λj f=>?_⟩;have f:j<b.size:=by rw[d];omega
  exact⟨b[j],by simp[World.cell?,m,f]⟩
def o'(z:Value)(xs:List Value)(n k:Nat):List Value:=xs.take k++List.replicate (n-k) z
theorem Cy(z)(a)(n):o' z a n 0=List.replicate n z:=by simp[o']
theorem Fq(z)(a)(n)(h:a.length=n):o' z a n n=a:=by simp[o',<-h]
theorem Fs(z)(a)(n k)(h:a.length=n)(b:k<n):(o' z a n k).set k (a[k]'G)=o' z a n (k+1):=by
 unfold o';rw[List.set_append_right _ _ (by rw[ew];omega),ew,gn G,ia,show n-k=(n-(k+1))+1 from by omega,List.replicate_succ,eo,dy G,eg];rfl
theorem Mb{p:Prop}(h:p:=by
 obtain⟨hbs,hth⟩:=BK hown
 obtain⟨vk,hvk⟩:=hth k hlt
 have hfz:=oQ hown k
 clear hBr hth
 go_wp2
 go_roundw
 case rel=>
  refine⟨k+1,hlt,rfl,?_,aM (aB hgr (cA _)) _⟩
  have S:=mX hown k (xs[k]'(by rw[HXl];exact hlt))
  rw[Fs _ xs n k HXl.o hlt,HV]at S
  exact dh S (λb hb=>heap_alloc_old _ _ (by injection hb with hb;subst hb;rw[World.size_setCell];exact hbs))
 case measure=>simp[intOf];omega):p:=h
theorem WI(g o)(a)(w)(h:bN w g o a):Calls prog 114 #[N g o] w λe m=>∃b,e=.returned (ς b 0 a.length a.length)/\m.ownsRow w.1.size 9 1 (ς b 0 a.length a.length) a.length (a.map λx=>.string ⟨x.name.toArray⟩)/\w.grownBy m none:=by
 have r:=h.count
 have u:=h.len
 have t:=h.live.lt
 have j:=I (λw h=>wY g o a w h)
 obtain⟨n,f⟩:∃n,Hid (a.length=n):=⟨_,I rfl⟩
 rw[f]at r u j⊢
 have l:=λw=>run_make_row' (P:=prog) 62 9 ε 16 underlying62 Tryz.aeu rfl .i64 .i64 n G G w
 have i:=I (cy w (.cells (madeCells #[ε] n) 9) none)
 have p:=I (Og w ε n 9 lA)
 have HB:=I h
 obtain⟨xs,d⟩:∃xs:List Value,Hid (xs=a.map λx=>.string ⟨x.name.toArray⟩):=⟨_,I rfl⟩
 have HXl:Hid (xs.length=n):=by show _=_;rw[d,cU];exact f.o
 rw[<-d]
 clear h
 go_in
 go_wp2_with fail
 refine(j _ (HB.grown i)).mono ?_
 rintro e m ⟨rfl,q,rfl⟩
 clear j l
 have l:Hid (((w.alloc (.cells (madeCells #[ε] n) 9)).drewN q).ownsRow w.1.size 9 1 (ς w.1.size 0 n n) n (o' ε xs n 0)):=by
  rw[Cy];exact p.o
 have j:=I (aN i q)
 clear p i
 go_wp2_with fail
 go_loopw [14] (λc wr=>∃k:Nat,k<=n/\c = Y k/\wr.ownsRow w.1.size 9 1 (ς w.1.size 0 n n) n (o' ε xs n k)/\w.grownBy wr none) (λc _=>((n:Int)-intOf c).toNat)
 case atStart=>exact⟨0,cS _,rfl,l,j⟩
 case round=>
  obtain⟨k,p,rfl,hown,hgr⟩:=hrel;by_cases hlt:k<n
  .have gN:k<a.length:=(by rw[f];exact hlt);have i:(k:Int)<(n:Int):=G;have h:(0:Int)<=(k:Int):=G;have hBr:=HB.grown hgr;obtain⟨v,y,A,B,C,D,J,K⟩:=hBr.eight k gN _ rfl;have HV:Hid (xs[k]'(by rw[HXl];exact hlt)=.string ⟨(a[k]).name.toArray⟩):=(by show _=_;simp only[d.o,List.getElem_map]);exact Mb
  .have i:¬ (k:Int)<(n:Int):=G;have h:k=n:=G;subst h;go_wp2;go_ret;exact⟨w.1.size,rfl,by rw[<-Fq ε xs k HXl.o];exact hown,hgr⟩
theorem Oh(g o)(a)(w)(h:bN w g o a):Calls prog 115 #[N g o] w λe m=>∃b,e=.returned (ς b 0 a.length a.length)/\m.ownsRow w.1.size 3 1 (ς b 0 a.length a.length) a.length (a.map λx=>Y x.aH)/\w.grownBy m none:=by
 have r:=h.count
 have u:=h.len
 have t:=h.live.lt
 have j:=I (λw h=>wY g o a w h)
 obtain⟨n,f⟩:∃n,Hid (a.length=n):=⟨_,I rfl⟩
 rw[f]at r u j⊢
 have l:=λw=>run_make_row' (P:=prog) 24 3 (Y 0) 8 underlying24 Tryz.aev rfl .i64 .i64 n G G w
 have i:=I (cy w (.cells (madeCells #[Y 0] n) 3) none)
 have p:=I (Og w (Y 0) n 3 lA)
 have HB:=I h
 obtain⟨xs,d⟩:∃xs:List Value,Hid (xs=a.map λx=>Y x.aH):=⟨_,I rfl⟩
 have HXl:Hid (xs.length=n):=by show _=_;rw[d,cU];exact f.o
 rw[<-d]
 clear h
 go_in
 go_wp2_with fail
 refine(j _ (HB.grown i)).mono ?_
 rintro e m ⟨rfl,q,rfl⟩
 clear j l
 have l:Hid (((w.alloc (.cells (madeCells #[Y 0] n) 3)).drewN q).ownsRow w.1.size 3 1 (ς w.1.size 0 n n) n (o' (Y 0) xs n 0)):=by
  rw[Cy];exact p.o
 have j:=I (aN i q)
 clear p i
 go_wp2_with fail
 go_loopw [14] (λc wr=>∃k:Nat,k<=n/\c = Y k/\wr.ownsRow w.1.size 3 1 (ς w.1.size 0 n n) n (o' (Y 0) xs n k)/\w.grownBy wr none) (λc _=>((n:Int)-intOf c).toNat)
 case atStart=>exact⟨0,cS _,rfl,l,j⟩
 case round=>
  obtain⟨k,p,rfl,hown,hgr⟩:=hrel;by_cases hlt:k<n
  .have gN:k<a.length:=(by rw[f];exact hlt);have i:(k:Int)<(n:Int):=G;have h:(0:Int)<=(k:Int):=G;have hBr:=HB.grown hgr;obtain⟨v,y,A,B,C,D,J,K⟩:=hBr.eight k gN _ rfl;have HV:Hid (xs[k]'(by rw[HXl];exact hlt) = Y (a[k]).aH):=(by show _=_;simp only[d.o,List.getElem_map]);exact Mb
  .have i:¬ (k:Int)<(n:Int):=G;have h:k=n:=G;subst h;go_wp2;go_ret;exact⟨w.1.size,rfl,by rw[<-Fq (Y 0) xs k HXl.o];exact hown,hgr⟩
