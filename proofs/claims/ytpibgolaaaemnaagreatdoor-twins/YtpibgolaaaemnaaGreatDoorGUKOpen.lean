/-
  
  
  
  
  
  
  
  
-/
import Derived.Test.YtpibgolaaaemnaaGreatDoorGUKSmall
import Derived.Test.YtpibgolaaaemnaaGreatDoorGUQSt
import Derived.Test.YtpibgolaaaemnaaGreatDoorGUKReadE
namespace Go.Proofs.YtpibgolaaaemnaaGreatDoor
open Go.RowKit
set_option maxRecDepth 100000
theorem Tryz.Ef:(Tryz.prog.info? 30).map (·.size)=some 2:=by kernel_rfl
theorem ac0 {w:World} {g:Nat} {c0 c1:Value} (h:bI w g #[c0,c1]) (v0 v1:Value):bI ((w.setCell ⟨g,0,none⟩ v0).setCell ⟨g,1,none⟩ v1) g #[v0,v1]:=by
 simpa using (h.set 0 v0).set 1 v1
theorem ac1 (w1:World) (b:Nat) (x y:Value):CF w1 ((w1.setCell ⟨b,0,none⟩ x).setCell ⟨b,1,none⟩ y) (fun g _=>g=b):=CF.setCell (CF.setCell (CF.aW (World.grownBy.refl w1 none) (fun g _=>g=b)) b 0 x (fun _=>rfl)) b 1 y (fun _=>rfl)
theorem Jp {n:Nat} {dp:Option Pl} (h:Pl.fresh (n+1) dp):∀ p,dp=some p→p.g≠n:=fun p hp e=>by
 have h2:=h p hp
 omega
theorem Jq {n:Nat} {dp:Option Pl} (h:Pl.fresh (n+1) dp):Pl.fresh n dp:=fun p hp=>by
 have h2:=h p hp
 omega
set_option maxHeartbeats 2000000 in
theorem Jr (q:Bool) (ax:Int) (av:Option Addr) (nv cv n:Nat) (bs:List UInt8) (w:World) (h0:0≤ax) (h1:ax≤300) (C:∀ w1,w.grownBy w1 none→Calls Tryz.prog 41 #[.slice av nv cv] w1 fun e w'=>∃ ao c,e = .returned (.agg #[.slice ao n c])∧w'.ownsRow w1.heap.size 5 1 (.slice ao n c) n (bs.map U8)∧w1.grownBy w' none) :
  Calls Tryz.prog 6 #[.bool q,.int .i64 ax,.slice av nv cv] w fun e w'=>∃ g dp,e = .returned (.tuple #[.agg (uL q g),.bool true])∧jm q w' g dp ⟨ax,[],[],bs⟩∧w.heap.size≤g∧Pl.fresh w.heap.size dp∧(∀ p,dp=some p→p.g≠g)∧w.grownBy w' none:=by
 have G0:=World.grownBy_alloc w (.cells #[.pointer none,.pointer none] 30) none
 have HB:=hid (bI.new w #[.pointer none,.pointer none] 30)
 cases q with
 | true=>
  have HN:=hid (Ji ax (.slice av nv cv) n bs _ h0 h1 (fun w1 k=>C w1 (ae G0 k)))
  have mD:=hid G0
  clear C G0 h0 h1
  go_enter Tryz.func6,Tryz.ntmps6
  go_wp2_with fail
  refine HN.out.mono ?_
  rintro e w1 ⟨b,dp,rfl,hD,hb,hf,hne,g1⟩
  rw[World.size_alloc] at hb hf
  have HD:=hid (And.intro hD (And.intro hb (And.intro hf (And.intro hne g1))))
  have HR:=hid (HB.out.grown g1 (by simp))
  obtain ⟨q0,q1⟩:=HR.out.two
  have f0:=HR.out.frozen 0
  have f1:=HR.out.frozen 1
  clear hD hb hf hne g1 HN
  go_wp2
  obtain ⟨hD,hb,hf,hne,g1⟩:=HD.out
  refine bodyPost_ret (aD Tryz.results6 _ _ _ w.heap.size rfl _ (bI.load (ac0 HR.out _ _) 30 _ Tryz.underlying30 rfl Tryz.Ef)) rfl ⟨b,dp,rfl,?_,by omega,Jq hf,hne,aK (aK (ae mD.out g1) (Nat.le_refl _)) (Nat.le_refl _)⟩
  refine jm.cf (q:=true) (ex:=fun b _=>b=w.heap.size) hD (ac1 w1 w.heap.size _ _) (fun _ e=>?_) (fun p hp _ e=>Jp hf p hp e)
  omega
 | false=>
  have HN:=hid (Jg ax (.slice av nv cv) n bs _ h0 h1 (fun w1 k=>C w1 (ae G0 k)))
  have mD:=hid G0
  clear C G0 h0 h1
  go_enter Tryz.func6,Tryz.ntmps6
  go_wp2_with fail
  refine HN.out.mono ?_
  rintro e w1 ⟨b,dp,rfl,hD,hb,hf,hne,g1⟩
  rw[World.size_alloc] at hb hf
  have HD:=hid (And.intro hD (And.intro hb (And.intro hf (And.intro hne g1))))
  have HR:=hid (HB.out.grown g1 (by simp))
  obtain ⟨q0,q1⟩:=HR.out.two
  have f0:=HR.out.frozen 0
  have f1:=HR.out.frozen 1
  clear hD hb hf hne g1 HN
  go_wp2
  obtain ⟨hD,hb,hf,hne,g1⟩:=HD.out
  refine bodyPost_ret (aD Tryz.results6 _ _ _ w.heap.size rfl _ (bI.load (ac0 HR.out _ _) 30 _ Tryz.underlying30 rfl Tryz.Ef)) rfl ⟨b,dp,rfl,?_,by omega,Jq hf,hne,aK (aK (ae mD.out g1) (Nat.le_refl _)) (Nat.le_refl _)⟩
  refine jm.cf (q:=false) (ex:=fun b _=>b=w.heap.size) hD (ac1 w1 w.heap.size _ _) (fun _ e=>?_) (fun p hp _ e=>Jp hf p hp e)
  omega
end Go.Proofs.YtpibgolaaaemnaaGreatDoor
namespace Go.Proofs.YtpibgolaaaemnaaGreatDoor
open Go.RowKit
set_option maxRecDepth 100000
set_option maxHeartbeats 1000000 in
theorem Ma (n:Nat) (seed:Int) (w:World) (hn:n≤1000) :
  Calls Tryz.prog 5 #[.int .i64 (n:Int),.int .i64 seed] w fun e w'=>∃ o l,e = .returned o∧l.length=n∧dL w.heap.size w' o l∧w.grownBy w' none:=by
 obtain ⟨i0',hif,hz0,hz1,hz2⟩:=info_parts Tryz.info5
 go_enter Tryz.func5,Tryz.ntmps5
 go_wp2_with fail
 go_loopw [5,6,7] (fun bv xv i wr=>∃ (k:Nat) (xi:Int) (zs:List UInt8),k≤n∧i = .int .i64 (k:Int)∧xv = .int .u64 xi∧zs.length=k∧wr.ownsRow w.heap.size 5 1 bv k (zs.map U8)∧w.grownBy wr none) (fun _ _ i _=>n-(intOf i).toNat)
 case atStart=>
  exact ⟨0,_,[],Nat.zero_le _,rfl,rfl,rfl,World.ownsRow_nil _ _ _ _,World.grownBy.refl _ _⟩
 case round=>
  obtain ⟨k,xi,zs,hk,rfl,rfl,hzs,hown,hgr⟩:=hrel
  by_cases hlt:k<n
  ·have YC:(k:Int)<(n:Int):=by omega
   obtain ⟨av,cv,rfl,_,_,hnc,hat⟩:=qi hown
   obtain ⟨zj,hzj⟩:∃ z:UInt8,(IntKind.u64.wrap (IntKind.u64.wrap (xi*6364136223846793005)+1442695040888963407) / 72057594037927936 % 256)=(z.toNat:Int):=by
    generalize IntKind.u64.wrap (IntKind.u64.wrap (xi*6364136223846793005)+1442695040888963407) / 72057594037927936=q
    refine ⟨UInt8.ofNat (q % 256).toNat,?_⟩
    have h1:=Int.emod_nonneg q (b:=256) (by decide)
    have h2:=Int.emod_lt_of_pos q (b:=256) (by decide)
    rw[UInt8.toNat_ofNat']
    omega
   clear hat
   go_wp2_with (at_builtin;rw[hzj];refine bX _ rfl _ _ 25 rfl w.heap.size 5 i0' Tryz.underlying25 hif hz0 hz1 hz2 _ _ _ rfl (hown.alloc _) (some ⟨wr.heap.size,0,none⟩) 1 1 [zj] rfl rfl ?a1 ?a2 ?a3 ?a4 ?_)
   case a1=>intro h;cases h
   case a2=>exact eQ wr _ _ _ rfl
   case a3=>omega
   case a4=>have h:=hgr.size;simp;omega
   intro v1 w1 hown1 hg1 _
   have G1:w.grownBy w1 none:=oD (aC hgr _) hg1 (fun i hi=>(hown.lt i hi).1)
   have RO:w1.ownsRow w.heap.size 5 1 v1 (k+1) ((zs++[zj]).map U8):=by simpa using hown1
   obtain ⟨a1,c1,rfl,_,_,_,_⟩:=qi RO
   clear hown hown1 hg1 hgr
   go_wp2
   go_roundw
   case rel=>
    exact ⟨k+1,_,zs++[zj],by omega,by go_num,rfl,by simp[hzs],RO,G1⟩
   case measure=>
    simp[intOf]
    omega
  ·have hkn:k=n:=by omega
   subst hkn
   have YC:¬ (k:Int)<(k:Int):=by omega
   go_wp2
   go_ret
   exact ⟨_,rfl,zs,hzs,by rw[←hzs] at hown;exact hown,hgr⟩
end Go.Proofs.YtpibgolaaaemnaaGreatDoor
namespace Go.Proofs.YtpibgolaaaemnaaGreatDoor
open Go.RowKit
set_option maxRecDepth 100000
abbrev iH (v:Int):jX:=(2,Box.low v (Box.size v))
abbrev rq (l:List UInt8):jX:=(4,l)
def fP (ps:List jX):List UInt8:=(ps.map fun p=>Box.box p.1 p.2).flatten
abbrev xh (ps:List jX):jX:=(48,fP ps)
theorem PS (p:jX) (ps:List jX):fP (p::ps)=Box.box p.1 p.2++fP ps:=rfl
theorem jW:∀ (ps:List jX),(∀ p∈ps,p.2.length≤65535)→Box.eX (fP ps)=some ps
 | [],_=>rfl
 | p::ps,h=>by
  rw[PS,Box.NU _ _ _ (h p (List.mem_cons_self ..)),jW ps (fun q hq=>h q (List.mem_cons_of_mem _ hq))]
  rfl
theorem zG (p:jX) (h:p.2.length≤65535):Box.cut (Box.box p.1 p.2)=some (p.1,p.2,[]):=by
 have:=Box.ME p.1 p.2 [] h
 rwa [List.append_nil] at this
def pY (d:Nat) (p:jX):Prop:=∃ t,Box.jd d p.1 p.2=some t
theorem jy (d:Nat) (v:Int) (h:In64 v):pY d (iH v):=by
 refine ⟨Lib.itoa v,?_⟩
 rw[Box.qw d 2 _ (by decide),Box.leaf,if_pos (by decide),Box.EC v h.1 h.2]
 rfl
theorem mP (d:Nat) (l:List UInt8):pY d (rq l):=by
 refine ⟨34::Box.hex l++[34],?_⟩
 rw[Box.qw d 4 _ (by decide),Box.leaf,if_neg (by decide),if_pos (by decide)]
theorem Eg (d:Nat):∀ (ps:List jX),(∀ p∈ps,pY d p)→∃ ts,Box.tells d ps=some ts
 | [],_=>⟨[],rfl⟩
 | p::ps,h=>by
  obtain ⟨t,ht⟩:=h p (List.mem_cons_self ..)
  obtain ⟨ts,hts⟩:=Eg d ps (fun q hq=>h q (List.mem_cons_of_mem _ hq))
  exact ⟨t::ts,by simp only[Box.tells,ht,hts,Option.map_some]⟩
theorem uk (d:Nat) (ps:List jX) (h:∀ p∈ps,pY d p) (hl:∀ p∈ps,p.2.length≤65535):pY (d+1) (xh ps):=by
 obtain ⟨ts,hts⟩:=Eg d ps h
 unfold pY
 rw[Box.zY d 48 _ (by decide)]
 simp only[jW ps hl,hts]
 exact ⟨_,rfl⟩
theorem Mc {w:World} {ok:Nat→Prop} {bs:List UInt8} {cs:List Value} {d:Nat} (h:fF d w ok 4 bs cs):∃ a c,cs=[.int .u8 116,.int .i64 0,.slice a bs.length c,.slice none 0 0]∧At w a bs∧(∀ b off,a=some ⟨b,off,none⟩→ok b)∧yR a bs.length c:=by
 have hl:mi w ok 4 bs cs:=by
  cases d with
  | zero=>exact h
  | succ d=>
   rcases h with h | ⟨h,_⟩
   ·exact h
   ·exact absurd h (by decide)
 rcases hl with ⟨h,_⟩ | ⟨_,a,c,h1,h2,h3,h4⟩
 ·exact absurd h (by decide)
 ·exact ⟨a,c,h1,h2,h3,h4⟩
def PartsAt (d:Nat) (w:World) (ok:Nat→Prop) (g:Nat) (ps:List jX):Prop:=
 ∀ k (hk:k<ps.length),∃ cs:List Value,cs.length=4∧fF d w ok ps[k].1 ps[k].2 cs∧ok g∧∀ j,j<4→w.cell? ⟨g,k*4+j,none⟩=cs[j]?
theorem PartsAt.keep {d:Nat} {w w':World} {ok:Nat→Prop} {g:Nat} {ps:List jX} (h:PartsAt d w ok g ps) (k:∀ b,ok b→w'.heap[b]?=w.heap[b]?):PartsAt d w' ok g ps:=by
 intro i hi
 obtain ⟨cs,h1,h2,h3,h4⟩:=h i hi
 exact ⟨cs,h1,h2.keep k (fun _ h=>h),h3,fun j hj=>by rw[cell_kept (k g h3)];exact h4 j hj⟩
theorem PartsAt.ok {d:Nat} {w:World} {ok:Nat→Prop} {g:Nat} {ps:List jX} (h:PartsAt d w ok g ps) (hne:ps≠[]):ok g:=by
 obtain ⟨cs,_,_,h3,_⟩:=h 0 (List.length_pos_iff.2 hne)
 exact h3
theorem PartsAt.num {d:Nat} {w:World} {ok:Nat→Prop} {g:Nat} {ps:List jX} (h:PartsAt d w ok g ps) (k:Nat) (v:Int) (hp:ps[k]?=some (iH v)) (hv:In64 v):w.cell? ⟨g,k*4,none⟩=some (.int .u8 110)∧w.cell? ⟨g,k*4+1,none⟩=some (.int .i64 v):=by
 obtain ⟨hk,he⟩:=List.getElem?_eq_some_iff.1 hp
 obtain ⟨cs,h1,h2,h3,h4⟩:=h k hk
 rw[he] at h2
 have:=Uk (v:=v) ⟨hv.1,hv.2⟩ h2
 subst this
 exact ⟨h4 0 (by decide),h4 1 (by decide)⟩
theorem PartsAt.PT {d:Nat} {w:World} {ok:Nat→Prop} {g:Nat} {ps:List jX} (h:PartsAt d w ok g ps) (k:Nat) (l:List UInt8) (hp:ps[k]?=some (rq l)):w.cell? ⟨g,k*4,none⟩=some (.int .u8 116)∧∃ a c,w.cell? ⟨g,k*4+2,none⟩=some (.slice a l.length c)∧At w a l∧(∀ b off,a=some ⟨b,off,none⟩→ok b)∧yR a l.length c:=by
 obtain ⟨hk,he⟩:=List.getElem?_eq_some_iff.1 hp
 obtain ⟨cs,h1,h2,h3,h4⟩:=h k hk
 rw[he] at h2
 obtain ⟨a,c,rfl,hat,hok⟩:=Mc h2
 exact ⟨h4 0 (by decide),a,c,h4 2 (by decide),hat,hok⟩
theorem PartsAt.txt {d:Nat} {w:World} {ok:Nat→Prop} {g:Nat} {ps:List jX} (h:PartsAt d w ok g ps) (k:Nat) (l:List UInt8) (hp:ps[k]?=some (rq l)):w.cell? ⟨g,k*4,none⟩=some (.int .u8 116)∧∃ a c,w.cell? ⟨g,k*4+2,none⟩=some (.slice a l.length c)∧At w a l∧∀ b off,a=some ⟨b,off,none⟩→ok b:=by
 obtain ⟨q0,a,c,q1,q2,q3,_⟩:=h.PT k l hp
 exact ⟨q0,a,c,q1,q2,q3⟩
theorem PartsAt.Vh {d:Nat} {w:World} {ok:Nat→Prop} {g:Nat} {ps:List jX} (h:PartsAt (d+1) w ok g ps) (k:Nat) (qs:List jX) (hp:ps[k]?=some (xh qs)) (hq:∀ p∈qs,p.2.length≤65535) (hne:qs≠[]):∃ g' c,w.cell? ⟨g,k*4,none⟩=some (.int .u8 108)∧w.cell? ⟨g,k*4+1,none⟩=some (.int .i64 0)∧w.cell? ⟨g,k*4+2,none⟩=some (.slice none 0 0)∧w.cell? ⟨g,k*4+3,none⟩=some (.slice (some ⟨g',0,none⟩) qs.length c)∧PartsAt d w ok g' qs:=by
 obtain ⟨hk,he⟩:=List.getElem?_eq_some_iff.1 hp
 obtain ⟨cs,h1,h2,h3,h4⟩:=h k hk
 rw[he] at h2
 obtain ⟨qs',a,c,css,e1,rfl,e3,e4⟩:=xY h2
 rw[jW qs hq] at e1
 injection e1 with e1
 subst e1
 have h0:0<qs.length:=List.length_pos_iff.2 hne
 obtain ⟨_,_,g',ha,_,_⟩:=e4 0 h0 (by omega)
 refine ⟨g',c,h4 0 (by decide),h4 1 (by decide),h4 2 (by decide),by rw[←ha];exact h4 3 (by decide),fun i hi=>?_⟩
 obtain ⟨f1,f2,g2,f3,f4,f5⟩:=e4 i hi (by omega)
 rw[ha] at f3
 injection f3 with f3
 injection f3 with f3
 subst f3
 exact ⟨css[i]'(by omega),f1,f2,f4,f5⟩
theorem Js (ps:List jX) (v:Value) (w:World) (hne:ps≠[]) (hl:∀ p∈ps,p.2.length≤65535) (ht:∀ p∈ps,pY 7 p) (FH:(Box.box 48 (fP ps)).length≤300) (hv:KH w v (Box.box 48 (fP ps))) (htab:eO w) :
  Calls Tryz.prog 33 #[v] w fun e w'=>∃ g c,e = .returned (.agg #[.int .u8 108,.int .i64 0,.slice none 0 0,.slice (some ⟨g,0,none⟩) ps.length c])∧PartsAt 7 w' (fun b=>w.heap.size≤b∧b<w'.heap.size) g ps∧w.grownBy w' none:=by
 obtain ⟨ao,cap,rfl,h2,h3,h4,h5⟩:=hv
 obtain ⟨t,ht'⟩:=uk 7 ps ht hl
 have hc:(fP ps).length≤300:=Nat.le_trans (by rw[Box.jf];omega) FH
 refine (vG 48 (fP ps) t _ _ ao cap w (hid rfl) FH h2 h3 h5 (hid (zG (xh ps) (by show (fP ps).length≤_;omega))) (hid ht') hc htab).mono ?_
 rintro e w' ⟨kk,vv,a2,n2,c2,a3,n3,c3,rfl,hP,hg⟩
 obtain ⟨qs',a,c,css,e1,e2,e3,e4⟩:=xY hP
 rw[jW ps hl] at e1
 injection e1 with e1
 subst e1
 simp only[dW,List.cons.injEq,and_true] at e2
 obtain ⟨q1,q2,q3,q4⟩:=e2
 have h0:0<ps.length:=List.length_pos_iff.2 hne
 obtain ⟨_,_,g',ha,_,_⟩:=e4 0 h0 (by omega)
 refine ⟨g',c,by rw[q1,q2,q3,q4,ha],fun i hi=>?_,hg⟩
 obtain ⟨f1,f2,g2,f3,f4,f5⟩:=e4 i hi (by omega)
 rw[ha] at f3
 injection f3 with f3
 injection f3 with f3
 subst f3
 exact ⟨css[i]'(by omega),f1,f2,f4,f5⟩
end Go.Proofs.YtpibgolaaaemnaaGreatDoor
namespace Go.Proofs.YtpibgolaaaemnaaGreatDoor
open Go.RowKit
set_option maxRecDepth 100000
theorem KH.ZO {w w':World} {ex:Nat→Nat→Prop} {ao:Option Addr} {n cap:Nat} {zs:List UInt8} (h:KH w (.slice ao n cap) zs) (k:CF w w' ex) (hx:∀ b off,ao=some ⟨b,off,none⟩→(∃ o,ex b o)→False):KH w' (.slice ao n cap) zs:=by
 obtain ⟨a2,c2,h1,h2,h3,h4,h5⟩:=h
 have e1:ao=a2:=by injection h1
 subst e1
 exact ⟨ao,c2,h1,h2,h3,h4,h5.cf k (fun b off e j _ n=>hx b off e ⟨_,n⟩)⟩
def FR (lo hi:Nat) (w w':World):Prop:=CF w w' (fun b _=>lo≤b∧b<hi)
theorem bI.fr {lo hi g:Nat} {w w':World} {cs:Array Value} (h:bI w g cs) (k:FR lo hi w w') (hg:g<lo∨hi≤g):bI w' g cs:=h.kept (CF.block k g h.lt (fun _ e=>by omega))
def KX (lo hi:Nat) (w:World) (v:Value) (zs:List UInt8):Prop:=KH w v zs∧∀ b off n c,v = .slice (some ⟨b,off,none⟩) n c→b<lo∨hi≤b
theorem bI.Uq {w w':World} {ex:Nat→Nat→Prop} {g:Nat} {cs:Array Value} (h:bI w g cs) (k:CF w w' ex) (hx:∀ o,¬ ex g o):bI w' g cs:=h.kept (k.block g h.lt hx)
theorem dL.place {n:Nat} {w:World} {o:Value} {z:List UInt8} (h:dL n w o z) (b off m c:Nat) (e:o = .slice (some ⟨b,off,none⟩) m c):n≤b∧b<w.heap.size:=by
 rcases h.2 with ⟨hv,_⟩ | ⟨g,cap,cur,hv,hb,hg,_⟩
 ·rw[hv] at e;cases e
 ·rw[hv] at e
  injection e with e1 e2 e3
  injection e1 with e1
  injection e1 with e1
  subst e1
  exact ⟨hb,(Array.getElem?_eq_some_iff.1 hg).1⟩
theorem dL.base {n n':Nat} {w:World} {o:Value} {z:List UInt8} (h:dL n w o z) (hb:n'≤n):dL n' w o z:=bZ h hb
def KS (q:Bool) (lo hi:Nat) (w:World) (g:Nat) (M:DM):Prop:=lo≤g∧g<hi∧∃ dp,jm q w g dp M∧∀ p,dp=some p→p.g≠g∧lo≤p.g∧p.g<hi
theorem KS.gb {q:Bool} {lo hi g:Nat} {w w':World} {M:DM} (h:KS q lo hi w g M) (k:w.grownBy w' none):KS q lo hi w' g M:=by
 obtain ⟨h1,h2,dp,h3,h4⟩:=h
 exact ⟨h1,h2,dp,h3.grown k,h4⟩
theorem KS.cf {q:Bool} {lo hi g:Nat} {w w':World} {M:DM} {ex:Nat→Nat→Prop} (h:KS q lo hi w g M) (k:CF w w' ex) (hx:∀ b y,ex b y→b<lo∨hi≤b):KS q lo hi w' g M:=by
 obtain ⟨h1,h2,dp,h3,h4⟩:=h
 refine ⟨h1,h2,dp,h3.cf k (fun y e=>?_) (fun p hp y e=>?_),h4⟩
 ·have:=hx _ _ e;omega
 ·have:=hx _ _ e;have:=h4 p hp;omega
structure MOk (M:DM):Prop where
 ins:∀ e∈M.aH,e.In
 sorted:M.aH.Pairwise (fun x y=>Op.bytesLess x.name y.name=true)
 ax:In64 M.ax
 times:∀ y∈M.bK,In64 y.time
def ZP (n:Nat) (w:World) (v:Value) (zs:List UInt8):Prop:=KH w v zs∧∀ b off m c,v = .slice (some ⟨b,off,none⟩) m c→n≤b
theorem Ur (lo hi g:Nat) (M M':DM) (now:Int) (aG rep:List UInt8) (v:Value) (w:World) (hA:cB M now aG=(rep,M')) (hS:KS false lo hi w g M) (hM:MOk M) (hv:KX lo hi w v aG) (hl:aG.length≤140737488355328) (dC:In64 now) :
  Calls Tryz.prog 20 #[.pointer (some ⟨g,0,none⟩),.int .i64 now,v] w fun e w'=>∃ a c,e = .returned (.slice a rep.length c)∧ZP w.heap.size w' (.slice a rep.length c) rep∧KS false lo hi w' g M'∧FR lo hi w w':=by
 obtain ⟨h1,h2,dp,h3,h4⟩:=hS
 obtain ⟨⟨ao,cap,hv1,hv2,hv3,hv4,hv5⟩,hx⟩:=hv
 subst hv1
 have hb:Bs (ao,aG) (.slice ao aG.length cap) aG:=⟨ao,cap,rfl,hv2,hv3,hl,fun _ h=>h⟩
 refine (CX g dp M now (ao,aG) aG aG.length ao cap w h3 (fun q hq=>(h4 q hq).1) hM.ins hM.sorted (hid rfl) hv5 hb dC hM.ax hM.times).mono ?_
 rintro e w' ⟨v',rfl,F0⟩
 have F:=TR.ofFin F0
 rw[hA] at F
 obtain ⟨a,c,hs⟩:=F.shape
 subst hs
 obtain ⟨p',o1,o2⟩:=F.out
 obtain ⟨rH,d1,d2⟩:=F.dX
 refine ⟨a,c,rfl,⟨KH.out o1,fun b off m c' e=>?_⟩,⟨h1,h2,rH,d1,fun p hp=>?_⟩,F.cf.mono (fun b _ _ e=>by omega)⟩
 ·rcases o1 with ⟨_,hv,_⟩ | ⟨q,hq,hv,_⟩
  ·rw[hv] at e;cases e
  ·rw[hv] at e
   injection e with e1 e2 e3
   injection e1 with e1
   injection e1 with e1
   have:=o2 q hq
   omega
 ·obtain ⟨q',hq',e⟩:=d2 p hp
  have:=h4 q' hq'
  omega
theorem Us (lo hi g n:Nat) (M:DM) (es:List BE) (r:Int) (a:jJ) (w:World) (hA:fU M.aH a=(es,r)) (hS:KS false lo hi w g M) (hok:kg n M.aH) (hn:n≤4611686018427387904) (hf0:-9223372036854775808≤a.ay) (hf1:a.ay≤9223372036854775807) (hl:a.name.length≤9223372036854775807) :
  Calls Tryz.prog 19 #[.pointer (some ⟨g,0,none⟩),.agg a.cells] w fun e w'=>e = .returned (.int .i64 r)∧KS false lo hi w' g {M with aH:=es}∧FR lo hi w w':=by
 obtain ⟨h1,h2,dp,h3,h4⟩:=hS
 have h3':cz w g 0 dp M:=h3
 refine (Av g M.aH a w h3'.aH hok.sorted (fun e he=>⟨(hok.num e he).1,by have:=(hok.num e he).2;omega⟩) hf0 hf1 hl).mono ?_
 rintro e w' ⟨rfl,b,c⟩
 have d:=h3'.Nf c b (fun q hq=>(h4 q hq).1)
 rw[hA] at d ⊢
 exact ⟨rfl,⟨h1,h2,dp,d,h4⟩,c.mono (fun b _ _ e=>by have:=e.1;omega)⟩
set_option maxHeartbeats 400000 in
theorem PX (zs:List UInt8) (n:Nat) (a b:Option Addr) (ca cb:Nat) (w:World) (hn:Hid (zs.length=n)) (ha:At w a zs) (hb:At w b zs) :
  Calls Tryz.prog 21 #[.slice a n ca,.slice b n cb] w fun e w'=>e = .returned (.bool true)∧w=w':=by
 obtain rfl:=hn.out
 have anS:=iq (P:=Tryz.prog) w 25 9 5 Tryz.underlying25 Tryz.underlying5 Tryz.underlying9 a ca zs ha
 have anT:=iq (P:=Tryz.prog) w 25 9 5 Tryz.underlying25 Tryz.underlying5 Tryz.underlying9 b cb zs hb
 clear ha hb
 go_enter Tryz.func21,Tryz.ntmps21
 go_wp2
 go_ret
 exact ⟨rfl,rfl⟩
end Go.Proofs.YtpibgolaaaemnaaGreatDoor
namespace Go.Proofs.YtpibgolaaaemnaaGreatDoor
open Go.RowKit
set_option maxRecDepth 100000
set_option maxHeartbeats 1000000 in
theorem Jv (l:List UInt8) (n:Nat) (ao:Option Addr) (cap:Nat) (w:World) (hn:Hid (l.length=n)) (hl:n≤1000) (hat:At w ao l) :
  Calls Tryz.prog 48 #[.slice ao n cap] w fun e w'=>e = .returned (.int .u64 ((Pure.joinL 0 l).toNat:Int))∧w=w':=by
 have HA:=hid hat
 clear hat
 go_enter Tryz.func48,Tryz.ntmps48
 go_wp2
 go_loopw [3,4] (fun v i wr=>∃ k:Nat,k≤n∧i = .int .i64 k∧v = .int .u64 ((Pure.joinL 0 (l.take k)).toNat:Int)∧w=wr) (fun _ i _=>n-(intOf i).toNat)
 case atStart=>exact ⟨0,Nat.zero_le _,rfl,rfl,rfl⟩
 case round=>
  obtain ⟨k,hk,rfl,rfl,rfl⟩:=hrel
  by_cases hlt:k<n
  ·have hlt':k<l.length:=by rw[hn.out];exact hlt
   have rT:(k:Int)<(n:Int):=by omega
   have hk0:(0:Int)≤(k:Int):=by omega
   obtain ⟨b,off,rfl,hc⟩:=HA.out k hlt'
   obtain ⟨x,hx⟩:∃ x,Pure.joinL 0 (l.take k)=x:=⟨_,rfl⟩
   obtain ⟨z,hz⟩:∃ z,l[k]=z:=⟨_,rfl⟩
   rw[hz] at hc
   rw[hx]
   have hzb:z.toNat<256:=z.toNat_lt
   have hxb:x.toNat<18446744073709551616:=x.toNat_lt
   have HX:=hid (And.intro hx hz)
   clear hx hz
   go_wp2
   go_roundw
   case rel=>
    refine ⟨k+1,by omega,by go_num,?_,by first | rfl | trivial⟩
    rw[List.take_succ_eq_append_getElem hlt',Pure.qb,HX.out.1,HX.out.2,Pure.yw]
    congr 1
    rw[IntKind.wrap_u64,IntKind.wrap_u64]
    omega
   case measure=>simp[intOf];omega
  ·have Ou:k=n:=by omega
   subst Ou
   have rT:¬ (k:Int)<(k:Int):=by omega
   go_wp2
   go_ret
   refine ⟨?_,rfl⟩
   rw[List.take_of_length_le (by rw[hn.out];omega)]
   rfl
theorem kN (v:Int):(iH v).2.length≤65535:=by
 show (Box.low _ _).length≤_
 rw[Box.je]
 have:=iJ v
 omega
theorem Ut (ps:List jX) (g c:Nat) (K:ByteArray) (w:World) (hK:K.size=ps.length) (hm:ps.length≤100) (hk:∀ k (h:k<K.size),k<ps.length→∃ z:UInt8,w.cell? ⟨g,k*4,none⟩=some (.int .u8 (z.toNat:Int))∧K[k]'h=z) :
  Calls Tryz.prog 34 #[.agg #[.int .u8 108,.int .i64 0,.slice none 0 0,.slice (some ⟨g,0,none⟩) ps.length c],.string K] w fun e w'=>e = .returned (.bool true)∧w.grownBy w' none:=
 Nj 0 none 0 0 g ps.length c K w hK hm (fun k hk'=>by
  obtain ⟨z,h1,h2⟩:=hk k (by omega) hk'
  exact ⟨z,h1,fun h=>h2⟩)
end Go.Proofs.YtpibgolaaaemnaaGreatDoor
namespace Go.Proofs.YtpibgolaaaemnaaGreatDoor
open Go.RowKit
set_option maxRecDepth 100000
def Mf (t:TK):List jX:=[iH t.ay,rq (Pure.be t.aU 8),rq t.af,iH t.eH,iH t.start,iH t.fin,iH t.aF]
theorem Uu (t:TK):t.plain=Box.box 48 (fP (Mf t)):=rfl
def vM (ay eH start fin aF:Int) (aU:UInt64) (who:List UInt8) (aB:Int):List Value:=[.int .i64 ay,.int .i64 eH,.int .i64 start,.int .i64 fin,.int .i64 aF,.int .u64 (aU.toNat:Int),.string ⟨who.toArray⟩,.int .i64 aB]
theorem Tryz.nM:(Tryz.prog.info? 79).map (·.size)=some 8:=by kernel_rfl
end Go.Proofs.YtpibgolaaaemnaaGreatDoor
namespace Go.Proofs.YtpibgolaaaemnaaGreatDoor
open Go.RowKit
set_option maxRecDepth 100000
def jw (t:TK) (aB:Int) (nm:List UInt8):List jX:=[rq (Pure.be t.aU 8),iH aB,iH t.ay,iH t.eH,iH t.start,iH t.fin,iH t.aF,rq nm]
theorem xk (t:TK) (aB:Int) (s:BE):dR t aB s=Box.box 48 (fP (jw t aB s.name)):=rfl
theorem ZT (t:TK) (aB:Int) (nm:List UInt8) (hc:nm.length≤20):(fP (jw t aB nm)).length≤92:=by
 have n0:=gu aB
 have n1:=gu t.ay
 have n2:=gu t.eH
 have n3:=gu t.start
 have n4:=gu t.fin
 have n5:=gu t.aF
 have t1:(Box.box 4 (Pure.be t.aU 8)).length=10:=by rw[ed (by rw[Pure.di];omega),Pure.di]
 have t2:(Box.box 4 nm).length=nm.length+2:=ed (by omega)
 unfold aN at n0 n1 n2 n3 n4 n5
 simp only[jw,fP,List.map_cons,List.map_nil,List.flatten_cons,List.flatten_nil,List.length_append,List.length_nil]
 omega
theorem Xb (t:TK) (aB:Int) (nm:List UInt8) (hc:nm.length≤20) (ht:t.In) (hn:In64 aB):(∀ p∈jw t aB nm,p.2.length≤65535)∧∀ p∈jw t aB nm,pY 7 p:=by
 constructor
 ·intro p hp
  simp only[jw,List.mem_cons,List.not_mem_nil,or_false] at hp
  rcases hp with rfl | rfl | rfl | rfl | rfl | rfl | rfl | rfl
  ·show (Pure.be _ 8).length≤_;rw[Pure.di];omega
  ·exact kN _
  ·exact kN _
  ·exact kN _
  ·exact kN _
  ·exact kN _
  ·exact kN _
  ·show nm.length≤_;omega
 ·intro p hp
  simp only[jw,List.mem_cons,List.not_mem_nil,or_false] at hp
  rcases hp with rfl | rfl | rfl | rfl | rfl | rfl | rfl | rfl
  ·exact mP 7 _
  ·exact jy 7 _ hn
  ·exact jy 7 _ ht.ay
  ·exact jy 7 _ ht.eH
  ·exact jy 7 _ ht.start
  ·exact jy 7 _ ht.fin
  ·exact jy 7 _ ht.aF
  ·exact mP 7 _
set_option maxHeartbeats 4000000 in
theorem Jw (key use draw:UInt64) (x:Int) (t:TK) (aB:Int) (s:BE) (v:Value) (w:World) (hx:zt x=true) (hu:Hid (x=use.toNat)) (hc:s.name.length≤20) (ht:t.In) (hno:In64 aB) (hv:KH w v (Pure.dK key use draw (dR t aB s))) (htab:eO w) :
  Calls Tryz.prog 35 #[.int .u64 (key.toNat:Int),.int .i64 x,v] w fun e w'=>e = .returned (.tuple #[.agg (vM t.ay t.eH t.start t.fin t.aF t.aU s.name aB).toArray,.bool true])∧w.grownBy w' none:=by
 have hpl:(dR t aB s).length≤96:=by
  have h1:=ZT t aB s.name hc
  have h2:=tq 48 (fP (jw t aB s.name))
  rw[xk]
  omega
 obtain ⟨hp1,hp2⟩:=Xb t aB s.name hc ht hno
 obtain ⟨ao,cap,hvs,q2,q3,q4,q5⟩:=hv
 obtain ⟨L,hL⟩:∃ L,(Pure.dK key use draw (dR t aB s)).length=L:=⟨_,rfl⟩
 have hL2:L=(dR t aB s).length+16:=by rw[←hL,Pure.bO]
 rw[hL] at hvs q2
 subst hvs
 have G0:=World.grownBy_alloc w (.cells #[.int .i64 0,.int .i64 0,.int .i64 0,.int .i64 0,.int .i64 0,.int .u64 0,.string ⟨#[]⟩,.int .i64 0] 79) none
 have HU:=hid (yC key use x ao (Pure.dK key use draw (dR t aB s)) L cap _ hx hu (hid hL) (by omega) (by omega) q2 (q5.below G0) (hid (Pure.QA key use draw (dR t aB s))))
 rw[Pure.Gc] at HU
 have D8:=hid (Live.new w #[.int .i64 0,.int .i64 0,.int .i64 0,.int .i64 0,.int .i64 0,.int .u64 0,.string ⟨#[]⟩,.int .i64 0] 79)
 have mD:=hid G0
 have HTb:=hid htab
 have HPp:=hid (And.intro hp1 hp2)
 have YE:=hid hpl
 have HT:=hid (And.intro ht hno)
 clear hpl hp1 hp2 hL hL2 q2 q3 q4 q5 G0 htab ht hc hno hx hu
 go_enter Tryz.func35,Tryz.ntmps35
 go_wp2_with fail
 refine HU.out.mono ?_
 rintro e w1 ⟨v1,p1,rfl,o1,_,g1⟩
 have hk1:KH w1 v1 (Box.box 48 (fP (jw t aB s.name))):=by rw[←xk];exact KH.out o1
 have HS:=hid (Js (jw t aB s.name) v1 w1 (by simp[jw]) HPp.out.1 HPp.out.2 (by have:=YE.out;rw[xk] at this;omega) hk1 (jq HTb.out (ae mD.out g1)))
 obtain ⟨a1,c1,hv1⟩:=hk1.shape
 obtain ⟨m1,hm1⟩:∃ m,(Box.box 48 (fP (jw t aB s.name))).length=m:=⟨_,rfl⟩
 rw[hm1] at hv1
 subst hv1
 have nH:=hid (ae mD.out g1)
 have yx:=hid (D8.out.grown g1)
 clear o1 g1 hk1 HU hm1
 go_wp2_with fail
 refine HS.out.mono ?_
 rintro e w2 ⟨g,c,rfl,hP,g2⟩
 have Yd:(jw t aB s.name).length=8:=rfl
 rw[Yd]
 clear Yd
 have GA:=World.grownBy_alloc w2 (.cells #[.int .u8 108,.int .i64 0,.slice none 0 0,.slice (some ⟨g,0,none⟩) 8 c] 122) none
 have hP2:=hP.keep (fun b hb=>GA.block b hb.2 (by simp))
 obtain ⟨B0,ab,cb,B2,B3,_⟩:=hP2.txt 0 (Pure.be t.aU 8) rfl
 obtain ⟨N0,N1⟩:=hP2.num 1 aB rfl HT.out.2
 obtain ⟨A0,A1⟩:=hP2.num 2 t.ay rfl HT.out.1.ay
 obtain ⟨D0,D1⟩:=hP2.num 3 t.eH rfl HT.out.1.eH
 obtain ⟨E0,E1⟩:=hP2.num 4 t.start rfl HT.out.1.start
 obtain ⟨F0,F1⟩:=hP2.num 5 t.fin rfl HT.out.1.fin
 obtain ⟨K0,K1⟩:=hP2.num 6 t.aF rfl HT.out.1.aF
 obtain ⟨C0,ac,cc,C2,C3,C4⟩:=hP2.txt 7 s.name rfl
 have C5:=hP2.ok (by simp[jw])
 have HI:=hid (Ut (jw t aB s.name) g c ⟨#[116,110,110,110,110,110,110,116]⟩ _ rfl (by show 8≤100;omega) (fun k h h'=>by
  match k,h' with
  | 0,_=>exact ⟨116,B0,rfl⟩
  | 1,_=>exact ⟨110,N0,rfl⟩
  | 2,_=>exact ⟨110,A0,rfl⟩
  | 3,_=>exact ⟨110,D0,rfl⟩
  | 4,_=>exact ⟨110,E0,rfl⟩
  | 5,_=>exact ⟨110,F0,rfl⟩
  | 6,_=>exact ⟨110,K0,rfl⟩
  | 7,_=>exact ⟨116,C0,rfl⟩))
 have HG2:=hid (ae (ae nH.out g2) GA)
 have HL2:=hid ((yx.out.grown g2).grown GA)
 rw[Pure.di] at B2
 have HC:=hid (And.intro N1 (And.intro A1 (And.intro B2 (And.intro C2 (And.intro D1 (And.intro E1 (And.intro F1 K1)))))))
 have HAt:=hid (And.intro B3 C3)
 have Vi:=hid (And.intro C4 C5)
 have ZU:=hid (Nat.lt_of_lt_of_le yx.out.lt (Nat.le_refl _))
 have F5:=hid (bI.new w2 #[.int .u8 108,.int .i64 0,.slice none 0 0,.slice (some ⟨g,0,none⟩) 8 c] 122)
 clear HS hP hP2 N0 N1 A0 A1 B0 B2 B3 C0 C2 C3 C4 C5 D0 D1 E0 E1 F0 F1 K0 K1 g2 GA yx nH
 go_wp2_with fail
 refine HI.out.mono ?_
 rintro e w3 ⟨rfl,g3⟩
 obtain ⟨N1,A1,B2,C2,D1,E1,F1,K1⟩:=HC.out
 have x1:w3.cell? ⟨g,9,none⟩=some (.int .i64 t.ay):=g3.cell A1 (by simp)
 have x5:w3.cell? ⟨g,5,none⟩=some (.int .i64 aB):=g3.cell N1 (by simp)
 have x6:w3.cell? ⟨g,2,none⟩=some (.slice ab 8 cb):=g3.cell B2 (by simp)
 have x10:w3.cell? ⟨g,30,none⟩=some (.slice ac s.name.length cc):=g3.cell C2 (by simp)
 have x13:w3.cell? ⟨g,13,none⟩=some (.int .i64 t.eH):=g3.cell D1 (by simp)
 have x17:w3.cell? ⟨g,17,none⟩=some (.int .i64 t.start):=g3.cell E1 (by simp)
 have x21:w3.cell? ⟨g,21,none⟩=some (.int .i64 t.fin):=g3.cell F1 (by simp)
 have x25:w3.cell? ⟨g,25,none⟩=some (.int .i64 t.aF):=g3.cell K1 (by simp)
 have xp:w3.cell? ⟨w2.heap.size,3,none⟩=some (.slice (some ⟨g,0,none⟩) 8 c):=g3.cell (F5.out.cell 3) (by simp)
 have XZ:=hid (HL2.out.grown g3)
 have rU:=hid (ae HG2.out g3)
 have PY:At w3 ab (Pure.be t.aU 8):=HAt.out.1.below g3
 have Jy:At w3 ac s.name:=HAt.out.2.below g3
 have HK:=hid (Jv (Pure.be t.aU 8) 8 ab cb (w3.drewN 1) (hid (Pure.di _ _)) (by decide) (PY.below (aO (World.grownBy.refl _ _) 1)))
 rw[Pure.Ep] at HK
 have rs:=fun W (h:At W ac s.name)=>iq (P:=Tryz.prog) W 25 9 5 Tryz.underlying25 Tryz.underlying5 Tryz.underlying9 ac cc s.name h
 have FM:Hid (∀ W,CF w3 W (fun b _=>b=w.heap.size)→(fun w'=>w'.cell? ⟨g,9,none⟩=some (.int .i64 t.ay)∧w'.cell? ⟨g,5,none⟩=some (.int .i64 aB)∧w'.cell? ⟨g,2,none⟩=some (.slice ab 8 cb)∧w'.cell? ⟨g,30,none⟩=some (.slice ac s.name.length cc)∧w'.cell? ⟨g,13,none⟩=some (.int .i64 t.eH)∧w'.cell? ⟨g,17,none⟩=some (.int .i64 t.start)∧w'.cell? ⟨g,21,none⟩=some (.int .i64 t.fin)∧w'.cell? ⟨g,25,none⟩=some (.int .i64 t.aF)∧(convert 25 9 (.slice ac s.name.length cc)).run Tryz.prog w' = .ok (.string ⟨s.name.toArray⟩) w') W):=fun W k=>by
  have hg:g≠w.heap.size:=fun e=>by have:=Vi.out.2.1;have:=ZU.out;omega
  refine ⟨k.cell x1 hg,k.cell x5 hg,k.cell x6 hg,k.cell x10 hg,k.cell x13 hg,k.cell x17 hg,k.cell x21 hg,k.cell x25 hg,rs W (Jy.cf k (fun b off e j _ n=>?_))⟩
  have h1:=(Vi.out.1 b off e).1
  have h2:=ZU.out
  omega
 have r2:=rs (w3.drewN 1) (Jy.below (aO (World.grownBy.refl _ _) 1))
 obtain ⟨⟨d0,q0⟩,⟨d1,q1⟩,⟨d2,q2⟩,⟨d3,q3⟩,⟨d4,q4⟩,⟨d5,q5⟩,⟨d6,q6⟩,⟨d7,q7⟩,f0,f1,f2,f3,f4,f5,f6,f7⟩:=dY XZ.out
 clear N1 A1 B2 C2 D1 E1 F1 K1 HI HC HAt HL2 HG2 g3 PY Jy rs
 go_wp2_with fail
 go_region_held3 (fun w'=>w'.cell? ⟨g,9,none⟩=some (.int .i64 t.ay)∧w'.cell? ⟨g,5,none⟩=some (.int .i64 aB)∧w'.cell? ⟨g,2,none⟩=some (.slice ab 8 cb)∧w'.cell? ⟨g,30,none⟩=some (.slice ac s.name.length cc)∧w'.cell? ⟨g,13,none⟩=some (.int .i64 t.eH)∧w'.cell? ⟨g,17,none⟩=some (.int .i64 t.start)∧w'.cell? ⟨g,21,none⟩=some (.int .i64 t.fin)∧w'.cell? ⟨g,25,none⟩=some (.int .i64 t.aF)∧(convert 25 9 (.slice ac s.name.length cc)).run Tryz.prog w' = .ok (.string ⟨s.name.toArray⟩) w') (exact FM.out _ (by (repeat refine CF.setCell ?_ _ _ _ (fun _=>rfl));exact CF.aW (aO (World.grownBy.refl _ _) 1) _)) (first|(go_at_call 48;refine HK.out.mono ?_;rintro e w4 ⟨rfl,rfl⟩))
 go_wp2
 refine bodyPost_ret (aD Tryz.results35 _ _ _ w.heap.size rfl _ (dN (fw (w3.drewN 1) w.heap.size _ _ _ _ _ _ _ _ q0 q1 q2 q3 q4 q5 q6 q7) 79 _ Tryz.underlying79 rfl Tryz.nM)) rfl ⟨rfl,?_⟩
 repeat refine aK ?_ (Nat.le_refl _)
 exact aO rU.out 1
end Go.Proofs.YtpibgolaaaemnaaGreatDoor
namespace Go.Proofs.YtpibgolaaaemnaaGreatDoor
open Go.RowKit
set_option maxRecDepth 100000
def vR (w:World) (ok:Nat→Prop) (cs:List Value):Prop:=cs=dW 0 0 none 0 0 none 0 0∨∃ tag i,fF 8 w ok tag i cs
theorem vR.keep {w w':World} {ok:Nat→Prop} {cs:List Value} (h:vR w ok cs) (k:∀ b,ok b→w'.heap[b]?=w.heap[b]?):vR w' ok cs:=by
 rcases h with h | ⟨tag,i,h⟩
 ·exact .inl h
 ·exact .inr ⟨tag,i,h.keep k (fun _ h=>h)⟩
theorem yT {zs t:List UInt8} (h:shown zs=some t):zs.length≤300∧∃ tag i,Box.cut zs=some (tag,i,[])∧Box.jd 8 tag i=some t:=by
 unfold shown at h
 split at h
 ·rename_i hl
  refine ⟨hl,?_⟩
  rw[Box.Gq] at h
  split at h
  ·rename_i tag i hc
   exact ⟨tag,i,hc,h⟩
  ·simp at h
 ·simp at h
theorem Ms (zs:List UInt8) (n:Nat) (ao:Option Addr) (cap:Nat) (w:World) (hn:zs.length=n) (hcap:n≤cap) (hcm:cap≤9223372036854775807) (hat:At w ao zs) (htab:eO w) :
  Calls Tryz.prog 33 #[.slice ao n cap] w fun e w'=>∃ (kk vv:Int) (a2:Option Addr) (n2 c2:Nat) (a3:Option Addr) (n3 c3:Nat),e = .returned (.agg #[.int .u8 kk,.int .i64 vv,.slice a2 n2 c2,.slice a3 n3 c3])∧
   vR w' (fun b=>w.heap.size≤b∧b<w'.heap.size) (dW kk vv a2 n2 c2 a3 n3 c3)∧w.grownBy w' none:=by
 cases hs:shown zs with
 | none=>
  refine (yj zs n ao cap w (hid hn) hcap hcm hat (hid hs) htab).mono ?_
  rintro e w' ⟨rfl,hg⟩
  exact ⟨0,0,none,0,0,none,0,0,rfl,.inl rfl,hg⟩
 | some t=>
  obtain ⟨hl,tag,i,hc,hp⟩:=yT hs
  have:=Box.fq hc
  refine (vG tag i t zs n ao cap w (hid hn) (by omega) hcap hcm hat (hid hc) (hid hp) (by omega) htab).mono ?_
  rintro e w' ⟨kk,vv,a2,n2,c2,a3,n3,c3,rfl,hP,hg⟩
  exact ⟨kk,vv,a2,n2,c2,a3,n3,c3,rfl,.inr ⟨tag,i,hP⟩,hg⟩
def JL (w:World) (ok:Nat→Prop) (a3:Option Addr) (n3:Nat):Prop:=
 ∀ k,k<n3→∃ g tag i cs,a3=some ⟨g,0,none⟩∧ok g∧fF 7 w ok tag i cs∧∀ j,j<4→w.cell? ⟨g,k*4+j,none⟩=cs[j]?
theorem fF.kind {d:Nat} {w:World} {ok:Nat→Prop} {tag:UInt8} {i:List UInt8} {cs:List Value} (h:fF d w ok tag i cs):∃ z:UInt8,cs[0]?=some (.int .u8 (z.toNat:Int)):=by
 have leaf:mi w ok tag i cs→∃ z:UInt8,cs[0]?=some (.int .u8 (z.toNat:Int)):=by
  rintro (⟨_,v,_,rfl⟩ | ⟨_,a,c,rfl,_⟩)
  ·exact ⟨110,rfl⟩
  ·exact ⟨116,rfl⟩
 cases d with
 | zero=>exact leaf h
 | succ d=>
  rcases h with h | ⟨_,ps,a,c,css,_,rfl,_⟩
  ·exact leaf h
  ·exact ⟨108,rfl⟩
theorem vR.row {w:World} {ok:Nat→Prop} {vv:Int} {a2:Option Addr} {n2 c2:Nat} {a3:Option Addr} {n3 c3:Nat} (h:vR w ok (dW 108 vv a2 n2 c2 a3 n3 c3)):JL w ok a3 n3:=by
 rcases h with h | ⟨tag,i,(⟨_,v,_,h⟩ | ⟨_,a,c,h,_⟩) | ⟨_,ps,a,c,css,_,h,hl,hr⟩⟩
 ·simp[dW] at h
 ·simp[dW] at h
 ·simp[dW] at h
 ·simp only[dW,List.cons.injEq,Value.slice.injEq,and_true] at h
  obtain ⟨_,_,_,rfl,rfl,rfl⟩:=h
  intro k hk
  obtain ⟨_,h2,g,h3,h4,h5⟩:=hr k hk (by omega)
  exact ⟨g,_,_,_,h3,h4,h2,h5⟩
theorem fF.num {d:Nat} {w:World} {ok:Nat→Prop} {tag:UInt8} {i:List UInt8} {cs:List Value} (h:fF d w ok tag i cs) (h0:cs[0]?=some (.int .u8 110)):∃ v,Box.num i=some v∧cs[1]?=some (.int .i64 v):=by
 have leaf:mi w ok tag i cs→∃ v,Box.num i=some v∧cs[1]?=some (.int .i64 v):=by
  rintro (⟨_,v,hv,rfl⟩ | ⟨_,a,c,rfl,_⟩)
  ·exact ⟨v,hv,rfl⟩
  ·simp at h0
 cases d with
 | zero=>exact leaf h
 | succ d=>
  rcases h with h | ⟨_,ps,a,c,css,_,rfl,_⟩
  ·exact leaf h
  ·simp at h0
theorem fF.txt {d:Nat} {w:World} {ok:Nat→Prop} {tag:UInt8} {i:List UInt8} {cs:List Value} (h:fF d w ok tag i cs) (h0:cs[0]?=some (.int .u8 116)):∃ a c,cs[2]?=some (.slice a i.length c)∧At w a i∧(∀ b off,a=some ⟨b,off,none⟩→ok b)∧yR a i.length c:=by
 have leaf:mi w ok tag i cs→∃ a c,cs[2]?=some (.slice a i.length c)∧At w a i∧(∀ b off,a=some ⟨b,off,none⟩→ok b)∧yR a i.length c:=by
  rintro (⟨_,v,hv,rfl⟩ | ⟨_,a,c,rfl,h1,h2,h3⟩)
  ·simp at h0
  ·exact ⟨a,c,rfl,h1,h2,h3⟩
 cases d with
 | zero=>exact leaf h
 | succ d=>
  rcases h with h | ⟨_,ps,a,c,css,_,rfl,_⟩
  ·exact leaf h
  ·simp at h0
theorem Xn (kk vv:Int) (a2:Option Addr) (n2 c2:Nat) (a3:Option Addr) (n3 c3:Nat) (K:ByteArray) (w:World) (ok:Nat→Prop) (hm:K.size≤100) (h:vR w ok (dW kk vv a2 n2 c2 a3 n3 c3)) :
  Calls Tryz.prog 34 #[.agg #[.int .u8 kk,.int .i64 vv,.slice a2 n2 c2,.slice a3 n3 c3],.string K] w (Cb kk a3 n3 K w):=by
 refine Mr kk vv a2 n2 c2 a3 n3 c3 K w hm (fun hk _ k hk3=>?_)
 subst hk
 obtain ⟨g,tag,i,cs,h1,h2,h3,h4⟩:=h.row k hk3
 obtain ⟨z,hz⟩:=h3.kind
 exact ⟨g,z,h1,by have:=h4 0 (by decide);rw[hz] at this;exact this⟩
theorem JL.num {w:World} {ok:Nat→Prop} {g n3 k:Nat} (h:JL w ok (some ⟨g,0,none⟩) n3) (hk:k<n3) (h0:w.cell? ⟨g,k*4,none⟩=some (.int .u8 110)):∃ i v,Box.num i=some v∧w.cell? ⟨g,k*4+1,none⟩=some (.int .i64 v):=by
 obtain ⟨g',tag,i,cs,h1,h2,h3,h4⟩:=h k hk
 cases h1
 have:=h4 0 (by decide)
 rw[Nat.add_zero,h0] at this
 obtain ⟨v,hv,hc⟩:=h3.num this.symm
 exact ⟨i,v,hv,by rw[h4 1 (by decide)];exact hc⟩
theorem JL.txt {w:World} {ok:Nat→Prop} {g n3 k:Nat} (h:JL w ok (some ⟨g,0,none⟩) n3) (hk:k<n3) (h0:w.cell? ⟨g,k*4,none⟩=some (.int .u8 116)):∃ i a c,w.cell? ⟨g,k*4+2,none⟩=some (.slice a i.length c)∧At w a i∧(∀ b off,a=some ⟨b,off,none⟩→ok b)∧yR a i.length c:=by
 obtain ⟨g',tag,i,cs,h1,h2,h3,h4⟩:=h k hk
 cases h1
 have:=h4 0 (by decide)
 rw[Nat.add_zero,h0] at this
 obtain ⟨a,c,hc,q⟩:=h3.txt this.symm
 exact ⟨i,a,c,by rw[h4 2 (by decide)];exact hc,q⟩
end Go.Proofs.YtpibgolaaaemnaaGreatDoor
