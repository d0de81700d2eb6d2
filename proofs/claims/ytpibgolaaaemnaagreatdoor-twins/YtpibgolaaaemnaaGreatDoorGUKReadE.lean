/-
  
  
  
-/
import Derived.Test.YtpibgolaaaemnaaGreatDoorGUKReadB
import Derived.Test.YtpibgolaaaemnaaGreatDoorGUBoxN
namespace Go.Proofs.YtpibgolaaaemnaaGreatDoor
open Go.RowKit
set_option maxRecDepth 100000
def qX (d:Nat) (w:World) (base:Nat) (lv:Value) (ps:List (UInt8×List UInt8)) (css:List (List Value)) (k:Nat):Prop:=
 ∀ j,j<k→(css.getD j []).length=4∧fF d w (fun b=>base≤b∧b<w.heap.size∧some b≠lv.ownBlock) (ps.getD j (0,[])).1 (ps.getD j (0,[])).2 (css.getD j [])
theorem FD {α:Type} {l:List α} {x d:α} {j:Nat} (h:j<l.length):(l++[x]).getD j d=l.getD j d:=by
 simp[List.getD,List.getElem?_append_left h]
theorem FE {α:Type} {l:List α} {x d:α}:(l++[x]).getD l.length d=x:=by
 simp[List.getD]
theorem qX.more {d:Nat} {wr w1 w2 w3:World} {base pb:Nat} {lv lv':Value} {ps:List (UInt8×List UInt8)} {css:List (List Value)} {k:Nat} {x:List Value} (h:qX d wr base lv ps css k) (hl:css.length=k)
  (hg1:wr.grownBy w1 none) (hg2:w1.grownBy w2 lv.ownBlock) (h3:∀ b,b≠pb→w3.heap[b]?=w2.heap[b]?) (hs3:w2.heap.size≤w3.heap.size) (hpb:pb<base) (hb:base≤wr.heap.size) (hlt:∀ g,lv.ownBlock=some g→g<wr.heap.size) (hlv:lv'.ownBlock=lv.ownBlock∨∃ g,lv'.ownBlock=some g∧w1.heap.size≤g)
  (hx4:x.length=4) (m1:World) (hm1:m1.heap.size≤w1.heap.size) (hmb:∀ b,b<m1.heap.size→w1.heap[b]?=m1.heap[b]?) (hx:fF d m1 (fun b=>wr.heap.size≤b∧b<m1.heap.size) (ps.getD k (0,[])).1 (ps.getD k (0,[])).2 x):qX d w3 base lv' ps (css++[x]) (k+1):=by
 have s1:=hg1.size
 have s2:=hg2.size
 intro j hj
 by_cases hjk:j<k
 ·rw[FD (by omega)]
  obtain ⟨q1,q2⟩:=h j hjk
  refine ⟨q1,q2.keep (fun b hb'=>?_) (fun b hb'=>⟨hb'.1,by omega,?_⟩)⟩
  ·rw[h3 b (by omega),hg2.block b (by omega) hb'.2.2,hg1.block b hb'.2.1 (by simp)]
  ·rcases hlv with e | ⟨g,e,hge⟩
   ·rw[e];exact hb'.2.2
   ·rw[e];simp;omega
 ·have:j=k:=by omega
  subst this
  subst hl
  rw[FE]
  have hne:∀ b,wr.heap.size≤b→some b≠lv.ownBlock:=fun b hb' e=>by have:=hlt b e.symm;omega
  refine ⟨hx4,hx.keep (fun b hb'=>?_) (fun b hb'=>⟨by omega,by omega,?_⟩)⟩
  ·rw[h3 b (by omega),hg2.block b (by omega) (hne b hb'.1),hmb b hb'.2]
  ·rcases hlv with e | ⟨g,e,hge⟩
   ·rw[e];exact hne b hb'.1
   ·rw[e];simp;omega
set_option maxHeartbeats 8000000 in
theorem PK (d:Nat) (ih:Uf d) (tag:UInt8) (ins L post:List UInt8) (ps:List (UInt8×List UInt8)) (ts:List (List UInt8)) (m N i0:Nat) (S:ByteArray) (w:World) (hS:Hid (S=⟨L.toArray⟩)) (hN:Hid (L.length=N)) (Ua:N≤1000000) (h48:Hid (tag.toNat=48)) (hps:Hid (Box.eX ins=some ps)) (hts:Hid (Box.tells d ps=some ts)) (hm:Hid (ps.length=m)) (hL:Hid (L.drop i0=123::(Box.commas ts++125::post))) (htab:eO w) :
  Calls Tryz.prog 46 #[.string S,.int .i64 (i0:Int)] w fun e w'=>BL (d+1) tag ins (i0+((Box.commas ts).length+2)) w e w':=by
 obtain ⟨ip,hip,hi0,hi1,hi2⟩:=info_parts Tryz.Ue
 have hsz:S.size=N:=by rw[hS.out,←hN.out];simp[ByteArray.size]
 have hlen:i0+2+(Box.commas ts).length+post.length=N:=by
  have:=congrArg List.length hL.out
  rw[List.length_drop,List.length_cons,List.length_append,List.length_cons,hN.out] at this
  omega
 have htl:Hid (ts.length=m):=by show _=_;rw[Box.Ex hts.out,hm.out]
 have g0:∀ h:i0<S.size,S[i0]'h=123:=fun h=>by rw[nI hS.out];exact (drop_cons hL.out).1
 have HD1:Hid (L.drop (i0+1)=Box.commas (ts.drop 0)++125::post):=(drop_cons hL.out).2.1
 have hNi:¬ N≤i0:=by omega
 have acN:decide (N≤i0)=false:=decide_eq_false hNi
 have hmN:m≤1000000:=by
  have:ts.length≤(Box.commas ts).length+1:=by
   clear hlen HD1 hL htl hts
   induction ts with
   | nil=>simp
   | cons a ts ih2=>
    cases ts with
    | nil=>simp
    | cons b ts=>simp[Box.commas] at ih2 ⊢;omega
  rw[htl.out] at this
  omega
 have G0:w.grownBy ((w.alloc (.cells fI 122)).alloc (.cells #[.int .u8 108,.int .i64 0,.slice none 0 0,.slice none 0 0] 122)) none:=aC (World.grownBy_alloc w _ none) _
 go_enter Tryz.func46,Tryz.ntmps46
 go_wp2_with fail
 go_loopw [1] (fun i wr=>∃ (k pos:Nat) (lv:Value) (css:List (List Value)),k≤m∧i = .int .i64 (pos:Int)∧Hid (L.drop pos=Box.commas (ts.drop k)++125::post)∧Hid (css.length=k)∧wr.ownsRow (w.heap.size+2) 122 4 lv k css.flatten∧bI wr (w.heap.size+1) #[.int .u8 108,.int .i64 0,.slice none 0 0,lv]∧bI wr w.heap.size fI∧w.grownBy wr none∧w.heap.size+2≤wr.heap.size∧Hid (qX d wr (w.heap.size+2) lv ps css k)∧Hid (i0<pos)) (fun i _=>N-(intOf i).toNat)
 case atStart=>
  refine ⟨0,i0+1,.slice none 0 0,[],Nat.zero_le _,by go_num,HD1,hid rfl,World.ownsRow_nil _ _ _ _,?_,(bI.new w _ _).alloc _,G0,by simp,hid (fun j hj=>by omega),hid (by omega)⟩
  have:=bI.new (w.alloc (.cells fI 122)) #[.int .u8 108,.int .i64 0,.slice none 0 0,.slice none 0 0] 122
  rw[World.size_alloc] at this
  exact this
 case round=>
  obtain ⟨k,pos,lv,css,hk,rfl,Uc,HC,hown,hP,hR,hgr,hbs,HPS,HPI⟩:=hrel
  obtain ⟨av,cv,rfl⟩:=pq hown
  by_cases hlt:k<m
  ·have hkt:k<ts.length:=by rw[htl.out];exact hlt
   obtain ⟨tk,htk⟩:∃ t,t=ts.getD k []:=⟨_,rfl⟩
   obtain ⟨post',hpost'⟩:∃ p,p=(if k+1<m then 44::(Box.commas (ts.drop (k+1))++125::post) else 125::post):=⟨_,rfl⟩
   have HL2:Hid (L.drop pos=tk++post'):=by
    show _=_
    rw[Uc.out,Jm hkt,htl.out,hpost',htk]
    split <;> simp
   have acQ:Hid (Ends post'):=by
    rw[hpost']
    show Ends _
    split
    ·exact .inr (.inl ⟨_,rfl⟩)
    ·exact .inr (.inr ⟨_,rfl⟩)
   have WR:=PH hts.out k (by rw[hm.out];exact hlt)
   rw[←htk] at WR
   obtain ⟨c0,r0,hc0,acR,ag6⟩:=Jl WR
   have acS:pos<N:=by
    have:=(drop_cons (show L.drop pos=c0::(r0++post') by rw[HL2.out,hc0];rfl)).2.2
    rw[hN.out] at this
    exact this
   have gp:∀ h:pos<S.size,S[pos]'h=c0:=fun h=>by
    rw[nI hS.out]
    exact (drop_cons (show L.drop pos=c0::(r0++post') by rw[HL2.out,hc0];rfl)).1
   have acT:((c0.toNat:Int) != 125)=true:=by rw[bne_iff_ne];omega
   have acU:(pos:Int)<(N:Int):=by omega
   have acV:(0:Int)≤(pos:Int):=by omega
   have XJ:=ih (ps.getD k (0,[])).1 (ps.getD k (0,[])).2 L tk post' N pos S wr hS hN Ua (hid WR) HL2 acQ (jq htab hgr)
   obtain ⟨T,hT⟩:∃ T,T=tk.length:=⟨_,rfl⟩
   have hT1:0<T:=by rw[hT,hc0];simp
   rw[←hT] at XJ
   have HD2:Hid (L.drop (pos+T)=post'):=by show _=_;rw[←List.drop_drop,HL2.out,hT,List.drop_left]
   have hpT:pos+T<N:=by
    have:∃ c r,post'=c::r:=by
     rcases acQ.out with e | ⟨r,e⟩ | ⟨r,e⟩
     ·rw[hpost'] at e;split at e <;> simp at e
     ·exact ⟨_,_,e⟩
     ·exact ⟨_,_,e⟩
    obtain ⟨c,r,e⟩:=this
    have h2:=(drop_cons (HD2.out.trans e)).2.2
    rw[hN.out] at h2
    exact h2
   have ag7:((pos+T:Nat):Int)<(N:Int):=by omega
   have ag8:¬ (N≤pos+T):=by omega
   have acW:¬ ((N:Int)≤((pos+T:Nat):Int)):=by omega
   have ag9:(0:Int)≤((pos+T:Nat):Int):=by omega
   have HPO:Hid (post'=(if k+1<m then 44::(Box.commas (ts.drop (k+1))++125::post) else 125::post)):=hpost'
   have Ug:Hid (i0<pos+T∧pos<pos+T):=⟨by have:=HPI.out;omega,by omega⟩
   obtain ⟨q,hq⟩:∃ q,q=pos+T:=⟨_,rfl⟩
   rw[←hq] at XJ hpT ag7 ag8 acW ag9 HD2 Ug
   clear hpost' hT hc0 WR htk hkt acR ag6 hq
   go_wp2_with fail
   refine XJ.mono ?_
   rintro e w1 ⟨kk,vv,a2,n2,c2,a3,n3,c3,rfl,hkk,Ni,hg1⟩
   have hP1:=hP.grown hg1 (by simp)
   have acX:=hR.grown hg1 (by simp)
   have G1:=ae hgr hg1
   have hown1:=hown.kept hg1 (Classical.em _)
   have hs1:=hg1.size
   have p3:=hP1.cell 3
   simp only[List.getElem?_toArray,List.getElem?_cons_zero,List.getElem?_cons_succ] at p3
   have ZK:k+1≤maxLen:=by unfold maxLen;omega
   have hll:(k+1)*64≤140737488355328:=by omega
   clear XJ hP hR gp acT
   have hcells:=jS (w1.alloc (.cells #[.int .u8 kk,.int .i64 vv,.slice a2 n2 c2,.slice a3 n3 c3] 122)) 122 (dW kk vv a2 n2 c2 a3 n3 c3)
   rw[World.size_alloc] at hcells
   have p3a:=(hP1.alloc (.cells #[.int .u8 kk,.int .i64 vv,.slice a2 n2 c2,.slice a3 n3 c3] 122)).cell 3
   simp only[List.getElem?_toArray,List.getElem?_cons_zero,List.getElem?_cons_succ] at p3a
   go_wp2_with (at_builtin;refine vX _ rfl _ _ 120 rfl (w.heap.size+2) 122 ip _ 4 64 Tryz.underlying120 hip hi0 hi1 hi2 rfl (by decide) _ _ _ rfl ((hown1.alloc _).alloc _) ⟨w1.heap.size+1,0,none⟩ 1 1 (dW kk vv a2 n2 c2 a3 n3 c3) rfl rfl hcells (by intro u hu;simp[dW] at hu;rcases hu with rfl | rfl | rfl | rfl <;> rfl) (by omega) ZK hll (by simp;omega) ?_)
   intro v2 w2 hown2 hg2 hblk
   have hne:∀ g,g<w.heap.size+2→some g≠(Value.slice av k cv).ownBlock:=fun g hg e=>by have:=(hown.lt g e.symm).1;omega
   have hP2:=((hP1.alloc (.cells #[.int .u8 kk,.int .i64 vv,.slice a2 n2 c2,.slice a3 n3 c3] 122)).alloc (.cells #[.int .u8 kk,.int .i64 vv,.slice a2 n2 c2,.slice a3 n3 c3] 122)).grown hg2 (hne _ (by omega))
   have hR2:=((acX.alloc (.cells #[.int .u8 kk,.int .i64 vv,.slice a2 n2 c2,.slice a3 n3 c3] 122)).alloc (.cells #[.int .u8 kk,.int .i64 vv,.slice a2 n2 c2,.slice a3 n3 c3] 122)).grown hg2 (hne _ (by omega))
   have G2:w.grownBy w2 none:=oD (aC (aC G1 _) _) hg2 (fun i hi=>by have:=(hown.lt i hi).1;omega)
   have hs2:w.heap.size+2≤w2.heap.size:=by have:=hg2.size;simp at this;omega
   obtain ⟨Uh,Ui,rfl⟩:=pq hown2
   have RO:w2.ownsRow (w.heap.size+2) 122 4 (.slice Uh (k+1) Ui) (k+1) (css++[dW kk vv a2 n2 c2 a3 n3 c3]).flatten:=by
    rw[List.flatten_append]
    simpa using hown2
   have RP:Hid (qX d (w2.setCell ⟨w.heap.size+1,3,none⟩ (.slice Uh (k+1) Ui)) (w.heap.size+2) (.slice Uh (k+1) Ui) ps (css++[dW kk vv a2 n2 c2 a3 n3 c3]) (k+1)):=by
    refine qX.more (pb:=w.heap.size+1) HPS.out HC.out (aC (aC hg1 _) _) hg2 (fun b hb=>Below.heap_setCell w2 _ _ b hb) (by rw[World.size_setCell];exact Nat.le_refl _) (by omega) hbs (fun g hg=>(hown.lt g hg).2) ?_ rfl w1 (by simp;omega) (fun b hb=>?_) Ni
    ·rcases hblk.out with h | h
     ·exact .inl h
     ·exact .inr ⟨_,h,by simp⟩
    ·rw[Below.heap_alloc _ _ b (by simp;omega),Below.heap_alloc w1 _ b hb]
   have p3':=hP2.cell 3
   have p3f:=hP2.frozen 3
   simp only[List.getElem?_toArray,List.getElem?_cons_zero,List.getElem?_cons_succ] at p3'
   have RR:∀ (p':Nat),Hid (L.drop p'=Box.commas (ts.drop (k+1))++125::post)→i0<p'→∃ (k' pos':Nat) (lv:Value) (css:List (List Value)),k'≤m∧Value.int .i64 (p':Int) = .int .i64 (pos':Int)∧Hid (L.drop pos'=Box.commas (ts.drop k')++125::post)∧Hid (css.length=k')∧(w2.setCell ⟨w.heap.size+1,3,none⟩ (.slice Uh (k+1) Ui)).ownsRow (w.heap.size+2) 122 4 lv k' css.flatten∧bI (w2.setCell ⟨w.heap.size+1,3,none⟩ (.slice Uh (k+1) Ui)) (w.heap.size+1) #[.int .u8 108,.int .i64 0,.slice none 0 0,lv]∧bI (w2.setCell ⟨w.heap.size+1,3,none⟩ (.slice Uh (k+1) Ui)) w.heap.size fI∧w.grownBy (w2.setCell ⟨w.heap.size+1,3,none⟩ (.slice Uh (k+1) Ui)) none∧w.heap.size+2≤(w2.setCell ⟨w.heap.size+1,3,none⟩ (.slice Uh (k+1) Ui)).heap.size∧Hid (qX d (w2.setCell ⟨w.heap.size+1,3,none⟩ (.slice Uh (k+1) Ui)) (w.heap.size+2) lv ps css k')∧Hid (i0<pos'):=by
    intro p' hp' aha
    refine ⟨k+1,p',.slice Uh (k+1) Ui,css++[dW kk vv a2 n2 c2 a3 n3 c3],by omega,rfl,hp',by show _=_;rw[List.length_append,HC.out];rfl,ownsRow_setCell_below RO (by show w.heap.size+1<w.heap.size+2;omega) _,?_,hR2.other _ _ (by show w.heap.size≠w.heap.size+1;omega),aK G2 (by omega),by rw[World.size_setCell];exact hs2,RP,aha⟩
    have:=hP2.set 3 (.slice Uh (k+1) Ui)
    simpa using this
   clear hown hown1 hown2 hg1 hg2 hP1 acX hgr hne p3 p3a RO Ni HPS hcells hblk hP2 hR2 G2 G1 RP
   by_cases hk1:k+1<m
   ·have hpo:=HPO.out
    rw[if_pos hk1] at hpo
    have Vg:=drop_cons (HD2.out.trans hpo)
    have gq:∀ h:q<S.size,S[q]'h=44:=fun h=>by rw[nI hS.out];exact Vg.1
    have RQ:=RR (q+1) (hid Vg.2.1) (by have:=Ug.out;omega)
    have hqm:Hid (pos<q):=Ug.out.2
    clear hpo Vg RR
    go_wp2
    go_roundw
    case rel=>exact RQ
    case measure=>have:=hqm.out;simp[intOf];omega
   ·have hpo:=HPO.out
    rw[if_neg hk1] at hpo
    have Vg:=drop_cons (HD2.out.trans hpo)
    have gq:∀ h:q<S.size,S[q]'h=125:=fun h=>by rw[nI hS.out];exact Vg.1
    have RQ:=RR q (hid (by rw[HD2.out,hpo,List.drop_of_length_le (by rw[htl.out];omega)];rfl)) (by have:=Ug.out;omega)
    have hqm:Hid (pos<q):=Ug.out.2
    clear hpo Vg RR
    go_wp2
    go_roundw
    case rel=>exact RQ
    case measure=>have:=hqm.out;simp[intOf];omega
  ·have Ou:k=m:=by omega
   subst Ou
   have HD2:Hid (L.drop pos=125::post):=by show _=_;rw[Uc.out,List.drop_of_length_le (by rw[htl.out];exact Nat.le_refl _)];rfl
   have Vg:=drop_cons HD2.out
   have acS:pos<N:=by rw[←hN.out];exact Vg.2.2
   have gp:∀ h:pos<S.size,S[pos]'h=125:=fun h=>by rw[nI hS.out];exact Vg.1
   have acU:(pos:Int)<(N:Int):=by omega
   have acV:(0:Int)≤(pos:Int):=by omega
   have HPE:Hid ((pos:Int)+1=((i0+((Box.commas ts).length+2):Nat):Int)):=by
    show _=_
    have:=congrArg List.length HD2.out
    rw[List.length_drop,List.length_cons,hN.out] at this
    omega
   have p0:=hP.cell 0
   have p1:=hP.cell 1
   have p2:=hP.cell 2
   have p3:=hP.cell 3
   have r0:=hR.cell 0
   have r1:=hR.cell 1
   have r2:=hR.cell 2
   have r3:=hR.cell 3
   have s0:=hR.frozen 0
   have s1:=hR.frozen 1
   have s2:=hR.frozen 2
   have s3:=hR.frozen 3
   simp only[List.getElem?_toArray,List.getElem?_cons_zero,List.getElem?_cons_succ] at p0 p1 p2 p3 r0 r1 r2 r3
   clear Vg
   go_wp2
   (try simp only[Exit.inBlock,Exit.then])
   refine bodyPost_ret (iW rfl _ _ _ w.heap.size rfl _ (lZ (jV hR _ _ _ _))) rfl ?_
   have hkeep:∀ b,w.heap.size+2≤b→((((wr.setCell ⟨w.heap.size,0,none⟩ (.int .u8 108)).setCell ⟨w.heap.size,1,none⟩ (.int .i64 0)).setCell ⟨w.heap.size,2,none⟩ (.slice none 0 0)).setCell ⟨w.heap.size,3,none⟩ (.slice av k cv)).heap[b]?=wr.heap[b]?:=by
    intro b hb
    have hne:b≠w.heap.size:=by omega
    rw[Below.heap_setCell _ _ _ _ hne,Below.heap_setCell _ _ _ _ hne,Below.heap_setCell _ _ _ _ hne,Below.heap_setCell _ _ _ _ hne]
   refine ⟨108,0,none,0,0,av,k,cv,qW HPE.out,rfl,.inr ⟨h48.out,ps,av,cv,css,hps.out,by rw[hm.out],by rw[HC.out,hm.out],fun j hj hj'=>?_⟩,l9 hgr (Nat.le_refl _)⟩
   have hjk:j<k:=by rw[←HC.out];exact hj'
   obtain ⟨q1,q2⟩:=HPS.out j hjk
   have e1:css.getD j []=css[j]:=by simp[List.getD,List.getElem?_eq_getElem hj']
   have e2:ps.getD j (0,[])=ps[j]:=by simp[List.getD,List.getElem?_eq_getElem hj]
   rw[e1] at q1 q2
   rw[e2] at q2
   obtain ⟨g0,hav⟩:∃ g0,av=some ⟨g0,0,none⟩:=by
    rcases hown.2 with ⟨h,h2⟩ | ⟨g,cap,cur,h,_⟩
    ·omega
    ·simp at h;exact ⟨g,h.1⟩
   subst hav
   have hgl:=hown.lt g0 rfl
   refine ⟨q1,q2.keep (fun b hb=>hkeep b hb.1) (fun b hb=>⟨by omega,by simp only[World.size_setCell];exact hb.2.1⟩),g0,rfl,⟨by omega,by simp only[World.size_setCell];exact hgl.2⟩,fun i hi=>?_⟩
   rw[cell_kept (hkeep g0 hgl.1),hown.cellAt (j*4+i) (by omega),PI css (fun j hj=>(HPS.out j (by rw[←HC.out];exact hj)).1) j i hj' hi,e1]
theorem Uj:∀ d,Uf d:=by
 intro d
 induction d with
 | zero=>
  intro tag ins L t post N i0 S w hS hN Ua hp hL hE htab
  exact Ed 0 tag ins L t post N i0 S w hS hN Ua hp hL hE htab
 | succ d ih=>
  intro tag ins L t post N i0 S w hS hN Ua hp hL hE htab
  by_cases h48:tag.toNat=48
  ·have hp':=hp.out
   rw[Box.zY d tag ins h48] at hp'
   cases hc:Box.eX ins with
   | none=>rw[hc] at hp';simp at hp'
   | some ps=>
    rw[hc] at hp'
    simp only[Option.map_eq_some_iff] at hp'
    obtain ⟨ts,hts,rfl⟩:=hp'
    have C:=PK d ih tag ins L post ps ts ps.length N i0 S w hS hN Ua (hid h48) (hid hc) (hid hts) (hid rfl) (hid (by rw[hL.out];simp)) htab
    have e:((123:UInt8)::Box.commas ts++[125]).length=(Box.commas ts).length+2:=by simp
    rw[e]
    exact C
  ·have hp':=hp.out
   rw[Box.qw (d+1) tag ins h48] at hp'
   exact Ed (d+1) tag ins L t post N i0 S w hS hN Ua (hid hp') hL hE htab
end Go.Proofs.YtpibgolaaaemnaaGreatDoor
namespace Go.Proofs.YtpibgolaaaemnaaGreatDoor
open Go.RowKit
set_option maxRecDepth 100000
theorem mF {w w':World} (h:Below w.heap.size w w'):w.grownBy w' none:=⟨h.os,h.tape,h.output,h.size,fun i hi _=>h.block i hi⟩
theorem CZ {l t:List UInt8} (h:shown l=some t):kJ l = .tuple #[.string ⟨t.toArray⟩,.int .i64 0]:=by rw[kJ,h]
theorem BN {l i:List UInt8} {tag:UInt8} (h:Box.cut l=some (tag,i,[])) (hl:l.length≤300):shown l=Box.jd 8 tag i:=by
 rw[shown,if_pos hl,Box.Gq,h]
set_option maxHeartbeats 1000000 in
theorem vG (tag:UInt8) (i t zs:List UInt8) (n:Nat) (ao:Option Addr) (cap:Nat) (w:World) (hn:Hid (zs.length=n)) (FH:n≤300) (hcap:n≤cap) (hcm:cap≤9223372036854775807) (hat:At w ao zs) (wo:Hid (Box.cut zs=some (tag,i,[]))) (hp:Hid (Box.jd 8 tag i=some t)) (hi:i.length≤300) (htab:eO w) :
  Calls Tryz.prog 33 #[.slice ao n cap] w fun e w'=>∃ (kk vv:Int) (a2:Option Addr) (n2 c2:Nat) (a3:Option Addr) (n3 c3:Nat),e = .returned (.agg #[.int .u8 kk,.int .i64 vv,.slice a2 n2 c2,.slice a3 n3 c3])∧
   fF 8 w' (fun b=>w.heap.size≤b∧b<w'.heap.size) tag i (dW kk vv a2 n2 c2 a3 n3 c3)∧w.grownBy w' none:=by
 have hlt:=Box.Ey 8 tag i t hp.out
 have hres:kJ zs = .tuple #[.string ⟨t.toArray⟩,.int .i64 0]:=CZ (by rw[BN wo.out (by rw[hn.out];exact FH),hp.out])
 have G0:w.grownBy (w.alloc (.cells fI 122)) none:=World.grownBy_alloc w _ none
 have hB0:=bI.new w fI 122
 have hW:=DJ zs n ao cap (w.alloc (.cells fI 122)) hn hcap hcm (hat.below G0) (jq htab G0)
 rw[hres] at hW
 go_enter Tryz.func33,Tryz.ntmps33
 go_wp2_with fail
 refine hW.mono ?_
 rintro e w1 ⟨rfl,hb1⟩
 have hg1:=mF hb1
 have hB1:=hB0.grown hg1 (by simp)
 have G1:=ae G0 hg1
 have hRd:=Uj 8 tag i t t [] t.length 0 ⟨t.toArray⟩ w1 (hid rfl) (hid rfl) (by omega) hp (hid (by simp)) (hid (.inl rfl)) (jq htab G1)
 have hz:((0:Nat):Int)=0:=rfl
 rw[hz] at hRd
 clear hW hb1 hg1 hB0
 go_wp2_with fail
 refine hRd.mono ?_
 rintro e w2 ⟨kk,vv,a2,n2,c2,a3,n3,c3,rfl,hkk,Ni,hg2⟩
 have hB2:=(hB1.grown hg2 (by simp)).alloc (.cells #[.int .u8 kk,.int .i64 vv,.slice a2 n2 c2,.slice a3 n3 c3] 122)
 have G2:=aC (ae G1 hg2) (.cells #[.int .u8 kk,.int .i64 vv,.slice a2 n2 c2,.slice a3 n3 c3] 122)
 have r0:=hB2.cell 0
 have r1:=hB2.cell 1
 have r2:=hB2.cell 2
 have r3:=hB2.cell 3
 have s0:=hB2.frozen 0
 have s1:=hB2.frozen 1
 have s2:=hB2.frozen 2
 have s3:=hB2.frozen 3
 simp only[List.getElem?_toArray,List.getElem?_cons_zero,List.getElem?_cons_succ] at r0 r1 r2 r3
 have hs1:=G1.size
 have hs0:w.heap.size<w1.heap.size:=hB1.lt
 clear hRd hB1
 go_wp2
 (try simp only[Exit.inBlock,Exit.then])
 refine bodyPost_ret (sZ rfl _ _ _ w.heap.size rfl _ (lZ (jV hB2 _ _ _ _))) rfl ?_
 refine ⟨kk,vv,a2,n2,c2,a3,n3,c3,rfl,?_,l9 G2 (Nat.le_refl _)⟩
 refine Ni.keep (fun b hb=>?_) (fun b hb=>⟨by omega,by simp only[World.size_setCell,World.size_alloc];omega⟩)
 have hne:b≠w.heap.size:=by omega
 rw[Below.heap_setCell _ _ _ _ hne,Below.heap_setCell _ _ _ _ hne,Below.heap_setCell _ _ _ _ hne,Below.heap_setCell _ _ _ _ hne,Below.heap_alloc _ _ b hb.2]
set_option maxHeartbeats 1000000 in
theorem Nj (vv:Int) (a2:Option Addr) (n2 c2 g m c3:Nat) (K:ByteArray) (w:World) (hK:K.size=m) (hm:m≤100) (hc:∀ k,k<m→∃ z:UInt8,w.cell? ⟨g,k*4,none⟩=some (.int .u8 (z.toNat:Int))∧∀ h:k<K.size,K[k]'h=z) :
  Calls Tryz.prog 34 #[.agg #[.int .u8 108,.int .i64 vv,.slice a2 n2 c2,.slice (some ⟨g,0,none⟩) m c3],.string K] w fun e w'=>e = .returned (.bool true)∧w.grownBy w' none:=by
 have G0:w.grownBy (w.alloc (.cells #[.int .u8 108,.int .i64 vv,.slice a2 n2 c2,.slice (some ⟨g,0,none⟩) m c3] 122)) none:=World.grownBy_alloc w _ none
 go_enter Tryz.func34,Tryz.ntmps34
 go_wp2
 go_loopw [5] (fun i wr=>∃ k q:Nat,k≤m∧i = .int .i64 k∧wr=(w.alloc (.cells #[.int .u8 108,.int .i64 vv,.slice a2 n2 c2,.slice (some ⟨g,0,none⟩) m c3] 122)).drewN q) (fun i _=>m-(intOf i).toNat)
 case atStart=>exact ⟨0,0,Nat.zero_le _,rfl,rfl⟩
 case round=>
  obtain ⟨k,q,hk,rfl,rfl⟩:=hrel
  by_cases hlt:k<m
  ·obtain ⟨z,hz1,hz2⟩:=hc k hlt
   have hz1':=G0.cell hz1 (by simp)
   have rT:(k:Int)<(m:Int):=by omega
   have hk0:(0:Int)≤(k:Int):=by omega
   clear hc hz1
   go_wp2_with fail
   go_quiet (fail)
   go_wp2
   go_roundw
   case rel=>exact ⟨k+1,_,by omega,by go_num,rfl⟩
   case measure=>simp[intOf];omega
  ·have rT:¬ (k:Int)<(m:Int):=by omega
   clear hc
   go_wp2
   go_ret
   exact ⟨rfl,aO G0 q⟩
theorem Uk {w:World} {ok:Nat→Prop} {v:Int} {cs:List Value} (hv:afl v) {d:Nat} (h:fF d w ok 2 (Box.low v (Box.size v)) cs):cs=[.int .u8 110,.int .i64 v,.slice none 0 0,.slice none 0 0]:=by
 have hl:mi w ok 2 (Box.low v (Box.size v)) cs:=by
  cases d with
  | zero=>exact h
  | succ d=>
   rcases h with h | ⟨h,_⟩
   ·exact h
   ·exact absurd h (by decide)
 rcases hl with ⟨_,v',h1,h2⟩ | ⟨h,_⟩
 ·rw[Box.EC v hv.1 hv.2] at h1
  simp only[Option.some.injEq] at h1
  rw[h2,h1]
 ·exact absurd h (by decide)
theorem xY {w:World} {ok:Nat→Prop} {ins:List UInt8} {cs:List Value} {d:Nat} (h:fF (d+1) w ok 48 ins cs):∃ (ps:List (UInt8×List UInt8)) (a:Option Addr) (c:Nat) (css:List (List Value)),Box.eX ins=some ps∧cs=[.int .u8 108,.int .i64 0,.slice none 0 0,.slice a ps.length c]∧css.length=ps.length∧
   ∀ k (hk:k<ps.length) (hk':k<css.length),css[k].length=4∧fF d w ok ps[k].1 ps[k].2 css[k]∧∃ g,a=some ⟨g,0,none⟩∧ok g∧∀ j,j<4→w.cell? ⟨g,k*4+j,none⟩=(css[k])[j]?:=by
 rcases h with (⟨h,_⟩ | ⟨h,_⟩) | ⟨_,h⟩
 ·exact absurd h (by decide)
 ·exact absurd h (by decide)
 ·exact h
end Go.Proofs.YtpibgolaaaemnaaGreatDoor
namespace Go.Proofs.YtpibgolaaaemnaaGreatDoor
open Go.RowKit
set_option maxRecDepth 100000
theorem De {l:List UInt8} (h:shown l=none):kJ l = .tuple #[.string ⟨#[]⟩,.int .i64 2]:=by rw[kJ,h]
set_option maxHeartbeats 1000000 in
theorem yj (zs:List UInt8) (n:Nat) (ao:Option Addr) (cap:Nat) (w:World) (hn:Hid (zs.length=n)) (hcap:n≤cap) (hcm:cap≤9223372036854775807) (hat:At w ao zs) (hno:Hid (shown zs=none)) (htab:eO w) :
  Calls Tryz.prog 33 #[.slice ao n cap] w fun e w'=>e = .returned (.agg #[.int .u8 0,.int .i64 0,.slice none 0 0,.slice none 0 0])∧w.grownBy w' none:=by
 have hres:kJ zs = .tuple #[.string ⟨#[]⟩,.int .i64 2]:=De hno.out
 have G0:w.grownBy (w.alloc (.cells fI 122)) none:=World.grownBy_alloc w _ none
 have hB0:=bI.new w fI 122
 have hW:=DJ zs n ao cap (w.alloc (.cells fI 122)) hn hcap hcm (hat.below G0) (jq htab G0)
 rw[hres] at hW
 go_enter Tryz.func33,Tryz.ntmps33
 go_wp2_with fail
 refine hW.mono ?_
 rintro e w1 ⟨rfl,hb1⟩
 have hg1:=mF hb1
 have hB1:=hB0.grown hg1 (by simp)
 have G1:=ae G0 hg1
 have r0:=hB1.cell 0
 have r1:=hB1.cell 1
 have r2:=hB1.cell 2
 have r3:=hB1.cell 3
 have s0:=hB1.frozen 0
 have s1:=hB1.frozen 1
 have s2:=hB1.frozen 2
 have s3:=hB1.frozen 3
 simp only[fI,List.getElem?_toArray,List.getElem?_cons_zero,List.getElem?_cons_succ] at r0 r1 r2 r3
 clear hW hb1 hg1 hB0
 go_wp2
 (try simp only[Exit.inBlock,Exit.then])
 refine bodyPost_ret (sZ rfl _ _ _ w.heap.size rfl _ (lZ (jV hB1 _ _ _ _))) rfl ?_
 exact ⟨rfl,l9 G1 (Nat.le_refl _)⟩
def Cb (kk:Int) (a3:Option Addr) (n3:Nat) (K:ByteArray) (w:World) (e:Ending) (w':World):Prop:=
 ∃ b:Bool,e = .returned (.bool b)∧w.grownBy w' none∧(b=true→kk=108∧n3=K.size∧∀ k (h:k<K.size),∃ g,a3=some ⟨g,0,none⟩∧w.cell? ⟨g,k*4,none⟩=some (.int .u8 ((K[k]'h).toNat:Int)))
theorem yl {kk:Int} {a3:Option Addr} {n3:Nat} {K:ByteArray} {w w':World} (h:w.grownBy w' none):Cb kk a3 n3 K w (.returned (.bool false)) w':=⟨false,rfl,h,fun h=>by simp at h⟩
theorem Cc {a3:Option Addr} {n3:Nat} {K:ByteArray} {w w':World} (h:w.grownBy w' none) (h2:K.size=n3) (hu:∀ k (h:k<K.size),∃ g,a3=some ⟨g,0,none⟩∧w.cell? ⟨g,k*4,none⟩=some (.int .u8 ((K[k]'h).toNat:Int))):Cb 108 a3 n3 K w (.returned (.bool true)) w':=⟨true,rfl,h,fun _=>⟨rfl,h2.symm,hu⟩⟩
set_option maxHeartbeats 1000000 in
theorem Mr (kk vv:Int) (a2:Option Addr) (n2 c2:Nat) (a3:Option Addr) (n3 c3:Nat) (K:ByteArray) (w:World) (hm:K.size≤100) (hc:kk=108→n3=K.size→∀ k,k<n3→∃ (g:Nat) (z:UInt8),a3=some ⟨g,0,none⟩∧w.cell? ⟨g,k*4,none⟩=some (.int .u8 (z.toNat:Int))) :
  Calls Tryz.prog 34 #[.agg #[.int .u8 kk,.int .i64 vv,.slice a2 n2 c2,.slice a3 n3 c3],.string K] w (Cb kk a3 n3 K w):=by
 have G0:w.grownBy (w.alloc (.cells #[.int .u8 kk,.int .i64 vv,.slice a2 n2 c2,.slice a3 n3 c3] 122)) none:=World.grownBy_alloc w _ none
 by_cases h1:kk=108
 ·by_cases h2:n3=K.size
  ·subst h1
   have hc':=hc rfl h2
   clear hc
   have h2':K.size=n3:=h2.symm
   clear h2
   go_enter Tryz.func34,Tryz.ntmps34
   go_wp2
   go_loopw [5] (fun i wr=>∃ k q:Nat,k≤n3∧i = .int .i64 k∧(∀ j (h:j<K.size),j<k→∃ g,a3=some ⟨g,0,none⟩∧w.cell? ⟨g,j*4,none⟩=some (.int .u8 ((K[j]'h).toNat:Int)))∧wr=(w.alloc (.cells #[.int .u8 108,.int .i64 vv,.slice a2 n2 c2,.slice a3 n3 c3] 122)).drewN q) (fun i _=>n3-(intOf i).toNat)
   case atStart=>exact ⟨0,0,Nat.zero_le _,rfl,fun j _ hj=>absurd hj (by omega),rfl⟩
   case round=>
    obtain ⟨k,q,hk,rfl,hup,rfl⟩:=hrel
    by_cases hlt:k<n3
    ·obtain ⟨g,z,hg,hz1⟩:=hc' k hlt
     subst hg
     have hz1':=G0.cell hz1 (by simp)
     have rT:(k:Int)<(n3:Int):=by omega
     have hk0:(0:Int)≤(k:Int):=by omega
     have hkK:k<K.size:=by omega
     by_cases hzK:K[k]'hkK=z
     ·have hz2:∀ h:k<K.size,K[k]'h=z:=fun _=>hzK
      have HUP:=hid hup
      have HZ1:=hid hz1
      have HC:=hid hc'
      clear hc' hz1 hup
      go_wp2_with fail
      go_quiet (fail)
      go_wp2
      go_roundw
      case rel=>
       refine ⟨k+1,_,by omega,by go_num,fun j hj hjk=>?_,rfl⟩
       by_cases hjk':j=k
       ·subst hjk';exact ⟨g,rfl,by rw[hzK];exact HZ1.out⟩
       ·exact HUP.out j hj (by omega)
      case measure=>simp[intOf];omega
     ·have hz2:((z.toNat:Int) != ((K[k]'hkK).toNat:Int))=true:=by
       rw[bne_iff_ne];exact fun h=>hzK (UInt8.toNat_inj.1 (by omega))
      clear hc' hz1 hup
      go_wp2_with fail
      go_quiet (fail)
      go_wp2
      go_ret
      exact yl (aO (aO G0 _) _)
    ·have rT:¬ (k:Int)<(n3:Int):=by omega
     have HUP:=hid hup
     clear hc' hup
     go_wp2
     go_ret
     exact Cc (aO G0 q) h2' (fun j hj=>HUP.out j hj (by omega))
  ·subst h1
   have h2':¬ (n3:Int)=(K.size:Int):=by omega
   clear hc
   go_enter Tryz.func34,Tryz.ntmps34
   go_wp2
   go_ret
   exact yl G0
 ·clear hc
  go_enter Tryz.func34,Tryz.ntmps34
  go_wp2
  go_ret
  exact yl G0
end Go.Proofs.YtpibgolaaaemnaaGreatDoor
