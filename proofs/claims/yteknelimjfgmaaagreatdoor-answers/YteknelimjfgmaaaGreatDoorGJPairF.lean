import Derived.Test.YteknelimjfgmaaaGreatDoorGJPairD
namespace Go.Proofs.YteknelimjfgmaaaGreatDoor
set_option maxHeartbeats 2000000
open Proofs.Tryz Go.RowKit
set_option maxRecDepth 100000
variable {QP:Type} {jU:QP->uF} {qb:QP->Nat} {base wb:Nat}
section
variable {P:Program} {ops:Array Oper} {Q:Exit->Act->World->Prop} {md:Region.Mode} {S:World->Prop}
theorem take_at {i t:Nat} {oi:Oper} (v:Value) {fuel:Nat} {listed:Array Bool} {tmps:Array Value} {df:List Deferred} {w:World} (hi:ops.toList[i]?=some oi) (hd:oi.dst=some t)
  (hs:Region.noSelect ops=true) (hf:Region.free md ops listed i=true) (hr:(Region.ready md ops listed).contains i=true)
  (hQ:∀ c a w,Q (.panic c) (a.put oi.dst v) w->Q (.panic c) a w) (hy:YieldsIf P ops S oi v ⟨tmps,df⟩) (hS:S w)
  (h:wpAnyH P md ops Q S fuel (listed.setIfInBounds i true) ⟨tmps.setIfInBounds t v,df⟩ w):wpAnyH P md ops Q S (fuel+1) listed ⟨tmps,df⟩ w:=by
 refine wpAnyH_take (by rw[<-Array.getElem?_toList];exact hi) hs hf hr hQ hy hS ?_
 rw[hd]
 exact h
theorem mV (i:Nat) (v:Value) {t:Nat} {oi:Oper} {fuel:Nat} {listed:Array Bool} {tmps:Array Value} {df:List Deferred} {w:World} {q:Prop} (k:q) (hi:ops.toList[i]?=some oi:=by exact rfl) (hd:oi.dst=some t:=by exact rfl)
  (hs:Region.noSelect ops=true:=by kernel_rfl) (hf:Region.free md ops listed i=true:=by kernel_rfl) (hr:(Region.ready md ops listed).contains i=true:=by kernel_rfl)
  (hQ:∀ c a w,Q (.panic c) (a.put oi.dst v) w->Q (.panic c) a w:=by exact fun _ _ _ h=>h) (hy:YieldsIf P ops S oi v ⟨tmps,df⟩:=by exact Or.inl ⟨by rfl,fun w' hSw=>by obtain ⟨s1,s2⟩:=hSw;go_simp⟩) (hS:S w:=by assumption)
  (h:q->wpAnyH P md ops Q S fuel (listed.setIfInBounds i true) ⟨tmps.setIfInBounds t v,df⟩ w:=by intro hq;simp only[de,dy,eo];exact hq):wpAnyH P md ops Q S (fuel+1) listed ⟨tmps,df⟩ w:=
 take_at v hi hd hs hf hr hQ hy hS (h k)
theorem DF (i:Nat) (v:Value) {t:Nat} {oi:Oper} {fuel:Nat} {listed:Array Bool} {tmps:Array Value} {df:List Deferred} {w:World} {q:Prop} (k:q) (hi:ops.toList[i]?=some oi:=by exact rfl) (hd:oi.dst=some t:=by exact rfl)
  (hs:Region.noSelect ops=true:=by kernel_rfl) (hf:Region.free md ops listed i=true:=by kernel_rfl) (hr:(Region.ready md ops listed).contains i=true:=by kernel_rfl)
  (hQ:∀ c a w,Q (.panic c) (a.put oi.dst v) w->Q (.panic c) a w:=by exact fun _ _ _ h=>h) (hy:YieldsIf P ops S oi v ⟨tmps,df⟩:=by exact Or.inl ⟨by rfl,fun w' hSw=>by obtain ⟨s1,s2,s3⟩:=hSw;go_simp⟩) (hS:S w:=by assumption)
  (h:q->wpAnyH P md ops Q S fuel (listed.setIfInBounds i true) ⟨tmps.setIfInBounds t v,df⟩ w:=by intro hq;simp only[de,dy,eo];exact hq):wpAnyH P md ops Q S (fuel+1) listed ⟨tmps,df⟩ w:=
 take_at v hi hd hs hf hr hQ hy hS (h k)
theorem xN (i:Nat) (v:Value) {t:Nat} {oi:Oper} {fuel:Nat} {listed:Array Bool} {tmps:Array Value} {df:List Deferred} {w:World} {q:Prop} (k:q) (hi:ops.toList[i]?=some oi:=by exact rfl) (hd:oi.dst=some t:=by exact rfl)
  (hs:Region.noSelect ops=true:=by kernel_rfl) (hf:Region.free md ops listed i=true:=by kernel_rfl) (hr:(Region.ready md ops listed).contains i=true:=by kernel_rfl)
  (hQ:∀ c a w,Q (.panic c) (a.put oi.dst v) w->Q (.panic c) a w:=by exact fun _ _ _ h=>h) (hy:YieldsIf P ops S oi v ⟨tmps,df⟩:=by exact Or.inl ⟨by rfl,fun w' hSw=>by obtain ⟨s1,s2,s3,s4⟩:=hSw;go_simp⟩) (hS:S w:=by assumption)
  (h:q->wpAnyH P md ops Q S fuel (listed.setIfInBounds i true) ⟨tmps.setIfInBounds t v,df⟩ w:=by intro hq;simp only[de,dy,eo];exact hq):wpAnyH P md ops Q S (fuel+1) listed ⟨tmps,df⟩ w:=
 take_at v hi hd hs hf hr hQ hy hS (h k)
theorem ready_one {i:Nat} {o:Oper} {fuel:Nat} {listed:Array Bool} {a:Act} {w:World} (hi:ops.toList[i]?=some o) (hr:Region.ready md ops listed=[i])
  (h:∀ K':Act->World->Prop,Shut (∀ a w,S w->(S w->wpAnyH P md ops Q S fuel (listed.setIfInBounds i true) a w)->K' a w)->if Region.wanted o (yielded ops a.tmps)=true then Oper.wp P o a w K' Q else K' (a.put o.dst undef) w) :
  wpAnyH P md ops Q S (fuel+1) listed a w:=
 wpAnyH_ready (rs:=[i]) hr aft (AllReadyH.cons (by rw[<-Array.getElem?_toList];exact hi) h AllReadyH.nil)
end
theorem Ga (d:WD PD QP) (kind:Int) (cs:Array Value) (w:World) (hk:Hid (kind=6\/kind=7\/kind=8)) (h0:cs[0]?=some (.int .i64 kind)) (hI:iK (dA jU qb) base wb d w) (hps:d.ps=[]) :
  Calls prog 7 #[.pointer (some ⟨wb,0,none⟩),.agg cs] w fun e w'=>e = .returned (.bool true)/\w.grownBy w' none:=by
 have G0:=hid (aE w (.cells cs 48) none)
 have hI0:=hI.grown G0.o
 have hrow:(w.alloc (.cells cs 48)).ownsRow base 51 1 d.pv d.ps.length (d.ps.map fun p=>ptrTo p.pb):=hI0.here 1
 have hb0:dX (w.alloc (.cells cs 48)) wb d.cells:=hI0.here 0
 obtain ⟨ab,cb,hpv⟩:=cu hrow
 rw[hps,List.length_nil] at hpv
 have c0:(w.alloc (.cells cs 48)).cell? ⟨wb,0,none⟩=some (.slice ab 0 cb):=by rw[<-hpv];exact hb0.cell 0
 have k0:(w.alloc (.cells cs 48)).cell? ⟨w.heap.size,0,none⟩=some (.int .i64 kind):=by rw[World.cell?_alloc_at (hn:=rfl)];exact h0
 clear hrow hb0 hpv hI0 hI hps h0
 rcases hk.o with rfl | rfl | rfl
 all_goals
  clear hk
  go_enter func7,ntmps7
  go_wp2
  go_ret
  exact ⟨rfl,G0.o⟩
theorem Ao (d:WD PD QP) (kind A:Int) (cs:Array Value) (k:Nat) (p:PD) (Post:World->Prop) (w:World) (hk:Hid (kind=6\/kind=7\/kind=8)) (hsz:cs.size=41) (h0:cs[0]?=some (.int .i64 kind)) (h1:cs[1]?=some (.int .i64 A)) (ZT:-9223372036854775808<=A) (hA1:A<=9223372036854775807) (hn:Hid (d.ps.length<=9223372036854775807)) (hkk:Hid (uw A d.ps.length=k)) (hp:d.ps[k]?=some p)
  (hI:iK (dA jU qb) base wb d w)
  (HC:∀ W,w.grownBy W none->Calls prog 10 #[.pointer (some ⟨wb,0,none⟩),.agg cs,.pointer (some ⟨p.pb,0,none⟩)] W fun e w'=>e = .returned (.bool true)/\Lc (dA jU qb) wb d W w'/\Post w') :
  Calls prog 7 #[.pointer (some ⟨wb,0,none⟩),.agg cs] w fun e w'=>e = .returned (.bool true)/\Post w':=by
 have G0:=aE w (.cells cs 48) none
 have LY:Hid (Calls prog 10 #[.pointer (some ⟨wb,0,none⟩),.agg cs.toList.toArray,.pointer (some ⟨p.pb,0,none⟩)] ((w.alloc (.cells cs 48)).drewN 1) fun e w'=>e = .returned (.bool true)/\Lc (dA jU qb) wb d ((w.alloc (.cells cs 48)).drewN 1) w'/\Post w'):=by
  show Calls _ _ _ _ _;rw[Array.toArray_toList];exact HC _ (aY G0 1)
 have hI0:=hI.grown G0
 have hrow:(w.alloc (.cells cs 48)).ownsRow base 51 1 d.pv d.ps.length (d.ps.map fun p=>ptrTo p.pb):=hI0.here 1
 have hb0:dX (w.alloc (.cells cs 48)) wb d.cells:=hI0.here 0
 have hkl:k<d.ps.length:=(cq.1 hp).1
 obtain ⟨n,hnn⟩:=aq d.ps.length
 obtain ⟨rb,cb,hpv⟩:∃ rb cb,d.pv = .slice (some ⟨rb,0,none⟩) n cb:=by
  rcases hrow.2 with ⟨_,e⟩ | ⟨g,cap,cur,hv,_⟩
  ·omega
  ·exact ⟨g,cap,by rw[<-hnn];exact hv⟩
 have hrow':=hrow
 rw[hpv,hnn] at hrow'
 have c0:(w.alloc (.cells cs 48)).cell? ⟨wb,0,none⟩=some (.slice (some ⟨rb,0,none⟩) n cb):=by rw[<-hpv];exact hb0.cell 0
 have k0:(w.alloc (.cells cs 48)).cell? ⟨w.heap.size,0,none⟩=some (.int .i64 kind):=by rw[World.cell?_alloc_at (hn:=rfl)];exact h0
 have k1:(w.alloc (.cells cs 48)).cell? ⟨w.heap.size,1,none⟩=some (.int .i64 A):=by rw[World.cell?_alloc_at (hn:=rfl)];exact h1
 have hr:(w.alloc (.cells cs 48)).cell? ⟨rb,k,none⟩=some (.pointer (some ⟨p.pb,0,none⟩)):=by
  obtain ⟨b,off,e1,e2⟩:=xZ hrow' k (ptrTo p.pb) (by rw[List.getElem?_map,hp];rfl);injection e1 with e1;injection e1 with e1 e3 _;subst e1 e3;rw[cC] at e2;exact e2
 have BO:dX (w.alloc (.cells cs 48)) w.heap.size cs:=dX.new w cs 48
 have RO:(w.alloc (.cells cs 48)).rangeAt w.heap.size 0 cs.toList:=BO.range
 have HSZ:Hid ((prog.info? 48).map (·.size)=some cs.toList.length):=by show _=_;rw[Tryz.Mi,db,hsz]
 have hrl:rb<w.heap.size:=hI.lt 1 rb (by show d.pv.ownBlock=some rb;rw[hpv];rfl)
 have hK:∀ b,(b=w.heap.size\/b=rb)->¬ VT (dA jU qb) wb d b:=by
  rintro b (rfl | rfl) ⟨j,hj,hf⟩
  ·have:=hI.lt j _ hf;omega
  ·exact hj (hI.one j 1 b hf (by show d.pv.ownBlock=some b;rw[hpv];rfl))
 have HKP:Hid (∀ w',Lc (dA jU qb) wb d ((w.alloc (.cells cs 48)).drewN 1) w'->w'.cell? ⟨wb,0,none⟩=some (.slice (some ⟨rb,0,none⟩) n cb)/\w'.cell? ⟨w.heap.size,1,none⟩=some (.int .i64 A)/\w'.cell? ⟨rb,k,none⟩=some (.pointer (some ⟨p.pb,0,none⟩))/\w'.rangeAt w.heap.size 0 cs.toList):=by
  intro w' hk';have e1:w'.heap[w.heap.size]?=(w.alloc (.cells cs 48)).heap[w.heap.size]?:=hk'.blk w.heap.size (by show w.heap.size<(w.alloc _).heap.size;rw[ch];omega) (hK _ (.inl rfl));have e2:w'.heap[rb]?=(w.alloc (.cells cs 48)).heap[rb]?:=hk'.blk rb (by show rb<(w.alloc _).heap.size;rw[ch];omega) (hK _ (.inr rfl));refine ⟨by rw[<-hpv];exact hk'.pv,?_,?_,(BO.kept e1).range⟩
  ·rw[World.cell?_of_block (a:=⟨w.heap.size,1,none⟩) e1];exact k1
  ·rw[World.cell?_of_block (a:=⟨rb,k,none⟩) e2];exact hr
 have hnI:(0:Int)<(n:Int):=by omega
 have apY:(0:Int)<=(k:Int):=by omega
 have rF:(k:Int)<(n:Int):=by omega
 have HPk:=hid (BU A n ((w.alloc (.cells cs 48)).drewN 1) ZT hA1 afp (by have:=hn.o;omega))
 have ab3:=hkk.o
 rw[hnn] at ab3
 rw[ab3] at HPk
 clear ab3 hkk hn hI hI0 hrow hrow' hb0 hpv hp hkl hnn hrl hK BO G0 HC ZT hA1 h0 h1 hsz
 rcases hk.o with rfl | rfl | rfl
 all_goals
  clear hk
  go_enter func7,ntmps7
  go_wp2_with fail
  refine wp_region_held_drew (S:=(fun w'=>w'.cell? ⟨wb,0,none⟩=some (.slice (some ⟨rb,0,none⟩) n cb)/\w'.cell? ⟨w.heap.size,1,none⟩=some (.int .i64 A)/\w'.cell? ⟨rb,k,none⟩=some (.pointer (some ⟨p.pb,0,none⟩))/\w'.rangeAt w.heap.size 0 cs.toList)) afv ⟨c0,k1,hr,RO⟩ (fun hHeld=>?_)
  refine xN 0 (.pointer (some ⟨wb,0,none⟩)) ?_
  refine mV 1 (.agg cs.toList.toArray) ?_ (hy:=yieldsIf_load_mid (by rfl) _ _ rfl w.heap.size 0 rfl cs.toList _ (fun w' h=>h.2.2.2) underlying48 rfl HSZ.o)
  refine xN 2 (.pointer (some ⟨wb,0,none⟩)) ?_
  refine xN 3 (.pointer (some ⟨wb,0,none⟩)) ?_
  refine xN 4 (.pointer (some ⟨wb,0,none⟩)) ?_
  refine xN 5 (.slice (some ⟨rb,0,none⟩) n cb) ?_
  refine xN 6 (.pointer (some ⟨w.heap.size,1,none⟩)) ?_
  refine xN 7 (.int .i64 A) ?_
  refine xN 8 (.pointer (some ⟨wb,0,none⟩)) ?_
  refine xN 9 (.pointer (some ⟨wb,0,none⟩)) ?_
  refine xN 10 (.pointer (some ⟨wb,0,none⟩)) ?_
  refine xN 11 (.slice (some ⟨rb,0,none⟩) n cb) ?_
  refine xN 12 (.int .i64 (n:Int)) ?_
  refine ready_one (i:=13) rfl afv (fun K hK=>?_)
  go_simp
  refine HPk.o.mono ?_
  rintro e w' ⟨rfl,rfl⟩
  go_wp2_with fail
  refine hK.out _ _ hHeld (fun hHeld=>?_)
  clear hK K
  refine xN 14 (.pointer (some ⟨rb,k,none⟩)) ?_
  refine xN 15 (.pointer (some ⟨p.pb,0,none⟩)) ?_
  refine ready_one (i:=16) rfl afv (fun K hK=>?_)
  go_simp
  refine LY.o.mono ?_
  rintro e w9 ⟨rfl,hkp,hpost⟩
  go_wp2_with fail
  refine hK.out _ _ (HKP.o _ hkp) (fun hHeld=>?_)
  clear hK K
  refine xN 17 (.bool true) ?_
  refine wpAnyH_done afv ?_ _
  go_wp2
  go_ret
  exact ⟨rfl,hpost⟩
end Go.Proofs.YteknelimjfgmaaaGreatDoor
namespace Go.Proofs.YteknelimjfgmaaaGreatDoor
set_option maxHeartbeats 8000000
open Go.RowKit
set_option maxRecDepth 100000
variable {M:DM} {now:Int} {yb:Nat} {g:RG} {w w1 w2:World}
theorem Ls (x y:BE) (now:Int):In64 (mM x y now 1 2)/\In64 (mM x y now 2 1):=by
 unfold mM In64;constructor <;> (repeat' split) <;> omega
theorem abt {p:Prop} (h:p:=by
 injection h with h;subst h;exact ⟨by decide,by decide⟩):p:=h
theorem Wx {ps:List mW} {c:Int} (h:mO M now ps = .error c):In64 c:=by
 unfold mO at h;cases hf:kH ps with
 | none=>rw[hf] at h;injection h with h;subst h;exact ⟨by decide,by decide⟩
 | some q=>
  rw[hf] at h;have h:firstM M now q = .error c:=h;unfold firstM at h;split at h
  ·exact abt
  ·exact abt
  ·rename_i x s _ _;split at h
   ·injection h with h;subst h;exact (Ls x s now).1
   ·split at h
    ·injection h with h;subst h;have hp:=UR M.aC now x q.pre;unfold dh;split
     ·exact hp
     ·unfold In64;(repeat' split) <;> omega
    ·cases h
theorem acV {p:Prop} (h:p:=by
 split at e
 ·injection e with e;subst e;exact ⟨by decide,by decide⟩
 ·cases e):p:=h
theorem RH {old:TK} {x s:BE} {dJ bV aL c:Int} (e:fresh now old x s dJ bV aL = .error c):In64 c:=by
 unfold fresh at e;split at e
 ·exact acV
 ·split at e
  ·exact acV
  ·exact acV
theorem Wy {q:NQ} {old:TK} {c:Int} (h:dZ M now q old = .error c):In64 c:=by
 unfold dZ at h;split at h
 ·exact abt
 ·split at h
  ·exact abt
  ·split at h
   ·exact abt
   ·exact abt
   ·rename_i s x _ _;split at h
    ·injection h with h;subst h;exact (Ls s x now).2
    ·split at h
     ·exact abt
     ·split at h
      ·rename_i c' hc;injection h with h;subst h;exact RH hc
      ·cases h
theorem Zh {ps:List mW} {c:Int} (h:(mR M now ps).1 = .error c):In64 c:=by
 unfold mR at h;cases hq:kI ps with
 | none=>rw[hq] at h;injection h with h;subst h;exact ⟨by decide,by decide⟩
 | some q=>
  rw[hq] at h;dsimp only at h;cases ha:(iq M now q).1 with
  | error c'=>
   rw[ha] at h;injection h with h;subst h;have:=zN ha;unfold In64;omega
  | ok t=>
   rw[ha] at h;exact Wy h
theorem Pw {R:Except Int GR} (h:∀ c,R = .error c->In64 c):In64 (codeOf M R):=by
 cases R with
 | error c=>exact h c rfl
 | ok g=>
  show In64 (if M.aO.length<24 then 60 else 0);split <;> exact ⟨by decide,by decide⟩
theorem Wz {tag:UInt8} {l i:List UInt8} (h:tK tag l=some i):i.length<=l.length:=by
 unfold tK at h;split at h
 ·rename_i t i' hc;split at h
  ·injection h with h;subst h;have:=Box.jF hc;omega
  ·cases h
 ·cases h
theorem Av {base:Nat} {bA:List UInt8} {o:Value} (hD:RD w base yb M g) (h:fw M now bA=(bu now 60,M)) (k1:w.grownBy w1 none) (hH:Made w1.heap.size w2 o (bu now 60)) (k2:w1.grownBy w2 none):wD base yb g (fw M now bA) w w2 o:=by
 rw[h];have k:=aa k1 k2;exact ⟨hH.base k1.size,⟨g,hD.keep (fun b hb=>k.block b (hD.lt b hb).2 aft),fun b hb=>.inl hb⟩,lh k yb⟩
theorem zi {base:Nat} {A:Int×List UInt8×DM} {B:List UInt8×DM} {c:Int} {w3:World} {o o2:Value} (k1:w.grownBy w1 none) (h:Bq base yb g A w1 w2 o c) (hB:B=(bu now A.1,A.2.2)) (hH:Made w2.heap.size w3 o2 (bu now c)) (k2:w2.grownBy w3 none):wD base yb g B w w3 o2:=by
 obtain ⟨h1,h2,h3,⟨g',hD,hf⟩,hg⟩:=h;subst hB;rw[<-h1];refine ⟨hH.base (br k1.size hg.size),⟨g',hD.keep (fun b hb=>k2.block b (hD.lt b hb).2 aft),fun b hb=>?_⟩,gQ (lh k1 yb) (gQ hg (lh k2 yb))⟩;rcases hf b hb with e | e
 ·exact .inl e
 ·exact .inr (br k1.size e)
theorem zk {base:Nat} {A:Int×List UInt8×DM} {B:List UInt8×DM} {c:Int} {o:Value} (k1:w.grownBy w1 none) (h:Bq base yb g A w1 w2 o c) (hc:c=0) (hB:B=(A.2.1,A.2.2)):wD base yb g B w w2 o:=by
 obtain ⟨h1,h2,h3,⟨g',hD,hf⟩,hg⟩:=h;subst hB;refine ⟨(h3 hc).base k1.size,⟨g',hD,fun b hb=>?_⟩,gQ (lh k1 yb) hg⟩;rcases hf b hb with e | e
 ·exact .inl e
 ·exact .inr (br k1.size e)
theorem Lt {R:Except Int GR} {c:Int} (h1:c=(Lr M now R).1) (hc:c≠0):dC M now R=(bu now (Lr M now R).1,(Lr M now R).2.2):=by
 have h2:codeOf M R≠0:=by rw[h1] at hc;exact hc
 show dC M now R=(bu now (codeOf M R),(dC M now R).2);rw[DR h2]
theorem aaZ {p:Prop} (h:p:=by
 have hci:In64 c:=by rw[Zi.o.1];exact IP.o
 clear C hS
 by_cases hc:c=0
 ·have HF:=hid (zk mf.o Zi.o hc DV.o)
  clear CR hci
  go_wp2
  go_ret
  exact ⟨_,rfl,HF.o⟩
 ·have C3:=hid (fun W=>xJ now c W dm hci)
  have HC:=hid hc
  go_wp2_with fail
  refine (C3.o _).mono ?_
  rintro e w5 ⟨o2,rfl,hH,g5⟩
  have HF:=hid (zi mf.o Zi.o (DV.o.trans (Lt Zi.o.1 HC.o)) hH g5)
  clear hH g5 CR
  go_wp2
  go_ret
  exact ⟨_,rfl,HF.o⟩):p:=h
theorem adu {p:Prop} (h:p:=by
 have h4:(bF p.pair).isSome=true:=by rw[HNB.o];exact h1
 obtain ⟨y,hy⟩:=bw.1 h4
 rw[hy,<-Xa.o.2 y hy,h2]):p:=h
theorem Lu (base yb:Nat) (M:DM) (g:RG) (now:Int) (bA:List UInt8) (v:Value) (w:World) (hD:RD w base yb M g) (hok:gU 4611686018427387904 M.bg) (hbase:base<=w.heap.size) (hv:Has w v bA) (hrl:bA.length<=140737488355328) (dm:In64 now) (hsk:In64 M.aC) (hin:∀ e∈M.bg,In64 e.bI/\In64 e.aD) (hdl:M.aO.length<=140737488355328) (hpr:M.aN.length<=1000) (zo:∀ y∈M.aN,In64 y.time) :
  Calls Tryz.prog 35 #[.pointer (some ⟨yb,0,none⟩),.int .i64 now,v] w fun e w'=>∃ o,e = .returned o/\wD base yb g (fw M now bA) w w' o:=by
 have C1:=hid (yF 48 bA v w hv hrl)
 obtain ⟨va,vc,hvs⟩:=hv.shape
 obtain ⟨n,hn⟩:=aq bA.length
 rw[hn] at hvs
 subst hvs
 have Pj:=hid hn
 have HD:=hid hD
 obtain ⟨O,hO⟩:=aq (tK 48 bA)
 have HO:=hid hO
 rw[hO] at C1
 clear hD hn hO hv
 have CR:=hid (fun W=>xJ now 60 W dm ⟨by decide,by decide⟩)
 go_enter Tryz.func35,Tryz.ntmps35
 go_wp2_with fail
 refine C1.o.mono ?_
 rintro e w1 ⟨x,i,rfl,hx,hil,hone,g1⟩
 have C2:=hid (pO i x w1 hx.prt afp)
 obtain ⟨xa,xc,hxs⟩:=hx.shape
 subst hxs
 obtain ⟨CC,WT⟩:=aq (Box.dH i)
 have LY:=hid WT
 rw[WT] at C2
 have HOI:=hid hone
 have jC:=hid g1
 obtain ⟨il,RI⟩:=aq i.length
 rw[RI] at C2 ⊢
 have HIL:=hid RI
 clear C1 hx hil hone g1 WT RI
 go_wp2_with fail
 refine C2.o.mono ?_
 rintro e w2 ⟨px,rfl,hps,hno,g2⟩
 have hpx:∃ (l:List Pc) (ao:Option Addr) (pc:Nat),px = .slice ao l.length pc/\(∀ ps,CC=some ps->l.map Pc.pair=ps/\(l≠[]->∃ gl,ao=some ⟨gl,0,none⟩/\jr w2 gl l)):=by
  cases hc:CC with
  | none=>exact ⟨[],none,0,hno hc,fun ps h=>by cases h⟩
  | some ps=>
   obtain ⟨l,⟨ao,pc,h1,h2⟩,h3,_⟩:=hps ps hc;exact ⟨l,ao,pc,h1,fun ps' h=>by injection h with h;subst h;exact ⟨h3,h2⟩⟩
 obtain ⟨l,ao,pc,acs,hpl⟩:=hpx
 subst acs
 have NP:=hid hpl
 have HG2:=hid (aa jC.o g2)
 obtain ⟨m,hm⟩:=aq l.length
 rw[hm]
 have HM:=hid hm
 clear hps hno hpl g2 jC C2 hm
 obtain ⟨b1,hb1⟩:=aq O.isSome
 obtain ⟨b2,hb2⟩:=aq CC.isSome
 rw[hb1,hb2]
 have HB1:=hid hb1
 have HB2:=hid hb2
 obtain ⟨bad,hbad⟩:=aq ((!b1 || (!b2 || (decide ((300:Int)<(n:Int)) || decide ((m:Int)=0)))))
 have kY:=hid hbad
 clear hb1 hb2 hbad
 go_upto_region 3 with fail
 go_cut [40] (fun z wx=>z = .bool bad/\w2=wx)
 case first=>
  cases b1 with
  | false=>
   go_wp2;go_meet
   case rel=>exact ⟨by rw[<-kY.o];rfl,rfl⟩
  | true=>
   cases b2 with
   | false=>
    go_wp2;go_meet
    case rel=>exact ⟨by rw[<-kY.o];rfl,rfl⟩
   | true=>
    by_cases h3:(300:Int)<(n:Int)
    ·have HL:=hid h3;go_wp2;go_meet
     case rel=>exact ⟨by rw[<-kY.o,cH HL.o];rfl,rfl⟩
    ·have HL:=hid (eK.1 h3);by_cases h4:(m:Int)=0
     ·have HL4:=hid h4;have h4b:((m:Int)==0)=true:=(by rw[h4];rfl);go_wp2;go_meet
      case rel=>exact ⟨by rw[<-kY.o,cH HL4.o,cA (eK.2 HL.o)];rfl,rfl⟩
     ·have HL4:=hid h4;have h4b:((m:Int)==0)=false:=(by simpa using h4);go_wp2;go_meet
      case rel=>exact ⟨by rw[<-kY.o,cA HL4.o,cA (eK.2 HL.o)];rfl,rfl⟩
 case rest=>
  obtain ⟨rfl,rfl⟩:=hcut;cases bad with
  | true=>
   have DU:fw M now bA=(bu now 60,M):=by
    refine Zg (fun hl=>?_);have h:=kY.o;rw[tL,HO.o];cases hO:O with
    | none=>exact .inl rfl
    | some i'=>
     have e1:=HOI.o i' hO;subst e1;show Box.dH i'=none\/Box.dH i'=some [];rw[LY.o];cases hC:CC with
     | none=>exact .inl rfl
     | some ps=>
      right;have c1:b1=true:=(by rw[<-HB1.o,hO];rfl);have c2:b2=true:=(by rw[<-HB2.o,hC];rfl);have hl2:¬ (300:Int)<(n:Int):=(by have:=Pj.o;omega);rw[c1,c2,cA hl2] at h;simp at h;have hl0:l=[]:=List.length_eq_zero_iff.1 (by have:=HM.o;omega);rw[<-(NP.o ps hC).1,hl0];rfl
   have DV:=hid DU;clear DU;go_wp2_with fail;refine (CR.o _).mono ?_;rintro e w3 ⟨o,rfl,hH,g3⟩;have HH:=hid (And.intro hH g3);clear hH g3;go_wp2;go_ret;exact ⟨_,rfl,Av HD.o DV.o HG2.o HH.o.1 HH.o.2⟩
  | false=>
   have hgood:∃ ps,kG bA=some ps/\l.map Pc.pair=ps/\n<=300/\l≠[]/\(∀ p∈l,p.ins.length<=900)/\∃ gl,ao=some ⟨gl,0,none⟩/\jr w2 gl l:=by
    have h:=kY.o;simp at h;obtain ⟨h1,h2,h3,h4⟩:=h;have hO:∃ i',O=some i':=bw.1 (by rw[HB1.o];exact h1);have hC:∃ ps,CC=some ps:=bw.1 (by rw[HB2.o];exact h2);obtain ⟨i',hO⟩:=hO;obtain ⟨ps,hC⟩:=hC;have e1:=HOI.o i' hO;subst e1;have hne:l≠[]:=fun e=>by have:=HM.o;rw[e] at this;simp at this;omega
    obtain ⟨q1,q2⟩:=NP.o ps hC;have hil:=Wz (HO.o.trans hO);refine ⟨ps,?_,q1,by omega,hne,fun p hp=>?_,q2 hne⟩
    ·rw[tL,HO.o,hO];show Box.dH i'=some ps;rw[LY.o,hC]
    ·have:=Box.kS (LY.o.trans hC) p.pair (by rw[<-q1];exact ev hp);have h5:p.ins.length<=i'.length:=this;have:=Pj.o;omega
   obtain ⟨ps,hls,hmap,Zp,hne,hlen,gl,hao,mY⟩:=hgood;subst hao;have AL:=hid mY;have HLS:=hid hls;have Xg:=hid hmap;have Qm:=hid hlen;have Yd:Hid (bA.length<=300):=(by show _<=_;rw[Pj.o];exact Zp);obtain ⟨p,r,hlr⟩:∃ p r,l=p::r:=by cases l with | nil=>exact absurd rfl hne | cons p r=>exact ⟨p,r,rfl⟩
   have CV:=hid (sH p w2 (mY.2 p (by rw[hlr];exact List.mem_cons_self ..)).1);have c0:w2.cell? ⟨gl,0,none⟩=some (.int .u8 (p.tag.toNat:Int)):=(by have:=mY.tag 0 (by rw[hlr];simp);simpa[hlr] using this);have c1:w2.cell? ⟨gl,1,none⟩=some (.slice p.ad p.ins.length p.cap):=(by have:=mY.ins 0 (by rw[hlr];simp);simpa[hlr] using this);have hm1:(0:Int)<(m:Int):=(by have:=HM.o;rw[hlr] at this;simp at this;omega);have HLR:=hid hlr;obtain ⟨nb,hnb⟩:=aq ((bF p.pair).isSome);rw[hnb] at CV;have HNB:=hid hnb;clear hls hmap Zp hne hlen mY hlr hnb kY NP HB1 HB2 HO LY HOI HIL;go_wp2_with fail;refine CV.o.mono ?_;rintro e w3 ⟨kv,rfl,WZ,g3⟩;have mf:=hid (aa HG2.o g3);have uI:=hid (AL.o.grown g3);have Xa:=hid WZ;have HD3:Hid (RD w3 base yb M g):=HD.o.keep (fun b hb=>mf.o.block b (HD.o.lt b hb).2 aft);have HB3:Hid (base<=w3.heap.size):=br hbase mf.o.size;clear CV c0 c1 AL WZ g3 HG2;obtain ⟨q1,x91⟩:=aq ((nb && (decide (kv=10) && decide ((m:Int)=9))));have Ew:=hid x91;clear x91;go_upto_region 8 with fail
   go_cut [50] (fun z wx=>z = .bool q1/\w3=wx)
   case first=>
    cases nb with
    | false=>
     go_wp2;go_meet
     case rel=>exact ⟨by rw[<-Ew.o];rfl,rfl⟩
    | true=>
     by_cases h5:kv=10
     ·have HL:=hid h5;have h5b:(kv==10)=true:=(by rw[h5];rfl);by_cases h6:(m:Int)=9
      ·have KC:=hid h6;have h6b:((m:Int)==9)=true:=(by rw[h6];rfl);go_wp2;go_meet
       case rel=>exact ⟨by rw[<-Ew.o,cH HL.o,cH KC.o];rfl,rfl⟩
      ·have KC:=hid h6;have h6b:((m:Int)==9)=false:=(by simpa using h6);go_wp2;go_meet
       case rel=>exact ⟨by rw[<-Ew.o,cH HL.o,cA KC.o];rfl,rfl⟩
     ·have HL:=hid h5;have h5b:(kv==10)=false:=(by simpa using h5);go_wp2;go_meet
      case rel=>exact ⟨by rw[<-Ew.o,cA HL.o];rfl,rfl⟩
   case rest=>
    obtain ⟨rfl,rfl⟩:=hcut;cases q1 with
    | true=>
     have h:=Ew.o;simp at h;obtain ⟨h1,h2,h3⟩:=h;have hl9:l.length=9:=(by have:=HM.o;omega);have h10:bF p.pair=some 10:=by
      exact adu
     obtain ⟨p0,p1,p2,p3,p4,p5,p6,p7,p8,hl⟩:=Oj hl9;have hpe:p=p0:=(by have:=HLR.o;rw[hl] at this;injection this with this;exact this.symm);subst hpe;have hm9:m=9:=(by omega);subst hm9;have C:=hid (Iy base yb M g now gl pc p p1 p2 p3 p4 p5 p6 p7 p8 w3 HD3.o hok HB3.o (by rw[<-hl];exact uI.o) (by rw[<-hl];exact Qm.o) h10 dm hsk hin hdl);have DU:fw M now bA=dC M now (mO M now ([p,p1,p2,p3,p4,p5,p6,p7,p8].map Pc.pair)):=by
      rw[<-hl,Xg.o];exact Rz Yd.o HLS.o (by rw[<-Xg.o,hl];exact ⟨_,_,rfl,h10⟩)
     have DV:=hid DU;obtain ⟨RR,hRR⟩:=aq (mO M now ([p,p1,p2,p3,p4,p5,p6,p7,p8].map Pc.pair));have IP:Hid (In64 (codeOf M RR)):=Pw (fun c hc=>Wx (hRR.trans hc));rw[hRR] at C DV;clear h1 h2 h3 hl9 h10 hl DU Ew HLS Xg Qm HLR Xa uI HNB HM hRR hm1;go_wp2_with fail;refine C.o.mono ?_;rintro e w4 ⟨o,c,rfl,hS⟩;have Zi:=hid (RF (now:=now) hS);exact aaZ
    | false=>
     obtain ⟨q2,x91⟩:=aq ((nb && (decide (kv=12) && decide ((m:Int)=8))));have HQ2:=hid x91;clear x91;go_upto_region 10 with fail
     go_cut [68] (fun z wx=>z = .bool q2/\w3=wx)
     case first=>
      cases nb with
      | false=>
       go_wp2;go_meet
       case rel=>exact ⟨by rw[<-HQ2.o];rfl,rfl⟩
      | true=>
       by_cases h5:kv=12
       ·have HL:=hid h5;have h5b:(kv==12)=true:=(by rw[h5];rfl);by_cases h6:(m:Int)=8
        ·have KC:=hid h6;have h6b:((m:Int)==8)=true:=(by rw[h6];rfl);go_wp2;go_meet
         case rel=>exact ⟨by rw[<-HQ2.o,cH HL.o,cH KC.o];rfl,rfl⟩
        ·have KC:=hid h6;have h6b:((m:Int)==8)=false:=(by simpa using h6);go_wp2;go_meet
         case rel=>exact ⟨by rw[<-HQ2.o,cH HL.o,cA KC.o];rfl,rfl⟩
       ·have HL:=hid h5;have h5b:(kv==12)=false:=(by simpa using h5);go_wp2;go_meet
        case rel=>exact ⟨by rw[<-HQ2.o,cA HL.o];rfl,rfl⟩
     case rest=>
      obtain ⟨rfl,rfl⟩:=hcut;cases q2 with
      | true=>
       have h:=HQ2.o;simp at h;obtain ⟨h1,h2,h3⟩:=h;have hl9:l.length=8:=(by have:=HM.o;omega);have h10:bF p.pair=some 12:=by
        exact adu
       obtain ⟨p0,p1,p2,p3,p4,p5,p6,p7,hl⟩:=Ol hl9;have hpe:p=p0:=(by have:=HLR.o;rw[hl] at this;injection this with this;exact this.symm);subst hpe;have hm9:m=8:=(by omega);subst hm9;have C:=hid (Li base yb M g now gl pc p p1 p2 p3 p4 p5 p6 p7 w3 HD3.o hok HB3.o (by rw[<-hl];exact uI.o) (by rw[<-hl];exact Qm.o) h10 dm hsk hin hdl hpr zo);have DU:fw M now bA=dC (mR M now ([p,p1,p2,p3,p4,p5,p6,p7].map Pc.pair)).2 now (mR M now ([p,p1,p2,p3,p4,p5,p6,p7].map Pc.pair)).1:=by
        rw[<-hl,Xg.o];exact Wu Yd.o HLS.o (by rw[<-Xg.o,hl];exact ⟨_,_,rfl,h10⟩)
       have DV:=hid DU;obtain ⟨RR,hRR⟩:=aq (mR M now ([p,p1,p2,p3,p4,p5,p6,p7].map Pc.pair));have IP:Hid (In64 (codeOf RR.2 RR.1)):=Pw (fun c hc=>Zh (M:=M) (now:=now) (ps:=[p,p1,p2,p3,p4,p5,p6,p7].map Pc.pair) (by rw[hRR];exact hc));rw[hRR] at C DV;clear h1 h2 h3 hl9 h10 hl DU Ew HQ2 HLS Xg Qm HLR Xa uI HNB HM hRR hm1;go_wp2_with fail;refine C.o.mono ?_;rintro e w4 ⟨o,c,rfl,hS⟩;have Zi:=hid (Ww (now:=now) hS);exact aaZ
      | false=>
       have DU:fw M now bA=(bu now 60,M):=by
        have h1:=Ew.o;have h2:=HQ2.o;refine Wv Yd.o HLS.o (fun p' r' e=>?_) (fun p' r' e=>?_)
        ·rintro ⟨e1,e2⟩;rw[<-Xg.o,HLR.o] at e;injection e with e3 e4;subst e3;have hnb:nb=true:=(by rw[<-HNB.o,e1];rfl);have WZ:=Xa.o.2 10 e1;have hm9:(m:Int)=9:=(by have:=HM.o;rw[<-Xg.o,cw] at e2;omega);rw[hnb,WZ,hm9] at h1;revert h1;decide
        ·rintro ⟨e1,e2⟩;rw[<-Xg.o,HLR.o] at e;injection e with e3 e4;subst e3;have hnb:nb=true:=(by rw[<-HNB.o,e1];rfl);have WZ:=Xa.o.2 12 e1;have hm9:(m:Int)=8:=(by have:=HM.o;rw[<-Xg.o,cw] at e2;omega);rw[hnb,WZ,hm9] at h2;revert h2;decide
       have DV:=hid DU;clear DU Ew HQ2;go_wp2_with fail;refine (CR.o _).mono ?_;rintro e w4 ⟨o,rfl,hH,g4⟩;have HH:=hid (And.intro hH g4);clear hH g4;go_wp2;go_ret;exact ⟨_,rfl,Av HD.o DV.o mf.o HH.o.1 HH.o.2⟩
open Proofs.Tryz
variable {QP:Type} {jU:QP->uF} {qb:QP->Nat} {base wb:Nat}
theorem DW {a b:World} {n:Nat} {row:Option Nat} (h:(a.drewN n).grownBy b row):a.grownBy b row:=⟨h.os,h.tape,h.output,h.size,h.block⟩
theorem Lv {P:Program} (w:World) {o:Oper} {a:Act} {K:Act->World->Prop} {Q:Exit->Act->World->Prop}
  (x:Operand) (src dst:TypeId) (hop:o.op=Op.convert src dst x)
  (e:TypeId) (hs:P.underlying src=some .string) (hd:P.underlying dst=some (.slice e)) (he:P.underlying e=some (.int .u8)) (zs:List UInt8) (hx:a.eval x = .string ⟨zs.toArray⟩) (hb:zs.length<=140737488355328)
  (hK:∀ b cap w',zs.length<=cap->cap<=maxLen->At w' (some ⟨b,0,none⟩) zs->w.grownBy w' none->K (a.put o.dst (.slice (some ⟨b,0,none⟩) zs.length cap)) w') :
  Oper.wp P o a w K Q:=by
 have hsz:(⟨zs.toArray⟩:ByteArray).size=zs.length:=by simp[ByteArray.size]
 have hr:=run_bytes_of_string (P:=P) w src dst e ⟨zs.toArray⟩ hs hd he
 rw[hsz] at hr
 have hge:=grownCap_ge w zs.length 0 e
 have hcm:=grownCap_le_maxLen w zs.length 0 e afL
 unfold Oper.wp
 simp[execOp,hop,hx,hr,Result.andThen]
 refine hK _ _ _ hge hcm ?_ ⟨rfl,rfl,rfl,by simp,fun k hk _=>Below.heap_alloc w.drew _ k hk⟩
 exact aby
theorem WD.agh {d:WD PD QP} {k N:Nat} {p p':PD} (hk:d.ps[k]?=some p) (hf:∀ b,p'.foot b->p.foot b\/N<=b):∀ (j b:Nat),WD.F (dA jU qb) wb {d with ps:=d.ps.set k p'} j b->WD.F (dA jU qb) wb d j b\/N<=b:=by
 have hkl:k<d.ps.length:=(cq.1 hk).1;intro j b h;match j,h with
 | 0,h=>exact .inl h
 | 1,h=>exact .inl h
 | 2,h=>exact .inl h
 | 3,h=>exact .inl h
 | 4,h=>exact .inl h
 | 5,h=>exact .inl h
 | 6,h=>exact .inl h
 | 7,h=>exact .inl h
 | 8,h=>exact .inl h
 | 9,h=>exact .inl h
 | 10,h=>exact .inl h
 | i+11,h=>
  by_cases e:i % 2=0
  ·simp only[WD.F,e,ez] at h ⊢;obtain ⟨q,hq,hb⟩:=h;by_cases ek:i / 2=k
   ·rw[ek,List.getElem?_set_self hkl] at hq;cases hq;rcases hf b hb with q | q
    ·exact .inl ⟨p,by rw[ek];exact hk,q⟩
    ·exact .inr q
   ·rw[fm (fun q=>ek q.symm)] at hq;exact .inl ⟨q,hq,hb⟩
  ·simp only[WD.F,e,eC] at h ⊢;exact .inl h
theorem Fin.row {w w':World} {g:Nat} {dp:Option Pl} {v':Value} {R:List UInt8×DM} (h:Fin w w' g none none dp (fun _ _=>False) v' R):w.grownBy w' (some g):=
 h.cf.adn (fun b o _ e=>by
  rcases e with e|(e | e) | e
  ·exact e.1
  ·exact e.elim
  ·obtain ⟨q,hq,_⟩:=e;cases hq
  ·obtain ⟨q,hq,_⟩:=e;cases hq)
theorem Fin.mh {w w':World} {g n:Nat} {dp:Option Pl} {v':Value} {R:List UInt8×DM} (h:Fin (w.drewN n) w' g none none dp (fun _ _=>False) v' R):Fin w w' g none none dp (fun _ _=>False) v' R:=⟨h.out,h.dF,h.cf.mh⟩
theorem sj.row {w0 w w':World} {a:Option Addr} {cap:Nat} {zs:List UInt8} {gB row:Option Nat} (h:sj w0 w a cap zs gB) (k:w.grownBy w' row) (hr:∀ g,gB=some g->some g≠row):sj w0 w' a cap zs gB:=by
 rcases h with h | ⟨g,h1,h2,h3,h4⟩
 ·exact .inl h
 ·exact .inr ⟨g,h1,h2,h3,h4.grown k (hr g h2)⟩
theorem sj.lt2 {w0 w:World} {a:Option Addr} {cap:Nat} {zs:List UInt8} {gB:Option Nat} (h:sj w0 w a cap zs gB) (g:Nat) (hg:gB=some g):w0.heap.size<=g/\g<w.heap.size:=by
 rcases h with ⟨_,_,_,h⟩ | ⟨g',_,h2,h3,h4⟩
 ·rw[h] at hg;cases hg
 ·rw[h2] at hg;cases hg;exact ⟨h3,h4.lt⟩
theorem Zl {d:WD PD QP} {k:Nat} {p:PD} {w w2 w3 w4 w5 w6:World} {gB:Option Nat} {v o:Value} {R:List UInt8×DM} (hI:iK (dA jU qb) base wb d w) (hk:d.ps[k]?=some p) (g2:w.grownBy w2 none)
  (hF:Fin w2 w3 p.xb none none p.dp (fun _ _=>False) v R) (g4:w3.grownBy w4 gB) (hgB:∀ g,gB=some g->w.heap.size<=g) (g5:w4.grownBy w5 none) (hA:wD 0 p.yb p.rg R w5 w6 o) :
  ∃ p',iK (dA jU qb) base wb {d with ps:=d.ps.set k p'} w6/\p'.M=R.2/\p'.pb=p.pb/\p'.yb=p.yb/\p'.sv=p.sv/\p'.kl=p.kl/\Below base w w6/\(∀ b,b<w.heap.size->¬ p.foot b->w6.heap[b]?=w.heap[b]?)/\(∀ b,p'.foot b->p.foot b\/w5.heap.size<=b):=by
 obtain ⟨hH,⟨g',hrd,hgf⟩,g6⟩:=hA
 obtain ⟨IM,hd',hdp⟩:=hF.dF
 have hp:=hI.part hk
 have g3:=hF.row
 have s2:=g2.size
 have s3:=g3.size
 have s4:=g4.size
 have s5:=g5.size
 have s6:=g6.size
 have hyf:p.rg.foot p.yb p.yb:=.inl rfl
 have h36:∀ b,b<w.heap.size->b≠p.yb->w6.heap[b]?=w3.heap[b]?:=fun b hb hy=>by
  rw[g6.block b afp (fun e=>hy afI),g5.block b afp aft,g4.block b afp (fun e=>by have:=hgB b e.symm;omega)]
 have hall:∀ b,b<w.heap.size->b≠p.xb->b≠p.yb->w6.heap[b]?=w.heap[b]?:=fun b hb hx hy=>by
  rw[h36 b hb hy,g3.block b afp (fun e=>hx afI),g2.block b hb aft]
 have hsub:∀ b,Pl.blk IM=some b->Pl.blk p.dp=some b:=by
  intro b hb;cases hq':IM with
  | none=>rw[hq'] at hb;cases hb
  | some q'=>
   rw[hq'] at hb;obtain ⟨q,hq,e⟩:=hdp q' hq';rw[hq];injection hb with hb;have hb:q'.g=b:=hb;show some q.g=some b;rw[e,hb]
 have hxf:∀ b,(b=p.xb\/Pl.blk IM=some b)->p.xf b:=fun b hb=>hb.elim .inl (fun e=>.inr (hsub b e))
 have hxy:∀ b,p.xf b->b≠p.yb:=fun b hb e=>hp.xy b hb (by rw[e];exact hyf)
 have hx6:dO w6 p.xb 0 IM R.2:=hd'.keep (fun b hb=>h36 b (hp.lt (.inr (.inl (hxf b hb)))) (hxy b (hxf b hb)))
 have hpx:p.pb≠p.xb:=fun e=>hp.px (.inl e)
 have hpy:p.pb≠p.yb:=fun e=>hp.py (by rw[e];exact hyf)
 have hgn:∀ b,b<w.heap.size->g'.foot p.yb b->p.rg.foot p.yb b:=fun b hb e=>(hgf b e).elim id (fun q=>by omega)
 have Px:∀ b,({p with dp:=IM,rg:=g',M:=R.2}:PD).foot b->p.foot b\/w5.heap.size<=b:=by
  intro b hb;rcases hb with e | e | e | e
  ·exact .inl (.inl e)
  ·exact .inl (.inr (.inl (hxf b e)))
  ·rcases hgf b e with e | e
   ·exact .inl (PD.fy e)
   ·exact .inr e
  ·exact .inl (PD.fs e)
 have hok:({p with dp:=IM,rg:=g',M:=R.2}:PD).ok w6:=by
  refine ⟨hp.blk.kept (hall p.pb hp.blk.lt hpx hpy),hx6,hrd,fun e=>hp.dx (hsub _ e),fun e=>hp.px (hxf _ e),fun e=>hp.py (hgn _ hp.blk.lt e),fun b hb e=>hp.xy b (hxf b hb) (hgn b (hp.lt (.inr (.inl (hxf b hb)))) e),hp.s.keep (fun b hb=>?_),fun b hb=>⟨(hp.sd b hb).1,fun e=>(hp.sd b hb).2.1 (hxf b e),fun e=>(hp.sd b hb).2.2 (hgn b (hp.lt (PD.fs hb)) e)⟩,hp.ss⟩;rcases hb with e | e
  ·rw[e];exact hall p.pb hp.blk.lt hpx hpy
  ·exact hall b (hp.s.lt e) (fun q=>(hp.sd b e).2.1 (.inl q)) (fun q=>(hp.sd b e).2.2 (by rw[q];exact hyf))
 have hkeep:∀ b,b<w.heap.size->¬ p.foot b->w6.heap[b]?=w.heap[b]?:=fun b hb hx=>hall b hb (fun e=>hx (.inr (.inl (.inl e)))) (fun e=>hx (PD.fy (by rw[e];exact hyf)))
 have Rr:=hI.put hk (p':={p with dp:=IM,rg:=g',M:=R.2}) (w':=w6) ⟨((((g6.os.trans g5.os).trans g4.os).trans g3.os).trans g2.os),((((g6.tape.trans g5.tape).trans g4.tape).trans g3.tape).trans g2.tape),((((g6.output.trans g5.output).trans g4.output).trans g3.output).trans g2.output),by omega,hkeep⟩ hok rfl (fun b hb=>(Px b hb).elim .inl (fun e=>.inr afp))
 exact ⟨_,Rr.1,rfl,rfl,rfl,rfl,rfl,Rr.2,hkeep,Px⟩
theorem RZ {d:WD PD QP} {k:Nat} {p:PD} {w w':World} (hI:iK (dA jU qb) base wb d w) (hk:d.ps[k]?=some p) (hH:og w w' 0 p.pb 2 p.sv p.kl) :
  ∃ p',iK (dA jU qb) base wb {d with ps:=d.ps.set k p'} w'/\p'.M=p.M/\p'.kl.length<=p.kl.length+1/\Below base w w'/\(∀ b,b<w.heap.size->¬ p.foot b->w'.heap[b]?=w.heap[b]?):=by
 obtain ⟨RV,kl',hS,hl,h1,h2,h3,f,hB⟩:=hH
 have hp:=hI.part hk
 have hsf:∀ b,({p with sv:=RV,kl:=kl'}:PD).sf b->p.sf b\/w.heap.size<=b:=by
  intro b hb;rcases hb with e | ⟨x,hx,e⟩
  ·rcases h1 b e with e | e
   ·exact .inl (.inl e)
   ·exact .inr e
  ·rcases h2 x hx with q | q
   ·exact .inl (.inr ⟨x,q,e⟩)
   ·exact .inr (q b e).1
 have Px:∀ b,({p with sv:=RV,kl:=kl'}:PD).foot b->p.foot b\/w.heap.size<=b:=by
  intro b hb;rcases hb with e | e | e | e
  ·exact .inl (.inl e)
  ·exact .inl (.inr (.inl e))
  ·exact .inl (PD.fy e)
  ·exact (hsf b e).elim (fun q=>.inl (PD.fs q)) .inr
 have hkeep:∀ b,b<w.heap.size->b≠p.pb->¬ p.sf b->w'.heap[b]?=w.heap[b]?:=fun b hb hx hy=>f.block b hb (fun e=>e.elim hx (fun q=>hy (.inl q)))
 have hok:({p with sv:=RV,kl:=kl'}:PD).ok w':=by
  refine ⟨hB _ hp.blk,hp.x.keep (fun b hb=>hkeep b (hp.x.lt hb) (fun e=>hp.px (by rw[<-e];exact hb)) (fun e=>(hp.sd b e).2.1 hb)),hp.y.keep (fun b hb=>hkeep b (hp.y.lt b hb).2 (fun e=>hp.py (by rw[<-e];exact hb)) (fun e=>(hp.sd b e).2.2 hb)),hp.dx,hp.px,hp.py,hp.xy,hS,fun b hb=>?_,fun x hx b hb=>?_⟩
  ·rcases hsf b hb with e | e
   ·exact hp.sd b e
   ·exact ⟨fun q=>by have q:b=p.pb:=q;have:=hp.blk.lt;omega,fun q=>by have:=hp.x.lt q;omega,fun q=>by have:=(hp.y.lt b q).2;omega⟩
  ·rcases h2 x hx with q | q
   ·exact h3 x q b hb
   ·exact (q b hb).2
 have Rr:=hI.put hk (p':={p with sv:=RV,kl:=kl'}) (w':=w') ⟨f.os,f.tape,f.output,f.size,fun b hb hx=>hkeep b hb (fun e=>hx (.inl e)) (fun e=>hx (PD.fs e))⟩ hok rfl Px
 exact ⟨_,Rr.1,rfl,hl,Rr.2,fun b hb hx=>hkeep b hb (fun e=>hx (.inl e)) (fun e=>hx (PD.fs e))⟩
def WJ (jU:QP->uF) (qb:QP->Nat) (base wb:Nat) (d:WD PD QP) (k n:Nat) (p:PD) (w w':World):Prop:=
 (∃ p' x v',iK (dA jU qb) base wb {d with ps:=d.ps.set k p',bv:=v',eb:=d.eb++[x]} w'/\fD p'.M n/\p'.kl.length<=p.kl.length+1)/\Below base w w'/\Lc (dA jU qb) wb d w w'
theorem WK {d:WD PD QP} {k n:Nat} {p:PD} {a:oL} {rep:List UInt8} {v:Value} {w:World} (hI:iK (dA jU qb) base wb d w) (hk:d.ps[k]?=some p) (hinv:fD p.M n) (hn:n<=4611686018427387904) (hv:Has w v rep) (hrl:rep.length<=900) (hkl:p.kl.length<=1073741824) :
  Calls prog 36 #[.pointer (some ⟨p.pb,2,none⟩),v,.agg a.arr,.pointer (some ⟨p.yb,0,none⟩)] w fun e w'=>e = .returned (.tuple #[])/\og w w' 0 p.pb 2 p.sv p.kl:=by
 have hp:=hI.part hk
 exact Oo 0 p.yb p.M p.rg a rep v p.pb 2 p.sv p.kl w hp.y (hinv.bg.mono hn) hv hrl hp.s hkl (cE _) (Di hp.blk 3 (bd 3)) (fun e=>(hp.sd p.pb (.inl e)).1 rfl) (fun x hx b hb=>⟨(hp.sd b (.inr ⟨x,hx,hb⟩)).1,hp.ss x hx b hb⟩)
theorem og.mh {w w':World} {n b sb so:Nat} {sv:Value} {kl:List KN} (h:og (w.drewN n) w' b sb so sv kl):og w w' b sb so sv kl:=by
 obtain ⟨RV,kl',h1,h2,h3,h4,h5,f,h6⟩:=h;exact ⟨RV,kl',h1,h2,h3,h4,h5,⟨f.os,f.tape,f.output,f.size,f.block⟩,h6⟩
theorem IC (d:WD PD QP) (n k:Nat) (p:PD) (a:oL) (now kind C:Int) (zs:List UInt8) (cs:Array Value) (w:World) (hk:d.ps[k]?=some p) (hk6:(kind==6)=false) (Xh:(kind==7)=true)
  (h0:cs[0]?=some (.int .i64 kind)) (h3:cs[3]?=some (.int .i64 C)) (h6:cs[6]?=some (.int .i64 now)) (h7:cs[7]?=some (.string ⟨zs.toArray⟩)) (Zm:∀ j v,a.cells[j]?=some v->cs[15+j]?=some v)
  (ha:a.Ok) (hz:zs.length<=1048576) (dm:In64 now) (hinv:fD p.M n) (hn:n<=4611686018427387904) (hkl:p.kl.length<=1073741824) (hll:(d.eb.length+1)*112<=140737488355328)
  (hI:iK (dA jU qb) base wb d w) :
  Calls prog 10 #[.pointer (some ⟨wb,0,none⟩),.agg cs,.pointer (some ⟨p.pb,0,none⟩)] w fun e w'=>e = .returned (.bool true)/\WJ jU qb base wb d k n p w w':=by
 have hp:=hI.part hk
 have G0:=aE w (.cells cs 48) none
 have s0:(w.alloc (.cells cs 48)).heap.size=w.heap.size+1:=ch _ _
 have HP:Hid (∀ V,w.grownBy V none->p.ok V):=fun V g=>hp.keep (fun b hb=>g.block b (hp.lt hb) aft)
 have hp0:=HP.o _ G0
 have k0:(w.alloc (.cells cs 48)).cell? ⟨w.heap.size,0,none⟩=some (.int .i64 kind):=by rw[World.cell?_alloc_at (hn:=rfl)];exact h0
 have k3:(w.alloc (.cells cs 48)).cell? ⟨w.heap.size,3,none⟩=some (.int .i64 C):=by rw[World.cell?_alloc_at (hn:=rfl)];exact h3
 have k6:(w.alloc (.cells cs 48)).cell? ⟨w.heap.size,6,none⟩=some (.int .i64 now):=by rw[World.cell?_alloc_at (hn:=rfl)];exact h6
 have k7:(w.alloc (.cells cs 48)).cell? ⟨w.heap.size,7,none⟩=some (.string ⟨zs.toArray⟩):=by rw[World.cell?_alloc_at (hn:=rfl)];exact h7
 have Eu:Hid ((w.alloc (.cells cs 48)).rangeAt w.heap.size 15 a.cells):=fun j v hv=>by rw[World.cell?_alloc_at (hn:=rfl)];exact Zm j v hv
 have q0:(w.alloc (.cells cs 48)).cell? ⟨p.pb,0,none⟩=some (.pointer (some ⟨p.xb,0,none⟩)):=hp0.blk.cell 0
 have q1:(w.alloc (.cells cs 48)).cell? ⟨p.pb,1,none⟩=some (.pointer (some ⟨p.yb,0,none⟩)):=hp0.blk.cell 1
 have hpx:p.pb≠p.xb:=fun e=>hp.px (.inl e)
 have hox:w.heap.size≠p.xb:=fun e=>by have:=hp.lt (.inr (.inl (.inl e)));omega
 have aj5:some p.pb≠some p.yb:=fun e=>hp.py (.inl afI)
 have agi:some w.heap.size≠some p.yb:=fun e=>by
  injection e with e;have:=hp.lt (PD.fy (.inl e));omega
 have HB:=hid (hinv.bg.mono hn)
 have A7:=hid (And.intro hinv hn)
 have HI:=hid (And.intro hI hk)
 have HLL:=hid hll
 have HKL:=hid hkl
 have MQ:=hid dm
 have qN:Hid (∀ V,(w.alloc (.cells cs 48)).grownBy V none->Calls prog 33 #[.pointer (some ⟨p.pb,2,none⟩),.pointer (some ⟨p.yb,0,none⟩),.string ⟨zs.toArray⟩,.agg a.cells.toArray] V fun e w'=>∃ r:List UInt8,e = .returned (.string ⟨r.toArray⟩)/\r.length<=300000000/\V.grownBy w' none):=fun V gV=>
  Ih 0 p.yb p.M p.rg a zs p.pb 2 p.sv p.kl V (HP.o V (aa G0 gV)).y HB.o ha hz (HP.o V (aa G0 gV)).s
 have uH:=hid G0
 clear hp hp0 hI hk h0 h3 h6 h7 Zm ha hz hinv hn hkl hll G0 dm
 go_enter func10,ntmps10
 go_wp2_with fail
 refine wp_region_held_drew (S:=(fun w'=>w'.cell? ⟨p.pb,1,none⟩=some (.pointer (some ⟨p.yb,0,none⟩))/\w'.cell? ⟨w.heap.size,7,none⟩=some (.string ⟨zs.toArray⟩)/\w'.rangeAt w.heap.size 15 a.cells)) afv ⟨q1,k7,Eu.o⟩ (fun hHeld=>?_)
 refine DF 0 (.pointer (some ⟨p.pb,0,none⟩)) ?_
 refine DF 1 (.pointer (some ⟨p.pb,0,none⟩)) ?_
 refine DF 2 (.pointer (some ⟨p.pb,2,none⟩)) ?_
 refine DF 3 (.pointer (some ⟨p.pb,0,none⟩)) ?_
 refine DF 4 (.pointer (some ⟨p.pb,0,none⟩)) ?_
 refine DF 5 (.pointer (some ⟨p.pb,1,none⟩)) ?_
 refine DF 6 (.pointer (some ⟨p.yb,0,none⟩)) ?_
 refine DF 7 (.pointer (some ⟨w.heap.size,7,none⟩)) ?_
 refine DF 8 (.string ⟨zs.toArray⟩) ?_
 refine DF 9 (.pointer (some ⟨w.heap.size,15,none⟩)) ?_
 refine mV 10 (.agg a.cells.toArray) ?_ (hy:=yieldsIf_load_mid (by rfl) _ _ rfl w.heap.size 15 rfl a.cells _ (fun w' h=>h.2.2) underlying45 rfl Tryz.Bn)
 refine ready_one (i:=11) rfl afv (fun K hK=>?_)
 go_simp
 refine (qN.o _ (aY (bh _ _) 1)).mono ?_
 rintro e w1 ⟨r,rfl,hrl,g1'⟩
 have g1:=DW g1'
 clear g1'
 have Yc:Hid (w1.cell? ⟨p.pb,1,none⟩=some (.pointer (some ⟨p.yb,0,none⟩))/\w1.cell? ⟨w.heap.size,7,none⟩=some (.string ⟨zs.toArray⟩)/\w1.rangeAt w.heap.size 15 a.cells):=⟨g1.cell q1 aft,g1.cell k7 aft,aA Eu.o g1⟩
 go_wp2_with fail
 refine hK.out _ _ Yc.o (fun hHeld=>?_)
 clear hK K
 refine DF 12 (.string ⟨r.toArray⟩) ?_
 refine wpAnyH_done afv ?_ _
 have g01:=aa uH.o g1
 have jC:=hid g1
 have aj7:r.length<=140737488351232:=by omega
 have acz:Hid (r.length<=140737488355328):=by show _<=_;omega
 have WW:=g1.cell k3 aft
 have U6:=g1.cell k6 aft
 have q0':=g1.cell q0 aft
 have q1':=g1.cell q1 aft
 have agj:=hid (aA Eu.o g1)
 clear k0 k3 k6 k7 q0 q1 Eu qN Yc hHeld hrl
 go_wp2_with fail
 refine (BG r _ _ aj7).mono ?_
 rintro e w2 ⟨al,cl,gB,rfl,hL,g2⟩
 have G2:=aa g01 g2
 obtain ⟨rn,hrn⟩:=aq r.length
 have HRn:=hid hrn
 obtain ⟨R,hR⟩:=aq (fw p.M now r)
 have HRe:=hid hR
 obtain ⟨nn,hnn⟩:=aq R.1.length
 have Pj:=hid hnn
 have agk:Hid (R.1.length<=900):=by show _<=_;rw[<-hR];exact RY A7.o.1 now r
 have HRI:Hid (fD R.2 n):=by show fD _ _;rw[<-hR];exact A7.o.1.answer now r
 have q0:=g2.cell q0' aft
 have q1:=g2.cell q1' aft
 have k6:=g2.cell U6 aft
 have G8:=hid (aA agj.o g2)
 have Az:Hid (Calls prog 34 #[.pointer (some ⟨p.xb,0,none⟩),.int .i64 now,.slice al rn cl] (w2.drewN 1) fun e w'=>∃ v',e = .returned v'/\Fin (w2.drewN 1) w' p.xb none none p.dp (fun _ _=>False) v' R):=by
  have hx:=(HP.o _ (aY G2 1))
  rw[<-hR];exact AY p.xb p.dp p.M now (al,r) r rn al cl (w2.drewN 1) hx.x hx.dx (A7.o.1.bin A7.o.2) A7.o.1.bg.sorted HRn (hL.grown (aY (bh _ _) 1)).at ⟨al,cl,by rw[hrn],hL.cap.1,hL.cap.2,acz.o,fun w0 h=>h⟩ MQ.o A7.o.1.aC A7.o.1.times
 have sQ:Hid (∀ w' v',Fin (w2.drewN 1) w' p.xb none none p.dp (fun _ _=>False) v' R->Fin w2 w' p.xb none none p.dp (fun _ _=>False) v' R):=fun w' v' h=>h.mh
 have HSh:Hid (∀ w' v',Fin w2 w' p.xb none none p.dp (fun _ _=>False) v' R->∃ ao co,v' = .slice ao nn co):=fun w' v' h=>by
  obtain ⟨p',ho,_⟩:=h.out;obtain ⟨ao,co,hv,_⟩:=ho.shape;exact ⟨ao,co,by rw[hv,hnn]⟩
 have HB3:Hid (∀ w' v',Fin w2 w' p.xb none none p.dp (fun _ _=>False) v' R->∀ (b o:Nat) (u:Value),w2.cell? ⟨b,o,none⟩=some u->b≠p.xb->w'.cell? ⟨b,o,none⟩=some u):=fun w' v' h b o u hu hb=>h.row.cell hu (fun e=>hb afI)
 have HL2:=hid (And.intro hL g01)
 have HG2:=hid G2
 have Hg2:=hid g2
 rw[hrn]
 clear WW U6 q0' q1' agj hL g01 g1 g2 G2 hrn hR hnn
 go_wp2_with fail
 refine wp_region_held_drew (S:=(fun w'=>w'.cell? ⟨p.pb,0,none⟩=some (.pointer (some ⟨p.xb,0,none⟩))/\w'.cell? ⟨w.heap.size,6,none⟩=some (.int .i64 now))) afv ⟨q0,k6⟩ (fun hHeld=>?_)
 refine mV 0 (.pointer (some ⟨p.pb,0,none⟩)) ?_
 refine mV 1 (.pointer (some ⟨p.pb,0,none⟩)) ?_
 refine mV 2 (.pointer (some ⟨p.pb,0,none⟩)) ?_
 refine mV 3 (.pointer (some ⟨p.xb,0,none⟩)) ?_
 refine mV 4 (.pointer (some ⟨w.heap.size,6,none⟩)) ?_
 refine mV 5 (.int .i64 now) ?_
 refine mV 6 (.slice al rn cl) ?_
 refine ready_one (i:=7) rfl afv (fun K hK=>?_)
 go_simp
 refine Az.o.mono ?_
 rintro e w3 ⟨v3,rfl,F3'⟩
 have F3:=sQ.o w3 v3 F3'
 clear F3'
 obtain ⟨ao,co,hv3⟩:=HSh.o w3 v3 F3
 subst hv3
 have HH3:Hid (w3.cell? ⟨p.pb,0,none⟩=some (.pointer (some ⟨p.xb,0,none⟩))/\w3.cell? ⟨w.heap.size,6,none⟩=some (.int .i64 now)):=⟨HB3.o _ _ F3 _ _ _ q0 hpx,HB3.o _ _ F3 _ _ _ k6 hox⟩
 have GZ:=hid F3
 clear F3
 go_wp2_with fail
 refine hK.out _ _ HH3.o (fun hHeld=>?_)
 clear hK K
 refine mV 8 (.slice ao nn co) ?_
 refine wpAnyH_done afv ?_ _
 have q1':=HB3.o _ _ GZ.o _ _ _ q1 hpx
 have U6:=HB3.o _ _ GZ.o _ _ _ k6 hox
 have agl:Hid (w3.rangeAt w.heap.size 15 a.cells):=fun j v hv=>HB3.o _ _ GZ.o _ _ _ (G8.o j v hv) hox
 have HL3:Hid (sj w1 w3 al cl r gB):=HL2.o.1.row GZ.o.row (fun g hg e=>by
  have h1:=HL2.o.1.lt2 g hg;have h2:=HL2.o.2.size;have h3:p.xb<w.heap.size:=(HI.o.1.part HI.o.2).lt (.inr (.inl (.inl rfl)));injection e with e
  omega)
 clear q0 q1 k6 G8 Az sQ HSh HB3 hHeld HH3
 go_wp2_with fail
 refine (BH r rn al cl gB _ _ HRn (by have:=HRn.o;omega) HL3.o).mono ?_
 rintro e w4 ⟨rfl,g4⟩
 have HgB:Hid (∀ g,gB=some g->w.heap.size+1<=g/\g<w2.heap.size):=fun g hg=>by
  have h1:=HL2.o.1.lt2 g hg;have h2:=jC.o.size;rw[s0] at h2;exact ⟨by omega,h1.2⟩
 have hop:some p.pb≠gB:=fun e=>by
  have h1:=(HgB.o _ e.symm).1;have h3:p.pb<w.heap.size:=(HI.o.1.part HI.o.2).lt (.inl rfl);omega
 have hoo:some w.heap.size≠gB:=fun e=>by
  have h1:=(HgB.o _ e.symm).1;omega
 have q1:=g4.cell q1' hop
 have k6:=g4.cell U6 hoo
 have agn:Hid (w4.rangeAt w.heap.size 15 a.cells):=fun j v hv=>g4.cell (agl.o j v hv) hoo
 have xu:=hid g4
 have WX:Hid (∀ (W:World) (b5 cap5:Nat),w4.grownBy W none->r.length<=cap5->cap5<=maxLen->At W (some ⟨b5,0,none⟩) r->Calls prog 35 #[.pointer (some ⟨p.yb,0,none⟩),.int .i64 now,.slice (some ⟨b5,0,none⟩) r.length cap5] W fun e w'=>∃ o,e = .returned o/\wD 0 p.yb p.rg R W w' o):=by
  intro W b5 cap5 gW PK hcm hat;have hp:=HI.o.1.part HI.o.2;have hy2:=(HP.o _ HG2.o).y;have hxb:∀ b,p.rg.foot p.yb b->b≠p.xb:=fun b hb e=>hp.xy b (.inl e) hb
  have hyW:RD W 0 p.yb p.M p.rg:=hy2.keep (fun b hb=>by
   have hlt:=(hy2.lt b hb).2;have hlw:b<w.heap.size:=(hp.y.lt b hb).2;have z3:=GZ.o.row.size;have z4:=xu.o.size
   rw[gW.block b afp aft,xu.o.block b afp (fun e=>by have:=(HgB.o b e.symm).1;omega),GZ.o.row.block b hlt (fun e=>hxb b hb afI)])
  rw[<-HRe.o];exact Lu 0 p.yb p.M p.rg now r _ W hyW HB.o (cE _) ⟨some ⟨b5,0,none⟩,cap5,rfl,PK,hcm,(fun e=>by cases e),hat⟩ acz.o MQ.o A7.o.1.aC A7.o.1.Gd A7.o.1.aO (by have:=hp.x.few;omega) A7.o.1.times
 clear q1' U6 agl g4 hop hoo HL3
 go_wp2_with fail
 refine wp_region_held_drew (S:=(fun w'=>w'.cell? ⟨p.pb,1,none⟩=some (.pointer (some ⟨p.yb,0,none⟩))/\w'.cell? ⟨w.heap.size,6,none⟩=some (.int .i64 now))) afv ⟨q1,k6⟩ (fun hHeld=>?_)
 refine mV 0 (.pointer (some ⟨p.pb,0,none⟩)) ?_
 refine mV 1 (.pointer (some ⟨p.pb,0,none⟩)) ?_
 refine mV 2 (.pointer (some ⟨p.pb,1,none⟩)) ?_
 refine mV 3 (.pointer (some ⟨p.yb,0,none⟩)) ?_
 refine mV 4 (.pointer (some ⟨w.heap.size,6,none⟩)) ?_
 refine mV 5 (.int .i64 now) ?_
 refine mV 6 (.string ⟨r.toArray⟩) ?_
 refine ready_one (i:=7) rfl afv (fun K hK=>?_)
 refine Eq.mpr (if_pos afv) ?_
 refine Lv _ _ 9 37 rfl 5 underlying9 underlying37 underlying5 r rfl acz.o ?_
 intro b5 cap5 w5 PK Y0 wZ g5'
 have g5:=DW g5'
 clear g5'
 have HC6:=hid (WX.o w5 b5 cap5 g5 PK Y0 wZ)
 have HH5:Hid (w5.cell? ⟨p.pb,1,none⟩=some (.pointer (some ⟨p.yb,0,none⟩))/\w5.cell? ⟨w.heap.size,6,none⟩=some (.int .i64 now)):=⟨g5.cell q1 aft,g5.cell k6 aft⟩
 clear PK Y0 wZ q1 k6
 have q1:=HH5.o.1
 have k6:=HH5.o.2
 refine hK.out _ _ HH5.o (fun hHeld=>?_)
 clear hK K
 try simp only[Act.put,de,dy,eo]
 refine ready_one (i:=8) rfl afv (fun K hK=>?_)
 go_simp
 refine HC6.o.mono ?_
 rintro e w6 ⟨o6,rfl,A6⟩
 obtain ⟨am,cm,hm6⟩:=A6.1.has.shape
 rw[Pj.o] at hm6
 subst hm6
 have Q4:=hid A6
 have HH6:Hid (w6.cell? ⟨p.pb,1,none⟩=some (.pointer (some ⟨p.yb,0,none⟩))/\w6.cell? ⟨w.heap.size,6,none⟩=some (.int .i64 now)):=⟨A6.2.2.cell q1 aj5,A6.2.2.cell k6 agi⟩
 clear A6
 go_wp2_with fail
 refine hK.out _ _ HH6.o (fun hHeld=>?_)
 clear hK K
 refine mV 9 (.slice am nn cm) ?_
 refine wpAnyH_done afv ?_ _
 obtain ⟨po,hO3,hpo⟩:=GZ.o.out
 have WL:Pl.fresh w2.heap.size po:=hpo.elim (fun e=>by rw[e];intro q hq;cases hq) id
 have agp:Hid (∀ g,gB=some g->g<w2.heap.size):=fun g hg=>(HgB.o g hg).2
 have HOu:Hid (Out w6 (.slice ao nn co) po R.1):=by
  have h4:Out w4 (.slice ao nn co) po R.1:=hO3.Tg (lN.bN xu.o) (fun q hq e=>by have h1:=agp.o q.g e;have h2:=WL q hq;omega);refine (h4.grown g5).Tg (lN.bN Q4.o.2.2) (fun q hq e=>?_);have h1:p.yb<w.heap.size:=(HI.o.1.part HI.o.2).lt (PD.fy (.inl rfl));have h2:=WL q hq;have h3:=HG2.o.size;injection e with e;omega
 have agq:=hid (Zl HI.o.1 HI.o.2 HG2.o GZ.o xu.o (fun g hg=>by have:=(HgB.o g hg).1;omega) g5 Q4.o)
 obtain ⟨p',S6,hM6,Lx,Ot,R7,Ou,B6,K6,F6⟩:=agq.o
 have WY:=hid K6
 have HF6:=hid F6
 have ZM:=hid B6
 have VF:=hid (And.intro hM6 (And.intro Lx (And.intro Ot (And.intro R7 Ou))))
 have HOn:Hid (Made w5.heap.size w6 (.slice am nn cm) R.1):=Q4.o.1
 have s45:w2.heap.size<=w5.heap.size:=br GZ.o.row.size (br xu.o.size g5.size)
 have agr:=hid s45
 have r1:=iE (P:=prog) w6 37 9 5 underlying37 underlying5 underlying9 ao co R.1 (HOu.o.at' Pj)
 have r2:(convert 37 9 (.slice am R.1.length cm)).run prog w6 = .ok (.string ⟨R.1.toArray⟩) w6:=by
  obtain ⟨am',cm',e,_,_,_,hat⟩:=HOn.o.has;injection e with e1 e2 e3;rw[<-e1] at hat;exact iE (P:=prog) w6 37 9 5 underlying37 underlying5 underlying9 am cm R.1 hat
 rw[Pj.o] at r1 r2
 have hfr:∀ q,po=some q->base<=q.g/\∀ j,¬ WD.F (dA jU qb) wb {d with ps:=d.ps.set k p'} j q.g:=by
  intro q hq;have h2:=WL q hq;have h3:=HG2.o.size;have h4:=HI.o.1.room;have h5:q.g<w4.heap.size:=by have:=hO3.Sa q hq;have:=xu.o.size;omega
  have h6:=g5.size;refine ⟨by omega,fun j hj=>?_⟩;rcases WD.agh HI.o.2 HF6.o j q.g hj with e | e
  ·have:=HI.o.1.lt j q.g e;omega
  ·omega
 have CB:=hid (PW {d with ps:=d.ps.set k p'} (.slice ao nn co) po R.1 nn w6 S6 HOu.o Pj (by have:=Pj.o;have:=agk.o;omega) hfr HLL.o)
 have aj9:Hid (w6.rangeAt w.heap.size 15 a.cells):=fun j v hv=>Q4.o.2.2.cell (g5.cell (agn.o j v hv) aft) agi
 have aka:Hid (∀ q,po=some q->w2.heap.size<=q.g/\q.g<w5.heap.size):=fun q hq=>⟨WL q hq,by have:=hO3.Sa q hq;have:=xu.o.size;have:=g5.size;omega⟩
 clear S6 K6 F6 B6 hM6 Lx Ot R7 Ou hfr agq agn HH6 HC6 HH5 hHeld hO3 hpo WL WX q1 k6 agp s45 g5
 go_wp2_with fail
 refine CB.o.mono ?_
 rintro e w7 ⟨rfl,⟨x,v',S7,X7⟩,B7,F7⟩
 have hkl:k<d.ps.length:=(cq.1 HI.o.2).1
 have Xh:(d.ps.set k p')[k]?=some p':=List.getElem?_set_self hkl
 have HS7:=hid S7
 have HB7:=hid B7
 have HF7:=hid F7
 have Hk7:=hid Xh
 have hne:∀ b,(b=wb\/d.bv.ownBlock=some b\/Pl.blk po=some b)->b<w.heap.size/\VT (dA jU qb) wb d b\/w2.heap.size<=b/\b<w5.heap.size:=by
  intro b hb;rcases hb with e | e | e
  ·exact .inl ⟨by rw[e];exact HI.o.1.lt 0 wb rfl,⟨0,by decide,e⟩⟩
  ·exact .inl ⟨HI.o.1.lt 3 b e,⟨3,by decide,e⟩⟩
  ·refine .inr ?_;cases hq:po with
   | none=>rw[hq] at e;cases e
   | some q=>rw[hq] at e;injection e with e;rw[<-e];exact aka.o q hq
 have HNe:=hid hne
 have s2:w.heap.size+1<=w2.heap.size:=by
  have h1:=jC.o.size;rw[s0] at h1;have h2:=HL2.o.2.size;have h3:=Hg2.o.size;omega
 have ags:Hid (w7.rangeAt w.heap.size 15 a.cells):=fun j v hv=>by
  have h1:=aj9.o j v hv;rw[World.cell?_of_block (w:=w6) (w':=w7) (a:=⟨w.heap.size,15+j,none⟩) (F7.block w.heap.size (World.block_lt_of_cell? w6 _ h1) (fun e=>by rcases hne _ e with q | q <;> omega))];exact h1
 obtain ⟨hM6,Lx,Ot,R7,Ou⟩:=VF.o
 have hp7:=S7.part Xh
 have Fg:Hid (dX w7 p.pb #[ptrTo p'.xb,ptrTo p.yb,p'.sv]):=by
  have h1:=hp7.blk;rw[Lx,Ot] at h1;exact h1
 have q1:w7.cell? ⟨p.pb,1,none⟩=some (.pointer (some ⟨p.yb,0,none⟩)):=Fg.o.cell 1
 have aal:Made w5.heap.size w7 (.slice am nn cm) R.1:=eF HOn.o (fun b hb=>F7.block b (HOn.o.lt b hb).2 (fun e=>by
  have h1:=(HOn.o.lt b hb).1;have h2:=HG2.o.size;have h3:=agr.o
  rcases hne b e with q | q <;> omega))
 have NF:Hid (Calls prog 36 #[.pointer (some ⟨p.pb,2,none⟩),.slice am nn cm,.agg a.cells.toArray,.pointer (some ⟨p.yb,0,none⟩)] (w7.drewN 1) fun e w'=>e = .returned (.tuple #[])/\og (w7.drewN 1) w' 0 p.pb 2 p'.sv p'.kl):=by
  have h1:=WK (a:=a) (S7.grown (aY (bh w7 none) 1)) Xh (by rw[hM6];exact HRI.o) A7.o.2 (aal.has.grown (aY (bh w7 none) 1)) agk.o (by rw[Ou];exact HKL.o);rw[Lx,Ot] at h1;exact h1
 have HU8:Hid (∀ w',og (w7.drewN 1) w' 0 p.pb 2 p'.sv p'.kl->og w7 w' 0 p.pb 2 p'.sv p'.kl):=fun w' h=>h.mh
 have hp:=HI.o.1.part HI.o.2
 have Yh:Hid (∀ w',og w7 w' 0 p.pb 2 p'.sv p'.kl->w'.cell? ⟨p.pb,1,none⟩=some (.pointer (some ⟨p.yb,0,none⟩))/\w'.rangeAt w.heap.size 15 a.cells):=by
  intro w' h;obtain ⟨RV,kl',_,_,_,_,_,f,hB⟩:=h;have hb:=hB _ Fg.o;refine ⟨hb.cell 1,fun j v hv=>?_⟩;have h1:=ags.o j v hv
  rw[World.cell?_of_block (w:=w7) (w':=w') (a:=⟨w.heap.size,15+j,none⟩) (f.block w.heap.size (World.block_lt_of_cell? w7 _ h1) (fun e=>by
   rcases e with e | e
   ·have:=hp.blk.lt;omega
   ·rw[R7] at e
    have:=hp.s.lt (.inl e);omega))]
  exact h1
 clear S7 B7 F7 Xh hne hp7 aal hp hM6 Lx Ot R7 Ou X7 r1 r2 CB
 go_wp2_with fail
 refine wp_region_held_drew (S:=(fun w'=>w'.cell? ⟨p.pb,1,none⟩=some (.pointer (some ⟨p.yb,0,none⟩))/\w'.rangeAt w.heap.size 15 a.cells)) afv ⟨q1,ags.o⟩ (fun hHeld=>?_)
 refine mV 0 (.pointer (some ⟨p.pb,0,none⟩)) ?_
 refine mV 1 (.pointer (some ⟨p.pb,0,none⟩)) ?_
 refine mV 2 (.pointer (some ⟨p.pb,2,none⟩)) ?_
 refine mV 3 (.slice am nn cm) ?_
 refine mV 4 (.pointer (some ⟨w.heap.size,15,none⟩)) ?_
 refine mV 5 (.agg a.cells.toArray) ?_ (hy:=yieldsIf_load_mid (by rfl) _ _ rfl w.heap.size 15 rfl a.cells _ (fun w' h=>h.2) underlying45 rfl Tryz.Bn)
 refine mV 6 (.pointer (some ⟨p.pb,0,none⟩)) ?_
 refine mV 7 (.pointer (some ⟨p.pb,0,none⟩)) ?_
 refine mV 8 (.pointer (some ⟨p.pb,1,none⟩)) ?_
 refine mV 9 (.pointer (some ⟨p.yb,0,none⟩)) ?_
 refine ready_one (i:=10) rfl afv (fun K hK=>?_)
 go_simp
 refine NF.o.mono ?_
 rintro e w8 ⟨rfl,R8⟩
 have HR8:=hid (HU8.o w8 R8)
 clear R8
 have HH8:Hid (w8.cell? ⟨p.pb,1,none⟩=some (.pointer (some ⟨p.yb,0,none⟩))/\w8.rangeAt w.heap.size 15 a.cells):=Yh.o w8 HR8.o
 go_wp2_with fail
 refine hK.out _ _ HH8.o (fun hHeld=>?_)
 clear hK K
 refine wpAnyH_done afv ?_ _
 go_wp2
 go_ret
 refine ⟨rfl,?_⟩
 obtain ⟨hM6,Lx,Ot,R7,Ou⟩:=VF.o
 have h8:=HR8.o
 rw[<-Lx] at h8
 obtain ⟨p8,S8,hM8,hl8,B8,K8⟩:=RZ HS7.o Hk7.o h8
 have S8':iK (dA jU qb) base wb {d with ps:=d.ps.set k p8,bv:=v',eb:=d.eb++[x]} w8:=by
  have e:(d.ps.set k p').set k p8=d.ps.set k p8:=List.set_set ..;rw[<-e];exact S8
 refine ⟨⟨p8,x,v',S8',by rw[hM8,hM6];exact HRI.o,by rw[<-Ou];exact hl8⟩,(ZM.o.trans HB7.o).trans B8,?_,fun b hb hx=>?_⟩
 ·have hb8:dX w8 wb (WD.cells _):=S8'.here 0;exact hb8.cell 0
 ·have FV:¬ p.foot b:=fun e=>hx ⟨2*k+11,by omega,WD.zT HI.o.2 e⟩;have s6:=ZM.o.size;have s7:=HF7.o.size
  rw[K8 b afp (fun e=>(HF6.o b e).elim FV (fun q=>by have:=HG2.o.size;have:=agr.o;omega)),HF7.o.block b afp (fun e=>by
   rcases HNe.o b e with q | q
   ·exact hx q.2
   ·have:=HG2.o.size;omega),WY.o b hb FV]
end Go.Proofs.YteknelimjfgmaaaGreatDoor
