/-
  
  
  
  
  
-/
import Derived.Test.YtpibgolaaaemnaaGreatDoorGUKOpen
import Derived.Test.YtpibgolaaaemnaaGreatDoorGUQSt
import Derived.Test.YtpibgolaaaemnaaGreatDoorGUTState
import Derived.Test.YtpibgolaaaemnaaGreatDoorGUSeal
namespace Go.Proofs.YtpibgolaaaemnaaGreatDoor
open Go.RowKit
set_option maxRecDepth 100000
def jP (t:TK) (s:BE) (a:UInt64):List jX:=[rq s.name,iH s.ag,rq (Pure.dK s.key 2 a t.plain)]
def jQ (t:TK) (s:BE) (aB ag:Int) (key use b:UInt64):List jX:=[iH ag,rq (Pure.dK key use b (dR t aB s))]
def oP (kind:Int) (t:TK) (s:BE) (aB ag:Int) (key use a b:UInt64):List jX:=[iH kind,rq t.af,xh (jP t s a),xh (jQ t s aB ag key use b)]
theorem Uv (kind:Int) (t:TK) (s:BE) (aB ag:Int) (key use a b:UInt64):gM kind t s aB ag key use a b=Box.box 48 (fP (oP kind t s aB ag key use a b)):=rfl
theorem Nr (t:TK) (hc:t.af.length≤3):t.plain.length≤67:=by
 have n1:=gu t.ay
 have n2:=gu t.eH
 have n3:=gu t.start
 have n4:=gu t.fin
 have n5:=gu t.aF
 have t1:(Box.box 4 (Pure.be t.aU 8)).length=10:=by rw[ed (by rw[Pure.di];omega),Pure.di]
 have t2:(Box.box 4 t.af).length=t.af.length+2:=ed (by omega)
 have e:(fP (Mf t)).length≤65:=by
  unfold aN at n1 n2 n3 n4 n5
  simp only[Mf,fP,List.map_cons,List.map_nil,List.flatten_cons,List.flatten_nil,List.length_append,List.length_nil]
  omega
 rw[Uu,ed (by omega)]
 omega
theorem Ns (t:TK) (aB:Int) (s:BE) (hc:s.name.length≤3):(dR t aB s).length≤77:=by
 have n0:=gu aB
 have n1:=gu t.ay
 have n2:=gu t.eH
 have n3:=gu t.start
 have n4:=gu t.fin
 have n5:=gu t.aF
 have t1:(Box.box 4 (Pure.be t.aU 8)).length=10:=by rw[ed (by rw[Pure.di];omega),Pure.di]
 have t2:(Box.box 4 s.name).length=s.name.length+2:=ed (by omega)
 have e:(fP (jw t aB s.name)).length≤75:=by
  unfold aN at n0 n1 n2 n3 n4 n5
  simp only[jw,fP,List.map_cons,List.map_nil,List.flatten_cons,List.flatten_nil,List.length_append,List.length_nil]
  omega
 rw[xk,ed (by omega)]
 omega
theorem Uw (t:TK) (s:BE) (a:UInt64) (hc:t.af.length≤3) (hs:s.name.length≤3):(fP (jP t s a)).length≤100:=by
 have n1:=gu s.ag
 have h1:=Nr t hc
 have t1:(Box.box 4 s.name).length=s.name.length+2:=ed (by omega)
 have t2:(Box.box 4 (Pure.dK s.key 2 a t.plain)).length=t.plain.length+18:=by rw[ed (by rw[Pure.bO];omega),Pure.bO]
 unfold aN at n1
 simp only[jP,fP,List.map_cons,List.map_nil,List.flatten_cons,List.flatten_nil,List.length_append,List.length_nil]
 omega
theorem Ux (t:TK) (s:BE) (aB ag:Int) (key use b:UInt64) (hs:s.name.length≤3):(fP (jQ t s aB ag key use b)).length≤105:=by
 have n1:=gu ag
 have h1:=Ns t aB s hs
 have t2:(Box.box 4 (Pure.dK key use b (dR t aB s))).length=(dR t aB s).length+18:=by rw[ed (by rw[Pure.bO];omega),Pure.bO]
 unfold aN at n1
 simp only[jQ,fP,List.map_cons,List.map_nil,List.flatten_cons,List.flatten_nil,List.length_append,List.length_nil]
 omega
theorem ZV (kind:Int) (t:TK) (s:BE) (aB ag:Int) (key use a b:UInt64) (hc:t.af.length≤3) (hs:s.name.length≤3):(gM kind t s aB ag key use a b).length≤230:=by
 have n1:=gu kind
 have t1:(Box.box 4 t.af).length=t.af.length+2:=ed (by omega)
 have h1:=Uw t s a hc hs
 have h2:=Ux t s aB ag key use b hs
 have t2:(Box.box 48 (fP (jP t s a))).length=(fP (jP t s a)).length+2:=ed (by omega)
 have t3:(Box.box 48 (fP (jQ t s aB ag key use b))).length=(fP (jQ t s aB ag key use b)).length+2:=ed (by omega)
 have e:(fP (oP kind t s aB ag key use a b)).length≤224:=by
  unfold aN at n1
  have e0:fP (oP kind t s aB ag key use a b)=Box.box 2 (Box.low kind (Box.size kind))++(Box.box 4 t.af++(Box.box 48 (fP (jP t s a))++(Box.box 48 (fP (jQ t s aB ag key use b))++[]))):=rfl
  rw[e0]
  simp only[List.length_append,List.length_nil]
  omega
 rw[Uv]
 have:=tq 48 (fP (oP kind t s aB ag key use a b))
 omega
theorem Nt (t:TK) (s:BE) (a:UInt64) (hc:t.af.length≤3) (hs:s.name.length≤3) (hn:In64 s.ag) (d:Nat):(∀ p∈jP t s a,p.2.length≤65535)∧∀ p∈jP t s a,pY d p:=by
 have h1:=Nr t hc
 constructor
 ·intro p hp
  simp only[jP,List.mem_cons,List.not_mem_nil,or_false] at hp
  rcases hp with rfl | rfl | rfl
  ·show s.name.length≤_;omega
  ·exact kN _
  ·show (Pure.dK _ _ _ _).length≤_;rw[Pure.bO];omega
 ·intro p hp
  simp only[jP,List.mem_cons,List.not_mem_nil,or_false] at hp
  rcases hp with rfl | rfl | rfl
  ·exact mP d _
  ·exact jy d _ hn
  ·exact mP d _
theorem Nu (t:TK) (s:BE) (aB ag:Int) (key use b:UInt64) (hs:s.name.length≤3) (hn:In64 ag) (d:Nat):(∀ p∈jQ t s aB ag key use b,p.2.length≤65535)∧∀ p∈jQ t s aB ag key use b,pY d p:=by
 have h1:=Ns t aB s hs
 constructor
 ·intro p hp
  simp only[jQ,List.mem_cons,List.not_mem_nil,or_false] at hp
  rcases hp with rfl | rfl
  ·exact kN _
  ·show (Pure.dK _ _ _ _).length≤_;rw[Pure.bO];omega
 ·intro p hp
  simp only[jQ,List.mem_cons,List.not_mem_nil,or_false] at hp
  rcases hp with rfl | rfl
  ·exact jy d _ hn
  ·exact mP d _
theorem ac7 (kind:Int) (t:TK) (s:BE) (aB ag:Int) (key use a b:UInt64) (hc:t.af.length≤3) (hs:s.name.length≤3) (hk:In64 kind) (hn:In64 s.ag) (hn2:In64 ag):(∀ p∈oP kind t s aB ag key use a b,p.2.length≤65535)∧∀ p∈oP kind t s aB ag key use a b,pY 7 p:=by
 have h1:=Uw t s a hc hs
 have h2:=Ux t s aB ag key use b hs
 constructor
 ·intro p hp
  simp only[oP,List.mem_cons,List.not_mem_nil,or_false] at hp
  rcases hp with rfl | rfl | rfl | rfl
  ·exact kN _
  ·show t.af.length≤_;omega
  ·show (fP _).length≤_;omega
  ·show (fP _).length≤_;omega
 ·intro p hp
  simp only[oP,List.mem_cons,List.not_mem_nil,or_false] at hp
  rcases hp with rfl | rfl | rfl | rfl
  ·exact jy 7 _ hk
  ·exact mP 7 _
  ·exact uk 6 _ (Nt t s a hc hs hn 6).2 (Nt t s a hc hs hn 6).1
  ·exact uk 6 _ (Nu t s aB ag key use b hs hn2 6).2 (Nu t s aB ag key use b hs hn2 6).1
end Go.Proofs.YtpibgolaaaemnaaGreatDoor
namespace Go.Proofs.YtpibgolaaaemnaaGreatDoor
open Go.RowKit
set_option maxRecDepth 100000
theorem mQ (v:Int) (h:In64 v):eG (iH v)=some v:=by
 unfold eG
 rw[if_pos (show (iH v).1.toNat=2 from rfl)]
 exact Box.EC v h.1 h.2
theorem BZ (l:List UInt8) (h:dH l=true):jT (rq l)=some l:=if_pos ⟨rfl,h⟩
theorem Mg (ps:List jX) (h:∀ p∈ps,p.2.length≤65535):Dl (xh ps)=some ps:=by
 unfold Dl
 rw[if_pos (show (xh ps).1.toNat=48 from rfl)]
 exact jW ps h
theorem Mh (ps:List jX) (h:∀ p∈ps,p.2.length≤65535) (hl:(fP ps).length≤65535):oF (Box.box 48 (fP ps))=some ps:=by
 unfold oF
 rw[zG (48,fP ps) hl]
 simp only
 rw[if_pos (by decide)]
 exact jW ps h
theorem Nv {l:List UInt8} (h:dH l=true):l.length≤16:=by
 unfold dH at h
 simp only[Bool.and_eq_true,decide_eq_true_eq] at h
 exact h.1.2
theorem vN (v:Int):(Box.low v (Box.size v)).length≤65535:=by
 rw[Box.je]
 have:=(iJ v).2
 omega
theorem FN (af az:List UInt8) (aB eY dF bQ aJ:Int):il af az aB eY dF bQ aJ=Box.box 48 (fP [iH 10,rq af,rq az,iH aB,iH eY,iH dF,iH bQ,iH aJ,xh []]):=rfl
theorem Uy (af az:List UInt8) (aB eY dF bQ aJ:Int) (hc:dH af=true) (hs:dH az=true) (h1:In64 aB) (h2:In64 eY) (h3:In64 dF) (h4:In64 bQ) (h5:In64 aJ):wm (il af az aB eY dF bQ aJ)=some ⟨af,az,aB,eY,dF,bQ,aJ,none⟩:=by
 have l1:=Nv hc
 have l2:=Nv hs
 have hf:=vH af az aB eY dF bQ aJ (by omega) (by omega)
 have EJ:(fP [iH 10,rq af,rq az,iH aB,iH eY,iH dF,iH bQ,iH aJ,xh []]).length≤120:=hf
 unfold wm
 rw[FN,if_pos (by have:=tq 48 (fP [iH 10,rq af,rq az,iH aB,iH eY,iH dF,iH bQ,iH aJ,xh []]);omega),Mh _ (by
  intro p hp
  simp only[List.mem_cons,List.not_mem_nil,or_false] at hp
  rcases hp with rfl | rfl | rfl | rfl | rfl | rfl | rfl | rfl | rfl
  ·exact vN _
  ·show af.length≤_;omega
  ·show az.length≤_;omega
  ·exact vN _
  ·exact vN _
  ·exact vN _
  ·exact vN _
  ·exact vN _
  ·exact (by decide:(fP []).length≤65535)) (by omega)]
 have hp:yB (xh [])=some none:=by
  unfold yB
  rw[Mg [] (by simp)]
 simp only[Option.bind_some,QV,dO,mQ 10 ⟨by decide,by decide⟩,if_pos,BZ af hc,BZ az hs,mQ _ h1,mQ _ h2,mQ _ h3,mQ _ h4,mQ _ h5,hp,Ab]
theorem PZ (M:DM) (now:Int) (af az:List UInt8) (aB eY dF bQ aJ:Int) (hc:dH af=true) (hs:dH az=true) (h1:In64 aB) (h2:In64 eY) (h3:In64 dF) (h4:In64 bQ) (h5:In64 aJ) :
  cB M now (il af az aB eY dF bQ aJ)=dJ M now (firstM M now ⟨af,az,aB,eY,dF,bQ,aJ,none⟩):=by
 unfold cB
 rw[Uy af az aB eY dF bQ aJ hc hs h1 h2 h3 h4 h5]
theorem Jz {M:DM} {now:Int} {q:FQ} {x s:BE} (hx:BE.find M.aH q.af=some x) (hs:BE.find M.aH q.az=some s) (ac8:dw (some x) (some s) now 6 7 1 2=0) (hf:fD M.ax now q x s=0) (hd:24≤M.aV.length) :
  dJ M now (firstM M now q)=(gM 11 {lL now q x s with aU:=dU M.aV 0} s q.aB x.ag x.key 3 (dU M.aV 1) (dU M.aV 2),{M with aV:=M.aV.drop 24}):=by
 have hr:firstM M now q = .ok ⟨11,lL now q x s,s,q.aB,x.ag,x.key,3⟩:=by
  unfold firstM
  simp only[hx,hs,ac8,hf,ne_eq,not_true_eq_false,if_false]
 rw[hr]
 unfold dJ
 simp only
 rw[if_neg (by omega)]
 rfl
abbrev nQ:List UInt8:=[116,103,115]
abbrev zI:List UInt8:=[97,108]
theorem Eh (M:DM) (now:Int) (R:Except Int GR):(dJ M now R).2.aV.length≤M.aV.length∧((∃ c,(dJ M now R).1=aL now c)∨(dJ M now R).2.aV.length+24≤M.aV.length):=by
 unfold dJ
 cases R with
 | error c=>exact ⟨Nat.le_refl _,.inl ⟨c,rfl⟩⟩
 | ok g=>
  dsimp only
  split
  ·exact ⟨Nat.le_refl _,.inl ⟨60,rfl⟩⟩
  ·rename_i h
   have:(M.aV.drop 24).length=M.aV.length-24:=List.length_drop
   exact ⟨by show (M.aV.drop 24).length≤_;omega,.inr (by show (M.aV.drop 24).length+24≤_;omega)⟩
theorem FO (M:DM) (now:Int) (aG:List UInt8):(cB M now aG).2.aV.length≤M.aV.length∧((∃ c,(cB M now aG).1=aL now c)∨(cB M now aG).2.aV.length+24≤M.aV.length):=by
 unfold cB
 split
 ·exact Eh M now _
 ·split
  ·unfold pJ
   split
   ·exact ⟨Nat.le_refl _,.inl ⟨_,rfl⟩⟩
   ·dsimp only
    split
    ·exact ⟨Nat.le_refl _,.inl ⟨_,rfl⟩⟩
    ·exact Eh {M with bK:=_} now _
  ·exact ⟨Nat.le_refl _,.inl ⟨60,rfl⟩⟩
theorem um (tag:UInt8) (l:List UInt8):0<(Box.box tag l).length:=by rw[Box.jf];split <;> (try split) <;> omega
theorem fin_pos (M:DM) (now:Int) (R:Except Int GR):0<(dJ M now R).1.length:=by
 unfold dJ
 cases R with
 | error c=>exact um 48 _
 | ok g=>
  dsimp only
  split
  ·exact um 48 _
  ·exact um 48 _
theorem Ca (M:DM) (now:Int) (aG:List UInt8):0<(cB M now aG).1.length:=by
 unfold cB
 split
 ·exact fin_pos M now _
 ·split
  ·unfold pJ
   split
   ·exact um 48 _
   ·dsimp only
    split
    ·exact um 48 _
    ·exact fin_pos _ now _
  ·exact um 48 _
abbrev FP (nm:List UInt8) (key:UInt64):BE:=⟨nm,1,key,0,200,300,0,30⟩
abbrev Ei:List BE:=[FP [97,108] 1000002,FP [98,111] 1000004,FP [100,98,47,49] 1000005,FP [116,103,115] 1000001,FP [119,101,98] 1000003]
abbrev uw (nm:List UInt8) (key:UInt64):jJ:=⟨1,nm,key,200,300,0,30⟩
abbrev uN:jJ:=⟨0,[],0,0,0,0,0⟩
def mR:List gF:=[(uw [116,103,115] 1000001,0,[]),(uw [97,108] 1000002,0,[]),(uw [119,101,98] 1000003,0,[]),(uw [98,111] 1000004,0,[]),(uw [100,98,47,49] 1000005,0,[])]
def fK (now:Int):List gF:=mR++[(uN,now,il zI nQ 1 now 0 0 7)]
theorem xm (M:DM) (a:jJ) (now:Int) (aG:List UInt8) (h:a.kind=1):(xZ M (a,now,aG)).2={M with aH:=(fU M.aH a).1}:=by
 unfold xZ
 rw[if_neg (by show ¬ a.kind=0;omega)]
theorem Mi (sk:Int) (ds:List UInt8):ek ⟨sk,[],[],ds⟩ mR=⟨sk,Ei,[],ds⟩:=by
 unfold ek mR
 simp only[List.foldl_cons,List.foldl_nil]
 rw[xm _ _ _ _ rfl,xm _ _ _ _ rfl,xm _ _ _ _ rfl,xm _ _ _ _ rfl,xm _ _ _ _ rfl]
 kernel_rfl
theorem uo {a b:Int} (h1:In64 a) (h2:In64 b):In64 (lesser a b):=by
 unfold lesser
 split
 ·exact h1
 ·exact h2
theorem JA (sk now:Int) (ds:List UInt8) (h0:0≤sk) (h1:sk≤300) (hn0:-1099511627776≤now) (hn1:now≤1099511627776) (hd:24≤ds.length) :
  ∃ t:TK,cB ⟨sk,Ei,[],ds⟩ now (il zI nQ 1 now 0 0 7)=(gM 11 t (FP nQ 1000001) 1 1 1000002 3 (dU ds 1) (dU ds 2),⟨sk,Ei,[],ds.drop 24⟩)∧t.af=zI∧t.In:=by
 have ac9:∀ x:Int,-9223372036854775808≤x→x≤9223372036854775807→sat x=x:=fun x a b=>by unfold sat;rw[if_neg (by omega),if_neg (by omega)]
 have hcode:fD sk now ⟨zI,nQ,1,now,0,0,7,none⟩ (FP zI 1000002) (FP nQ 1000001)=0:=by
  unfold fD
  rw[if_neg (fun h=>h rfl),if_neg (show ¬ ((7:Int)<0∨15<(7:Int)) by decide),if_neg (fun h=>absurd h.1 (show ¬ aA 7 8=true by decide)),if_neg]
  ·rw[if_neg]
   show ¬ lesser 9223372036854775807 (lesser (aX now 200) (aX now 200))≤now
   unfold aX
   rw[ac9 _ (by omega) (by omega)]
   unfold lesser
   split <;> (try split) <;> omega
  ·rintro ⟨_,h⟩
   have h':aX now sk<now:=h
   unfold aX at h'
   rw[ac9 _ (by omega) (by omega)] at h'
   omega
 rw[PZ _ _ zI nQ 1 now 0 0 7 (by decide) (by decide) ⟨by decide,by decide⟩ ⟨by omega,by omega⟩ ⟨by decide,by decide⟩ ⟨by decide,by decide⟩ ⟨by decide,by decide⟩]
 rw[Jz (x:=FP zI 1000002) (s:=FP nQ 1000001) rfl rfl rfl hcode hd]
 refine ⟨_,rfl,rfl,?_,⟨by show _≤now;omega,by show now≤_;omega⟩,⟨by show _≤now;omega,by show now≤_;omega⟩,?_,?_⟩
 ·show In64 (32+(if (none:Option (Int×List UInt8)).isSome then 64 else 0)+(if aA 7 8=true then 24 else 0)+kZ 7 7 (FP zI 1000002) (FP nQ 1000001))
  exact ⟨by decide,by decide⟩
 ·exact uo (a:=9223372036854775807) ⟨by decide,by decide⟩ (uo (sU _) (sU _))
 ·show In64 (lg 7 7 (FP zI 1000002) (FP nQ 1000001) now (asked 0))
  unfold lg
  split
  ·exact uo (a:=9223372036854775807) ⟨by decide,by decide⟩ (uo (sU _) (sU _))
  ·exact ⟨by decide,by decide⟩
end Go.Proofs.YtpibgolaaaemnaaGreatDoor
namespace Go.Proofs.YtpibgolaaaemnaaGreatDoor
open Go.RowKit
set_option maxRecDepth 100000
def Nw (O:Nat→Prop) (W:World) (d:Value×Int) (j:gF) (r:List UInt8×Int):Prop:=d.2=r.2∧if j.1.kind=0 then KI O W d.1 r.1 else d.1 = .slice none 0 0
theorem Nw.step {w w':World} {O O':Nat→Prop} {d:Value×Int} {j:gF} {r:List UInt8×Int} (h:Nw O w d j r) (k:Stp w O w' O'):Nw O' w' d j r:=by
 refine ⟨h.1,?_⟩
 have h2:=h.2
 by_cases hk:j.1.kind=0
 ·rw[if_pos hk] at h2 ⊢
  exact h2.step k
 ·rw[if_neg hk] at h2 ⊢
  exact h2
theorem KI.out {O:Nat→Prop} {n:Nat} {w:World} {v:Value} {p:Option Pl} {zs:List UInt8} (h:Out w v p zs) (hf:Pl.fresh n p) (hO:∀ b,O b→b<n):KI O w v zs:=by
 refine ⟨KH.out h,fun b off m c e=>?_⟩
 have hl:=h.Et
 rcases h with ⟨_,hv,_⟩ | ⟨q,hq,hv,_⟩
 ·rw[hv] at e;cases e
 ·rw[hv] at e
  injection e with e1 e2 e3
  injection e1 with e1
  injection e1 with e1
  have h1:=hf q hq
  have h2:=hl q hq
  exact ⟨by omega,fun q=>by have:=hO b q;omega⟩
def xu (O:Nat→Prop) (w:World) (j:jr) (m:gF):Prop:=j.1=m.1∧j.2.1=m.2.1∧KI O w j.2.2 m.2.2∧m.2.2.length≤140737488355328
theorem xu.step {w w':World} {O O':Nat→Prop} {j:jr} {m:gF} (h:xu O w j m) (k:Stp w O w' O'):xu O' w' j m:=⟨h.1,h.2.1,h.2.2.1.step k,h.2.2.2⟩
theorem xu.aG {w:World} {O:Nat→Prop} {j:jr} {m:gF} {g:Nat} (h:xu O w j m) (hg:O g):Yc w g j.2.2 m.2.2:=by
 obtain ⟨⟨ao,cap,h1,h2,h3,h4,h5⟩,hx⟩:=h.2.2.1
 refine ⟨ao,cap,h1,h5,⟨ao,cap,h1,h2,h3,h.2.2.2,fun _ h=>h⟩,fun b off e e2=>?_⟩
 subst e2
 exact (hx b off _ _ (by rw[h1,e])).2 hg
theorem ZW (w0:World) (L:TL) (M:DM) (N nm C n jb cap:Nat) (O:Nat→Prop) (js:List jr) (ms:List gF) (w:World) (hI:TI w0 L M M nm C O w) (hM:dE M N) (hN1:1≤N) (hN:N+16≤4611686018427387904)
  (hn:js.length=n) (hmax:n≤16) (hl:ms.length=n) (hms:∀ j∈ms,j.Ok) (hjm:∀ i (h:i<js.length) (h':i<ms.length),xu O w js[i] ms[i]) (hj:w.rangeAt jb 0 (dM js)) (hjl:jb<w.heap.size) (hjo:¬ O jb) :
  Calls Tryz.prog 18 #[.pointer (some ⟨L.gq,0,none⟩),.slice (some ⟨jb,0,none⟩) n cap] w fun e w'=>∃ ob ds,e = .returned (.tuple #[.slice (some ⟨ob,0,none⟩) n n,.int .i64 0])∧ds.length=n∧w.heap.size≤ob∧ob<w'.heap.size∧w'.rangeAt ob 0 (fJ ds)∧TI w0 L M (ek M ms) nm C O w'∧Stp w O w' O∧∀ i (h:i<ds.length) (h':i<ms.length),Nw O w' ds[i] ms[i] (xZ (ek M (ms.take i)) ms[i]).1:=by
 have hlt:=hI.lt
 obtain ⟨cs,ls,rs,now,ca,la,ma,cc,lc,mc,rfl,hT,hI2⟩:=hI
 obtain ⟨q1,q2,dp,q3,q4⟩:=hT.quick
 have ho:=hT.ord
 have hgO:eU L.lo L.hi L.pb ca la ma L.gq:=.inl (by omega)
 have hil:=hT.hil
 refine (Me L.gq jb n cap N js ms dp M w q3 (fun q hq=>(q4 q hq).1) (fun q hq=>by have:=q4 q hq;omega) hM hN1 hN (hid hn) hmax hl hms (fun i h h'=>⟨(hjm i h h').1,(hjm i h h').2.1,(hjm i h h').aG hgO⟩) hj hjl (fun e=>hjo (by rw[e];exact hgO))).mono ?_
 rintro e w' ⟨ob,ds,rfl,h1,h2,h3,hq,h4,h5⟩
 obtain ⟨rH,d1,d2⟩:=hq.dX
 have htk:ms.take ds.length=ms:=List.take_of_length_le (by omega)
 rw[htk] at d1
 have k:FR L.mid L.hi w w':=h5.mono (fun b _ _ e=>by omega)
 have hS:KS true L.mid L.hi w' L.gq (ek M ms):=⟨q1,q2,rH,d1,fun p hp=>by
  obtain ⟨q0,e0,e1⟩:=d2 p hp
  have:=q4 q0 e0
  omega⟩
 refine ⟨ob,ds,rfl,h3,h1,h2,h4,⟨cs,ls,rs,now,ca,la,ma,cc,lc,mc,rfl,hT.WX k hS,hI2⟩,k.stp (hT.Np L.mid L.hi (by omega) (Nat.le_refl _)),fun i hi hi'=>?_⟩
 have hs:=hq.said i hi hi'
 refine ⟨hs.1,?_⟩
 have hs2:=hs.2
 by_cases hk:(ms[i]).1.kind=0
 ·rw[if_pos hk] at hs2 ⊢
  obtain ⟨p,o1,o2⟩:=hs2
  exact KI.out o1 o2 (fun b hb=>Nat.lt_succ_of_lt (hlt b hb))
 ·rw[if_neg hk] at hs2 ⊢
  exact hs2
theorem Mj (w0:World) (L:TL) (Mp Mq:DM) (N nm C:Nat) (O:Nat→Prop) (now:Int) (aG:List UInt8) (v:Value) (w:World) (hI:TI w0 L Mp Mq nm C O w) (hM:dE Mp N) (hN:N≤4611686018427387904) (hv:KI O w v aG) (hl:aG.length≤140737488355328) (dC:In64 now) :
  Calls Tryz.prog 20 #[.pointer (some ⟨L.gp,0,none⟩),.int .i64 now,v] w fun e w'=>∃ a c,e = .returned (.slice a (cB Mp now aG).1.length c)∧KI O w' (.slice a (cB Mp now aG).1.length c) (cB Mp now aG).1∧TI w0 L (cB Mp now aG).2 Mq nm C O w'∧Stp w O w' O:=by
 have hlt:=hI.lt
 obtain ⟨cs,ls,rs,tn,ca,la,ma,cc,lc,mc,rfl,hT,hI2⟩:=hI
 have ho:=hT.ord
 obtain ⟨rep,M',hA⟩:∃ rep M',cB Mp now aG=(rep,M'):=⟨_,_,rfl⟩
 have hx:KX L.lo L.mid w v aG:=⟨hv.1,fun b off n c e=>by
  have h1:=(hv.2 b off n c e).2
  by_cases hb:b<L.lo
  ·exact .inl hb
  ·exact .inr (Classical.byContradiction fun q=>h1 (.inl (by omega)))⟩
 refine (Ur L.lo L.mid L.gp Mp M' now aG rep v w hA hT.plain ⟨hM.bin hN,hM.aH.sorted,hM.ax,hM.times⟩ hx hl dC).mono ?_
 rintro e w' ⟨a,c,rfl,⟨k1,k2⟩,hS,k⟩
 rw[hA]
 have s:=k.stp (hT.Np L.lo L.mid (Nat.le_refl _) (by omega))
 refine ⟨a,c,rfl,⟨k1,fun b off n c' e=>?_⟩,⟨cs,ls,rs,tn,ca,la,ma,cc,lc,mc,rfl,hT.Nq k hS,hI2⟩,s⟩
 have h1:=k2 b off n c' e
 refine ⟨?_,fun q=>by have:=hlt b q;omega⟩
 obtain ⟨ao,cap,e1,_,_,_,hat⟩:=k1
 rw[e] at e1
 injection e1 with e1 e2 e3
 subst e1
 have hp:0<rep.length:=by have:=Ca Mp now aG;rw[hA] at this;exact this
 obtain ⟨b',off',e4,e5⟩:=hat 0 hp
 cases e4
 exact World.block_lt_of_cell? w' _ e5
theorem Ml (w0:World) (L:TL) (Mp Mq:DM) (N nm C:Nat) (O:Nat→Prop) (a:jJ) (w:World) (hI:TI w0 L Mp Mq nm C O w) (hM:dE Mp N) (hN:N≤4611686018427387904) (hf:In64 a.ay) (hl:a.name.length≤140737488355328) :
  Calls Tryz.prog 19 #[.pointer (some ⟨L.gp,0,none⟩),.agg a.cells] w fun e w'=>e = .returned (.int .i64 (fU Mp.aH a).2)∧TI w0 L {Mp with aH:=(fU Mp.aH a).1} Mq nm C O w'∧Stp w O w' O:=by
 obtain ⟨cs,ls,rs,tn,ca,la,ma,cc,lc,mc,rfl,hT,hI2⟩:=hI
 have ho:=hT.ord
 obtain ⟨es,r,hA⟩:∃ es r,fU Mp.aH a=(es,r):=⟨_,_,rfl⟩
 refine (Us L.lo L.mid L.gp N Mp es r a w hA hT.plain hM.aH hN hf.1 hf.2 (by omega)).mono ?_
 rintro e w' ⟨rfl,hS,k⟩
 rw[hA]
 exact ⟨rfl,⟨cs,ls,rs,tn,ca,la,ma,cc,lc,mc,rfl,hT.Nq k hS,hI2⟩,k.stp (hT.Np L.lo L.mid (Nat.le_refl _) (by omega))⟩
theorem ada (w0:World) (L:TL) (Mp Mq:DM) (nm C:Nat) (O:Nat→Prop) (w:World) (hI:TI w0 L Mp Mq nm C O w) :
  Calls Tryz.prog 23 #[.agg #[.pointer none,.pointer (some ⟨L.gq,0,none⟩)]] w fun e w'=>e = .returned (.bool true)∧w.grownBy w' none:=by
 obtain ⟨cs,ls,rs,tn,ca,la,ma,cc,lc,mc,rfl,hT,hI2⟩:=hI
 obtain ⟨q1,q2,dp,q3,q4⟩:=hT.quick
 exact PN true L.gq dp Mq w q3
end Go.Proofs.YtpibgolaaaemnaaGreatDoor
namespace Go.Proofs.YtpibgolaaaemnaaGreatDoor
open Go.RowKit
set_option maxRecDepth 100000
def rA (w:World) (e:Ending) (w':World):Prop:=
 ∃ (fl au st fi re no:Int) (jY:UInt64) (nm:List UInt8) (b:Bool),e = .returned (.tuple #[.agg (vM fl au st fi re jY nm no).toArray,.bool b])∧w.grownBy w' none
theorem oW {w w':World} (h:w.grownBy w' none):rA w (.returned (.tuple #[.agg #[.int .i64 0,.int .i64 0,.int .i64 0,.int .i64 0,.int .i64 0,.int .u64 0,.string ⟨#[]⟩,.int .i64 0],.bool false])) w':=⟨0,0,0,0,0,0,0,[],false,rfl,h⟩
set_option maxHeartbeats 4000000 in
theorem xz (key:UInt64) (x:Int) (zs:List UInt8) (v:Value) (w:World) (hv:KH w v zs) (htab:eO w)
  (hU:∀ ao cap W,zs.length≤cap→At W ao zs→Calls Tryz.prog 47 #[.int .u64 (key.toNat:Int),.int .i64 x,.slice ao zs.length cap] W fun e w'=>e = .returned (.tuple #[.slice none 0 0,.int .i64 3])∧W.grownBy w' none) :
  Calls Tryz.prog 35 #[.int .u64 (key.toNat:Int),.int .i64 x,v] w (rA w):=by
 obtain ⟨ao,cap,hvs,q2,q3,q4,q5⟩:=hv
 obtain ⟨L,hL⟩:∃ L,zs.length=L:=⟨_,rfl⟩
 have hq2:=q2
 rw[hL] at hvs q2
 subst hvs
 have G0:=World.grownBy_alloc w (.cells #[.int .i64 0,.int .i64 0,.int .i64 0,.int .i64 0,.int .i64 0,.int .u64 0,.string ⟨#[]⟩,.int .i64 0] 79) none
 have HU0:=hU ao cap _ hq2 (q5.below G0)
 rw[hL] at HU0
 have HU:=hid HU0
 have D8:=hid (Live.new w #[.int .i64 0,.int .i64 0,.int .i64 0,.int .i64 0,.int .i64 0,.int .u64 0,.string ⟨#[]⟩,.int .i64 0] 79)
 have mD:=hid G0
 have HTb:=hid htab
 clear hL q2 hq2 q3 q4 q5 G0 htab hU HU0
 go_enter Tryz.func35,Tryz.ntmps35
 go_wp2_with fail
 refine HU.out.mono ?_
 rintro e w1 ⟨rfl,g1⟩
 have nH:=hid (ae mD.out g1)
 have HS:=hid (yj [] 0 none 0 w1 (hid rfl) (Nat.le_refl _) (by decide) (At.nil w1 none) (hid rfl) (jq HTb.out nH.out))
 have yx:=hid (D8.out.grown g1)
 clear HU g1
 go_wp2_with fail
 refine HS.out.mono ?_
 rintro e w2 ⟨rfl,g2⟩
 have GA:=World.grownBy_alloc w2 (.cells #[.int .u8 0,.int .i64 0,.slice none 0 0,.slice none 0 0] 122) none
 have HI:=hid (Mr 0 0 none 0 0 none 0 0 ⟨#[116,110,110,110,110,110,110,116]⟩ (w2.alloc (.cells #[.int .u8 0,.int .i64 0,.slice none 0 0,.slice none 0 0] 122)) (by show 8≤100;omega) (fun h=>absurd h (by decide)))
 have HG2:=hid (ae (ae nH.out g2) GA)
 have HL2:=hid ((yx.out.grown g2).grown GA)
 clear HS g2 GA
 go_wp2_with fail
 refine HI.out.mono ?_
 rintro e w3 ⟨b,rfl,g3,_⟩
 have XZ:=hid (HL2.out.grown g3)
 have rU:=hid (ae HG2.out g3)
 obtain ⟨⟨d0,q0⟩,⟨d1,q1⟩,⟨d2,q2⟩,⟨d3,q3⟩,⟨d4,q4⟩,⟨d5,q5⟩,⟨d6,q6⟩,⟨d7,q7⟩,f0,f1,f2,f3,f4,f5,f6,f7⟩:=dY XZ.out
 clear HI HL2 HG2 g3
 go_wp2
 refine bodyPost_ret (aD Tryz.results35 _ _ _ w.heap.size rfl _ (dN (fw w3 w.heap.size _ _ _ _ _ _ _ _ q0 q1 q2 q3 q4 q5 q6 q7) 79 _ Tryz.underlying79 rfl Tryz.nM)) rfl (oW ?_)
 repeat refine aK ?_ (Nat.le_refl _)
 exact rU.out
set_option maxHeartbeats 4000000 in
theorem Df (key use:UInt64) (x:Int) (zs:List UInt8) (v:Value) (w:World) (hx:zt x=true) (hu:Hid (x=use.toNat)) (h16:16≤zs.length) (Ap:zs.length≤216) (hv:KH w v zs) (htab:eO w) (ho:Pure.opens key use zs=true) :
  Calls Tryz.prog 35 #[.int .u64 (key.toNat:Int),.int .i64 x,v] w (rA w):=by
 obtain ⟨ao,cap,hvs,q2,q3,q4,q5⟩:=hv
 obtain ⟨L,hL⟩:∃ L,zs.length=L:=⟨_,rfl⟩
 rw[hL] at hvs q2 h16 Ap
 subst hvs
 have G0:=World.grownBy_alloc w (.cells #[.int .i64 0,.int .i64 0,.int .i64 0,.int .i64 0,.int .i64 0,.int .u64 0,.string ⟨#[]⟩,.int .i64 0] 79) none
 have HU:=hid (yC key use x ao zs L cap _ hx hu (hid hL) h16 Ap q2 (q5.below G0) (hid ho))
 obtain ⟨pl,hpl⟩:∃ pl,Pure.gy key use zs=pl:=⟨_,rfl⟩
 rw[hpl] at HU
 have D8:=hid (Live.new w #[.int .i64 0,.int .i64 0,.int .i64 0,.int .i64 0,.int .i64 0,.int .u64 0,.string ⟨#[]⟩,.int .i64 0] 79)
 have mD:=hid G0
 have HTb:=hid htab
 clear hL q2 q3 q4 q5 G0 htab hx hu ho hpl
 go_enter Tryz.func35,Tryz.ntmps35
 go_wp2_with fail
 refine HU.out.mono ?_
 rintro e w1 ⟨v1,p1,rfl,o1,_,g1⟩
 have nH:=hid (ae mD.out g1)
 obtain ⟨a1,c1,hv1,z2,z3,_,z5⟩:=KH.out o1
 obtain ⟨m1,hm1⟩:∃ m,pl.length=m:=⟨_,rfl⟩
 have HS:=hid (Ms pl m1 a1 c1 w1 hm1 (by rw[←hm1];exact z2) z3 z5 (jq HTb.out nH.out))
 rw[hm1] at hv1
 subst hv1
 have yx:=hid (D8.out.grown g1)
 clear HU g1 o1 z2 z3 z5 hm1
 go_wp2_with fail
 refine HS.out.mono ?_
 rintro e w2 ⟨kk,vv,a2,n2,c2,a3,n3,c3,rfl,hP,g2⟩
 have GA:=World.grownBy_alloc w2 (.cells #[.int .u8 kk,.int .i64 vv,.slice a2 n2 c2,.slice a3 n3 c3] 122) none
 have hP2:=hP.keep (fun b hb=>GA.block b hb.2 (by simp))
 have HI:=hid (Xn kk vv a2 n2 c2 a3 n3 c3 ⟨#[116,110,110,110,110,110,110,116]⟩ (w2.alloc (.cells #[.int .u8 kk,.int .i64 vv,.slice a2 n2 c2,.slice a3 n3 c3] 122)) _ (by show 8≤100;omega) hP2)
 have HG2:=hid (ae (ae nH.out g2) GA)
 have HL2:=hid ((yx.out.grown g2).grown GA)
 have ZU:=hid yx.out.lt
 have F5:=hid (bI.new w2 #[.int .u8 kk,.int .i64 vv,.slice a2 n2 c2,.slice a3 n3 c3] 122)
 have Vf:=hid hP2
 clear HS g2 GA hP hP2 yx nH
 go_wp2_with fail
 refine HI.out.mono ?_
 rintro e w3 ⟨b,rfl,g3,hb⟩
 have XZ:=hid (HL2.out.grown g3)
 have rU:=hid (ae HG2.out g3)
 have HB:=hid hb
 have HG:=hid g3
 obtain ⟨⟨d0,q0⟩,⟨d1,q1⟩,⟨d2,q2⟩,⟨d3,q3⟩,⟨d4,q4⟩,⟨d5,q5⟩,⟨d6,q6⟩,⟨d7,q7⟩,f0,f1,f2,f3,f4,f5,f6,f7⟩:=dY XZ.out
 clear HI HL2 HG2 hb g3
 cases b with
 | false=>
  clear HB HG Vf F5
  go_wp2
  refine bodyPost_ret (aD Tryz.results35 _ _ _ w.heap.size rfl _ (dN (fw w3 w.heap.size _ _ _ _ _ _ _ _ q0 q1 q2 q3 q4 q5 q6 q7) 79 _ Tryz.underlying79 rfl Tryz.nM)) rfl (oW ?_)
  repeat refine aK ?_ (Nat.le_refl _)
  exact rU.out
 | true=>
  obtain ⟨rfl,h8,hrow⟩:=HB.out rfl
  have h8':n3=8:=h8
  subst h8'
  have g3:=HG.out
  obtain ⟨g,rfl,k0⟩:=hrow 0 (by show 0<8;omega)
  have kk:∀ k (h:k<8) (z:UInt8),(#[116,110,110,110,110,110,110,116]:Array UInt8)[k]?=some z→World.cell? _ ⟨g,k*4,none⟩=some (.int .u8 (z.toNat:Int)):=fun k h z hz=>by
   obtain ⟨g',e',hk⟩:=hrow k h
   cases e'
   rw[hk]
   have:(#[116,110,110,110,110,110,110,116]:Array UInt8)[k]'h=z:=by rw[Array.getElem?_eq_getElem h] at hz;exact Option.some.inj hz
   rw[←this];rfl
  have hR:=Vf.out.row
  obtain ⟨_,_,_,_,he,hok,_,_⟩:=hR 0 (by omega)
  cases he
  obtain ⟨l0,ab,cb,B2,B3,B4,_⟩:=hR.txt (k:=0) (by omega) (kk 0 (by omega) 116 rfl)
  obtain ⟨_,v1,_,N1⟩:=hR.num (k:=1) (by omega) (kk 1 (by omega) 110 rfl)
  obtain ⟨_,v2,_,N2⟩:=hR.num (k:=2) (by omega) (kk 2 (by omega) 110 rfl)
  obtain ⟨_,v3,_,N3⟩:=hR.num (k:=3) (by omega) (kk 3 (by omega) 110 rfl)
  obtain ⟨_,v4,_,N4⟩:=hR.num (k:=4) (by omega) (kk 4 (by omega) 110 rfl)
  obtain ⟨_,v5,_,N5⟩:=hR.num (k:=5) (by omega) (kk 5 (by omega) 110 rfl)
  obtain ⟨_,v6,_,N6⟩:=hR.num (k:=6) (by omega) (kk 6 (by omega) 110 rfl)
  obtain ⟨nm,ac,cc,C2,C3,C4,_⟩:=hR.txt (k:=7) (by omega) (kk 7 (by omega) 116 rfl)
  have x1:w3.cell? ⟨g,9,none⟩=some (.int .i64 v2):=g3.cell N2 (by simp)
  have x5:w3.cell? ⟨g,5,none⟩=some (.int .i64 v1):=g3.cell N1 (by simp)
  have x6:w3.cell? ⟨g,2,none⟩=some (.slice ab l0.length cb):=g3.cell B2 (by simp)
  have x10:w3.cell? ⟨g,30,none⟩=some (.slice ac nm.length cc):=g3.cell C2 (by simp)
  have x13:w3.cell? ⟨g,13,none⟩=some (.int .i64 v3):=g3.cell N3 (by simp)
  have x17:w3.cell? ⟨g,17,none⟩=some (.int .i64 v4):=g3.cell N4 (by simp)
  have x21:w3.cell? ⟨g,21,none⟩=some (.int .i64 v5):=g3.cell N5 (by simp)
  have x25:w3.cell? ⟨g,25,none⟩=some (.int .i64 v6):=g3.cell N6 (by simp)
  have xp:w3.cell? ⟨w2.heap.size,3,none⟩=some (.slice (some ⟨g,0,none⟩) 8 c3):=g3.cell (F5.out.cell 3) (by simp)
  have PY:At w3 ab l0:=B3.below g3
  have Jy:At w3 ac nm:=C3.below g3
  have Vi:=hid (And.intro C4 hok)
  clear HB Vf F5 HG g3 hrow kk hR hok B2 B3 B4 N1 N2 N3 N4 N5 N6 C2 C3 C4 k0 h8
  by_cases hl8:l0.length=8
  ·have HK:=hid (Jv l0 8 ab cb (w3.drewN 1) (hid hl8) (by decide) (PY.below (aO (World.grownBy.refl _ _) 1)))
   rw[hl8] at x6
   obtain ⟨jY,adv⟩:∃ s,Pure.joinL 0 l0=s:=⟨_,rfl⟩
   rw[adv] at HK
   have rs:=fun W (h:At W ac nm)=>iq (P:=Tryz.prog) W 25 9 5 Tryz.underlying25 Tryz.underlying5 Tryz.underlying9 ac cc nm h
   have FM:Hid (∀ W,CF w3 W (fun b _=>b=w.heap.size)→(fun w'=>w'.cell? ⟨g,9,none⟩=some (.int .i64 v2)∧w'.cell? ⟨g,5,none⟩=some (.int .i64 v1)∧w'.cell? ⟨g,2,none⟩=some (.slice ab 8 cb)∧w'.cell? ⟨g,30,none⟩=some (.slice ac nm.length cc)∧w'.cell? ⟨g,13,none⟩=some (.int .i64 v3)∧w'.cell? ⟨g,17,none⟩=some (.int .i64 v4)∧w'.cell? ⟨g,21,none⟩=some (.int .i64 v5)∧w'.cell? ⟨g,25,none⟩=some (.int .i64 v6)∧(convert 25 9 (.slice ac nm.length cc)).run Tryz.prog w' = .ok (.string ⟨nm.toArray⟩) w') W):=fun W k=>by
    have hg:g≠w.heap.size:=fun e=>by have:=Vi.out.2.1;have:=ZU.out;omega
    refine ⟨k.cell x1 hg,k.cell x5 hg,k.cell x6 hg,k.cell x10 hg,k.cell x13 hg,k.cell x17 hg,k.cell x21 hg,k.cell x25 hg,rs W (Jy.cf k (fun b off e j _ n=>?_))⟩
    have h1:=(Vi.out.1 b off e).1
    have h2:=ZU.out
    omega
   have r2:=rs (w3.drewN 1) (Jy.below (aO (World.grownBy.refl _ _) 1))
   clear PY Jy rs hl8 adv
   go_wp2_with fail
   go_region_held3 (fun w'=>w'.cell? ⟨g,9,none⟩=some (.int .i64 v2)∧w'.cell? ⟨g,5,none⟩=some (.int .i64 v1)∧w'.cell? ⟨g,2,none⟩=some (.slice ab 8 cb)∧w'.cell? ⟨g,30,none⟩=some (.slice ac nm.length cc)∧w'.cell? ⟨g,13,none⟩=some (.int .i64 v3)∧w'.cell? ⟨g,17,none⟩=some (.int .i64 v4)∧w'.cell? ⟨g,21,none⟩=some (.int .i64 v5)∧w'.cell? ⟨g,25,none⟩=some (.int .i64 v6)∧(convert 25 9 (.slice ac nm.length cc)).run Tryz.prog w' = .ok (.string ⟨nm.toArray⟩) w') (exact FM.out _ (by (repeat refine CF.setCell ?_ _ _ _ (fun _=>rfl));exact CF.aW (aO (World.grownBy.refl _ _) 1) _)) (first|(go_at_call 48;refine HK.out.mono ?_;rintro e w4 ⟨rfl,rfl⟩))
   go_wp2
   refine bodyPost_ret (aD Tryz.results35 _ _ _ w.heap.size rfl _ (dN (fw (w3.drewN 1) w.heap.size _ _ _ _ _ _ _ _ q0 q1 q2 q3 q4 q5 q6 q7) 79 _ Tryz.underlying79 rfl Tryz.nM)) rfl ⟨v2,v3,v4,v5,v6,v1,jY,nm,true,rfl,?_⟩
   repeat refine aK ?_ (Nat.le_refl _)
   exact aO rU.out 1
  ·obtain ⟨m0,hm0⟩:∃ m,l0.length=m:=⟨_,rfl⟩
   rw[hm0] at x6 hl8
   have an6:¬ (m0:Int)=8:=by omega
   clear PY Jy hm0 hl8
   go_wp2
   refine bodyPost_ret (aD Tryz.results35 _ _ _ w.heap.size rfl _ (dN (fw w3 w.heap.size _ _ _ _ _ _ _ _ q0 q1 q2 q3 q4 q5 q6 q7) 79 _ Tryz.underlying79 rfl Tryz.nM)) rfl (oW ?_)
   repeat refine aK ?_ (Nat.le_refl _)
   exact rU.out
theorem JM (key use:UInt64) (x:Int) (zs:List UInt8) (v:Value) (w:World) (hx:zt x=true) (hu:Hid (x=use.toNat)) (hv:KH w v zs) (htab:eO w) :
  Calls Tryz.prog 35 #[.int .u64 (key.toNat:Int),.int .i64 x,v] w (rA w):=by
 by_cases hl:16≤zs.length∧zs.length≤216
 ·cases ho:Pure.opens key use zs with
  | true=>exact Df key use x zs v w hx hu hl.1 hl.2 hv htab ho
  | false=>exact xz key x zs v w hv htab (fun ao cap W hc hat=>Ku key use x ao zs _ cap W hx hu (hid rfl) hl.1 hl.2 hc hat (hid ho))
 ·exact xz key x zs v w hv htab (fun ao cap W hc hat=>(EO key.toNat x ao zs.length cap W hx (by omega)).mono fun e w' ⟨h1,h2⟩=>⟨h1,by rw[h2];exact World.grownBy.refl _ _⟩)
end Go.Proofs.YtpibgolaaaemnaaGreatDoor
namespace Go.Proofs.YtpibgolaaaemnaaGreatDoor
open Go.RowKit
set_option maxRecDepth 100000
theorem Xo {i:List UInt8} {v:Int} (h:Box.num i=some v):In64 v:=by
 unfold Box.num at h
 split at h
 ·rename_i q
  injection h with h
  rw[←h]
  exact Box.nk q.1 q.2.1
 ·cases h
theorem aac:∀ {ps:List (UInt8×List UInt8)} {p:UInt8×List UInt8},p∈ps→p.2.length+2≤Box.wt ps:=by
 intro ps
 induction ps with
 | nil=>intro p hp;simp at hp
 | cons a ps ih=>
  intro p hp
  have e:Box.wt (a::ps)=(a.2.length+2)+Box.wt ps:=by simp[Box.wt]
  rcases List.mem_cons.1 hp with h | h
  ·subst h;omega
  ·have:=ih h;omega
theorem Qe {l:List UInt8} {ps:List (UInt8×List UInt8)} (h:Box.eX l=some ps) (p:UInt8×List UInt8) (hp:p∈ps):p.2.length≤l.length:=by
 have h1:=Box.QO l.length l ps (Nat.le_refl _) h
 have h2:=aac hp
 omega
def xA (d:Nat) (w:World) (ok:Nat→Prop) (a3:Option Addr) (n3:Nat):Prop:=
 ∀ k,k<n3→∃ g tag i cs,a3=some ⟨g,0,none⟩∧ok g∧i.length≤300∧fF d w ok tag i cs∧∀ j,j<4→w.cell? ⟨g,k*4+j,none⟩=cs[j]?
theorem xA.keep {d:Nat} {w w':World} {ok:Nat→Prop} {a3:Option Addr} {n3:Nat} (h:xA d w ok a3 n3) (k:∀ b,ok b→w'.heap[b]?=w.heap[b]?):xA d w' ok a3 n3:=by
 intro j hj
 obtain ⟨g,tag,i,cs,h1,h2,h5,h3,h4⟩:=h j hj
 exact ⟨g,tag,i,cs,h1,h2,h5,h3.keep k (fun _ h=>h),fun m hm=>by rw[cell_kept (k g h2)];exact h4 m hm⟩
theorem fF.Vh {d:Nat} {w:World} {ok:Nat→Prop} {tag:UInt8} {i:List UInt8} {cs:List Value} (h:fF (d+1) w ok tag i cs) (h0:cs[0]?=some (.int .u8 108)) (hi:i.length≤300):∃ a n c,cs=[.int .u8 108,.int .i64 0,.slice none 0 0,.slice a n c]∧xA d w ok a n∧∀ ps,Box.eX i=some ps→n=ps.length:=by
 rcases h with (⟨_,v,_,rfl⟩ | ⟨_,a,c,rfl,_⟩) | ⟨_,ps,a,c,css,hc,rfl,hl,hr⟩
 ·simp at h0
 ·simp at h0
 ·refine ⟨a,ps.length,c,rfl,fun k hk=>?_,fun ps' e=>?_⟩
  ·obtain ⟨_,h2,g,h3,h4,h5⟩:=hr k hk (by omega)
   exact ⟨g,_,_,_,h3,h4,Nat.le_trans (Qe hc _ (List.getElem_mem hk)) hi,h2,h5⟩
  ·rw[hc] at e
   injection e with e
   rw[e]
theorem xA.num {d:Nat} {w:World} {ok:Nat→Prop} {g n3 k:Nat} (h:xA d w ok (some ⟨g,0,none⟩) n3) (hk:k<n3) (h0:w.cell? ⟨g,k*4,none⟩=some (.int .u8 110)):∃ v,In64 v∧w.cell? ⟨g,k*4+1,none⟩=some (.int .i64 v):=by
 obtain ⟨g',tag,i,cs,h1,h2,_,h3,h4⟩:=h k hk
 cases h1
 have:=h4 0 (by decide)
 rw[Nat.add_zero,h0] at this
 obtain ⟨v,hv,hc⟩:=h3.num this.symm
 exact ⟨v,Xo hv,by rw[h4 1 (by decide)];exact hc⟩
theorem xA.txt {d:Nat} {w:World} {ok:Nat→Prop} {g n3 k:Nat} (h:xA d w ok (some ⟨g,0,none⟩) n3) (hk:k<n3) (h0:w.cell? ⟨g,k*4,none⟩=some (.int .u8 116)):∃ i a c,w.cell? ⟨g,k*4+2,none⟩=some (.slice a i.length c)∧i.length≤300∧At w a i∧(∀ b off,a=some ⟨b,off,none⟩→ok b)∧yR a i.length c:=by
 obtain ⟨g',tag,i,cs,h1,h2,h5,h3,h4⟩:=h k hk
 cases h1
 have:=h4 0 (by decide)
 rw[Nat.add_zero,h0] at this
 obtain ⟨a,c,hc,q⟩:=h3.txt this.symm
 exact ⟨i,a,c,by rw[h4 2 (by decide)];exact hc,h5,q⟩
theorem xA.Vh {d:Nat} {w:World} {ok:Nat→Prop} {g n3 k:Nat} (h:xA (d+1) w ok (some ⟨g,0,none⟩) n3) (hk:k<n3) (h0:w.cell? ⟨g,k*4,none⟩=some (.int .u8 108)):∃ a n c,w.cell? ⟨g,k*4+1,none⟩=some (.int .i64 0)∧w.cell? ⟨g,k*4+2,none⟩=some (.slice none 0 0)∧w.cell? ⟨g,k*4+3,none⟩=some (.slice a n c)∧xA d w ok a n:=by
 obtain ⟨g',tag,i,cs,h1,h2,h5,h3,h4⟩:=h k hk
 cases h1
 have:=h4 0 (by decide)
 rw[Nat.add_zero,h0] at this
 obtain ⟨a,n,c,rfl,hr,_⟩:=h3.Vh this.symm h5
 exact ⟨a,n,c,h4 1 (by decide),h4 2 (by decide),h4 3 (by decide),hr⟩
theorem JN {ps:List jX} {zs:List UInt8} (hz:zs=Box.box 48 (fP ps)) (hl:∀ p∈ps,p.2.length≤65535) (ht:∀ p∈ps,pY 7 p) (FH:zs.length≤300):∃ t,shown zs=some t:=by
 obtain ⟨t,ht'⟩:=uk 7 ps ht hl
 have hc:(fP ps).length≤300:=Nat.le_trans (by rw[hz,Box.jf];omega) FH
 refine ⟨t,?_⟩
 rw[BN (by rw[hz];exact zG (xh ps) (by show (fP ps).length≤_;omega)) FH]
 exact ht'
def Qf (zs:List UInt8) (w:World) (e:Ending) (w':World):Prop:=
 ∃ (kk vv:Int) (a2:Option Addr) (n2 c2:Nat) (a3:Option Addr) (n3 c3:Nat),e = .returned (.agg #[.int .u8 kk,.int .i64 vv,.slice a2 n2 c2,.slice a3 n3 c3])∧w.grownBy w' none∧
  (kk=108→xA 7 w' (fun b=>w.heap.size≤b∧b<w'.heap.size) a3 n3)∧
  (∀ ps,zs=Box.box 48 (fP ps)→(∀ p∈ps,p.2.length≤65535)→zs.length≤300→kk=108→n3=ps.length)∧
  (∀ ps,ps≠[]→zs=Box.box 48 (fP ps)→(∀ p∈ps,p.2.length≤65535)→(∀ p∈ps,pY 7 p)→zs.length≤300→kk=108∧n3=ps.length∧∃ g,a3=some ⟨g,0,none⟩∧PartsAt 7 w' (fun b=>w.heap.size≤b∧b<w'.heap.size) g ps)
theorem Xp {ps:List jX} {zs:List UInt8} (hz:zs=Box.box 48 (fP ps)) (FH:zs.length≤300):(fP ps).length≤300:=Nat.le_trans (by rw[hz,Box.jf];omega) FH
theorem UH (zs:List UInt8) (n:Nat) (ao:Option Addr) (cap:Nat) (w:World) (hn:zs.length=n) (hcap:n≤cap) (hcm:cap≤9223372036854775807) (hat:At w ao zs) (htab:eO w) :
  Calls Tryz.prog 33 #[.slice ao n cap] w (Qf zs w):=by
 cases hs:shown zs with
 | none=>
  refine (yj zs n ao cap w (hid hn) hcap hcm hat (hid hs) htab).mono ?_
  rintro e w' ⟨rfl,hg⟩
  refine ⟨0,0,none,0,0,none,0,0,rfl,hg,fun h=>absurd h (by decide),fun _ _ _ _ h=>absurd h (by decide),fun ps _ hz hl ht h3=>?_⟩
  obtain ⟨t,h⟩:=JN hz hl ht h3
  rw[hs] at h
  cases h
 | some t=>
  obtain ⟨hl,tag,i,hc,hp⟩:=yT hs
  have hlen:=Box.fq hc
  refine (vG tag i t zs n ao cap w (hid hn) (by omega) hcap hcm hat (hid hc) (hid hp) (by omega) htab).mono ?_
  rintro e w' ⟨kk,vv,a2,n2,c2,a3,n3,c3,rfl,hP,hg⟩
  have hq:∀ ps:List jX,zs=Box.box 48 (fP ps)→zs.length≤300→tag=48∧i=fP ps:=fun ps hz h3=>by
   have:=Xp hz h3
   rw[hz,zG (xh ps) (by show (fP ps).length≤_;omega)] at hc
   injection hc with hc
   injection hc with h1 h2
   injection h2 with h2 _
   exact ⟨h1.symm,h2.symm⟩
  refine ⟨kk,vv,a2,n2,c2,a3,n3,c3,rfl,hg,fun h=>?_,fun ps hz hl2 h3 h=>?_,fun ps hne hz hl2 ht h3=>?_⟩
  ·subst h
   obtain ⟨a,n,c,e,hr,_⟩:=hP.Vh rfl (by omega)
   simp only[dW,List.cons.injEq,Value.slice.injEq,and_true] at e
   obtain ⟨_,_,_,rfl,rfl,rfl⟩:=e
   exact hr
  ·subst h
   obtain ⟨_,rfl⟩:=hq ps hz h3
   obtain ⟨a,n,c,e,_,hr⟩:=hP.Vh rfl (by omega)
   simp only[dW,List.cons.injEq,Value.slice.injEq,and_true] at e
   obtain ⟨_,_,_,rfl,rfl,rfl⟩:=e
   exact hr ps (jW ps hl2)
  ·obtain ⟨rfl,rfl⟩:=hq ps hz h3
   obtain ⟨qs',a,c,css,e1,e2,e3,e4⟩:=xY hP
   rw[jW ps hl2] at e1
   injection e1 with e1
   subst e1
   simp only[dW,List.cons.injEq,Value.slice.injEq,Value.int.injEq,and_true,true_and] at e2
   obtain ⟨q1,q2,q3,rfl,rfl,rfl⟩:=e2
   have h0:0<ps.length:=List.length_pos_iff.2 hne
   obtain ⟨_,_,g',ha,_,_⟩:=e4 0 h0 (by omega)
   refine ⟨q1,rfl,g',ha,fun k hk=>?_⟩
   obtain ⟨f1,f2,g2,f3,f4,f5⟩:=e4 k hk (by omega)
   rw[ha] at f3
   injection f3 with f3
   injection f3 with f3
   subst f3
   exact ⟨css[k]'(by omega),f1,f2,f4,f5⟩
theorem UI (E:Prop) (kk vv:Int) (a2:Option Addr) (n2 c2:Nat) (a3:Option Addr) (n3 c3:Nat) (K:ByteArray) (w:World) (ok:Nat→Prop) (d:Nat) (hm:K.size≤100) (h:kk=108→xA d w ok a3 n3)
  (hE:E→kk=108∧n3=K.size∧∃ g,a3=some ⟨g,0,none⟩∧∀ k (h:k<K.size),w.cell? ⟨g,k*4,none⟩=some (.int .u8 ((K[k]'h).toNat:Int))) :
  Calls Tryz.prog 34 #[.agg #[.int .u8 kk,.int .i64 vv,.slice a2 n2 c2,.slice a3 n3 c3],.string K] w fun e w'=>Cb kk a3 n3 K w e w'∧(E→e = .returned (.bool true)):=by
 by_cases hE':E
 ·obtain ⟨rfl,h2,g,rfl,hk⟩:=hE hE'
  refine (Nj vv a2 n2 c2 g n3 c3 K w h2.symm (by omega) (fun k hk3=>⟨K[k]'(by omega),hk k (by omega),fun _=>rfl⟩)).mono ?_
  rintro e w' ⟨rfl,hg⟩
  exact ⟨Cc hg h2.symm (fun k hk'=>⟨g,rfl,hk k hk'⟩),fun _=>rfl⟩
 ·refine (Mr kk vv a2 n2 c2 a3 n3 c3 K w hm (fun hk _ k hk3=>?_)).mono (fun e w' q=>⟨q,fun q=>absurd q hE'⟩)
  obtain ⟨g,tag,i,cs,h1,h2,_,h3,h4⟩:=h hk k hk3
  obtain ⟨z,hz⟩:=h3.kind
  exact ⟨g,z,h1,by have:=h4 0 (by decide);rw[hz] at this;exact this⟩
def Xq (E:Prop) (w:World) (e:Ending) (w':World):Prop:=
 ∃ (fl au st fi re no:Int) (jY:UInt64) (nm:List UInt8) (b:Bool),e = .returned (.tuple #[.agg (vM fl au st fi re jY nm no).toArray,.bool b])∧w.grownBy w' none∧(E→b=true)
theorem Qg (E:Prop) (key use draw:UInt64) (x:Int) (t:TK) (aB:Int) (s:BE) (zs:List UInt8) (v:Value) (w:World) (hx:zt x=true) (hu:Hid (x=use.toNat)) (hv:KH w v zs) (htab:eO w)
  (hE:E→zs=Pure.dK key use draw (dR t aB s)∧s.name.length≤20∧t.In∧In64 aB) :
  Calls Tryz.prog 35 #[.int .u64 (key.toNat:Int),.int .i64 x,v] w (Xq E w):=by
 by_cases hE':E
 ·obtain ⟨rfl,h1,h2,h3⟩:=hE hE'
  refine (Jw key use draw x t aB s v w hx hu h1 h2 h3 hv htab).mono ?_
  rintro e w' ⟨rfl,hg⟩
  exact ⟨_,_,_,_,_,_,_,_,true,rfl,hg,fun _=>rfl⟩
 ·refine (JM key use x zs v w hx hu hv htab).mono ?_
  rintro e w' ⟨fl,au,st,fi,re,no,jY,nm,b,rfl,hg⟩
  exact ⟨fl,au,st,fi,re,no,jY,nm,b,rfl,hg,fun q=>absurd q hE'⟩
end Go.Proofs.YtpibgolaaaemnaaGreatDoor
