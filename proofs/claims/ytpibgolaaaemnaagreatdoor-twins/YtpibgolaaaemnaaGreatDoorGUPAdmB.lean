/-
  
  
  
-/
import Derived.Test.YtpibgolaaaemnaaGreatDoorGUPFindP
import Derived.Test.YtpibgolaaaemnaaGreatDoorGUPFirB
import Derived.Deep.CutBlock
namespace Go.Proofs.YtpibgolaaaemnaaGreatDoor
open Go.RowKit
set_option maxRecDepth 100000
def sW (w:World) (po:Option Pl) (dB:Nat→Nat→Prop) (z:List UInt8) (v:Value):Prop:=
 ∃ ao cap,v = .slice ao z.length cap∧z.length≤cap∧At w ao z∧∀ b off,ao=some ⟨b,off,none⟩→∀ j,j<z.length→¬ Pl.has po b (off+j)∧¬ dB b (off+j)∧b<w.heap.size
theorem jl {w:World} {b:Nat} {q:NQ} {v u:Value} (h:w.rangeAt b 0 (q.cells v u)):w.cell? ⟨b,0,none⟩=some (.string ⟨q.iT.toArray⟩)∧w.cell? ⟨b,1,none⟩=some (.int .i64 q.yY)∧w.cell? ⟨b,2,none⟩=some v∧w.cell? ⟨b,3,none⟩=some u∧w.cell? ⟨b,4,none⟩=some (.string ⟨q.az.toArray⟩)∧w.cell? ⟨b,5,none⟩=some (.int .i64 q.aB)∧w.cell? ⟨b,6,none⟩=some (.int .i64 q.dF)∧w.cell? ⟨b,7,none⟩=some (.int .i64 q.bQ)∧w.cell? ⟨b,8,none⟩=some (.int .i64 q.aJ):=
 ⟨h 0 _ rfl,h 1 _ rfl,h 2 _ rfl,h 3 _ rfl,h 4 _ rfl,h 5 _ rfl,h 6 _ rfl,h 7 _ rfl,h 8 _ rfl⟩
theorem Bv {w:World} {b:Nat} (h:Live w b 7):(∀ j,j<7→∃ d,w.cell? ⟨b,j,none⟩=some d)∧∀ j,w.frozen? ⟨b,j,none⟩=false:=⟨fun j hj=>Option.isSome_iff_exists.1 (h.some j hj),fun j=>h.frozen j⟩
theorem D5 (w:World) (b:Nat) (h:Live w b 7) (t:TK):(((((((w.setCell ⟨b,0,none⟩ (.int .i64 t.ay)).setCell ⟨b,1,none⟩ (.int .u64 (t.aU.toNat:Int))).setCell ⟨b,2,none⟩ (.string ⟨t.af.toArray⟩)).setCell ⟨b,3,none⟩ (.int .i64 t.eH)).setCell ⟨b,4,none⟩ (.int .i64 t.start)).setCell ⟨b,5,none⟩ (.int .i64 t.fin)).setCell ⟨b,6,none⟩ (.int .i64 t.aF)).rangeAt b 0 t.cells:=jk [.int .i64 t.ay,.int .u64 (t.aU.toNat:Int),.string ⟨t.af.toArray⟩,.int .i64 t.eH,.int .i64 t.start,.int .i64 t.fin,.int .i64 t.aF] 0 w b 7 h (Nat.le_refl 7)
theorem Lv (w:World) (b:Nat) (h:Live w b 7):(((((((w.setCell ⟨b,0,none⟩ (.int .i64 0)).setCell ⟨b,1,none⟩ (.int .u64 0)).setCell ⟨b,2,none⟩ (.string ⟨#[]⟩)).setCell ⟨b,3,none⟩ (.int .i64 0)).setCell ⟨b,4,none⟩ (.int .i64 0)).setCell ⟨b,5,none⟩ (.int .i64 0)).setCell ⟨b,6,none⟩ (.int .i64 0)).rangeAt b 0 [.int .i64 0,.int .u64 0,.string ⟨#[]⟩,.int .i64 0,.int .i64 0,.int .i64 0,.int .i64 0]:=jk [.int .i64 0,.int .u64 0,.string ⟨#[]⟩,.int .i64 0,.int .i64 0,.int .i64 0,.int .i64 0] 0 w b 7 h (Nat.le_refl 7)
theorem O9 (w:World) (b:Nat) (h:Live w b 3) (p:PF):(((w.setCell ⟨b,0,none⟩ (.string ⟨p.af.toArray⟩)).setCell ⟨b,1,none⟩ (.int .i64 p.time)).setCell ⟨b,2,none⟩ (.int .i64 p.count)).rangeAt b 0 p.aR:=jk [.string ⟨p.af.toArray⟩,.int .i64 p.time,.int .i64 p.count] 0 w b 3 h (Nat.le_refl 3)
theorem pW (w:World) (b:Nat) (v0 v1 v2 v3 v4 v5 v6:Value):CF w (((((((w.setCell ⟨b,0,none⟩ (v0)).setCell ⟨b,1,none⟩ (v1)).setCell ⟨b,2,none⟩ (v2)).setCell ⟨b,3,none⟩ (v3)).setCell ⟨b,4,none⟩ (v4)).setCell ⟨b,5,none⟩ (v5)).setCell ⟨b,6,none⟩ (v6)) (fun x _=>x=b):=by
 repeat refine CF.setCell ?_ _ _ _ (fun _=>rfl)
 exact CF.refl _ _
theorem Tw {w:World} {b:Nat} {t:TK} (h:w.rangeAt b 0 t.cells) (hl:Live w b 7):(w.cell? ⟨b,0,none⟩=some (.int .i64 t.ay)∧w.cell? ⟨b,1,none⟩=some (.int .u64 (t.aU.toNat:Int))∧w.cell? ⟨b,2,none⟩=some (.string ⟨t.af.toArray⟩)∧w.cell? ⟨b,3,none⟩=some (.int .i64 t.eH)∧w.cell? ⟨b,4,none⟩=some (.int .i64 t.start)∧w.cell? ⟨b,5,none⟩=some (.int .i64 t.fin)∧w.cell? ⟨b,6,none⟩=some (.int .i64 t.aF))∧w.frozen? ⟨b,0,none⟩=false∧w.frozen? ⟨b,1,none⟩=false∧w.frozen? ⟨b,2,none⟩=false∧w.frozen? ⟨b,3,none⟩=false∧w.frozen? ⟨b,4,none⟩=false∧w.frozen? ⟨b,5,none⟩=false∧w.frozen? ⟨b,6,none⟩=false:=
 ⟨⟨h 0 _ rfl,h 1 _ rfl,h 2 _ rfl,h 3 _ rfl,h 4 _ rfl,h 5 _ rfl,h 6 _ rfl⟩,hl.frozen 0,hl.frozen 1,hl.frozen 2,hl.frozen 3,hl.frozen 4,hl.frozen 5,hl.frozen 6⟩
theorem rJ (ax now:Int) (l:List PF) (p:PF):dG ax now l p=34∨dG ax now l p=60∨dG ax now l p=0:=by
 unfold dG
 split
 ·exact .inl rfl
 ·split
  ·exact .inr (.inl rfl)
  ·exact .inr (.inr rfl)
theorem Bw (ax now:Int) (l:List PF) (p:PF) (h:l.length≤8):(dx ax now l p).length≤8:=by
 have h1:(su ax now l).length≤l.length:=List.length_filter_le _ _
 unfold dx dG
 by_cases hm:p∈su ax now l
 ·rw[if_pos hm,if_neg (by decide)]
  omega
 ·rw[if_neg hm]
  by_cases h8:8≤(su ax now l).length
  ·rw[if_pos h8,if_neg (by decide)]
   omega
  ·rw[if_neg h8,if_pos rfl,List.length_append]
   simp
   omega
theorem I5 {W W':World} {g:Nat} {dp:Option Pl} {M:DM} {l:List PF} (h:cz W g 0 dp M) (k:CF W W' (fun b y=>b=g∧163≤y∧y<188)) (h1:W'.rangeAt g 163 (bH l)) (h2:W'.cell? ⟨g,187,none⟩=some (.int .i64 l.length)) (hd:∀ q,dp=some q→q.g≠g) (h8:l.length≤8):cz W' g 0 dp {M with bK:=l}:=by
 obtain ⟨v,hv,ho⟩:=h.aV
 exact ⟨h.live.cf k,k.cell h.ax (fun e=>by omega),⟨v,k.cell hv (fun e=>by omega),ho.cf k (fun q hq j _ e=>hd q hq e.1)⟩,h.aH.cf k (fun j _ h2 e=>by omega),by rw[Nat.zero_add];exact h1,by rw[Nat.zero_add];exact h2,h8⟩
set_option maxHeartbeats 20000000 in
theorem Pb (hb g base T:Nat) (fv rv ro rr:Value) (po pr dp:Option Pl) (J:World→Prop) (dB oK:Nat→Nat→Prop) (M:DM) (now:Int) (q:NQ) (v u:Value) (w:World) (S:HS hb g base T fv rv po pr dp J dB oK M.aH) (h:vz w hb g T fv ro rr now) (hd:cz w g 0 dp M) (hJ:J w) (ho:Out w ro po []) (hr:Out w rr pr []) (hv:sW w po dB q.iO v) (hu:sW w po dB q.proof u) (dC:In64 now) (yN:∀ y∈M.bK,In64 y.time) (hbase:base≤w.heap.size) :
  Calls Tryz.prog 99 #[.pointer (some ⟨hb,0,none⟩),.agg (q.cells v u).toArray] w fun e w'=>e = .returned (oq (kL M now q).1)∧cz w' g 0 dp (kL M now q).2∧J w'∧CF w w' (fun b y=>Ws po dB b y∨b=g∧163≤y∧y<188):=by
 have hbb:=S.hbb
 have hgb:=S.gb
 obtain ⟨W0,hW0⟩:∃ W,W=(w.alloc (.cells (q.cells v u).toArray 168)).alloc (.cells ik 211):=⟨_,rfl⟩
 have G0:w.grownBy W0 none:=by rw[hW0];exact aC (World.grownBy_alloc w _ none) _
 have s0:W0.heap.size=w.heap.size+1+1:=by rw[hW0];simp only[World.size_alloc]
 have RQ:W0.rangeAt w.heap.size 0 (q.cells v u):=by rw[hW0];exact fH (aQ w (q.cells v u).toArray _) (World.grownBy_alloc _ _ none)
 have LT:Live W0 (w.heap.size+1) 7:=by
  have h:=Live.new (w.alloc (.cells (q.cells v u).toArray 168)) ik 211
  rw[World.size_alloc] at h
  rw[hW0]
  exact h
 have hpo:∀ b y,Pl.has po b y→b<w.heap.size:=fun b y e=>ho.lt e
 have X0:FX w W0 hb g base T fv ro rr po pr dp dB M now w.heap.size (q.cells v u):=⟨h.grown G0,hd.grown G0,ho.grown G0,hr.grown G0,RQ,G0.size,CF.aW G0 _⟩
 have iM:Hid (∀ W W',FX w W hb g base T fv ro rr po pr dp dB M now w.heap.size (q.cells v u)→CF W W' (fun b y=>Ws po dB b y∨w.heap.size<b)→FX w W' hb g base T fv ro rr po pr dp dB M now w.heap.size (q.cells v u)):=fun W W' h k=>h.step S k rfl hbase hpo
 obtain ⟨AR,Wz⟩:∃ R,kL M now q=R:=⟨_,rfl⟩
 rw[Wz]
 have J5:=hid Wz
 have Tx:Hid (∀ W,Calls Tryz.prog 131 #[.agg (q.cells v u).toArray] W fun e w'=>e = .returned (.bool (jU q))∧W.grownBy w' none):=fun W=>Bq v u q W
 have HST:=hid S.finds.stay
 obtain ⟨x,hx⟩:∃ x,BE.find M.aH q.iT=x:=⟨_,rfl⟩
 have HXF:=hid hx
 have HFd:Hid (∀ W,J W→Calls Tryz.prog (findF T) #[rv,.string ⟨q.iT.toArray⟩] W fun e w'=>e = .returned (kG x)∧J w'∧CF W w' dB):=fun W hW=>by rw[←hx];exact S.finds.call W hW q.iT
 have hm:=S.Zc
 have oM:Hid (∀ W W',(FX w W hb g base T fv ro rr po pr dp dB M now w.heap.size (q.cells v u)∧J W∧Live W (w.heap.size+1) 7)→W.grownBy W' none→(FX w W' hb g base T fv ro rr po pr dp dB M now w.heap.size (q.cells v u)∧J W'∧Live W' (w.heap.size+1) 7)):=fun W W' h k=>⟨h.1.step S (CF.aW k _) rfl hbase hpo,S.finds.stay _ _ h.2.1 (CF.aW k _),h.2.2.grown k⟩
 have Lx:Hid (∀ W W',(FX w W hb g base T fv ro rr po pr dp dB M now w.heap.size (q.cells v u)∧J W∧Live W (w.heap.size+1) 7)→CF W W' (Pl.has po)→(FX w W' hb g base T fv ro rr po pr dp dB M now w.heap.size (q.cells v u)∧J W'∧Live W' (w.heap.size+1) 7)):=fun W W' h k=>⟨h.1.step S (k.mono (fun _ _ _ e=>.inl (.inr e))) rfl hbase hpo,S.finds.stay _ _ h.2.1 (k.mono (fun b y _ e=>S.poJ b y e)),h.2.2.cf k⟩
 have LC:Hid (∀ W W' X,(FX w W hb g base T fv ro rr po pr dp dB M now w.heap.size (q.cells v u)∧J W∧Live W (w.heap.size+1) 7)→w.heap.size<X→CF W W' (fun b _=>b=X)→(FX w W' hb g base T fv ro rr po pr dp dB M now w.heap.size (q.cells v u)∧J W'∧Live W' (w.heap.size+1) 7)):=fun W W' X h hX k=>⟨h.1.step S (k.mono (fun b _ _ e=>.inr (by omega))) rfl hbase hpo,S.finds.stay _ _ h.2.1 (k.mono (fun b y _ e=>S.xS b y (by omega))),h.2.2.cf k⟩
 have xU:Hid (∀ W W',(FX w W hb g base T fv ro rr po pr dp dB M now w.heap.size (q.cells v u)∧J W∧Live W (w.heap.size+1) 7)→CF W W' dB→J W'→(FX w W' hb g base T fv ro rr po pr dp dB M now w.heap.size (q.cells v u)∧J W'∧Live W' (w.heap.size+1) 7)):=fun W W' h k hJ'=>⟨h.1.step S (k.mono (fun _ _ _ e=>.inl (.inl e))) rfl hbase hpo,hJ',h.2.2.cf k⟩
 have Ty:Hid (∀ W key,FX w W hb g base T fv ro rr po pr dp dB M now w.heap.size (q.cells v u)→Calls Tryz.prog 133 #[ro,.int .u64 (UInt64.toNat key:Int),v] W fun e w'=>e = .returned (.tuple #[.agg (OO (bW key 2 q.iO)).cells.toArray,.bool (fM (KZ (bW key 2 q.iO)))])∧CF W w' (Pl.has po)):=by
  intro W key X
  obtain ⟨ao,cap,rfl,h2,h3,h4⟩:=hv
  exact Fq ro po [] key ao q.iO q.iO.length cap W X.o (hid rfl) h2 (h3.cf X.cf (fun b off e j hj n=>by rcases n with n | n;exact (h4 b off e j hj).2.1 n;exact (h4 b off e j hj).1 n)) (fun b off e j hj=>(h4 b off e j hj).1)
 have HPf:Hid (∀ W key,FX w W hb g base T fv ro rr po pr dp dB M now w.heap.size (q.cells v u)→Calls Tryz.prog 134 #[ro,.int .u64 (UInt64.toNat key:Int),u] W fun e w'=>e = .returned (.tuple #[.agg (Qr (bW key 4 q.proof)).aR.toArray,.bool (fM (MS (bW key 4 q.proof)))])∧CF W w' (Pl.has po)):=by
  intro W key X
  obtain ⟨ao,cap,rfl,h2,h3,h4⟩:=hu
  exact IZ ro po [] key ao q.proof q.proof.length cap W X.o (hid rfl) h2 (h3.cf X.cf (fun b off e j hj n=>by rcases n with n | n;exact (h4 b off e j hj).2.1 n;exact (h4 b off e j hj).1 n)) (fun b off e j hj=>(h4 b off e j hj).1)
 have agI:Hid (∀ (W:World) (p:PF),FX w W hb g base T fv ro rr po pr dp dB M now w.heap.size (q.cells v u)→In64 p.time→M.ax<fE p.time now→Calls Tryz.prog 135 #[.pointer (some ⟨hb,0,none⟩),.agg p.aR.toArray] W fun e w'=>e = .returned (.int .i64 37)∧W.grownBy w' none):=fun W p X h1 h2=>AL hb g now M.ax p W X.hear.c3 X.hear.c4 X.dX.ax dC h1 h2
 have acz:Hid (∀ (W:World) (p:PF),FX w W hb g base T fv ro rr po pr dp dB M now w.heap.size (q.cells v u)→In64 p.time→¬ M.ax<fE p.time now→Calls Tryz.prog 135 #[.pointer (some ⟨hb,0,none⟩),.agg p.aR.toArray] W fun e w'=>e = .returned (.int .i64 (dG M.ax now M.bK p))∧w'.rangeAt g 163 (bH (dx M.ax now M.bK p))∧w'.cell? ⟨g,187,none⟩=some (.int .i64 (dx M.ax now M.bK p).length)∧CF W w' (fun b y=>b=g∧163≤y∧y<188)):=fun W p X h1 h2=>by
  have hD:=X.dX
  have e1:=hD.bK
  have e2:=hD.count
  rw[Nat.zero_add] at e1 e2
  exact zf hb g now M.ax M.bK p W X.hear.c3 X.hear.c4 hD.ax S.hbg dC h1 yN hD.few (by have:=hD.live;rwa [Nat.zero_add] at this) e1 e2 h2
 have rW:=hid S
 have HX0:=hid X0
 have HJ:=hid hJ
 have HLT:=hid LT
 have mD:=hid G0
 have HW0:=hid hW0
 have HV:=hid hv
 have HU:=hid hu
 have MM:=hid hpo
 have HTm:=hid yN
 have VP:=hid dC
 have HN:Hid (hb<w.heap.size∧g<w.heap.size):=⟨by omega,by omega⟩
 have am5:Hid (∀ p,po=some p→p.g<w.heap.size):=fun p hp=>ho.Et p hp
 clear hx Wz S h hd hJ ho hr hv hu dC yN hW0 G0 RQ LT X0 hpo s0
 have n1:w.heap.size+1≠w.heap.size:=by omega
 have hcf:=yI T
 go_enter Tryz.func99,Tryz.ntmps99
 go_wp2_with (rw[←HW0.out];fail_if_success done)
 go_step3
 go_wp2_with fail
 go_step3
 go_upto_block 0 with fail
 go_cut [5] (fun c wx=>∃ code M',c = .int .i64 code∧AR=(.error code,M')∧Live wx (w.heap.size+1) 7∧cz wx g 0 dp M'∧J wx∧CF w wx (fun b y=>Ws po dB b y∨b=g∧163≤y∧y<188))
 case first=>
  have hA0:(FX w W0 hb g base T fv ro rr po pr dp dB M now w.heap.size (q.cells v u)∧J W0∧Live W0 (w.heap.size+1) 7):=⟨HX0.out,HST.out _ _ HJ.out (CF.aW mD.out _),HLT.out⟩
  have HA0:=hid hA0
  clear hA0
  obtain ⟨k0,k1,k2,k3,k4,k5,k6,k7,k8⟩:=jl HX0.out.ask
  go_upto_region 2 with fail
  go_cut [18] (fun c wx=>c = .bool (!decide (q.iT=[116,103,115]) && !jU q)∧(FX w wx hb g base T fv ro rr po pr dp dB M now w.heap.size (q.cells v u)∧J wx∧Live wx (w.heap.size+1) 7))
  case first=>
   by_cases hts:q.iT=[116,103,115]
   ·have htb:(q.iT==[116,103,115])=true:=beq_iff_eq.2 hts
    have Hts:=hid hts
    clear hts
    go_wp2_with fail
    go_meet
    exact ⟨by rw[decide_eq_true Hts.out];rfl,HA0.out⟩
   ·have htb:(q.iT==[116,103,115])=false:=beq_eq_false_iff_ne.2 hts
    obtain ⟨sb,hsb⟩:∃ b,jU q=b:=⟨_,rfl⟩
    rw[hsb] at Tx
    go_wp2_with (first|(go_at_call 131;refine (Tx.out _).mono ?_;clear Tx;rintro r w1 ⟨rfl,g1⟩;have nH:=hid g1;clear g1))
    go_meet
    exact ⟨by rw[decide_eq_false hts,hsb];rfl,oM.out _ _ HA0.out nH.out⟩
  case rest=>
   obtain ⟨rfl,hA⟩:=hcut
   have HA1:=hid hA
   clear hA HA0 k0 k1 k2 k3 k4 k5 k6 k7 k8
   by_cases hok:¬ (q.iT=[116,103,115]∨jU q=true)
   ·have Cm:Hid (AR=(.error 36,M)):=by rw[←J5.out];exact SX (fun e=>hok (.inl e)) (by cases h:jU q with | false=>rfl | true=>exact absurd (.inr h) hok)
    have e1:(!decide (q.iT=[116,103,115]) && !jU q)=true:=by
     cases h:jU q with
     | true=>exact absurd (.inr h) hok
     | false=>rw[decide_eq_false (fun e=>hok (.inl e))];rfl
    rw[e1]
    clear e1
    go_wp2_with fail
    go_meet
    exact ⟨_,_,rfl,Cm.out,HA1.out.2.2,HA1.out.1.dX,HA1.out.2.1,HA1.out.1.cf.mono (fun _ _ _ e=>.inl e)⟩
   ·have hok:=Classical.not_not.1 hok
    have e1:(!decide (q.iT=[116,103,115]) && !jU q)=false:=by
     rcases hok with h | h
     ·rw[decide_eq_true h];rfl
     ·rw[h];simp
    rw[e1]
    have uH:=hid hok
    clear e1 hok
    obtain ⟨k0,k1,k2,k3,k4,k5,k6,k7,k8⟩:=jl HA1.out.1.ask
    go_wp2_with fail
    obtain ⟨v0,v1,v2,v3,v4,v5,v6,v7,WA⟩:=gB x
    have HV8:=hid WA
    have hF2:=HFd.out
    unfold kG at hF2
    rw[WA] at hF2
    obtain ⟨bx,hbx⟩:∃ b,x.isSome=b:=⟨_,rfl⟩
    rw[hbx] at hF2
    have WB:=hid hF2
    have HBX:=hid hbx
    clear hbx WA hF2
    have c0:=HA1.out.1.hear.c0
    obtain ⟨W1,hW1⟩:∃ W,W=wc:=⟨_,rfl⟩
    rw[←hW1] at HA1 c0 k0 k1 k2 k3 k4 k5 k6 k7 k8
    rw[←hW1]
    clear hW1
    go_cut [6,7] (fun p c wx=>∃ eb,p = .pointer (some ⟨eb,0,none⟩)∧w.heap.size+1<eb∧c = .bool bx∧wx.rangeAt eb 0 (nG x)∧(FX w wx hb g base T fv ro rr po pr dp dB M now w.heap.size (q.cells v u)∧J wx∧Live wx (w.heap.size+1) 7))
    case first=>
     have hb1:w.heap.size+1<W1.heap.size:=HA1.out.2.2.lt
     have na:w.heap.size≠W1.heap.size:=by omega
     have nb:hb≠W1.heap.size:=by have:=HN.out.1;omega
     have na':W1.heap.size≠w.heap.size:=fun e=>na e.symm
     have nb':W1.heap.size≠hb:=fun e=>nb e.symm
     have Zm:Hid (Calls Tryz.prog (findF T) #[rv,.string ⟨q.iT.toArray⟩] W1.drew fun e w'=>e = .returned (.tuple #[.agg #[.string v0,.int .i64 v1,.int .u64 v2,.int .u64 v3,.int .i64 v4,.int .i64 v5,.int .i64 v6,.int .i64 v7],.bool bx])∧(FX w w' hb g base T fv ro rr po pr dp dB M now w.heap.size (q.cells v u)∧J w'∧Live w' (w.heap.size+1) 7)∧W1.heap.size≤w'.heap.size):=(WB.out _ (HST.out _ _ HA1.out.2.1 (CF.aW (dA (World.grownBy.refl _ _)) _))).mono fun _ _ ⟨a,b,c⟩=>⟨a,xU.out _ _ HA1.out c.bM b,c.size⟩
     have Zn:Hid (Calls Tryz.prog (findF T) #[rv,.string ⟨q.iT.toArray⟩] ((W1.alloc (.cells #[.string ⟨#[]⟩,.int .i64 0,.int .u64 0,.int .u64 0,.int .i64 0,.int .i64 0,.int .i64 0,.int .i64 0] 87)).drew) fun e w'=>e = .returned (.tuple #[.agg #[.string v0,.int .i64 v1,.int .u64 v2,.int .u64 v3,.int .i64 v4,.int .i64 v5,.int .i64 v6,.int .i64 v7],.bool bx])∧(FX w w' hb g base T fv ro rr po pr dp dB M now w.heap.size (q.cells v u)∧J w'∧Live w' (w.heap.size+1) 7)∧Live w' W1.heap.size 8):=(WB.out _ (HST.out _ _ HA1.out.2.1 (CF.aW (dA (World.grownBy_alloc _ _ none)) _))).mono fun _ _ ⟨a,b,c⟩=>⟨a,xU.out _ _ (oM.out _ _ HA1.out (World.grownBy_alloc _ _ none)) c.bM b,(Live.new W1 #[.string ⟨#[]⟩,.int .i64 0,.int .u64 0,.int .u64 0,.int .i64 0,.int .i64 0,.int .i64 0,.int .i64 0] _).cf c.bM⟩
     clear WB
     have ga:=World.grownBy_alloc W1 (.cells #[.string ⟨#[]⟩,.int .i64 0,.int .u64 0,.int .u64 0,.int .i64 0,.int .i64 0,.int .i64 0,.int .i64 0] 87) none
     have x0:=ga.cell k0 (by simp)
     have xc:=ga.cell c0 (by simp)
     clear ga
     go_region_held3 (fun w'=>w'.cell? ⟨hb,0,none⟩=some (.iface T fv)∧w'.cell? ⟨w.heap.size,0,none⟩=some (.string ⟨q.iT.toArray⟩)) (go_keep) (first
      | ((with_reducible show Calls _ (findF T) _ _ _);(with_reducible apply Calls.mono Zm.out);rintro r w2 ⟨rfl,a2,z2⟩;have HA2:=hid a2;have HZ2:=hid z2;clear a2 z2;have y0:=HA2.out.1.ask 0 _ rfl;have yc:=HA2.out.1.hear.c0;have g2:=World.grownBy_alloc w2 (.cells #[.string ⟨#[]⟩,.int .i64 0,.int .u64 0,.int .u64 0,.int .i64 0,.int .i64 0,.int .i64 0,.int .i64 0] 87) none;have yz0:=g2.cell y0 (by simp);have yzc:=g2.cell yc (by simp);have g3:=World.grownBy_alloc w2 (.cells #[.string v0,.int .i64 v1,.int .u64 v2,.int .u64 v3,.int .i64 v4,.int .i64 v5,.int .i64 v6,.int .i64 v7] 87) none;have yv0:=g3.cell y0 (by simp);have yvc:=g3.cell yc (by simp);clear g2 g3)
      | ((with_reducible show Calls _ (findF T) _ _ _);(with_reducible apply Calls.mono Zn.out);rintro r w2 ⟨rfl,a2,l2⟩;have HA2:=hid a2;have HL2:=hid l2;clear a2 l2;have y0:=HA2.out.1.ask 0 _ rfl;have yc:=HA2.out.1.hear.c0;obtain ⟨⟨d0,q0⟩,⟨d1,q1⟩,⟨d2,q2⟩,⟨d3,q3⟩,⟨d4,q4⟩,⟨d5,q5⟩,⟨d6,q6⟩,⟨d7,q7⟩,f0,f1,f2,f3,f4,f5,f6,f7⟩:=dY HL2.out))
     all_goals go_wp2
     all_goals go_meet
     ·exact ⟨_,rfl,(by have:=HZ2.out;omega),rfl,by rw[HV8.out];exact (bI.new _ _ _).range,oM.out _ _ HA2.out (World.grownBy_alloc _ _ none)⟩
     ·refine ⟨W1.heap.size,rfl,hb1,rfl,by rw[HV8.out];exact fw _ _ _ _ _ _ _ _ _ _ q0 q1 q2 q3 q4 q5 q6 q7,LC.out _ _ W1.heap.size HA2.out (by omega) ?_⟩
      repeat refine CF.setCell ?_ _ _ _ (fun _=>rfl)
      exact CF.refl _ _
    case rest=>
     obtain ⟨eb,rfl,heb,rfl,hE,hA⟩:=hcut
     have Ci:=hid hA
     have HE:=hid hE
     clear hA hE HA1 c0 k0 k1 k2 k3 k4 k5 k6 k7 k8 WB HFd
     obtain ⟨k0,k1,k2,k3,k4,k5,k6,k7,k8⟩:=jl Ci.out.1.ask
     cases x with
     | none=>
      obtain rfl:bx=false:=HBX.out.symm
      have Cm:Hid (AR=(.error 7,M)):=by rw[←J5.out];exact SY uH.out HXF.out
      go_wp2_with fail
      go_meet
      exact ⟨_,_,rfl,Cm.out,Ci.out.2.2,Ci.out.1.dX,Ci.out.2.1,Ci.out.1.cf.mono (fun _ _ _ e=>.inl e)⟩
     | some e=>
      obtain rfl:bx=true:=HBX.out.symm
      have hin:=rW.out.oL e (jG HXF.out)
      have hKo:=Oq eb 0 e q.yY wc (HE.out 1 _ rfl) (HE.out 2 _ rfl) (HE.out 3 _ rfl) hin.ag.1 (by have:=hin.ag.2;omega)
      have HKo:=hid hKo
      clear hKo hin HV8
      cases hk:e.keyOf q.yY with
      | none=>
       rw[hk] at HKo
       have Cm:Hid (AR=(.error 44,M)):=by rw[←J5.out];exact Wu uH.out HXF.out hk
       clear hk
       go_wp2_with (first|(go_at_call 132;refine HKo.out.mono ?_;clear HKo;rintro r w4 ⟨rfl,rfl⟩))
       go_meet
       exact ⟨_,_,rfl,Cm.out,Ci.out.2.2,Ci.out.1.dX,Ci.out.2.1,Ci.out.1.cf.mono (fun _ _ _ e=>.inl e)⟩
      | some key=>
       rw[hk] at HKo
       have HK:=hid hk
       clear hk
       go_wp2_with (first|(go_at_call 132;refine HKo.out.mono ?_;clear HKo;rintro r w4 ⟨rfl,rfl⟩))
       have nh:w.heap.size+1≠hb:=by have:=HN.out.1;omega
       have nh':hb≠w.heap.size+1:=fun e=>nh e.symm
       have n1':w.heap.size≠w.heap.size+1:=by omega
       obtain ⟨tk,htk⟩:∃ t,OO (bW key 2 q.iO)=t:=⟨_,rfl⟩
       obtain ⟨dt,hdt⟩:∃ d,fM (KZ (bW key 2 q.iO))=d:=⟨_,rfl⟩
       have Zz:=fun W=>Ty.out W key
       rw[htk,hdt] at Zz
       have acB:Hid (∀ W,FX w W hb g base T fv ro rr po pr dp dB M now w.heap.size (q.cells v u)→Calls Tryz.prog 133 #[ro,.int .u64 (UInt64.toNat key:Int),v] W fun e w'=>e = .returned (.tuple #[.agg #[.int .i64 tk.ay,.int .u64 (tk.aU.toNat:Int),.string ⟨tk.af.toArray⟩,.int .i64 tk.eH,.int .i64 tk.start,.int .i64 tk.fin,.int .i64 tk.aF],.bool dt])∧CF W w' (Pl.has po)):=Zz
       have Fu:Hid tk.In:=by rw[←htk];exact SQ _
       have HTK:=hid htk
       have HDT:=hid hdt
       have c1:=Ci.out.1.hear.c1
       clear Zz htk hdt HE Ty
       obtain ⟨W3,hW3⟩:∃ W,W=w4:=⟨_,rfl⟩
       rw[←hW3] at Ci c1 k0 k1 k2 k3 k4 k5 k6 k7 k8
       rw[←hW3]
       clear hW3
       go_cut [7] (fun c wx=>c = .bool dt∧wx.rangeAt (w.heap.size+1) 0 tk.cells∧(FX w wx hb g base T fv ro rr po pr dp dB M now w.heap.size (q.cells v u)∧J wx∧Live wx (w.heap.size+1) 7))
       case first=>
        have HXd:=hid (oM.out _ _ Ci.out (dA (World.grownBy.refl _ _))).1
        go_region_held3 (fun w'=>w'.cell? ⟨hb,1,none⟩=some ro∧w'.cell? ⟨w.heap.size,2,none⟩=some v) (go_keep) (first
         | (go_at_call 133;refine (acB.out _ HXd.out).mono ?_;rintro r w5 ⟨rfl,C5⟩;have CW:=hid (Lx.out _ _ Ci.out C5.bM);clear C5;have y1:=CW.out.1.hear.c1;have y2:=CW.out.1.ask 2 _ rfl;have L7:=Bv CW.out.2.2;obtain ⟨d0,q0⟩:=L7.1 0 (by decide);have f0:=L7.2 0;obtain ⟨d1,q1⟩:=L7.1 1 (by decide);have f1:=L7.2 1;obtain ⟨d2,q2⟩:=L7.1 2 (by decide);have f2:=L7.2 2;obtain ⟨d3,q3⟩:=L7.1 3 (by decide);have f3:=L7.2 3;obtain ⟨d4,q4⟩:=L7.1 4 (by decide);have f4:=L7.2 4;obtain ⟨d5,q5⟩:=L7.1 5 (by decide);have f5:=L7.2 5;obtain ⟨d6,q6⟩:=L7.1 6 (by decide);have f6:=L7.2 6;clear L7))
        go_wp2
        go_meet
        exact ⟨rfl,D5 w5 (w.heap.size+1) CW.out.2.2 tk,LC.out _ _ (w.heap.size+1) CW.out (by omega) (pW w5 (w.heap.size+1) _ _ _ _ _ _ _)⟩
       case rest=>
        obtain ⟨rfl,hT,hA⟩:=hcut
        have CW:=hid hA
        have HT:=hid hT
        clear hA hT Ci c1 k0 k1 k2 k3 k4 k5 k6 k7 k8 acB
        obtain ⟨k0,k1,k2,k3,k4,k5,k6,k7,k8⟩:=jl CW.out.1.ask
        cases dt with
        | false=>
         have Cm:Hid (AR=(.error 31,M)):=by rw[←J5.out];exact Lm uH.out HXF.out HK.out HDT.out
         go_wp2_with fail
         go_meet
         exact ⟨_,_,rfl,Cm.out,CW.out.2.2,CW.out.1.dX,CW.out.2.1,CW.out.1.cf.mono (fun _ _ _ e=>.inl e)⟩
        | true=>
         obtain ⟨pf,hpf⟩:∃ p,Qr (bW tk.aU 4 q.proof)=p:=⟨_,rfl⟩
         obtain ⟨dq,hdq⟩:∃ d,fM (MS (bW tk.aU 4 q.proof))=d:=⟨_,rfl⟩
         have ZA:=fun W=>HPf.out W tk.aU
         rw[hpf,hdq] at ZA
         have WC:∀ W,FX w W hb g base T fv ro rr po pr dp dB M now w.heap.size (q.cells v u)→Calls Tryz.prog 134 #[ro,.int .u64 (UInt64.toNat tk.aU:Int),u] W fun e w'=>e = .returned (.tuple #[.agg #[.string ⟨pf.af.toArray⟩,.int .i64 pf.time,.int .i64 pf.count],.bool dq])∧CF W w' (Pl.has po):=ZA
         have HPI:Hid (In64 pf.time):=by rw[←hpf];exact SV _
         have HPF:=hid hpf
         have HDQ:=hid hdq
         have c1:=CW.out.1.hear.c1
         have ts:wc.cell? ⟨w.heap.size+1,1,none⟩=some (.int .u64 (tk.aU.toNat:Int)):=HT.out 1 _ rfl
         clear ZA hpf hdq HPf
         go_wp2_with fail
         obtain ⟨W5,hW5⟩:∃ W,W=wc:=⟨_,rfl⟩
         rw[←hW5] at CW HT c1 ts k0 k1 k2 k3 k4 k5 k6 k7 k8
         rw[←hW5]
         clear hW5
         go_cut [9,7] (fun p c wx=>∃ pb,p = .pointer (some ⟨pb,0,none⟩)∧w.heap.size+1<pb∧c = .bool dq∧wx.rangeAt pb 0 pf.aR∧wx.rangeAt (w.heap.size+1) 0 tk.cells∧(FX w wx hb g base T fv ro rr po pr dp dB M now w.heap.size (q.cells v u)∧J wx∧Live wx (w.heap.size+1) 7))
         case first=>
          have hb5:w.heap.size+1<W5.heap.size:=CW.out.2.2.lt
          have na:w.heap.size≠W5.heap.size:=by omega
          have nb:hb≠W5.heap.size:=by have:=HN.out.1;omega
          have nc:w.heap.size+1≠W5.heap.size:=by omega
          have na':W5.heap.size≠w.heap.size:=fun e=>na e.symm
          have nb':W5.heap.size≠hb:=fun e=>nb e.symm
          have nc':W5.heap.size≠w.heap.size+1:=fun e=>nc e.symm
          have HTs:Hid (∀ W W',(FX w W hb g base T fv ro rr po pr dp dB M now w.heap.size (q.cells v u)∧J W∧Live W (w.heap.size+1) 7)→W.rangeAt (w.heap.size+1) 0 tk.cells→CF W W' (Pl.has po)→W'.rangeAt (w.heap.size+1) 0 tk.cells):=fun W W' _ h k=>k.range h (fun _ _ e=>by have:=MM.out _ _ e;omega)
          have Zm:Hid (Calls Tryz.prog 134 #[ro,.int .u64 (UInt64.toNat tk.aU:Int),u] W5.drew fun e w'=>e = .returned (.tuple #[.agg #[.string ⟨pf.af.toArray⟩,.int .i64 pf.time,.int .i64 pf.count],.bool dq])∧(FX w w' hb g base T fv ro rr po pr dp dB M now w.heap.size (q.cells v u)∧J w'∧Live w' (w.heap.size+1) 7)∧w'.rangeAt (w.heap.size+1) 0 tk.cells∧W5.heap.size≤w'.heap.size):=(WC _ (oM.out _ _ CW.out (dA (World.grownBy.refl _ _))).1).mono fun _ _ ⟨a,c⟩=>⟨a,Lx.out _ _ CW.out c.bM,HTs.out _ _ CW.out HT.out c.bM,c.size⟩
          have Zn:Hid (Calls Tryz.prog 134 #[ro,.int .u64 (UInt64.toNat tk.aU:Int),u] ((W5.alloc (.cells #[.string ⟨#[]⟩,.int .i64 0,.int .i64 0] 92)).drew) fun e w'=>e = .returned (.tuple #[.agg #[.string ⟨pf.af.toArray⟩,.int .i64 pf.time,.int .i64 pf.count],.bool dq])∧(FX w w' hb g base T fv ro rr po pr dp dB M now w.heap.size (q.cells v u)∧J w'∧Live w' (w.heap.size+1) 7)∧w'.rangeAt (w.heap.size+1) 0 tk.cells∧Live w' W5.heap.size 3):=(WC _ (oM.out _ _ CW.out (dA (World.grownBy_alloc _ _ none))).1).mono fun _ _ ⟨a,c⟩=>⟨a,Lx.out _ _ (oM.out _ _ CW.out (World.grownBy_alloc _ _ none)) c.bM,HTs.out _ _ (oM.out _ _ CW.out (World.grownBy_alloc _ _ none)) (fH HT.out (World.grownBy_alloc _ _ none)) c.bM,(Live.new W5 #[.string ⟨#[]⟩,.int .i64 0,.int .i64 0] _).cf c.bM⟩
          clear WC
          have ga:=World.grownBy_alloc W5 (.cells #[.string ⟨#[]⟩,.int .i64 0,.int .i64 0] 92) none
          have x1:=ga.cell c1 (by simp)
          have x3:=ga.cell k3 (by simp)
          have xs:=ga.cell ts (by simp)
          clear ga
          go_region_held3 (fun w'=>w'.cell? ⟨hb,1,none⟩=some ro∧w'.cell? ⟨w.heap.size,3,none⟩=some u∧w'.cell? ⟨w.heap.size+1,1,none⟩=some (.int .u64 (tk.aU.toNat:Int))) (go_keep) (first
           | (go_at_call 134;(with_reducible apply Calls.mono Zm.out);rintro r w6 ⟨rfl,a6,t6,z6⟩;have Tz:=hid a6;have OE:=hid t6;have HZ6:=hid z6;have y1:=Tz.out.1.hear.c1;have y3:=Tz.out.1.ask 3 _ rfl;have ys:w6.cell? ⟨w.heap.size+1,1,none⟩=some (.int .u64 (tk.aU.toNat:Int)):=t6 1 _ rfl;clear a6 t6 z6;have g2:=World.grownBy_alloc w6 (.cells #[.string ⟨#[]⟩,.int .i64 0,.int .i64 0] 92) none;have yz1:=g2.cell y1 (by simp);have yz3:=g2.cell y3 (by simp);have yzs:=g2.cell ys (by simp);have g3:=World.grownBy_alloc w6 (.cells #[.string ⟨pf.af.toArray⟩,.int .i64 pf.time,.int .i64 pf.count] 92) none;have yv1:=g3.cell y1 (by simp);have yv3:=g3.cell y3 (by simp);have yvs:=g3.cell ys (by simp);clear g2 g3)
           | (go_at_call 134;(with_reducible apply Calls.mono Zn.out);rintro r w6 ⟨rfl,a6,t6,l6⟩;have Tz:=hid a6;have OE:=hid t6;have HL6:=hid l6;have y1:=Tz.out.1.hear.c1;have y3:=Tz.out.1.ask 3 _ rfl;have ys:w6.cell? ⟨w.heap.size+1,1,none⟩=some (.int .u64 (tk.aU.toNat:Int)):=t6 1 _ rfl;obtain ⟨d0,q0⟩:=Option.isSome_iff_exists.1 (l6.some 0 (by decide));obtain ⟨d1,q1⟩:=Option.isSome_iff_exists.1 (l6.some 1 (by decide));obtain ⟨d2,q2⟩:=Option.isSome_iff_exists.1 (l6.some 2 (by decide));have f0:=l6.frozen 0;have f1:=l6.frozen 1;have f2:=l6.frozen 2;clear a6 t6 l6))
          all_goals go_wp2
          all_goals go_meet
          ·exact ⟨_,rfl,(by have:=HZ6.out;omega),rfl,(bI.new _ _ _).range,fH OE.out (World.grownBy_alloc _ _ none),oM.out _ _ Tz.out (World.grownBy_alloc _ _ none)⟩
          ·have C7:CF w6 (((w6.setCell ⟨W5.heap.size,0,none⟩ (.string ⟨pf.af.toArray⟩)).setCell ⟨W5.heap.size,1,none⟩ (.int .i64 pf.time)).setCell ⟨W5.heap.size,2,none⟩ (.int .i64 pf.count)) (fun b _=>b=W5.heap.size):=by
            repeat refine CF.setCell ?_ _ _ _ (fun _=>rfl)
            exact CF.refl _ _
           exact ⟨W5.heap.size,rfl,hb5,rfl,O9 w6 W5.heap.size HL6.out pf,C7.range OE.out (fun _ _ e=>by omega),LC.out _ _ W5.heap.size Tz.out (by omega) C7⟩
         case rest=>
          obtain ⟨pb,rfl,hpb,rfl,hP,hT,hA⟩:=hcut
          have J6:=hid hA
          have HT7:=hid hT
          have I1:=hid hP
          clear hA hT hP CW HT c1 ts k0 k1 k2 k3 k4 k5 k6 k7 k8 WC
          cases dq with
          | false=>
           have Cm:Hid (AR=(.error 31,M)):=by rw[←J5.out];exact O6 uH.out HXF.out HK.out HDT.out (by rw[HTK.out];exact HDQ.out)
           go_wp2_with fail
           go_meet
           exact ⟨_,_,rfl,Cm.out,J6.out.2.2,J6.out.1.dX,J6.out.2.1,J6.out.1.cf.mono (fun _ _ _ e=>.inl e)⟩
          | true=>
           have hR:=S9 (M:=M) (now:=now) uH.out HXF.out HK.out HDT.out HTK.out HDQ.out HPF.out
           rw[J5.out] at hR
           have p0:wc.cell? ⟨pb,0,none⟩=some (.string ⟨pf.af.toArray⟩):=I1.out 0 _ rfl
           have p1:wc.cell? ⟨pb,1,none⟩=some (.int .i64 pf.time):=I1.out 1 _ rfl
           have p2:wc.cell? ⟨pb,2,none⟩=some (.int .i64 pf.count):=I1.out 2 _ rfl
           have r2:wc.cell? ⟨w.heap.size+1,2,none⟩=some (.string ⟨tk.af.toArray⟩):=HT7.out 2 _ rfl
           by_cases hcl:pf.af=tk.af
           ·have hcb:(pf.af==tk.af)=true:=beq_iff_eq.2 hcl
            rw[if_neg (fun n=>n hcl)] at hR
            clear hcl
            by_cases lu:M.ax<fE pf.time now
            ·rw[if_pos lu] at hR
             have Cm:=hid hR
             have HC:=hid (agI.out wc pf J6.out.1 HPI.out lu)
             clear hR lu
             go_wp2_with (first|(go_at_call 135;refine HC.out.mono ?_;clear HC;rintro r w8 ⟨rfl,g8⟩;have HA8:=hid (oM.out _ _ J6.out g8);clear g8))
             go_meet
             exact ⟨_,_,rfl,Cm.out,HA8.out.2.2,HA8.out.1.dX,HA8.out.2.1,HA8.out.1.cf.mono (fun _ _ _ e=>.inl e)⟩
            ·rw[if_neg lu] at hR
             have HC:=hid (acz.out wc pf J6.out.1 HPI.out (Int.not_lt.1 lu))
             have X6:Hid (∀ W',W'.rangeAt g 163 (bH (dx M.ax now M.bK pf))→W'.cell? ⟨g,187,none⟩=some (.int .i64 (dx M.ax now M.bK pf).length)→CF wc W' (fun b y=>b=g∧163≤y∧y<188)→cz W' g 0 dp {M with bK:=dx M.ax now M.bK pf}):=fun W' h1 h2 k=>I5 J6.out.1.dX k h1 h2 (fun q hq e=>(rW.out.IP q hq).1 e) (Bw _ _ _ _ J6.out.1.dX.few)
             have HCf:Hid (∀ W',CF wc W' (fun b y=>b=g∧163≤y∧y<188)→J W'∧CF w W' (fun b y=>Ws po dB b y∨b=g∧163≤y∧y<188)∧Live W' (w.heap.size+1) 7∧W'.rangeAt (w.heap.size+1) 0 tk.cells):=fun W' k=>⟨HST.out _ _ J6.out.2.1 (k.mono (fun b y _ e=>by obtain ⟨rfl,h1,h2⟩:=e;exact rW.out.Wq y h1 h2)),(J6.out.1.cf.mono (fun _ _ _ e=>.inl e)).trans k (fun _ _ _ e=>.inr e),J6.out.2.2.cf k,k.range HT7.out (fun _ _ e=>by have:=HN.out.2;omega)⟩
             obtain ⟨pc,hpc⟩:∃ c,dG M.ax now M.bK pf=c:=⟨_,rfl⟩
             obtain ⟨pn,hpn⟩:∃ l,dx M.ax now M.bK pf=l:=⟨_,rfl⟩
             have F8:=hid (rJ M.ax now M.bK pf)
             rw[hpc] at F8
             rw[hpc,hpn] at HC hR
             rw[hpn] at X6
             clear hpc hpn lu
             by_cases h0:pc=0
             ·subst h0
              rw[if_neg (fun n=>n rfl)] at hR
              have Cm:=hid hR
              clear hR
              go_wp2_with (first|(go_at_call 135;refine HC.out.mono ?_;clear HC;rintro r w8 ⟨rfl,h1,h2,C8⟩;have HD8:=hid (X6.out _ h1 h2 C8);have Pd:=hid (HCf.out _ C8);clear h1 h2 C8;obtain ⟨⟨s0,s1,s2,s3,s4,s5,s6⟩,e0,e1,e2,e3,e4,e5,e6⟩:=Tw Pd.out.2.2.2 Pd.out.2.2.1))
              try rw[Exit.noGoto_ret]
              have C9:=pW w8 (w.heap.size+1) (.int .i64 tk.ay) (.int .u64 (tk.aU.toNat:Int)) (.string ⟨tk.af.toArray⟩) (.int .i64 tk.eH) (.int .i64 tk.start) (.int .i64 tk.fin) (.int .i64 tk.aF)
              refine bodyPost_ret (aD Tryz.results99 _ _ _ (w.heap.size+1) rfl _ (dN (cs:=tk.cells) (D5 w8 (w.heap.size+1) Pd.out.2.2.1 tk) 211 _ Tryz.underlying211 rfl Tryz.gX)) rfl ⟨by rw[Cm.out];rfl,?_,?_,?_⟩
              ·rw[Cm.out]
               exact HD8.out.cf C9 (fun j _ _ e=>by have:=HN.out.2;omega) (fun q hq j _ e=>by have:=(rW.out.IP q hq).2.2.1;omega)
              ·exact HST.out _ _ Pd.out.1 (C9.mono (fun b y _ e=>rW.out.xS b y (by omega)))
              ·exact Pd.out.2.1.trans C9 (fun i _ hi e=>by omega)
             ·rw[if_pos h0] at hR
              have Cm:=hid hR
              clear hR
              rcases F8.out with rfl | rfl | rfl
              ·clear h0 F8
               go_wp2_with (first|(go_at_call 135;refine HC.out.mono ?_;clear HC;rintro r w8 ⟨rfl,h1,h2,C8⟩;have HD8:=hid (X6.out _ h1 h2 C8);have Pd:=hid (HCf.out _ C8);clear h1 h2 C8))
               go_meet
               exact ⟨_,_,rfl,Cm.out,Pd.out.2.2.1,HD8.out,Pd.out.1,Pd.out.2.1⟩
              ·clear h0 F8
               go_wp2_with (first|(go_at_call 135;refine HC.out.mono ?_;clear HC;rintro r w8 ⟨rfl,h1,h2,C8⟩;have HD8:=hid (X6.out _ h1 h2 C8);have Pd:=hid (HCf.out _ C8);clear h1 h2 C8))
               go_meet
               exact ⟨_,_,rfl,Cm.out,Pd.out.2.2.1,HD8.out,Pd.out.1,Pd.out.2.1⟩
              ·exact absurd rfl h0
           ·have hcb:(pf.af==tk.af)=false:=beq_eq_false_iff_ne.2 hcl
            rw[if_pos hcl] at hR
            have Cm:=hid hR
            clear hR
            go_wp2_with fail
            go_meet
            exact ⟨_,_,rfl,Cm.out,J6.out.2.2,J6.out.1.dX,J6.out.2.1,J6.out.1.cf.mono (fun _ _ _ e=>.inl e)⟩
 case rest=>
  obtain ⟨code,M',rfl,hAE,hL,hD,hj,hC⟩:=hcut
  have Cm:=hid hAE
  have HL:=hid hL
  have HD:=hid hD
  have HJ9:=hid hj
  have HC9:=hid hC
  clear hAE hL hD hj hC
  have L7:=Bv HL.out
  obtain ⟨d0,q0⟩:=L7.1 0 (by decide)
  have f0:=L7.2 0
  obtain ⟨d1,q1⟩:=L7.1 1 (by decide)
  have f1:=L7.2 1
  obtain ⟨d2,q2⟩:=L7.1 2 (by decide)
  have f2:=L7.2 2
  obtain ⟨d3,q3⟩:=L7.1 3 (by decide)
  have f3:=L7.2 3
  obtain ⟨d4,q4⟩:=L7.1 4 (by decide)
  have f4:=L7.2 4
  obtain ⟨d5,q5⟩:=L7.1 5 (by decide)
  have f5:=L7.2 5
  obtain ⟨d6,q6⟩:=L7.1 6 (by decide)
  have f6:=L7.2 6
  clear L7
  go_wp2_with fail
  try rw[Exit.noGoto_ret]
  have C9:=pW wc (w.heap.size+1) (.int .i64 0) (.int .u64 0) (.string ⟨#[]⟩) (.int .i64 0) (.int .i64 0) (.int .i64 0) (.int .i64 0)
  refine bodyPost_ret (aD Tryz.results99 _ _ _ (w.heap.size+1) rfl _ (dN (Lv wc (w.heap.size+1) HL.out) 211 _ Tryz.underlying211 rfl Tryz.gX)) rfl ⟨by rw[Cm.out];rfl,?_,?_,?_⟩
  ·rw[Cm.out]
   exact HD.out.cf C9 (fun j _ _ e=>by have:=HN.out.2;omega) (fun q hq j _ e=>by have:=(rW.out.IP q hq).2.2.1;omega)
  ·exact HST.out _ _ HJ9.out (C9.mono (fun b y _ e=>rW.out.xS b y (by omega)))
  ·exact HC9.out.trans C9 (fun i _ hi e=>by omega)
end Go.Proofs.YtpibgolaaaemnaaGreatDoor
namespace Go.Proofs.YtpibgolaaaemnaaGreatDoor
open Go.RowKit
set_option maxRecDepth 100000
theorem WE (now:Int) (q:NQ) (old:TK) (x s:BE):Fj now q old x s=nC now q.dF old x s:=by
 unfold Fj nC lesser
 generalize asked q.dF=a
 generalize aX now x.cO=b
 generalize aX now s.cO=c
 (repeat' split) <;> omega
theorem WG (now:Int) (q:NQ) (old:TK) (x s:BE):Ld now q old x s=lg q.aJ old.ay x s now (lesser (asked q.bQ) old.aF):=by
 unfold Ld lg
 rw[(Bo q.aJ old x s).2]
 have e:(aA q.aJ 4 && aA old.ay 4 && (x.has 2 && s.has 2))=true↔(aA q.aJ 4=true∧aA old.ay 4=true∧x.has 2=true∧s.has 2=true):=by
  simp only[Bool.and_eq_true,and_assoc]
 by_cases h:(aA q.aJ 4 && aA old.ay 4 && (x.has 2 && s.has 2))=true
 ·rw[if_pos h,if_pos (e.1 h)]
  unfold lesser
  generalize asked q.bQ=a
  generalize aX now x.aF=b
  generalize aX now s.aF=c
  (repeat' split) <;> omega
 ·rw[if_neg h,if_neg (fun n=>h (e.2 n))]
theorem Pe {o f:Int} (h:ko o f=true):oG o≤1:=by
 unfold ko at h
 by_cases h1:o<0∨255<o∨aA o 8=true
 ·rw[if_pos h1] at h;cases h
 ·rw[if_neg h1] at h
  by_cases h2:1<oG o∨aA o 32=true∧o≠32
  ·rw[if_pos h2] at h;cases h
  ·by_cases h3:1<oG o
   ·exact absurd (.inl h3) h2
   ·omega
theorem TA {o:Int} (h:oG o≤1):zg o=32↔aA o 32=true:=by
 unfold zg
 unfold oG at h
 generalize aA o 16=b4 at *
 generalize aA o 32=b5 at *
 generalize aA o 64=b6 at *
 generalize aA o 128=b7 at *
 revert h
 revert b4 b5 b6 b7
 decide
theorem TC {o:Int} (h:oG o≤1):zg o=16↔aA o 16=true:=by
 unfold zg
 unfold oG at h
 generalize aA o 16=b4 at *
 generalize aA o 32=b5 at *
 generalize aA o 64=b6 at *
 generalize aA o 128=b7 at *
 revert h
 revert b4 b5 b6 b7
 decide
theorem Bz {now:Int} {q:NQ} {old:TK} {x s:BE} (h:ko q.aJ old.ay=true) :
  (∃ c,lH now q old x s = .error c∧fresh now old x s q.dF q.bQ q.aJ = .error c)∨∃ t t',lH now q old x s = .ok t∧fresh now old x s q.dF q.bQ q.aJ = .ok t'∧∀ a,{t with aU:=a}={t' with aU:=a}:=by
 have hw:=Pe h
 unfold lH fresh
 by_cases h32:aA q.aJ 32=true
 ·rw[if_pos ((TA hw).2 h32),if_pos h32]
  unfold vo
  by_cases hlt:now<old.start
  ·rw[if_pos hlt]
   exact .inl ⟨_,rfl,rfl⟩
  ·rw[if_neg hlt]
   exact .inr ⟨_,_,rfl,rfl,fun _=>rfl⟩
 ·rw[if_neg (fun n=>h32 ((TA hw).1 n)),if_neg h32]
  by_cases h16:aA q.aJ 16=true
  ·rw[if_pos ((TC hw).2 h16),if_pos h16]
   unfold vw
   by_cases hle:old.aF≤now
   ·rw[if_pos hle]
    exact .inl ⟨_,rfl,rfl⟩
   ·rw[if_neg hle]
    exact .inr ⟨_,_,rfl,rfl,fun _=>rfl⟩
  ·rw[if_neg (fun n=>h16 ((TC hw).1 n)),if_neg h16]
   unfold Le
   rw[WE,WG,(Bo q.aJ old x s).1]
   by_cases hle:nC now q.dF old x s≤now
   ·rw[if_pos hle,if_pos hle]
    exact .inl ⟨_,rfl,rfl⟩
   ·rw[if_neg hle,if_neg hle]
    exact .inr ⟨_,_,rfl,rfl,fun _=>rfl⟩
theorem LF {M:DM} {now:Int} {q:NQ} {old:TK} (h:aA old.ay 16=true∧aA q.aJ 32=false∨aX now M.ax<old.start):dJ M now (fV M now q old)=(aL now 33,M):=by
 unfold fV
 rw[if_pos h]
 rfl
theorem Pf {M:DM} {now:Int} {q:NQ} {old:TK} (h:¬ (aA old.ay 16=true∧aA q.aJ 32=false∨aX now M.ax<old.start)) (h2:old.fin<now):dJ M now (fV M now q old)=(aL now 32,M):=by
 unfold fV
 rw[if_neg h,if_pos h2]
 rfl
theorem Pg {M:DM} {now:Int} {q:NQ} {old:TK} {y x:Option BE} (h:¬ (aA old.ay 16=true∧aA q.aJ 32=false∨aX now M.ax<old.start)) (h2:¬ old.fin<now) (hy:BE.find M.aH q.az=y) (hx:BE.find M.aH old.af=x) (hc:dw y x now 7 6 2 1≠0):dJ M now (fV M now q old)=(aL now (dw y x now 7 6 2 1),M):=by
 unfold fV
 rw[if_neg h,if_neg h2,hy,hx]
 cases y with
 | none=>rfl
 | some s=>
  cases x with
  | none=>rfl
  | some e=>
   simp only[]
   rw[if_pos hc]
   rfl
theorem Ph {M:DM} {now:Int} {q:NQ} {old:TK} {s e:BE} (h:¬ (aA old.ay 16=true∧aA q.aJ 32=false∨aX now M.ax<old.start)) (h2:¬ old.fin<now) (hy:BE.find M.aH q.az=some s) (hx:BE.find M.aH old.af=some e) (hc:dw (some s) (some e) now 7 6 2 1=0) (ho:ko q.aJ old.ay=false):dJ M now (fV M now q old)=(aL now 13,M):=by
 unfold fV
 rw[if_neg h,if_neg h2,hy,hx]
 simp only[]
 rw[if_neg (fun n=>n hc),if_pos ho]
 rfl
theorem TD {M:DM} {now c:Int} {q:NQ} {old:TK} {s e:BE} (h:¬ (aA old.ay 16=true∧aA q.aJ 32=false∨aX now M.ax<old.start)) (h2:¬ old.fin<now) (hy:BE.find M.aH q.az=some s) (hx:BE.find M.aH old.af=some e) (hc:dw (some s) (some e) now 7 6 2 1=0) (ho:ko q.aJ old.ay=true) (hg:lH now q old e s = .error c):dJ M now (fV M now q old)=(aL now c,M):=by
 unfold fV
 rw[if_neg h,if_neg h2,hy,hx]
 simp only[]
 rw[if_neg (fun n=>n hc),if_neg (by rw[ho];decide)]
 rcases Bz (now:=now) (x:=e) (s:=s) ho with ⟨c',h3,h4⟩ | ⟨t,t',h3,_,_⟩
 ·rw[hg] at h3
  injection h3 with h3
  subst h3
  rw[h4]
  rfl
 ·rw[hg] at h3
  cases h3
theorem WH {M:DM} {now:Int} {q:NQ} {old t:TK} {s e:BE} (h:¬ (aA old.ay 16=true∧aA q.aJ 32=false∨aX now M.ax<old.start)) (h2:¬ old.fin<now) (hy:BE.find M.aH q.az=some s) (hx:BE.find M.aH old.af=some e) (hc:dw (some s) (some e) now 7 6 2 1=0) (ho:ko q.aJ old.ay=true) (hg:lH now q old e s = .ok t):dJ M now (fV M now q old)=if M.aV.length<24 then (aL now 60,M) else (gM 13 {t with aU:=dU M.aV 0} s q.aB 0 old.aU 5 (dU M.aV 1) (dU M.aV 2),{M with aV:=M.aV.drop 24}):=by
 unfold fV
 rw[if_neg h,if_neg h2,hy,hx]
 simp only[]
 rw[if_neg (fun n=>n hc),if_neg (by rw[ho];decide)]
 rcases Bz (now:=now) (x:=e) (s:=s) ho with ⟨c',h3,_⟩ | ⟨t1,t',h3,h4,h5⟩
 ·rw[hg] at h3
  cases h3
 ·rw[hg] at h3
  injection h3 with h3
  subst h3
  rw[h4,h5]
  rfl
end Go.Proofs.YtpibgolaaaemnaaGreatDoor
namespace Go.Proofs.YtpibgolaaaemnaaGreatDoor
open Go.RowKit
set_option maxRecDepth 100000
def exA (g:Nat) (po:Option Pl) (dB:Nat→Nat→Prop) (b y:Nat):Prop:=Ws po dB b y∨b=g∧163≤y∧y<188
structure NX (w W:World) (hb g T:Nat) (fv ro rr:Value) (po pr dp:Option Pl) (dB:Nat→Nat→Prop) (M:DM) (now:Int) (ask old:List Value):Prop where
 hear:vz W hb g T fv ro rr now
 dX:cz W g 0 dp M
 o:Out W ro po []
 r:Out W rr pr []
 ask:W.rangeAt w.heap.size 0 ask
 old:W.rangeAt (w.heap.size+1) 0 old
 made:Live W (w.heap.size+2) 7
 big:w.heap.size≤W.heap.size
 cf:CF w W (exA g po dB)
theorem NX.step {w W W':World} {hb g base T:Nat} {fv rv ro rr:Value} {po pr dp:Option Pl} {J:World→Prop} {dB oK:Nat→Nat→Prop} {M:DM} {es:List BE} {now:Int} {ask old:List Value} (h:NX w W hb g T fv ro rr po pr dp dB M now ask old) (S:HS hb g base T fv rv po pr dp J dB oK es) (k:CF W W' (fun b y=>Ws po dB b y∨w.heap.size+1<b)) (hbase:base≤w.heap.size) (hpo:∀ b y,Pl.has po b y→b<w.heap.size):NX w W' hb g T fv ro rr po pr dp dB M now ask old:=by
 have hb1:=S.hbb
 have hg1:=S.gb
 refine ⟨h.hear.cf k ?_,h.dX.cf k ?_ ?_,h.o.cf k (fun _ _ j hj=>absurd hj (by simp)),h.r.cf k (fun _ _ j hj=>absurd hj (by simp)),k.range h.ask ?_,k.range h.old ?_,h.made.cf k,?_,?_⟩
 ·rintro y ((e | e) | e)
  ·exact S.hbF y e
  ·exact lM S.poH y e
  ·omega
 ·rintro j _ h2 ((e | e) | e)
  ·exact S.XV j (by omega) e
  ·exact S.poG j (by omega) e
  ·omega
 ·rintro q hq j hj ((e | e) | e)
  ·exact ((S.IP q hq).2.2.2 _).1 e
  ·exact ((S.IP q hq).2.2.2 _).2.1 e
  ·have:=(S.IP q hq).2.2.1;omega
 ·rintro j _ ((e | e) | e)
  ·exact S.O3 _ _ (by omega) e
  ·have:=hpo _ _ e;omega
  ·omega
 ·rintro j _ ((e | e) | e)
  ·exact S.O3 _ _ (by omega) e
  ·have:=hpo _ _ e;omega
  ·omega
 ·exact Nat.le_trans h.big k.size
 ·exact h.cf.trans k (fun i o hi e=>by rcases e with e | e;exact .inl e;omega)
structure F9 (J:World→Prop) (w W:World) (hb g T:Nat) (fv ro rr:Value) (po pr dp:Option Pl) (dB:Nat→Nat→Prop) (M:DM) (now:Int) (ask old:List Value):Prop extends NX w W hb g T fv ro rr po pr dp dB M now ask old where
 j:J W
theorem F9.step {w W W':World} {hb g base T:Nat} {fv rv ro rr:Value} {po pr dp:Option Pl} {J:World→Prop} {dB oK:Nat→Nat→Prop} {M:DM} {es:List BE} {now:Int} {ask old:List Value} (h:F9 J w W hb g T fv ro rr po pr dp dB M now ask old) (S:HS hb g base T fv rv po pr dp J dB oK es) (k:CF W W' (fun b y=>Pl.has po b y∨w.heap.size+1<b)) (hbase:base≤w.heap.size) (hpo:∀ b y,Pl.has po b y→b<w.heap.size):F9 J w W' hb g T fv ro rr po pr dp dB M now ask old:=
 ⟨h.toNX.step S (k.mono (fun _ _ _ e=>e.elim (fun e=>.inl (.inr e)) .inr)) hbase hpo,S.finds.stay _ _ h.j (k.mono (fun b y _ e=>e.elim (S.poJ b y) (fun e=>S.xS b y (by omega))))⟩
theorem I6 {w W W':World} {hb g base T:Nat} {fv rv v':Value} {po pr dp:Option Pl} {J:World→Prop} {dB oK:Nat→Nat→Prop} {M:DM} {now code:Int} {es:List BE} (hd:cz W g 0 dp M) (hbig:w.heap.size≤W.heap.size) (hcf:CF w W (exA g po dB)) (h:aI W W' v' pr (aL now code)) (S:HS hb g base T fv rv po pr dp J dB oK es) (hj:J W):Fin w W' g po pr dp dB v' (aL now code,M)∧J W':=by
 obtain ⟨p',h1,h2,h3,_⟩:=h
 refine ⟨?_,S.finds.stay _ _ hj (h2.mono (fun b y _ e=>S.prJ b y e))⟩
 refine ⟨⟨p',h1,h3.imp id (fun k=>jK k hbig)⟩,⟨dp,hd.cf h2 (fun j _ hj e=>S.prG j (by omega) e) (fun q hq j _ e=>((S.IP q hq).2.2.2 _).2.2 e),fun q' hq'=>⟨q',hq',rfl⟩⟩,?_⟩
 exact (hcf.mono (fun _ _ _ e=>by rcases e with e | e;exact .inr (.inl e);exact .inl ⟨e.1,.inr e.2⟩)).trans h2 (fun _ _ _ e=>.inr (.inr e))
theorem Pj {M:DM} {now c:Int} {q:NQ} (h:(kL M now q).1 = .error c):c=36∨c=7∨c=44∨c=31∨c=37∨c=34∨c=60:=by
 unfold kL gZ at h
 split at h
 ·rename_i c' hc
  have hcc:c'=c:=by simpa using h
  subst hcc
  split at hc
  ·injection hc with hc;omega
  ·split at hc
   ·injection hc with hc;omega
   ·split at hc
    ·injection hc with hc;omega
    ·split at hc
     ·injection hc with hc;omega
     ·split at hc
      ·injection hc with hc;omega
      ·split at hc
       ·injection hc with hc;omega
       ·split at hc
        ·injection hc with hc;omega
        ·cases hc
 ·rename_i t p _
  by_cases h0:dG M.ax now M.bK p≠0
  ·rw[if_pos h0] at h
   have hcc:dG M.ax now M.bK p=c:=by simpa using h
   rcases rJ M.ax now M.bK p with e | e | e
   ·omega
   ·omega
   ·exact absurd e h0
  ·rw[if_neg h0] at h
   cases h
theorem LG {t:TK} {s:BE} {svc:List UInt8} {aB:Int} {key a b c:UInt64} {rp:RP} (IX:rp=⟨t,svc,s.ag,s.key,0,aB,0,key,0⟩) (hs:s.name=svc):[]++(rp.drawn a b c).rF 13 5=gM 13 {t with aU:=a} s aB 0 key 5 b c:=by
 rw[←RP.Ah,IX,←hs]
 rfl
theorem TE {now:Int} {q:NQ} {old t:TK} {x s:BE} (ho:old.In) (dC:In64 now) (hq:In64 q.dF) (hr:In64 q.bQ) (h:lH now q old x s = .ok t):t.In∧t.af=old.af:=by
 unfold lH at h
 by_cases h32:zg q.aJ=32
 ·rw[if_pos h32] at h
  unfold vo at h
  by_cases hlt:now<old.start
  ·rw[if_pos hlt] at h;cases h
  ·rw[if_neg hlt] at h
   injection h with h
   subst h
   refine ⟨⟨?_,ho.eH,ho.start,ho.fin,ho.aF⟩,rfl⟩
   have e:=Ii old.ay ho.ay
   have i:=mJ old.ay 16
   rw[e] at i
   exact i
 ·rw[if_neg h32] at h
  by_cases h16:zg q.aJ=16
  ·rw[if_pos h16] at h
   unfold vw at h
   by_cases hle:old.aF≤now
   ·rw[if_pos hle] at h;cases h
   ·rw[if_neg hle] at h
    injection h with h
    subst h
    refine ⟨⟨ho.ay,ho.eH,dC,?_,ho.aF⟩,rfl⟩
    show In64 (lesser old.aF (aX now (iN old.fin old.start)))
    have i1:=ho.aF
    have i2:In64 (aX now (iN old.fin old.start)):=sU _
    unfold lesser
    split
    ·exact i1
    ·exact i2
  ·rw[if_neg h16] at h
   unfold Le at h
   by_cases hle:Fj now q old x s≤now
   ·rw[if_pos hle] at h;cases h
   ·rw[if_neg hle] at h
    injection h with h
    subst h
    refine ⟨⟨?_,ho.eH,dC,?_,?_⟩,rfl⟩
    ·show In64 (rG q.aJ old x s)
     rw[(Bo q.aJ old x s).1]
     unfold mq kZ In64
     (repeat' split) <;> omega
    ·show In64 (Fj now q old x s)
     have i1:=ho.fin
     have i2:In64 (lesser (asked q.dF) (lesser (aX now x.cO) (aX now s.cO))):=ow hq
     unfold Fj In64 at *
     omega
    ·show In64 (Ld now q old x s)
     have i1:=ho.aF
     have i2:In64 (lesser (asked q.bQ) (lesser (aX now x.aF) (aX now s.aF))):=ow hr
     unfold Ld
     split
     ·unfold In64 at *
      omega
     ·exact ⟨by decide,by decide⟩
theorem Pk {t:TK} {s:BE} {svc:List UInt8} {aB:Int} {key a b c:UInt64} {rp:RP} (IX:rp=⟨t,svc,s.ag,s.key,0,aB,0,key,0⟩) (ht:t.In) (hn:In64 aB) (hs:s.In) (hsv:s.name=svc) (hc:t.af.length≤1000):(rp.drawn a b c).Fits:=by
 subst IX
 have i:=hs.ag
 refine ⟨ht.ay,ht.eH,ht.start,ht.fin,ht.aF,?_,hn,(show In64 0 from ⟨by decide,by decide⟩),hc,?_⟩
 ·show In64 s.ag
  unfold In64
  omega
 ·show svc.length≤1000
  rw[←hsv]
  exact hs.name
end Go.Proofs.YtpibgolaaaemnaaGreatDoor
