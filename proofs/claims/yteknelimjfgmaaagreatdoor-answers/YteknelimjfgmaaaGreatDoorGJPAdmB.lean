import Derived.Test.YteknelimjfgmaaaGreatDoorGJRPieD
namespace Go.Proofs.YteknelimjfgmaaaGreatDoor
set_option maxHeartbeats 20000000
open Proofs.Tryz Go.RowKit
set_option maxRecDepth 100000
variable {b:Nat} {w:World}
def vE (w:World) (po:Option Pl) (dS:Nat->Nat->Prop) (z:List UInt8) (v:Value):Prop:=
 ∃ ao cap,v = .slice ao z.length cap/\z.length<=cap/\At w ao z/\∀ b off,ao=some ⟨b,off,none⟩->∀ j,j<z.length->¬ Pl.has po b (off+j)/\¬ dS b (off+j)/\b<w.heap.size
theorem kK {q:NQ} {v u:Value} (h:w.rangeAt b 0 (q.cells v u)):w.cell? ⟨b,0,none⟩=some (.string ⟨q.fo.toArray⟩)/\w.cell? ⟨b,1,none⟩=some (.int .i64 q.nD)/\w.cell? ⟨b,2,none⟩=some v/\w.cell? ⟨b,3,none⟩=some u/\w.cell? ⟨b,4,none⟩=some (.string ⟨q.aV.toArray⟩)/\w.cell? ⟨b,5,none⟩=some (.int .i64 q.bS)/\w.cell? ⟨b,6,none⟩=some (.int .i64 q.dJ)/\w.cell? ⟨b,7,none⟩=some (.int .i64 q.bV)/\w.cell? ⟨b,8,none⟩=some (.int .i64 q.aL):=
 ⟨h 0 _ rfl,h 1 _ rfl,h 2 _ rfl,h 3 _ rfl,h 4 _ rfl,h 5 _ rfl,h 6 _ rfl,h 7 _ rfl,h 8 _ rfl⟩
theorem Dl (h:Live w b 7):(∀ j,j<7->∃ d,w.cell? ⟨b,j,none⟩=some d)/\∀ j,w.frozen? ⟨b,j,none⟩=false:=⟨fun j hj=>bw.1 (h.some j hj),fun j=>h.frozen j⟩
theorem FU (w:World) (b:Nat) (h:Live w b 7) (t:TK):(((((((w.setCell ⟨b,0,none⟩ (.int .i64 t.ay)).setCell ⟨b,1,none⟩ (.int .u64 (t.aM.toNat:Int))).setCell ⟨b,2,none⟩ (.string ⟨t.ax.toArray⟩)).setCell ⟨b,3,none⟩ (.int .i64 t.dY)).setCell ⟨b,4,none⟩ (.int .i64 t.start)).setCell ⟨b,5,none⟩ (.int .i64 t.fin)).setCell ⟨b,6,none⟩ (.int .i64 t.aD)).rangeAt b 0 t.cells:=jg [.int .i64 t.ay,.int .u64 (t.aM.toNat:Int),.string ⟨t.ax.toArray⟩,.int .i64 t.dY,.int .i64 t.start,.int .i64 t.fin,.int .i64 t.aD] 0 w b 7 h (bd 7)
theorem Nz (w:World) (b:Nat) (h:Live w b 7):(((((((w.setCell ⟨b,0,none⟩ (.int .i64 0)).setCell ⟨b,1,none⟩ (.int .u64 0)).setCell ⟨b,2,none⟩ (.string ⟨#[]⟩)).setCell ⟨b,3,none⟩ (.int .i64 0)).setCell ⟨b,4,none⟩ (.int .i64 0)).setCell ⟨b,5,none⟩ (.int .i64 0)).setCell ⟨b,6,none⟩ (.int .i64 0)).rangeAt b 0 [.int .i64 0,.int .u64 0,.string ⟨#[]⟩,.int .i64 0,.int .i64 0,.int .i64 0,.int .i64 0]:=jg [.int .i64 0,.int .u64 0,.string ⟨#[]⟩,.int .i64 0,.int .i64 0,.int .i64 0,.int .i64 0] 0 w b 7 h (bd 7)
theorem Q0 (w:World) (b:Nat) (h:Live w b 3) (p:PF):(((w.setCell ⟨b,0,none⟩ (.string ⟨p.ax.toArray⟩)).setCell ⟨b,1,none⟩ (.int .i64 p.time)).setCell ⟨b,2,none⟩ (.int .i64 p.count)).rangeAt b 0 p.bG:=jg [.string ⟨p.ax.toArray⟩,.int .i64 p.time,.int .i64 p.count] 0 w b 3 h (bd 3)
theorem sM (w:World) (b:Nat) (v0 v1 v2 v3 v4 v5 v6:Value):CF w (((((((w.setCell ⟨b,0,none⟩ (v0)).setCell ⟨b,1,none⟩ (v1)).setCell ⟨b,2,none⟩ (v2)).setCell ⟨b,3,none⟩ (v3)).setCell ⟨b,4,none⟩ (v4)).setCell ⟨b,5,none⟩ (v5)).setCell ⟨b,6,none⟩ (v6)) (fun x _=>x=b):=by
 exact ab9
theorem Vl {t:TK} (h:w.rangeAt b 0 t.cells) (hl:Live w b 7):(w.cell? ⟨b,0,none⟩=some (.int .i64 t.ay)/\w.cell? ⟨b,1,none⟩=some (.int .u64 (t.aM.toNat:Int))/\w.cell? ⟨b,2,none⟩=some (.string ⟨t.ax.toArray⟩)/\w.cell? ⟨b,3,none⟩=some (.int .i64 t.dY)/\w.cell? ⟨b,4,none⟩=some (.int .i64 t.start)/\w.cell? ⟨b,5,none⟩=some (.int .i64 t.fin)/\w.cell? ⟨b,6,none⟩=some (.int .i64 t.aD))/\w.frozen? ⟨b,0,none⟩=false/\w.frozen? ⟨b,1,none⟩=false/\w.frozen? ⟨b,2,none⟩=false/\w.frozen? ⟨b,3,none⟩=false/\w.frozen? ⟨b,4,none⟩=false/\w.frozen? ⟨b,5,none⟩=false/\w.frozen? ⟨b,6,none⟩=false:=
 ⟨⟨h 0 _ rfl,h 1 _ rfl,h 2 _ rfl,h 3 _ rfl,h 4 _ rfl,h 5 _ rfl,h 6 _ rfl⟩,hl.frozen 0,hl.frozen 1,hl.frozen 2,hl.frozen 3,hl.frozen 4,hl.frozen 5,hl.frozen 6⟩
theorem uD (aC now:Int) (l:List PF) (p:PF):bL aC now l p=34\/bL aC now l p=60\/bL aC now l p=0:=by
 unfold bL;split
 ·exact .inl rfl
 ·split
  ·exact .inr (.inl rfl)
  ·exact .inr (.inr rfl)
theorem Dm (aC now:Int) (l:List PF) (p:PF) (h:l.length<=8):(bM aC now l p).length<=8:=by
 have h1:(ig aC now l).length<=l.length:=List.length_filter_le _ _;unfold bM bL;by_cases hm:p∈ig aC now l
 ·rw[if_pos hm,if_neg afq];omega
 ·rw[if_neg hm];by_cases h8:8<=(ig aC now l).length
  ·rw[if_pos h8,if_neg afq];omega
  ·rw[if_neg h8,if_pos rfl,bj];simp;omega
theorem KA {W W':World} {g:Nat} {dp:Option Pl} {M:DM} {l:List PF} (h:dO W g 0 dp M) (k:CF W W' (fun b y=>b=g/\163<=y/\y<188)) (h1:W'.rangeAt g 163 (bZ l)) (h2:W'.cell? ⟨g,187,none⟩=some (.int .i64 l.length)) (hd:∀ q,dp=some q->q.g≠g) (h8:l.length<=8):dO W' g 0 dp {M with aN:=l}:=by
 obtain ⟨v,hv,ho⟩:=h.aO;exact ⟨h.live.cf k,k.cell h.aC (fun e=>by omega),⟨v,k.cell hv (fun e=>by omega),ho.cf k (fun q hq j _ e=>hd q hq e.1)⟩,h.bg.cf k (fun j _ h2 e=>by omega),by rw[cC];exact h1,by rw[cC];exact h2,h8⟩
theorem abZ {p:Prop} (h:p:=by
 clear h0 KD
 go_wp2_with (first|(go_at_call 222;refine HC.o.mono ?_;clear HC;rintro r w8 ⟨rfl,h1,h2,C8⟩;have HD8:=hid (ZR.o _ h1 h2 C8);have NF:=hid (HCf.o _ C8);clear h1 h2 C8))
 go_meet
 exact ⟨_,_,rfl,Bc.o,NF.o.2.2.1,HD8.o,NF.o.1,NF.o.2.1⟩):p:=h
theorem adf {p:Prop} (h:p:=by
 go_wp2_with fail
 go_meet
 exact ⟨_,_,rfl,Bc.o,LX.o.2.2,LX.o.1.dF,LX.o.2.1,LX.o.1.cf.mono (fun _ _ _ e=>.inl e)⟩):p:=h
theorem aec {p:Prop} (h:p:=by
 go_meet
 exact ⟨_,_,rfl,Bc.o,IK.o.2.2,IK.o.1.dF,IK.o.2.1,IK.o.1.cf.mono (fun _ _ _ e=>.inl e)⟩):p:=h
theorem Q3 (hb g base T:Nat) (fv rv ro rr:Value) (po pr dp:Option Pl) (J:World->Prop) (dS rP:Nat->Nat->Prop) (M:DM) (now:Int) (q:NQ) (v u:Value) (w:World) (S:HS hb g base T fv rv po pr dp J dS rP M.bg) (h:xE w hb g T fv ro rr now) (hd:dO w g 0 dp M) (hJ:J w) (ho:Out w ro po []) (hr:Out w rr pr []) (hv:vE w po dS q.dQ v) (hu:vE w po dS q.proof u) (dm:In64 now) (zo:∀ y∈M.aN,In64 y.time) (hbase:base<=w.heap.size) :
  Calls prog 185 #[.pointer (some ⟨hb,0,none⟩),.agg (q.cells v u).toArray] w fun e w'=>e = .returned (rC (iq M now q).1)/\dO w' g 0 dp (iq M now q).2/\J w'/\CF w w' (fun b y=>Yx po dS b y\/b=g/\163<=y/\y<188):=by
 have hbb:=S.hbb
 have hgb:=S.gb
 obtain ⟨W0,hW0⟩:=ar ((w.alloc (.cells (q.cells v u).toArray 276)).alloc (.cells jb 333))
 have G0:w.grownBy W0 none:=by rw[hW0];exact aR (aE w _ none) _
 have s0:W0.heap.size=w.heap.size+1+1:=by rw[hW0];simp only[ch]
 have RQ:W0.rangeAt w.heap.size 0 (q.cells v u):=by rw[hW0];exact jR (aW w (q.cells v u).toArray _) (aE _ _ none)
 have LT:Live W0 (w.heap.size+1) 7:=by
  have h:=Live.new (w.alloc (.cells (q.cells v u).toArray 276)) jb 333;rw[ch] at h;rw[hW0];exact h
 have hpo:∀ b y,Pl.has po b y->b<w.heap.size:=fun b y e=>ho.lt e
 have X0:FX w W0 hb g base T fv ro rr po pr dp dS M now w.heap.size (q.cells v u):=⟨h.grown G0,hd.grown G0,ho.grown G0,hr.grown G0,RQ,G0.size,CF.bN G0 _⟩
 have ku:Hid (∀ W W',FX w W hb g base T fv ro rr po pr dp dS M now w.heap.size (q.cells v u)->CF W W' (fun b y=>Yx po dS b y\/w.heap.size<b)->FX w W' hb g base T fv ro rr po pr dp dS M now w.heap.size (q.cells v u)):=fun W W' h k=>h.step S k rfl hbase hpo
 obtain ⟨AR,YD⟩:=aq (iq M now q)
 rw[YD]
 have Vm:=hid YD
 have Vn:Hid (∀ W,Calls prog 218 #[.agg (q.cells v u).toArray] W fun e w'=>e = .returned (.bool (jc q))/\W.grownBy w' none):=fun W=>Df v u q W
 have HST:=hid S.finds.stay
 obtain ⟨x,hx⟩:=aq (BE.find M.bg q.fo)
 have HXF:=hid hx
 have HFd:Hid (∀ W,J W->Calls prog (findF T) #[rv,.string ⟨q.fo.toArray⟩] W fun e w'=>e = .returned (xw x)/\J w'/\CF W w' dS):=fun W hW=>by rw[<-hx];exact S.finds.call W hW q.fo
 have hm:=S.abl
 have rT:Hid (∀ W W',(FX w W hb g base T fv ro rr po pr dp dS M now w.heap.size (q.cells v u)/\J W/\Live W (w.heap.size+1) 7)->W.grownBy W' none->(FX w W' hb g base T fv ro rr po pr dp dS M now w.heap.size (q.cells v u)/\J W'/\Live W' (w.heap.size+1) 7)):=fun W W' h k=>⟨h.1.step S (CF.bN k _) rfl hbase hpo,S.finds.stay _ _ h.2.1 (CF.bN k _),h.2.2.grown k⟩
 have NB:Hid (∀ W W',(FX w W hb g base T fv ro rr po pr dp dS M now w.heap.size (q.cells v u)/\J W/\Live W (w.heap.size+1) 7)->CF W W' (Pl.has po)->(FX w W' hb g base T fv ro rr po pr dp dS M now w.heap.size (q.cells v u)/\J W'/\Live W' (w.heap.size+1) 7)):=fun W W' h k=>⟨h.1.step S (k.mono (fun _ _ _ e=>.inl (.inr e))) rfl hbase hpo,S.finds.stay _ _ h.2.1 (k.mono (fun b y _ e=>S.poJ b y e)),h.2.2.cf k⟩
 have ND:Hid (∀ W W' X,(FX w W hb g base T fv ro rr po pr dp dS M now w.heap.size (q.cells v u)/\J W/\Live W (w.heap.size+1) 7)->w.heap.size<X->CF W W' (fun b _=>b=X)->(FX w W' hb g base T fv ro rr po pr dp dS M now w.heap.size (q.cells v u)/\J W'/\Live W' (w.heap.size+1) 7)):=fun W W' X h hX k=>⟨h.1.step S (k.mono (fun b _ _ e=>.inr afp)) rfl hbase hpo,S.finds.stay _ _ h.2.1 (k.mono (fun b y _ e=>S.zL b y afp)),h.2.2.cf k⟩
 have zM:Hid (∀ W W',(FX w W hb g base T fv ro rr po pr dp dS M now w.heap.size (q.cells v u)/\J W/\Live W (w.heap.size+1) 7)->CF W W' dS->J W'->(FX w W' hb g base T fv ro rr po pr dp dS M now w.heap.size (q.cells v u)/\J W'/\Live W' (w.heap.size+1) 7)):=fun W W' h k hJ'=>⟨h.1.step S (k.mono (fun _ _ _ e=>.inl (.inl e))) rfl hbase hpo,hJ',h.2.2.cf k⟩
 have YE:Hid (∀ W key,FX w W hb g base T fv ro rr po pr dp dS M now w.heap.size (q.cells v u)->Calls prog 220 #[ro,.int .u64 (UInt64.toNat key:Int),v] W fun e w'=>e = .returned (.tuple #[.agg (QJ (dD key 2 q.dQ)).cells.toArray,.bool (gK (M4 (dD key 2 q.dQ)))])/\CF W w' (Pl.has po)):=by
  intro W key X;obtain ⟨ao,cap,rfl,h2,h3,h4⟩:=hv;exact Hw ro po [] key ao q.dQ q.dQ.length cap W X.o (hid rfl) h2 (h3.cf X.cf (fun b off e j hj n=>by rcases n with n | n;exact (h4 b off e j hj).2.1 n;exact (h4 b off e j hj).1 n)) (fun b off e j hj=>(h4 b off e j hj).1)
 have HPf:Hid (∀ W key,FX w W hb g base T fv ro rr po pr dp dS M now w.heap.size (q.cells v u)->Calls prog 221 #[ro,.int .u64 (UInt64.toNat key:Int),u] W fun e w'=>e = .returned (.tuple #[.agg (Sk (dD key 4 q.proof)).bG.toArray,.bool (gK (OQ (dD key 4 q.proof)))])/\CF W w' (Pl.has po)):=by
  intro W key X;obtain ⟨ao,cap,rfl,h2,h3,h4⟩:=hu;exact Kz ro po [] key ao q.proof q.proof.length cap W X.o (hid rfl) h2 (h3.cf X.cf (fun b off e j hj n=>by rcases n with n | n;exact (h4 b off e j hj).2.1 n;exact (h4 b off e j hj).1 n)) (fun b off e j hj=>(h4 b off e j hj).1)
 have aiT:Hid (∀ (W:World) (p:PF),FX w W hb g base T fv ro rr po pr dp dS M now w.heap.size (q.cells v u)->In64 p.time->M.aC<dM p.time now->Calls prog 222 #[.pointer (some ⟨hb,0,none⟩),.agg p.bG.toArray] W fun e w'=>e = .returned (.int .i64 37)/\W.grownBy w' none):=fun W p X h1 h2=>Ct hb g now M.aC p W X.hear.c3 X.hear.c4 X.dF.aC dm h1 h2
 have ae0:Hid (∀ (W:World) (p:PF),FX w W hb g base T fv ro rr po pr dp dS M now w.heap.size (q.cells v u)->In64 p.time->¬ M.aC<dM p.time now->Calls prog 222 #[.pointer (some ⟨hb,0,none⟩),.agg p.bG.toArray] W fun e w'=>e = .returned (.int .i64 (bL M.aC now M.aN p))/\w'.rangeAt g 163 (bZ (bM M.aC now M.aN p))/\w'.cell? ⟨g,187,none⟩=some (.int .i64 (bM M.aC now M.aN p).length)/\CF W w' (fun b y=>b=g/\163<=y/\y<188)):=fun W p X h1 h2=>by
  have hD:=X.dF;have e1:=hD.aN;have e2:=hD.count;rw[cC] at e1 e2;exact AO hb g now M.aC M.aN p W X.hear.c3 X.hear.c4 hD.aC S.hbg dm h1 zo hD.few (by have:=hD.live;rwa [cC] at this) e1 e2 h2
 have uK:=hid S
 have HX0:=hid X0
 have HJ:=hid hJ
 have HLT:=hid LT
 have uH:=hid G0
 have HW0:=hid hW0
 have OJ:=hid hpo
 have HN:Hid (hb<w.heap.size/\g<w.heap.size):=⟨by omega,by omega⟩
 clear hx YD S h hd hJ ho hr hv hu dm zo hW0 G0 RQ LT X0 hpo s0
 have hcf:=Ai T
 go_enter func185,ntmps185
 go_wp2_with (rw[<-HW0.o];fail_if_success done)
 go_step3
 go_wp2_with fail
 go_step3
 go_upto_block 0 with fail
 go_cut [5] (fun c wx=>∃ code M',c = .int .i64 code/\AR=(.error code,M')/\Live wx (w.heap.size+1) 7/\dO wx g 0 dp M'/\J wx/\CF w wx (fun b y=>Yx po dS b y\/b=g/\163<=y/\y<188))
 case first=>
  have ZT:(FX w W0 hb g base T fv ro rr po pr dp dS M now w.heap.size (q.cells v u)/\J W0/\Live W0 (w.heap.size+1) 7):=⟨HX0.o,HST.o _ _ HJ.o (CF.bN uH.o _),HLT.o⟩
  have XM:=hid ZT;clear ZT;obtain ⟨k0,k1,k2,k3,k4,k5,k6,k7,k8⟩:=kK HX0.o.ask;go_upto_region 2 with fail
  go_cut [18] (fun c wx=>c = .bool (!decide (q.fo=[116,103,115]) && !jc q)/\(FX w wx hb g base T fv ro rr po pr dp dS M now w.heap.size (q.cells v u)/\J wx/\Live wx (w.heap.size+1) 7))
  case first=>
   by_cases hts:q.fo=[116,103,115]
   ·have htb:(q.fo==[116,103,115])=true:=cL.2 hts;have Hts:=hid hts;clear hts;go_wp2_with fail;go_meet;exact ⟨by rw[cH Hts.o];rfl,XM.o⟩
   ·have htb:(q.fo==[116,103,115])=false:=cg.2 hts;obtain ⟨sb,hsb⟩:=aq (jc q);rw[hsb] at Vn;go_wp2_with (first|(go_at_call 218;refine (Vn.o _).mono ?_;clear Vn;rintro r w1 ⟨rfl,g1⟩;have jC:=hid g1;clear g1))
    go_meet;exact ⟨by rw[cA hts,hsb];rfl,rT.o _ _ XM.o jC.o⟩
  case rest=>
   obtain ⟨rfl,x91⟩:=hcut;have HA1:=hid x91;clear x91;clear  XM k0 k1 k2 k3 k4 k5 k6 k7 k8;by_cases hok:¬ (q.fo=[116,103,115]\/jc q=true)
   ·have Bc:Hid (AR=(.error 36,M)):=(by rw[<-Vm.o];exact Kw (fun e=>hok (.inl e)) (by cases h:jc q with | false=>rfl | true=>exact absurd (.inr h) hok));have e1:(!decide (q.fo=[116,103,115]) && !jc q)=true:=by
     cases h:jc q with
     | true=>exact absurd (.inr h) hok
     | false=>rw[cA (fun e=>hok (.inl e))];rfl
    rw[e1];clear e1;go_wp2_with fail;go_meet;exact ⟨_,_,rfl,Bc.o,HA1.o.2.2,HA1.o.1.dF,HA1.o.2.1,HA1.o.1.cf.mono (fun _ _ _ e=>.inl e)⟩
   ·have hok:=Classical.not_not.1 hok;have e1:(!decide (q.fo=[116,103,115]) && !jc q)=false:=by
     rcases hok with h | h
     ·rw[cH h];rfl
     ·rw[h];simp
    rw[e1];have oW:=hid hok;clear e1 hok;obtain ⟨k0,k1,k2,k3,k4,k5,k6,k7,k8⟩:=kK HA1.o.1.ask;go_wp2_with fail;obtain ⟨v0,v1,v2,v3,v4,v5,v6,v7,hv8⟩:=iZ x;have HV8:=hid hv8;have hF2:=HFd.o;unfold xw at hF2;rw[hv8] at hF2;obtain ⟨bx,hbx⟩:=aq x.isSome;rw[hbx] at hF2;have YF:=hid hF2;have HBX:=hid hbx;clear hbx hv8 hF2;have c0:=HA1.o.1.hear.c0;obtain ⟨W1,hW1⟩:=ar wc;rw[<-hW1] at HA1 c0 k0 k1 k2 k3 k4 k5 k6 k7 k8;rw[<-hW1];clear hW1;go_cut [6,7] (fun p c wx=>∃ eb,p = .pointer (some ⟨eb,0,none⟩)/\w.heap.size+1<eb/\c = .bool bx/\wx.rangeAt eb 0 (tQ x)/\(FX w wx hb g base T fv ro rr po pr dp dS M now w.heap.size (q.cells v u)/\J wx/\Live wx (w.heap.size+1) 7))
    case first=>
     have hb1:w.heap.size+1<W1.heap.size:=HA1.o.2.2.lt;have na:w.heap.size≠W1.heap.size:=(by omega);have nb:hb≠W1.heap.size:=(by have:=HN.o.1;omega);have na':W1.heap.size≠w.heap.size:=fun e=>na e.symm;have nb':W1.heap.size≠hb:=fun e=>nb e.symm;have HKa:Hid (Calls prog (findF T) #[rv,.string ⟨q.fo.toArray⟩] W1.drew fun e w'=>e = .returned (.tuple #[.agg #[.string v0,.int .i64 v1,.int .u64 v2,.int .u64 v3,.int .i64 v4,.int .i64 v5,.int .i64 v6,.int .i64 v7],.bool bx])/\(FX w w' hb g base T fv ro rr po pr dp dS M now w.heap.size (q.cells v u)/\J w'/\Live w' (w.heap.size+1) 7)/\W1.heap.size<=w'.heap.size):=(YF.o _ (HST.o _ _ HA1.o.2.1 (CF.bN (bD (bh _ _)) _))).mono fun _ _ ⟨a,b,c⟩=>⟨a,zM.o _ _ HA1.o c.dG b,c.size⟩
     have QX:Hid (Calls prog (findF T) #[rv,.string ⟨q.fo.toArray⟩] ((W1.alloc (.cells #[.string ⟨#[]⟩,.int .i64 0,.int .u64 0,.int .u64 0,.int .i64 0,.int .i64 0,.int .i64 0,.int .i64 0] 126)).drew) fun e w'=>e = .returned (.tuple #[.agg #[.string v0,.int .i64 v1,.int .u64 v2,.int .u64 v3,.int .i64 v4,.int .i64 v5,.int .i64 v6,.int .i64 v7],.bool bx])/\(FX w w' hb g base T fv ro rr po pr dp dS M now w.heap.size (q.cells v u)/\J w'/\Live w' (w.heap.size+1) 7)/\Live w' W1.heap.size 8):=(YF.o _ (HST.o _ _ HA1.o.2.1 (CF.bN (bD (aE _ _ none)) _))).mono fun _ _ ⟨a,b,c⟩=>⟨a,zM.o _ _ (rT.o _ _ HA1.o (aE _ _ none)) c.dG b,(Live.new W1 #[.string ⟨#[]⟩,.int .i64 0,.int .u64 0,.int .u64 0,.int .i64 0,.int .i64 0,.int .i64 0,.int .i64 0] _).cf c.dG⟩
     clear YF;have ga:=aE W1 (.cells #[.string ⟨#[]⟩,.int .i64 0,.int .u64 0,.int .u64 0,.int .i64 0,.int .i64 0,.int .i64 0,.int .i64 0] 126) none;have x0:=ga.cell k0 aft;have xc:=ga.cell c0 aft;clear ga
     go_region_held3 (fun w'=>w'.cell? ⟨hb,0,none⟩=some (.iface T fv)/\w'.cell? ⟨w.heap.size,0,none⟩=some (.string ⟨q.fo.toArray⟩)) (go_keep) (first
      | ((with_reducible show Calls _ (findF T) _ _ _);(with_reducible apply Calls.mono HKa.o);rintro r w2 ⟨rfl,a2,z2⟩;have HA2:=hid a2;have HZ2:=hid z2;clear a2 z2;have y0:=HA2.o.1.ask 0 _ rfl;have yc:=HA2.o.1.hear.c0;have g2:=aE w2 (.cells #[.string ⟨#[]⟩,.int .i64 0,.int .u64 0,.int .u64 0,.int .i64 0,.int .i64 0,.int .i64 0,.int .i64 0] 126) none;have yz0:=g2.cell y0 aft;have yzc:=g2.cell yc aft;have g3:=aE w2 (.cells #[.string v0,.int .i64 v1,.int .u64 v2,.int .u64 v3,.int .i64 v4,.int .i64 v5,.int .i64 v6,.int .i64 v7] 126) none;have yv0:=g3.cell y0 aft;have yvc:=g3.cell yc aft;clear g2 g3)
      | ((with_reducible show Calls _ (findF T) _ _ _);(with_reducible apply Calls.mono QX.o);rintro r w2 ⟨rfl,a2,l2⟩;have HA2:=hid a2;have HL2:=hid l2;clear a2 l2;have y0:=HA2.o.1.ask 0 _ rfl;have yc:=HA2.o.1.hear.c0;obtain ⟨⟨d0,q0⟩,⟨d1,q1⟩,⟨d2,q2⟩,⟨d3,q3⟩,⟨d4,q4⟩,⟨d5,q5⟩,⟨d6,q6⟩,⟨d7,q7⟩,f0,f1,f2,f3,f4,f5,f6,f7⟩:=nI HL2.o))
     all_goals go_wp2
     all_goals go_meet
     ·exact ⟨_,rfl,(by have:=HZ2.o;omega),rfl,by rw[HV8.o];exact (dX.new _ _ _).range,rT.o _ _ HA2.o (aE _ _ none)⟩
     ·refine ⟨W1.heap.size,rfl,hb1,rfl,by rw[HV8.o];exact oD _ _ _ _ _ _ _ _ _ _ q0 q1 q2 q3 q4 q5 q6 q7,ND.o _ _ W1.heap.size HA2.o afp ?_⟩;exact ab9
    case rest=>
     obtain ⟨eb,rfl,heb,rfl,x91,x92⟩:=hcut;have IK:=hid x92;clear x92;have HE:=hid x91;clear x91;clear  HA1 c0 k0 k1 k2 k3 k4 k5 k6 k7 k8 YF HFd;obtain ⟨k0,k1,k2,k3,k4,k5,k6,k7,k8⟩:=kK IK.o.1.ask;cases x with
     | none=>
      obtain rfl:bx=false:=HBX.o.symm;have Bc:Hid (AR=(.error 7,M)):=(by rw[<-Vm.o];exact Ky oW.o HXF.o);go_wp2_with fail;exact aec
     | some e=>
      obtain rfl:bx=true:=HBX.o.symm;have hin:=uK.o.rQ e (lF HXF.o);have hKo:=Qx eb 0 e q.nD wc (HE.o 1 _ rfl) (HE.o 2 _ rfl) (HE.o 3 _ rfl) hin.aH.1 (by have:=hin.aH.2;omega);have HKo:=hid hKo;clear hKo hin HV8;cases hk:e.keyOf q.nD with
      | none=>
       rw[hk] at HKo;have Bc:Hid (AR=(.error 44,M)):=(by rw[<-Vm.o];exact Pe oW.o HXF.o hk);clear hk;go_wp2_with (first|(go_at_call 219;refine HKo.o.mono ?_;clear HKo;rintro r w4 ⟨rfl,rfl⟩))
       exact aec
      | some key=>
       rw[hk] at HKo;have HK:=hid hk;clear hk;go_wp2_with (first|(go_at_call 219;refine HKo.o.mono ?_;clear HKo;rintro r w4 ⟨rfl,rfl⟩))
       have nh:w.heap.size+1≠hb:=(by have:=HN.o.1;omega);obtain ⟨tk,htk⟩:=aq (QJ (dD key 2 q.dQ));obtain ⟨dt,hdt⟩:=aq (gK (M4 (dD key 2 q.dQ)));have abH:=fun W=>YE.o W key;rw[htk,hdt] at abH;have ae1:Hid (∀ W,FX w W hb g base T fv ro rr po pr dp dS M now w.heap.size (q.cells v u)->Calls prog 220 #[ro,.int .u64 (UInt64.toNat key:Int),v] W fun e w'=>e = .returned (.tuple #[.agg #[.int .i64 tk.ay,.int .u64 (tk.aM.toNat:Int),.string ⟨tk.ax.toArray⟩,.int .i64 tk.dY,.int .i64 tk.start,.int .i64 tk.fin,.int .i64 tk.aD],.bool dt])/\CF W w' (Pl.has po)):=abH;have HTK:=hid htk;have HDT:=hid hdt;have c1:=IK.o.1.hear.c1;clear abH htk hdt HE YE;obtain ⟨W3,hW3⟩:=ar w4;rw[<-hW3] at IK c1 k0 k1 k2 k3 k4 k5 k6 k7 k8;rw[<-hW3];clear hW3;go_cut [7] (fun c wx=>c = .bool dt/\wx.rangeAt (w.heap.size+1) 0 tk.cells/\(FX w wx hb g base T fv ro rr po pr dp dS M now w.heap.size (q.cells v u)/\J wx/\Live wx (w.heap.size+1) 7))
       case first=>
        have HXd:=hid (rT.o _ _ IK.o (bD (bh _ _))).1
        go_region_held3 (fun w'=>w'.cell? ⟨hb,1,none⟩=some ro/\w'.cell? ⟨w.heap.size,2,none⟩=some v) (go_keep) (first
         | (go_at_call 220;refine (ae1.o _ HXd.o).mono ?_;rintro r w5 ⟨rfl,C5⟩;have ui:=hid (NB.o _ _ IK.o C5.dG);clear C5;have y1:=ui.o.1.hear.c1;have y2:=ui.o.1.ask 2 _ rfl;have L7:=Dl ui.o.2.2;obtain ⟨d0,q0⟩:=L7.1 0 afq;have f0:=L7.2 0;obtain ⟨d1,q1⟩:=L7.1 1 afq;have f1:=L7.2 1;obtain ⟨d2,q2⟩:=L7.1 2 afq;have f2:=L7.2 2;obtain ⟨d3,q3⟩:=L7.1 3 afq;have f3:=L7.2 3;obtain ⟨d4,q4⟩:=L7.1 4 afq;have f4:=L7.2 4;obtain ⟨d5,q5⟩:=L7.1 5 afq;have f5:=L7.2 5;obtain ⟨d6,q6⟩:=L7.1 6 afq;have f6:=L7.2 6;clear L7))
        go_wp2;go_meet;exact ⟨rfl,FU w5 (w.heap.size+1) ui.o.2.2 tk,ND.o _ _ (w.heap.size+1) ui.o afp (sM w5 (w.heap.size+1) _ _ _ _ _ _ _)⟩
       case rest=>
        obtain ⟨rfl,x91,x92⟩:=hcut;have ui:=hid x92;clear x92;have HT:=hid x91;clear x91;clear  IK c1 k0 k1 k2 k3 k4 k5 k6 k7 k8 ae1;obtain ⟨k0,k1,k2,k3,k4,k5,k6,k7,k8⟩:=kK ui.o.1.ask;cases dt with
        | false=>
         have Bc:Hid (AR=(.error 31,M)):=(by rw[<-Vm.o];exact Ny oW.o HXF.o HK.o HDT.o);go_wp2_with fail;go_meet;exact ⟨_,_,rfl,Bc.o,ui.o.2.2,ui.o.1.dF,ui.o.2.1,ui.o.1.cf.mono (fun _ _ _ e=>.inl e)⟩
        | true=>
         obtain ⟨pf,FV⟩:=aq (Sk (dD tk.aM 4 q.proof));obtain ⟨dq,hdq⟩:=aq (gK (OQ (dD tk.aM 4 q.proof)));have abI:=fun W=>HPf.o W tk.aM;rw[FV,hdq] at abI;have YG:∀ W,FX w W hb g base T fv ro rr po pr dp dS M now w.heap.size (q.cells v u)->Calls prog 221 #[ro,.int .u64 (UInt64.toNat tk.aM:Int),u] W fun e w'=>e = .returned (.tuple #[.agg #[.string ⟨pf.ax.toArray⟩,.int .i64 pf.time,.int .i64 pf.count],.bool dq])/\CF W w' (Pl.has po):=abI;have HPI:Hid (In64 pf.time):=(by rw[<-FV];exact Vh _);have HPF:=hid FV;have HDQ:=hid hdq;have c1:=ui.o.1.hear.c1;have ts:wc.cell? ⟨w.heap.size+1,1,none⟩=some (.int .u64 (tk.aM.toNat:Int)):=HT.o 1 _ rfl;clear abI FV hdq HPf;go_wp2_with fail;obtain ⟨W5,hW5⟩:=ar wc;rw[<-hW5] at ui HT c1 ts k0 k1 k2 k3 k4 k5 k6 k7 k8;rw[<-hW5];clear hW5;go_cut [9,7] (fun p c wx=>∃ pb,p = .pointer (some ⟨pb,0,none⟩)/\w.heap.size+1<pb/\c = .bool dq/\wx.rangeAt pb 0 pf.bG/\wx.rangeAt (w.heap.size+1) 0 tk.cells/\(FX w wx hb g base T fv ro rr po pr dp dS M now w.heap.size (q.cells v u)/\J wx/\Live wx (w.heap.size+1) 7))
         case first=>
          have hb5:w.heap.size+1<W5.heap.size:=ui.o.2.2.lt;have na:w.heap.size≠W5.heap.size:=(by omega);have nb:hb≠W5.heap.size:=(by have:=HN.o.1;omega);have nc:w.heap.size+1≠W5.heap.size:=(by omega);have na':W5.heap.size≠w.heap.size:=fun e=>na e.symm;have nb':W5.heap.size≠hb:=fun e=>nb e.symm;have nc':W5.heap.size≠w.heap.size+1:=fun e=>nc e.symm;have HTs:Hid (∀ W W',(FX w W hb g base T fv ro rr po pr dp dS M now w.heap.size (q.cells v u)/\J W/\Live W (w.heap.size+1) 7)->W.rangeAt (w.heap.size+1) 0 tk.cells->CF W W' (Pl.has po)->W'.rangeAt (w.heap.size+1) 0 tk.cells):=fun W W' _ h k=>k.range h (fun _ _ e=>by have:=OJ.o _ _ e;omega);have HKa:Hid (Calls prog 221 #[ro,.int .u64 (UInt64.toNat tk.aM:Int),u] W5.drew fun e w'=>e = .returned (.tuple #[.agg #[.string ⟨pf.ax.toArray⟩,.int .i64 pf.time,.int .i64 pf.count],.bool dq])/\(FX w w' hb g base T fv ro rr po pr dp dS M now w.heap.size (q.cells v u)/\J w'/\Live w' (w.heap.size+1) 7)/\w'.rangeAt (w.heap.size+1) 0 tk.cells/\W5.heap.size<=w'.heap.size):=(YG _ (rT.o _ _ ui.o (bD (bh _ _))).1).mono fun _ _ ⟨a,c⟩=>⟨a,NB.o _ _ ui.o c.dG,HTs.o _ _ ui.o HT.o c.dG,c.size⟩
          have QX:Hid (Calls prog 221 #[ro,.int .u64 (UInt64.toNat tk.aM:Int),u] ((W5.alloc (.cells #[.string ⟨#[]⟩,.int .i64 0,.int .i64 0] 131)).drew) fun e w'=>e = .returned (.tuple #[.agg #[.string ⟨pf.ax.toArray⟩,.int .i64 pf.time,.int .i64 pf.count],.bool dq])/\(FX w w' hb g base T fv ro rr po pr dp dS M now w.heap.size (q.cells v u)/\J w'/\Live w' (w.heap.size+1) 7)/\w'.rangeAt (w.heap.size+1) 0 tk.cells/\Live w' W5.heap.size 3):=(YG _ (rT.o _ _ ui.o (bD (aE _ _ none))).1).mono fun _ _ ⟨a,c⟩=>⟨a,NB.o _ _ (rT.o _ _ ui.o (aE _ _ none)) c.dG,HTs.o _ _ (rT.o _ _ ui.o (aE _ _ none)) (jR HT.o (aE _ _ none)) c.dG,(Live.new W5 #[.string ⟨#[]⟩,.int .i64 0,.int .i64 0] _).cf c.dG⟩
          clear YG;have ga:=aE W5 (.cells #[.string ⟨#[]⟩,.int .i64 0,.int .i64 0] 131) none;have x1:=ga.cell c1 aft;have x3:=ga.cell k3 aft;have xs:=ga.cell ts aft;clear ga
          go_region_held3 (fun w'=>w'.cell? ⟨hb,1,none⟩=some ro/\w'.cell? ⟨w.heap.size,3,none⟩=some u/\w'.cell? ⟨w.heap.size+1,1,none⟩=some (.int .u64 (tk.aM.toNat:Int))) (go_keep) (first
           | (go_at_call 221;(with_reducible apply Calls.mono HKa.o);rintro r w6 ⟨rfl,a6,t6,z6⟩;have Q4:=hid a6;have LM:=hid t6;have HZ6:=hid z6;have y1:=Q4.o.1.hear.c1;have y3:=Q4.o.1.ask 3 _ rfl;have ys:w6.cell? ⟨w.heap.size+1,1,none⟩=some (.int .u64 (tk.aM.toNat:Int)):=t6 1 _ rfl;clear a6 t6 z6;have g2:=aE w6 (.cells #[.string ⟨#[]⟩,.int .i64 0,.int .i64 0] 131) none;have yz1:=g2.cell y1 aft;have yz3:=g2.cell y3 aft;have yzs:=g2.cell ys aft;have g3:=aE w6 (.cells #[.string ⟨pf.ax.toArray⟩,.int .i64 pf.time,.int .i64 pf.count] 131) none;have yv1:=g3.cell y1 aft;have yv3:=g3.cell y3 aft;have yvs:=g3.cell ys aft;clear g2 g3)
           | (go_at_call 221;(with_reducible apply Calls.mono QX.o);rintro r w6 ⟨rfl,a6,t6,l6⟩;have Q4:=hid a6;have LM:=hid t6;have KC:=hid l6;have y1:=Q4.o.1.hear.c1;have y3:=Q4.o.1.ask 3 _ rfl;have ys:w6.cell? ⟨w.heap.size+1,1,none⟩=some (.int .u64 (tk.aM.toNat:Int)):=t6 1 _ rfl;obtain ⟨d0,q0⟩:=bw.1 (l6.some 0 afq);obtain ⟨d1,q1⟩:=bw.1 (l6.some 1 afq);obtain ⟨d2,q2⟩:=bw.1 (l6.some 2 afq);have f0:=l6.frozen 0;have f1:=l6.frozen 1;have f2:=l6.frozen 2;clear a6 t6 l6))
          all_goals go_wp2
          all_goals go_meet
          ·exact ⟨_,rfl,(by have:=HZ6.o;omega),rfl,(dX.new _ _ _).range,jR LM.o (aE _ _ none),rT.o _ _ Q4.o (aE _ _ none)⟩
          ·have C7:CF w6 (((w6.setCell ⟨W5.heap.size,0,none⟩ (.string ⟨pf.ax.toArray⟩)).setCell ⟨W5.heap.size,1,none⟩ (.int .i64 pf.time)).setCell ⟨W5.heap.size,2,none⟩ (.int .i64 pf.count)) (fun b _=>b=W5.heap.size):=by
            exact ab9
           exact ⟨W5.heap.size,rfl,hb5,rfl,Q0 w6 W5.heap.size KC.o pf,C7.range LM.o (fun _ _ e=>by omega),ND.o _ _ W5.heap.size Q4.o afp C7⟩
         case rest=>
          obtain ⟨pb,rfl,hpb,rfl,x91,x92,x93⟩:=hcut;have LX:=hid x93;clear x93;have HT7:=hid x92;clear x92;have Kt:=hid x91;clear x91;clear  ui HT c1 ts k0 k1 k2 k3 k4 k5 k6 k7 k8 YG;cases dq with
          | false=>
           have Bc:Hid (AR=(.error 31,M)):=(by rw[<-Vm.o];exact QZ oW.o HXF.o HK.o HDT.o (by rw[HTK.o];exact HDQ.o));exact adf
          | true=>
           have hR:=Vi (M:=M) (now:=now) oW.o HXF.o HK.o HDT.o HTK.o HDQ.o HPF.o;rw[Vm.o] at hR;have p0:wc.cell? ⟨pb,0,none⟩=some (.string ⟨pf.ax.toArray⟩):=Kt.o 0 _ rfl;have p1:wc.cell? ⟨pb,1,none⟩=some (.int .i64 pf.time):=Kt.o 1 _ rfl;have p2:wc.cell? ⟨pb,2,none⟩=some (.int .i64 pf.count):=Kt.o 2 _ rfl;have r2:wc.cell? ⟨w.heap.size+1,2,none⟩=some (.string ⟨tk.ax.toArray⟩):=HT7.o 2 _ rfl;by_cases hcl:pf.ax=tk.ax
           ·have hcb:(pf.ax==tk.ax)=true:=cL.2 hcl;rw[if_neg (fun n=>n hcl)] at hR;clear hcl;by_cases pI:M.aC<dM pf.time now
            ·rw[if_pos pI] at hR;have Bc:=hid hR;have HC:=hid (aiT.o wc pf LX.o.1 HPI.o pI);clear hR pI;go_wp2_with (first|(go_at_call 222;refine HC.o.mono ?_;clear HC;rintro r w8 ⟨rfl,g8⟩;have HA8:=hid (rT.o _ _ LX.o g8);clear g8))
             go_meet;exact ⟨_,_,rfl,Bc.o,HA8.o.2.2,HA8.o.1.dF,HA8.o.2.1,HA8.o.1.cf.mono (fun _ _ _ e=>.inl e)⟩
            ·rw[if_neg pI] at hR;have HC:=hid (ae0.o wc pf LX.o.1 HPI.o (eK.1 pI));have ZR:Hid (∀ W',W'.rangeAt g 163 (bZ (bM M.aC now M.aN pf))->W'.cell? ⟨g,187,none⟩=some (.int .i64 (bM M.aC now M.aN pf).length)->CF wc W' (fun b y=>b=g/\163<=y/\y<188)->dO W' g 0 dp {M with aN:=bM M.aC now M.aN pf}):=fun W' h1 h2 k=>KA LX.o.1.dF k h1 h2 (fun q hq e=>(uK.o.Kn q hq).1 e) (Dm _ _ _ _ LX.o.1.dF.few);have HCf:Hid (∀ W',CF wc W' (fun b y=>b=g/\163<=y/\y<188)->J W'/\CF w W' (fun b y=>Yx po dS b y\/b=g/\163<=y/\y<188)/\Live W' (w.heap.size+1) 7/\W'.rangeAt (w.heap.size+1) 0 tk.cells):=fun W' k=>⟨HST.o _ _ LX.o.2.1 (k.mono (fun b y _ e=>by obtain ⟨rfl,h1,h2⟩:=e;exact uK.o.Yw y h1 h2)),(LX.o.1.cf.mono (fun _ _ _ e=>.inl e)).trans k (fun _ _ _ e=>.inr e),LX.o.2.2.cf k,k.range HT7.o (fun _ _ e=>by have:=HN.o.2;omega)⟩
             obtain ⟨pc,hpc⟩:=aq (bL M.aC now M.aN pf);obtain ⟨pn,hpn⟩:=aq (bM M.aC now M.aN pf);have KD:=hid (uD M.aC now M.aN pf);rw[hpc] at KD;rw[hpc,hpn] at HC hR;rw[hpn] at ZR;clear hpc hpn pI;by_cases h0:pc=0
             ·subst h0;rw[if_neg (fun n=>n rfl)] at hR;have Bc:=hid hR;clear hR;go_wp2_with (first|(go_at_call 222;refine HC.o.mono ?_;clear HC;rintro r w8 ⟨rfl,h1,h2,C8⟩;have HD8:=hid (ZR.o _ h1 h2 C8);have NF:=hid (HCf.o _ C8);clear h1 h2 C8;obtain ⟨⟨s0,s1,s2,s3,s4,s5,s6⟩,e0,e1,e2,e3,e4,e5,e6⟩:=Vl NF.o.2.2.2 NF.o.2.2.1))
              try rw[Exit.noGoto_ret]
              have C9:=sM w8 (w.heap.size+1) (.int .i64 tk.ay) (.int .u64 (tk.aM.toNat:Int)) (.string ⟨tk.ax.toArray⟩) (.int .i64 tk.dY) (.int .i64 tk.start) (.int .i64 tk.fin) (.int .i64 tk.aD);refine bodyPost_ret (aJ results185 _ _ _ (w.heap.size+1) rfl _ (ji (cs:=tk.cells) (FU w8 (w.heap.size+1) NF.o.2.2.1 tk) 333 _ underlying333 rfl Tryz.iO)) rfl ⟨by rw[Bc.o];rfl,?_,?_,?_⟩
              ·rw[Bc.o];exact HD8.o.cf C9 (fun j _ _ e=>by have:=HN.o.2;omega) (fun q hq j _ e=>by have:=(uK.o.Kn q hq).2.2.1;omega)
              ·exact HST.o _ _ NF.o.1 (C9.mono (fun b y _ e=>uK.o.zL b y afp))
              ·exact NF.o.2.1.trans C9 (fun i _ hi e=>by omega)
             ·rw[if_pos h0] at hR;have Bc:=hid hR;clear hR;rcases KD.o with rfl | rfl | rfl
              ·exact abZ
              ·exact abZ
              ·exact absurd rfl h0
           ·have hcb:(pf.ax==tk.ax)=false:=cg.2 hcl;rw[if_pos hcl] at hR;have Bc:=hid hR;clear hR;exact adf
 case rest=>
  obtain ⟨code,M',rfl,x91,x92,x93,x94,x95⟩:=hcut;have HC9:=hid x95;clear x95;have HJ9:=hid x94;clear x94;have HD:=hid x93;clear x93;have HL:=hid x92;clear x92;have Bc:=hid x91;clear x91;have L7:=Dl HL.o;obtain ⟨d0,q0⟩:=L7.1 0 afq;have f0:=L7.2 0;obtain ⟨d1,q1⟩:=L7.1 1 afq;have f1:=L7.2 1;obtain ⟨d2,q2⟩:=L7.1 2 afq;have f2:=L7.2 2;obtain ⟨d3,q3⟩:=L7.1 3 afq;have f3:=L7.2 3;obtain ⟨d4,q4⟩:=L7.1 4 afq;have f4:=L7.2 4;obtain ⟨d5,q5⟩:=L7.1 5 afq;have f5:=L7.2 5;obtain ⟨d6,q6⟩:=L7.1 6 afq;have f6:=L7.2 6;clear L7;go_wp2_with fail;try rw[Exit.noGoto_ret]
  have C9:=sM wc (w.heap.size+1) (.int .i64 0) (.int .u64 0) (.string ⟨#[]⟩) (.int .i64 0) (.int .i64 0) (.int .i64 0) (.int .i64 0);refine bodyPost_ret (aJ results185 _ _ _ (w.heap.size+1) rfl _ (ji (Nz wc (w.heap.size+1) HL.o) 333 _ underlying333 rfl Tryz.iO)) rfl ⟨by rw[Bc.o];rfl,?_,?_,?_⟩
  ·rw[Bc.o];exact HD.o.cf C9 (fun j _ _ e=>by have:=HN.o.2;omega) (fun q hq j _ e=>by have:=(uK.o.Kn q hq).2.2.1;omega)
  ·exact HST.o _ _ HJ9.o (C9.mono (fun b y _ e=>uK.o.zL b y afp))
  ·exact HC9.o.trans C9 (fun i _ hi e=>by omega)
variable {e:BE} {M:DM} {now:Int} {q:NQ}
theorem YH (now:Int) (q:NQ) (old:TK) (x s:BE):Hq now q old x s=gX now q.dJ old x s:=by
 unfold Hq gX lesser;generalize asked q.dJ=a;generalize aX now x.bI=b;generalize aX now s.bI=c;(repeat' split) <;> omega
theorem YI (now:Int) (q:NQ) (old:TK) (x s:BE):Ni now q old x s=fu q.aL old.ay x s now (lesser (asked q.bV) old.aD):=by
 unfold Ni fu;rw[(Dc q.aL old x s).2];have e:(aG q.aL 4 && aG old.ay 4 && (x.has 2 && s.has 2))=true↔(aG q.aL 4=true/\aG old.ay 4=true/\x.has 2=true/\s.has 2=true):=by
  simp only[ej,and_assoc]
 by_cases h:(aG q.aL 4 && aG old.ay 4 && (x.has 2 && s.has 2))=true
 ·rw[if_pos h,if_pos (e.1 h)];unfold lesser;generalize asked q.bV=a;generalize aX now x.aD=b;generalize aX now s.aD=c;(repeat' split) <;> omega
 ·rw[if_neg h,if_neg (fun n=>h (e.2 n))]
theorem Q5 {o f:Int} (h:jI o f=true):rH o<=1:=by
 unfold jI at h;by_cases h1:o<0\/255<o\/aG o 8=true
 ·rw[if_pos h1] at h;cases h
 ·rw[if_neg h1] at h;by_cases h2:1<rH o\/aG o 32=true/\o≠32
  ·rw[if_pos h2] at h;cases h
  ·by_cases h3:1<rH o
   ·exact absurd (.inl h3) h2
   ·omega
theorem acQ {p:Prop} (h:p:=by
 unfold AP
 unfold rH at h
 generalize aG o 16=b4 at *
 generalize aG o 32=b5 at *
 generalize aG o 64=b6 at *
 generalize aG o 128=b7 at *
 revert h
 revert b4 b5 b6 b7
 decide):p:=h
theorem Vo {o:Int} (h:rH o<=1):AP o=32↔aG o 32=true:=by
 exact acQ
theorem Vp {o:Int} (h:rH o<=1):AP o=16↔aG o 16=true:=by
 exact acQ
theorem Dn {old:TK} {x s:BE} (h:jI q.aL old.ay=true) :
  (∃ c,nM now q old x s = .error c/\fresh now old x s q.dJ q.bV q.aL = .error c)\/∃ t t',nM now q old x s = .ok t/\fresh now old x s q.dJ q.bV q.aL = .ok t'/\∀ a,{t with aM:=a}={t' with aM:=a}:=by
 have hw:=Q5 h
 unfold nM fresh
 by_cases h32:aG q.aL 32=true
 ·rw[if_pos ((Vo hw).2 h32),if_pos h32];unfold xC;by_cases hlt:now<old.start
  ·rw[if_pos hlt];exact .inl ⟨_,rfl,rfl⟩
  ·rw[if_neg hlt];exact .inr ⟨_,_,rfl,rfl,fun _=>rfl⟩
 ·rw[if_neg (fun n=>h32 ((Vo hw).1 n)),if_neg h32];by_cases h16:aG q.aL 16=true
  ·rw[if_pos ((Vp hw).2 h16),if_pos h16];unfold xD;by_cases hle:old.aD<=now
   ·rw[if_pos hle];exact .inl ⟨_,rfl,rfl⟩
   ·rw[if_neg hle];exact .inr ⟨_,_,rfl,rfl,fun _=>rfl⟩
  ·rw[if_neg (fun n=>h16 ((Vp hw).1 n)),if_neg h16];unfold Nj;rw[YH,YI,(Dc q.aL old x s).1];by_cases hle:gX now q.dJ old x s<=now
   ·rw[if_pos hle,if_pos hle];exact .inl ⟨_,rfl,rfl⟩
   ·rw[if_neg hle,if_neg hle];exact .inr ⟨_,_,rfl,rfl,fun _=>rfl⟩
theorem NG {old:TK} (h:aG old.ay 16=true/\aG q.aL 32=false\/aX now M.aC<old.start):dC M now (dZ M now q old)=(bu now 33,M):=by
 unfold dZ;rw[if_pos h];rfl
theorem Q6 {old:TK} (h:¬ (aG old.ay 16=true/\aG q.aL 32=false\/aX now M.aC<old.start)) (h2:old.fin<now):dC M now (dZ M now q old)=(bu now 32,M):=by
 unfold dZ;rw[if_neg h,if_pos h2];rfl
theorem Q7 {old:TK} {y x:Option BE} (h:¬ (aG old.ay 16=true/\aG q.aL 32=false\/aX now M.aC<old.start)) (h2:¬ old.fin<now) (hy:BE.find M.bg q.aV=y) (hx:BE.find M.bg old.ax=x) (hc:dV y x now 7 6 2 1≠0):dC M now (dZ M now q old)=(bu now (dV y x now 7 6 2 1),M):=by
 unfold dZ;rw[if_neg h,if_neg h2,hy,hx];cases y with
 | none=>rfl
 | some s=>
  cases x with
  | none=>rfl
  | some e=>
   simp only[];rw[if_pos hc];rfl
theorem Q8 {old:TK} {s:BE} (h:¬ (aG old.ay 16=true/\aG q.aL 32=false\/aX now M.aC<old.start)) (h2:¬ old.fin<now) (hy:BE.find M.bg q.aV=some s) (hx:BE.find M.bg old.ax=some e) (hc:dV (some s) (some e) now 7 6 2 1=0) (ho:jI q.aL old.ay=false):dC M now (dZ M now q old)=(bu now 13,M):=by
 unfold dZ;rw[if_neg h,if_neg h2,hy,hx];simp only[];rw[if_neg (fun n=>n hc),if_pos ho];rfl
theorem Vq {c:Int} {old:TK} {s:BE} (h:¬ (aG old.ay 16=true/\aG q.aL 32=false\/aX now M.aC<old.start)) (h2:¬ old.fin<now) (hy:BE.find M.bg q.aV=some s) (hx:BE.find M.bg old.ax=some e) (hc:dV (some s) (some e) now 7 6 2 1=0) (ho:jI q.aL old.ay=true) (hg:nM now q old e s = .error c):dC M now (dZ M now q old)=(bu now c,M):=by
 unfold dZ;rw[if_neg h,if_neg h2,hy,hx];simp only[];rw[if_neg (fun n=>n hc),if_neg (by rw[ho];decide)];rcases Dn (now:=now) (x:=e) (s:=s) ho with ⟨c',h3,h4⟩ | ⟨t,t',h3,_,_⟩
 ·rw[hg] at h3;injection h3 with h3;subst h3;rw[h4];rfl
 ·rw[hg] at h3;cases h3
theorem YJ {old t:TK} {s:BE} (h:¬ (aG old.ay 16=true/\aG q.aL 32=false\/aX now M.aC<old.start)) (h2:¬ old.fin<now) (hy:BE.find M.bg q.aV=some s) (hx:BE.find M.bg old.ax=some e) (hc:dV (some s) (some e) now 7 6 2 1=0) (ho:jI q.aL old.ay=true) (hg:nM now q old e s = .ok t):dC M now (dZ M now q old)=if M.aO.length<24 then (bu now 60,M) else (kQ 13 {t with aM:=eO M.aO 0} s q.bS 0 old.aM 5 (eO M.aO 1) (eO M.aO 2),{M with aO:=M.aO.drop 24}):=by
 unfold dZ;rw[if_neg h,if_neg h2,hy,hx];simp only[];rw[if_neg (fun n=>n hc),if_neg (by rw[ho];decide)];rcases Dn (now:=now) (x:=e) (s:=s) ho with ⟨c',h3,_⟩ | ⟨t1,t',h3,h4,h5⟩
 ·rw[hg] at h3;cases h3
 ·rw[hg] at h3;injection h3 with h3;subst h3;rw[h4,h5];rfl
variable {es:List BE} {T g hb:Nat} {dS rP:Nat->Nat->Prop} {dp po pr:Option Pl} {t:TK} {fv rv:Value} {W W':World} {J:World->Prop}
def exA (g:Nat) (po:Option Pl) (dS:Nat->Nat->Prop) (b y:Nat):Prop:=Yx po dS b y\/b=g/\163<=y/\y<188
structure NX (w W:World) (hb g T:Nat) (fv ro rr:Value) (po pr dp:Option Pl) (dS:Nat->Nat->Prop) (M:DM) (now:Int) (ask old:List Value):Prop where
 hear:xE W hb g T fv ro rr now
 dF:dO W g 0 dp M
 o:Out W ro po []
 r:Out W rr pr []
 ask:W.rangeAt w.heap.size 0 ask
 old:W.rangeAt (w.heap.size+1) 0 old
 made:Live W (w.heap.size+2) 7
 big:w.heap.size<=W.heap.size
 cf:CF w W (exA g po dS)
theorem NX.step {base:Nat} {ro rr:Value} {ask old:List Value} (h:NX w W hb g T fv ro rr po pr dp dS M now ask old) (S:HS hb g base T fv rv po pr dp J dS rP es) (k:CF W W' (fun b y=>Yx po dS b y\/w.heap.size+1<b)) (hbase:base<=w.heap.size) (hpo:∀ b y,Pl.has po b y->b<w.heap.size):NX w W' hb g T fv ro rr po pr dp dS M now ask old:=by
 have hb1:=S.hbb;have hg1:=S.gb;refine ⟨h.hear.cf k ?_,h.dF.cf k ?_ ?_,h.o.cf k (fun _ _ j hj=>absurd hj aft),h.r.cf k (fun _ _ j hj=>absurd hj aft),k.range h.ask ?_,k.range h.old ?_,h.made.cf k,?_,?_⟩
 ·rintro y ((e | e) | e)
  ·exact S.hbF y e
  ·exact nY S.poH y e
  ·omega
 ·exact aen
 ·exact ac0
 ·exact acR
 ·exact acR
 ·exact br h.big k.size
 ·exact h.cf.trans k (fun i o hi e=>by rcases e with e | e;exact .inl e;omega)
structure IQ (J:World->Prop) (w W:World) (hb g T:Nat) (fv ro rr:Value) (po pr dp:Option Pl) (dS:Nat->Nat->Prop) (M:DM) (now:Int) (ask old:List Value):Prop extends NX w W hb g T fv ro rr po pr dp dS M now ask old where
 j:J W
theorem IQ.step {base:Nat} {ro rr:Value} {ask old:List Value} (h:IQ J w W hb g T fv ro rr po pr dp dS M now ask old) (S:HS hb g base T fv rv po pr dp J dS rP es) (k:CF W W' (fun b y=>Pl.has po b y\/w.heap.size+1<b)) (hbase:base<=w.heap.size) (hpo:∀ b y,Pl.has po b y->b<w.heap.size):IQ J w W' hb g T fv ro rr po pr dp dS M now ask old:=
 ⟨h.toNX.step S (k.mono (fun _ _ _ e=>e.elim (fun e=>.inl (.inr e)) .inr)) hbase hpo,S.finds.stay _ _ h.j (k.mono (fun b y _ e=>e.elim (S.poJ b y) (fun e=>S.zL b y afp)))⟩
theorem KE {base:Nat} {v':Value} {code:Int} (hd:dO W g 0 dp M) (hbig:w.heap.size<=W.heap.size) (hcf:CF w W (exA g po dS)) (h:aU W W' v' pr (bu now code)) (S:HS hb g base T fv rv po pr dp J dS rP es) (hj:J W):Fin w W' g po pr dp dS v' (bu now code,M)/\J W':=by
 obtain ⟨p',h1,h2,h3,_⟩:=h;refine ⟨?_,S.finds.stay _ _ hj (h2.mono (fun b y _ e=>S.prJ b y e))⟩;refine ⟨⟨p',h1,h3.imp id (fun k=>lK k hbig)⟩,⟨dp,hd.cf h2 (fun j _ hj e=>S.prG j afp e) (fun q hq j _ e=>((S.Kn q hq).2.2.2 _).2.2 e),fun q' hq'=>⟨q',hq',rfl⟩⟩,?_⟩;exact (hcf.mono (fun _ _ _ e=>by rcases e with e | e;exact .inr (.inl e);exact .inl ⟨e.1,.inr e.2⟩)).trans h2 (fun _ _ _ e=>.inr (.inr e))
theorem adh {p:Prop} (h:p:=by
 injection hc with hc;omega):p:=h
theorem zN {c:Int} {q:NQ} (h:(iq M now q).1 = .error c):c=36\/c=7\/c=44\/c=31\/c=37\/c=34\/c=60:=by
 unfold iq gL at h;split at h
 ·rename_i c' hc;have hcc:c'=c:=by simpa using h
  subst hcc;split at hc
  ·exact adh
  ·split at hc
   ·exact adh
   ·split at hc
    ·exact adh
    ·split at hc
     ·exact adh
     ·split at hc
      ·exact adh
      ·split at hc
       ·exact adh
       ·split at hc
        ·exact adh
        ·cases hc
 ·rename_i t p _;by_cases h0:bL M.aC now M.aN p≠0
  ·rw[if_pos h0] at h;have hcc:bL M.aC now M.aN p=c:=(by simpa using h);rcases uD M.aC now M.aN p with e | e | e
   ·omega
   ·omega
   ·exact absurd e h0
  ·rw[if_neg h0] at h;cases h
theorem NH {s:BE} {svc:List UInt8} {bS:Int} {key a b c:UInt64} {rp:RP} (pM:rp=⟨t,svc,s.aH,s.key,0,bS,0,key,0⟩) (hs:s.name=svc):[]++(rp.drawn a b c).uB 13 5=kQ 13 {t with aM:=a} s bS 0 key 5 b c:=by
 rw[<-RP.Co,pM,<-hs];rfl
theorem ab7 {p:Prop} (h:p:=by
 injection h with h
 subst h
 refine ⟨⟨ho.ay,ho.dY,dm,?_,ho.aD⟩,rfl⟩
 show In64 (lesser old.aD (aX now (fO old.fin old.start)))
 have i1:=ho.aD
 have i2:In64 (aX now (fO old.fin old.start)):=zK _
 unfold lesser
 split
 ·exact i1
 ·exact i2):p:=h
theorem acW {p:Prop} (h:p:=by
 injection h with h
 subst h
 refine ⟨⟨?_,ho.dY,ho.start,ho.fin,ho.aD⟩,rfl⟩
 have e:=yM old.ay ho.ay
 have i:=pR old.ay 16
 rw[e] at i
 exact i):p:=h
theorem Vr {q:NQ} {old:TK} {x s:BE} (ho:old.In) (dm:In64 now) (hq:In64 q.dJ) (hr:In64 q.bV) (h:nM now q old x s = .ok t):t.In/\t.ax=old.ax:=by
 unfold nM at h;by_cases h32:AP q.aL=32
 ·rw[if_pos h32] at h;unfold xC at h;by_cases hlt:now<old.start
  ·rw[if_pos hlt] at h;cases h
  ·rw[if_neg hlt] at h;exact acW
 ·rw[if_neg h32] at h;by_cases h16:AP q.aL=16
  ·rw[if_pos h16] at h;unfold xD at h;by_cases hle:old.aD<=now
   ·rw[if_pos hle] at h;cases h
   ·rw[if_neg hle] at h;exact ab7
  ·rw[if_neg h16] at h;unfold Nj at h;by_cases hle:Hq now q old x s<=now
   ·rw[if_pos hle] at h;cases h
   ·rw[if_neg hle] at h;injection h with h;subst h;refine ⟨⟨?_,ho.dY,dm,?_,?_⟩,rfl⟩
    ·show In64 (uC q.aL old x s);rw[(Dc q.aL old x s).1];unfold iC gI In64;(repeat' split) <;> omega
    ·show In64 (Hq now q old x s);have i1:=ho.fin;have i2:In64 (lesser (asked q.dJ) (lesser (aX now x.bI) (aX now s.bI))):=kJ hq;unfold Hq In64 at *;omega
    ·show In64 (Ni now q old x s);have i1:=ho.aD;have i2:In64 (lesser (asked q.bV) (lesser (aX now x.aD) (aX now s.aD))):=kJ hr;unfold Ni;split
     ·unfold In64 at *;omega
     ·exact ⟨by decide,by decide⟩
theorem Q9 {s:BE} {svc:List UInt8} {bS:Int} {key a b c:UInt64} {rp:RP} (pM:rp=⟨t,svc,s.aH,s.key,0,bS,0,key,0⟩) (ht:t.In) (hn:In64 bS) (hs:s.In) (hsv:s.name=svc) (hc:t.ax.length<=1000):(rp.drawn a b c).Fits:=by
 subst pM;have i:=hs.aH;refine ⟨ht.ay,ht.dY,ht.start,ht.fin,ht.aD,?_,hn,(show In64 0 from ⟨by decide,by decide⟩),hc,?_⟩
 ·show In64 s.aH;unfold In64;omega
 ·show svc.length<=1000;rw[<-hsv];exact hs.name
end Go.Proofs.YteknelimjfgmaaaGreatDoor
