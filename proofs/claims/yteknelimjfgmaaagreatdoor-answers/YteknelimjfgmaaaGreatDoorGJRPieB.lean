import Derived.Test.YteknelimjfgmaaaGreatDoorGJPReadF
namespace Go.Proofs.YteknelimjfgmaaaGreatDoor
set_option maxHeartbeats 2000000
open Proofs.Tryz Go.RowKit
set_option maxRecDepth 100000
def ik (p:Pc) (v:Int):Prop:=In64 v/\∀ y,bF p.pair=some y->v=y
theorem sH (p:Pc) (w:World) (h:At w p.ad p.ins) :
  Calls prog 70 #[.agg #[.int .u8 (p.tag.toNat:Int),.slice p.ad p.ins.length p.cap]] w fun e w'=>∃ v,e = .returned (.tuple #[.int .i64 v,.bool (bF p.pair).isSome])/\ik p v/\w.grownBy w' none:=by
 refine (Ml p.tag p.ad p.ins p.ins.length p.cap w (hid rfl) h).mono ?_
 rintro e w' ⟨⟨h1,h2⟩,h3⟩
 unfold ik
 obtain ⟨o,ho⟩:=aq (bF p.pair)
 rw[ho]
 unfold bF at ho
 by_cases ht:p.tag.toNat=2
 ·rw[if_pos (show p.pair.1.toNat=2 from ht)] at ho;cases hn:Box.num p.ins with
  | none=>
   obtain ⟨v,q1,q2,q3⟩:=h2 (.inr hn);have:o=none:=by rw[<-ho];exact hn
   subst this;exact ⟨v,q3,⟨⟨q1,q2⟩,fun y hy=>(by cases hy)⟩,h3⟩
  | some x=>
   have:o=some x:=by rw[<-ho];exact hn
   subst this;refine ⟨x,h1 x ht hn,⟨?_,fun y hy=>(by injection hy)⟩,h3⟩;exact BP hn
 ·rw[if_neg (show ¬ p.pair.1.toNat=2 from ht)] at ho;subst ho;obtain ⟨v,q1,q2,q3⟩:=h2 (.inl ht);exact ⟨v,q3,⟨⟨q1,q2⟩,fun y hy=>(by cases hy)⟩,h3⟩
theorem acG {p:Prop} (h:p:=by
 clear h4 HP
 go_enter func98,ntmps98
 go_wp2_with (go_at_call 58;refine (HN.o _).mono ?_;rintro e w' ⟨rfl,rfl⟩)
 go_quiet (fail)
 go_wp2
 go_ret2
 exact ⟨by rw[XD.o];rfl,aY HG.o _⟩):p:=h
theorem pQ (p:Pc) (w:World) (h:At w p.ad p.ins) (hl:p.ins.length<=140737488355328) :
  Calls prog 98 #[.agg #[.int .u8 (p.tag.toNat:Int),.slice p.ad p.ins.length p.cap]] w fun e w'=>e = .returned (.tuple #[.string ⟨p.ins.toArray⟩,.bool (di p.pair).isSome])/\w.grownBy w' none:=by
 have G0:=aE w (.cells #[.int .u8 (p.tag.toNat:Int),.slice p.ad p.ins.length p.cap] 117) none
 have hcv:=iE (P:=prog) (w.alloc (.cells #[.int .u8 (p.tag.toNat:Int),.slice p.ad p.ins.length p.cap] 117)) 37 9 5 underlying37 underlying5 underlying9 p.ad p.cap p.ins (h.below G0)
 have HN:=hid (fun W=>uV p.ins p.ins.length ⟨p.ins.toArray⟩ W (hid rfl) (hid rfl) afp)
 have HP:Hid ((di p.pair).isSome=(cO p.ins && decide (p.tag.toNat=4))):=by
  show _=_;unfold di;show (if p.tag.toNat=4/\cO p.ins=true then some p.ins else none).isSome=_;by_cases h1:p.tag.toNat=4
  ·cases h2:cO p.ins <;> simp[h1]
  ·simp[h1]
 obtain ⟨o,ho⟩:=aq ((di p.pair).isSome)
 rw[ho] at HP ⊢
 obtain ⟨b,hb⟩:=aq (cO p.ins)
 rw[hb] at HP HN
 have HG:=hid G0
 obtain ⟨t,ht⟩:=aq p.tag.toNat
 rw[ht] at HP HG hcv ⊢
 obtain ⟨ad,had⟩:=aq p.ad
 obtain ⟨ins,hins⟩:=aq p.ins
 obtain ⟨cap,hcap⟩:=aq p.cap
 rw[had,hins,hcap] at HG hcv ⊢
 rw[hins] at HN
 clear G0 hb ho ht h had hins hcap hl
 cases b with
 | false=>
  go_enter func98,ntmps98;go_wp2_with (go_at_call 58;refine (HN.o _).mono ?_;rintro e w' ⟨rfl,rfl⟩)
  go_quiet (fail)
  go_wp2;go_ret2;exact ⟨by rw[HP.o];rfl,aY HG.o _⟩
 | true=>
  by_cases h4:t=4
  ·have hb:((t:Int)==4)=true:=(by rw[cL];omega);have XD:Hid (o=true):=(by show _=_;rw[HP.o];simp[h4]);exact acG
  ·have hb:((t:Int)==4)=false:=(by rw[cg];omega);have XD:Hid (o=false):=(by show _=_;rw[HP.o];simp[h4]);exact acG
def qi:List Pc->List Int->Prop
 | [],[]=>True
 | p::l,v::vs=>ik p v/\qi l vs
 | _,_=>False
theorem qi.length:∀ {l:List Pc} {vs:List Int},qi l vs->vs.length=l.length
 | [],[],_=>rfl
 | _::_,_::_,h=>by simp only[cN];rw[qi.length h.2]
 | [],_::_,h=>h.elim
 | _::_,[],h=>h.elim
theorem qi.snoc:∀ {l:List Pc} {vs:List Int} {p:Pc} {v:Int},qi l vs->ik p v->qi (l++[p]) (vs++[v])
 | [],[],_,_,_,h=>⟨h,trivial⟩
 | _::_,_::_,_,_,h,h'=>⟨h.1,qi.snoc h.2 h'⟩
 | [],_::_,_,_,h,_=>h.elim
 | _::_,[],_,_,h,_=>h.elim
def I64 (x:Int):Value:=.int .i64 x
def jv (l:List Pc):Bool:=l.all fun p=>(bF p.pair).isSome
theorem Tryz.XQ:(prog.info? 2).map (fun i=>(i.zero,i.size,i.bytes))=some (some (.int .i64 0),1,8):=by kernel_rfl
theorem Qs {l:List Pc} {a k:Nat} (ha:a<=k) (hk:k<l.length):(l.drop a).take (k+1-a)=(l.drop a).take (k-a)++[l[k]]:=by
 rw[show k+1-a=(k-a)+1 from by omega,ee (by rw[cy];omega),List.getElem_drop];simp only[show a+(k-a)=k from by omega]
theorem aaE {p:Prop} (h:p:=by
 clear HA
 go_wp2_with (at_builtin;refine gN _ rfl _ _ 220 rfl w.heap.size 2 i0 _ 1 8 underlying220 hif hz0 hz1 hz2 rfl afq _ _ _ rfl (hown1.alloc _) ⟨w1.heap.size,0,none⟩ 1 1 [.int .i64 v] rfl rfl ?q1 (by intro u hu;simp at hu;rcases hu with rfl;rfl) afp AA hll afz ?_)
 case q1=>exact lY w1 2 [.int .i64 v]
 intro v2 w2 hown2 hg2 _
 have G2:w.grownBy w2 none:=iw (aR G1 _) hg2 (fun j hj=>(hown1.lt j hj).1)
 clear hown1 hg2 G1
 go_wp2
 go_roundw
 case rel=>exact ⟨k+1,vs++[v],by omega,by omega,by go_num,hid (by rw[HA2.o]),HV2,by rw[bj,cW];exact hown2,G2⟩
 case measure=>simp[intOf];omega):p:=h
theorem tN (a b m g c:Nat) (l:List Pc) (w:World) (hm:Hid (l.length=m)) (zm:m<=1000) (hab:a<=b) (hbm:b<=m) (h:jr w g l) :
  Calls prog 99 #[.slice (some ⟨g,0,none⟩) m c,.int .i64 (a:Int),.int .i64 (b:Int)] w fun e w'=>∃ o vs,e = .returned (.tuple #[o,.bool (jv ((l.drop a).take (b-a)))])/\qi ((l.drop a).take (b-a)) vs/\w'.ownsRow w.heap.size 2 1 o vs.length (vs.map I64)/\w.grownBy w' none:=by
 obtain ⟨i0,hif,hz0,hz1,hz2⟩:=info_parts Tryz.XQ
 go_enter func99,ntmps99
 go_wp2
 go_loopw [8,9,10] (fun o ok i wr=>∃ (k:Nat) (vs:List Int),a<=k/\k<=b/\i = .int .i64 k/\Hid (ok = .bool (jv ((l.drop a).take (k-a))))/\Hid (qi ((l.drop a).take (k-a)) vs)/\wr.ownsRow w.heap.size 2 1 o vs.length (vs.map I64)/\w.grownBy wr none) (fun _ _ i _=>b-(intOf i).toNat)
 case atStart=>exact ⟨a,[],bd _,hab,rfl,by show _=_;rw[gE];rfl,by show qi _ _;rw[gE];trivial,World.ownsRow_nil _ _ _ _,bh _ _⟩
 case round=>
  obtain ⟨k,vs,hak,hkb,rfl,oW,HV,hown,hgr⟩:=hrel;obtain rfl:=oW.o;obtain ⟨ok,hok⟩:=aq (jv ((l.drop a).take (k-a)));rw[hok] at oW ⊢;by_cases hlt:k<b
  ·have rF:(k:Int)<(b:Int):=(by omega);have Sb:k<m:=(by omega);have hkl:k<l.length:=(by rw[hm.o];omega);have hP:=h.grown hgr;have c0:=hP.tag k hkl;have c1:=hP.ins k hkl;obtain ⟨hat,_,_⟩:=hP.2 (l[k]) (cJ hkl);have HC:=hid (sH (l[k]) wr hat);have HS:=hid (Qs hak hkl);obtain ⟨p,hp⟩:=aq (l[k]);rw[hp] at c0 c1 HC HS;have HA:Hid (jv ((l.drop a).take (k+1-a))=(ok && (bF p.pair).isSome)):=by
    show _=_;rw[HS.o,<-hok];unfold jv;rw[List.all_append];simp
   obtain ⟨b2,hb2⟩:=aq ((bF p.pair).isSome);rw[hb2] at HC HA;have hk0:(0:Int)<=(k:Int):=(by omega);have hlv:vs.length<=1000:=by
    rw[HV.o.length,cG,cy];have:=hm.o;omega
   have AA:vs.length+1<=maxLen:=(by unfold maxLen;omega);have hll:(vs.length+1)*8<=140737488355328:=(by omega);clear hP hat hp hok oW hb2;go_wp2_with fail;refine HC.o.mono ?_;rintro e w1 ⟨v,rfl,hv,hg1⟩;have hown1:=hown.kept hg1 (eW _);have G1:=aa hgr hg1;have hsz1:=G1.size;have HV2:Hid (qi ((l.drop a).take (k+1-a)) (vs++[v])):=(by show qi _ _;rw[HS.o];exact HV.o.snoc hv);clear hown hg1 HC hv HV HS c0 c1;cases ok with
   | false=>
    have HA2:Hid (jv ((l.drop a).take (k+1-a))=false):=(by show _=_;rw[HA.o];rfl);exact aaE
   | true=>
    have HA2:Hid (jv ((l.drop a).take (k+1-a))=b2):=(by show _=_;rw[HA.o,gj]);exact aaE
  ·have hkb':k=b:=(by omega);subst hkb';have rF:¬ (k:Int)<(k:Int):=(by omega);have HV':=HV;clear HV;go_wp2;go_ret2;exact ⟨_,rfl,vs,HV'.o,hown,hgr⟩
theorem fM:In64 0:=⟨by decide,by decide⟩
theorem aaX:∀ {ps:List (UInt8×List UInt8)} {p:UInt8×List UInt8},p∈ps->p.2.length+2<=Box.wt ps:=by
 intro ps;induction ps with
 | nil=>intro p hp;simp at hp
 | cons a ps ih=>
  intro p hp;have e:Box.wt (a::ps)=(a.2.length+2)+Box.wt ps:=by simp[Box.wt]
  rcases List.mem_cons.1 hp with h | h
  ·subst h;omega
  ·have:=ih h;omega
theorem Box.kS {l:List UInt8} {ps:List (UInt8×List UInt8)} (h:Box.dH l=some ps) (p:UInt8×List UInt8) (hp:p∈ps):p.2.length<=l.length:=by
 have h1:=Box.Te l.length l ps (bd _) h;have h2:=aaX hp;omega
theorem Ac (ps:List mW) (h:ps.length≠2):pF ps=none:=by
 unfold pF;match ps with
 | []=>rfl
 | [p]=>show (bF p).bind _=none;cases bF p <;> rfl
 | [p,q]=>exact absurd rfl h
 | p::q::r::ps=>
  show (bF p).bind _=none;cases bF p with
  | none=>rfl
  | some n=>
   show (iX q).bind _=none;cases iX q <;> rfl
theorem GV (p q:mW):pF [p,q]=(bF p).bind fun n=>(iX q).bind fun z=>some (n,z):=rfl
theorem adF {p:Prop} (h:p:=by
 show (di p).bind _=none
 cases di p with
 | none=>rfl
 | some n=>show (bF q).bind _=none;cases bF q <;> rfl):p:=h
theorem Ep (ps:List mW) (h:ps.length≠3):pG ps=none:=by
 unfold pG;match ps with
 | []=>rfl
 | [p]=>show (di p).bind _=none;cases di p <;> rfl
 | [p,q]=>
  exact adF
 | [p,q,r]=>exact absurd rfl h
 | p::q::r::s::ps=>
  show (di p).bind _=none;cases di p with
  | none=>rfl
  | some n=>
   show (bF q).bind _=none;cases bF q with
   | none=>rfl
   | some z=>show (iX r).bind _=none;cases iX r <;> rfl
theorem JF {α:Type} {l:List α} (h:l.length=2):∃ a b,l=[a,b]:=by
 match l,h with
 | [a,b],_=>exact ⟨a,b,rfl⟩
theorem Ci {α:Type} {l:List α} (h:l.length=3):∃ a b c,l=[a,b,c]:=by
 match l,h with
 | [a,b,c],_=>exact ⟨a,b,c,rfl⟩
theorem aaW.some {w:World} {x:Value} {l:List Pc} (h:aaW w x l) (hl:l≠[]):∃ g c,x = .slice (.some ⟨g,0,.none⟩) l.length c/\jr w g l:=by
 obtain ⟨ao,c,h1,h2⟩:=h;obtain ⟨g,rfl,h3⟩:=h2 hl;exact ⟨g,c,h1,h3⟩
def GY (w:World) (o:Option (Option (Int×List UInt8))) (n:Int) (z:Value) (there:Bool):Prop:=∀ q,o=some q->there=q.isSome/\∀ x,q=some x->n=x.1/\vg w z x.2/\x.2.length<=100000
theorem mG (w:World) (n:Int) (z:Value) (t:Bool):GY w none n z t:=fun _ h=>by cases h
theorem abq {p:Prop} (h:p:=by
 go_wp2
 ((try simp only[Exit.inBlock,Exit.then]);refine bodyPost_ret (fU rfl _ _ _) rfl ?_)
 exact ⟨_,_,_,by rw[HO.o];rfl,fM,by rw[HO.o];exact mG _ _ _ _,jC.o⟩):p:=h
theorem acn {p:Prop} (h:p:=by
 go_wp2_with fail
 go_quiet (fail)
 go_wp2
 ((try simp only[Exit.inBlock,Exit.then]);refine bodyPost_ret (fU rfl _ _ _) rfl ?_)
 exact ⟨_,_,_,by rw[Ee.o];rfl,JG.o.1,by rw[Ee.o];exact mG _ _ _ _,aY HG2.o _⟩):p:=h
theorem XR (p:Pc) (w:World) (h:At w p.ad p.ins) (hc:p.ins.length<=p.cap) (hm:p.cap<=maxLen) (hl:p.ins.length<=100000) :
  Calls Tryz.prog 100 #[.agg #[.int .u8 (p.tag.toNat:Int),.slice p.ad p.ins.length p.cap]] w fun e w'=>∃ n z t,e = .returned (.tuple #[.int .i64 n,z,.bool t,.bool (lu p.pair).isSome])/\In64 n/\GY w' (lu p.pair) n z t/\w.grownBy w' none:=by
 have HR:Hid (lu p.pair=match (if p.tag.toNat=48 then Box.dH p.ins else none) with | none=>none | some []=>some none | some ps=>(pF ps).map some):=rfl
 obtain ⟨O,hO⟩:=aq (lu p.pair)
 rw[hO] at HR ⊢
 clear hO
 have G0:=aE w (.cells #[.int .u8 (p.tag.toNat:Int),.slice p.ad p.ins.length p.cap] 117) none
 have HP:=hid (pO p.ins (.slice p.ad p.ins.length p.cap) _ ⟨p.ad,p.cap,rfl,hc,hm,h.below G0⟩ hl)
 have HB:=hid (dX.new w #[.int .u8 (p.tag.toNat:Int),.slice p.ad p.ins.length p.cap] 117)
 have HG:=hid G0
 have HL:=hid hl
 clear G0 h hc hm hl
 obtain ⟨cl,hcl⟩:=aq (Box.dH p.ins)
 rw[hcl] at HR HP
 have Fb:=hid hcl
 clear hcl
 go_enter Tryz.func100,Tryz.ntmps100
 go_wp2_with fail
 refine HP.o.mono ?_
 rintro e w1 ⟨x,rfl,h1,h2,h3⟩
 clear HP
 have jC:=hid (aa HG.o h3)
 have hB1:=HB.o.grown h3 aft
 have t0:=hB1.cell 0
 simp only[cx,ct] at t0
 clear HG HB h3
 cases cl with
 | none=>
  have HO:Hid (O=none):=by
   show _=_;rw[HR.o];split <;> simp_all
  obtain rfl:=h2 rfl;clear h1 h2 HR hB1;simp only[Option.isSome_none];exact abq
 | some ps=>
  obtain ⟨l,hv,hps,_⟩:=h1 ps rfl;clear h1 h2 hB1;simp only[cY];by_cases ht:p.tag.toNat=48
  ·have hb:((p.tag.toNat:Int) != 48)=false:=(by rw[eN];omega);rw[if_pos ht] at HR;clear ht;by_cases h0:l.length=0
   ·have hl0:l=[]:=ep h0;subst hl0;have HO:Hid (O=some none):=by
     show _=_;rw[HR.o,<-hps];rfl
    obtain ⟨ao,c,rfl,_⟩:=hv;clear HR hps h0;simp only[List.length_nil];go_wp2;((try simp only[Exit.inBlock,Exit.then]);refine bodyPost_ret (fU rfl _ _ _) rfl ?_);exact ⟨_,_,_,by rw[HO.o];rfl,fM,by rw[HO.o];exact fun q hq=>by injection hq with hq;subst hq;exact ⟨rfl,fun x hx=>by cases hx⟩,jC.o⟩
   ·by_cases h2:l.length=2
    ·obtain ⟨p0,p1,rfl⟩:=JF h2;have HO:Hid (O=((bF p0.pair).bind fun n=>(iX p1.pair).bind fun z=>some (n,z)).map some):=by
      show _=_;rw[HR.o,<-hps];rfl
     obtain ⟨g,c,rfl,mY⟩:=hv.some aft;have c0:w1.cell? ⟨g,0,none⟩=some (.int .u8 (p0.tag.toNat:Int)):=mY.tag 0 aft;have c1:w1.cell? ⟨g,1,none⟩=some (.slice p0.ad p0.ins.length p0.cap):=mY.ins 0 aft;have AL:=hid mY;have HV:=hid (sH p0 w1 (mY.2 p0 aft).1);have EL:Hid (p1.ins.length<=100000):=by
      have hq:=Fb.o;rw[<-hps] at hq;exact br (Box.kS hq (p1.tag,p1.ins) (by simp[Pc.pair])) HL.o
     obtain ⟨N,hN⟩:=aq (bF p0.pair);unfold ik at HV;rw[hN] at HV HO;clear HR hps h0 h2 hv mY hN;simp only[cN,List.length_nil];go_wp2_with fail;refine HV.o.mono ?_;rintro e w2 ⟨v,rfl,hv,hg2⟩;have mY:=AL.o.grown hg2;have d2:w2.cell? ⟨g,2,none⟩=some (.int .u8 (p1.tag.toNat:Int)):=mY.tag 1 aft;have d3:w2.cell? ⟨g,3,none⟩=some (.slice p1.ad p1.ins.length p1.cap):=mY.ins 1 aft;have HZ:Hid (∀ m,vg (w2.drewN m) (.slice p1.ad p1.ins.length p1.cap) p1.ins):=fun m=>⟨p1.ad,p1.cap,rfl,(mY.2 p1 aft).2.1,(mY.2 p1 aft).2.2,(mY.2 p1 aft).1.drewN m⟩
     have HG2:=hid (aa jC.o hg2);have JG:=hid hv;clear HV AL mY hg2 hv jC t0 c0 c1;cases N with
     | none=>
      have Ee:Hid (O=none):=HO.o;clear HO;simp only[Option.isSome_none];exact acn
     | some y=>
      have hvy:v=y:=JG.o.2 y rfl;subst hvy;simp only[cY];by_cases h4:p1.tag.toNat=4
      ·have hb4:((p1.tag.toNat:Int)==4)=true:=(by rw[cL];omega);have Ee:Hid (O=some (some (v,p1.ins))):=by
        show _=_;rw[HO.o];show Option.map some (Option.bind (if p1.tag.toNat=4 then some p1.ins else none) _)=_;rw[if_pos h4];rfl
       clear HO h4;go_wp2_with fail;go_quiet (fail)
       go_wp2;((try simp only[Exit.inBlock,Exit.then]);refine bodyPost_ret (fU rfl _ _ _) rfl ?_);exact ⟨_,_,_,by rw[Ee.o];rfl,JG.o.1,by rw[Ee.o];exact fun q hq=>by injection hq with hq;subst hq;exact ⟨rfl,fun x hx=>by injection hx with hx;subst hx;exact ⟨rfl,HZ.o _,EL.o⟩⟩,aY HG2.o _⟩
      ·have hb4:((p1.tag.toNat:Int)==4)=false:=(by rw[cg];omega);have Ee:Hid (O=none):=by
        show _=_;rw[HO.o];show Option.map some (Option.bind (if p1.tag.toNat=4 then some p1.ins else none) _)=_;rw[if_neg h4];rfl
       clear HO h4;exact acn
    ·have HO:Hid (O=none):=by
      show _=_;rw[HR.o,<-hps];have hs:=Ac (l.map Pc.pair) (by rw[cw];exact h2);cases hq:l.map Pc.pair with
      | nil=>rw[List.map_eq_nil_iff] at hq;subst hq;exact absurd rfl h0
      | cons a b=>
       rw[hq] at hs;show Option.map some (pF (a::b))=none;rw[hs];rfl
     obtain ⟨ao,c,rfl,_⟩:=hv;obtain ⟨n,hn⟩:=aq l.length;rw[hn] at h0 h2 ⊢;have b0:((n:Int) != 0)=true:=(by rw[fj];omega);have b2:((n:Int) != 2)=true:=(by rw[fj];omega);clear HR hps h0 h2 hn;exact abq
  ·have hb:((p.tag.toNat:Int) != 48)=true:=(by rw[fj];omega);have HO:Hid (O=none):=by
    show _=_;rw[HR.o,if_neg ht]
   obtain ⟨ao,c,rfl,_⟩:=hv;clear HR hps ht;exact abq
def dD (key use:UInt64) (z:List UInt8):List UInt8:=if 16<=z.length/\z.length<=216/\Pure.opens key use z=true then Pure.eP key use z else []
def CX (w w':World) (p:Option Pl) (e:Ending) (l:List UInt8):Prop:=∃ a c,e = .returned (.slice a l.length c)/\l.length<=c/\c<=9223372036854775807/\l.length<=200/\At w' a l/\CF w w' (Pl.has p)/\∀ g,g<w.heap.size->Pl.blk p≠some g->iF (a,l) g
theorem CX.nil {w w':World} {p:Option Pl} (c:CF w w' (Pl.has p)):CX w w' p (.returned (.slice none 0 0)) []:=⟨none,0,rfl,by simp,by decide,by simp,At.nil _ _,c,fun g _ _ q=>by simp at q⟩
theorem zG (rv:Value) (p:Option Pl) (rb:List UInt8) (key use:UInt64) (x:Int) (ao:Option Addr) (z:List UInt8) (n cap:Nat) (w:World) (hR:Out w rv p rb) (hx:Sy x=true) (hu:Hid (x=use.toNat)) (hn:Hid (z.length=n)) (hcap:n<=cap) (hz:At w ao z)
  (hsep:∀ b off,ao=some ⟨b,off,none⟩->∀ j,j<z.length->¬ Pl.has p b (off+j)) :
  Calls prog 237 #[rv,.int .u64 (key.toNat:Int),.int .i64 x,.slice ao n cap] w fun e w'=>CX w w' p e (dD key use z):=by
 by_cases hsz:n<16\/216<n
 ·have HM:Hid (dD key use z=[]):=by show _=_;rw[dD,if_neg (fun q=>by rw[hn.o] at q;omega)]
  have HO:=hid (PM rv (key.toNat:Int) x ao n cap w hx hsz);clear hR hz hsep hsz;go_enter func237,ntmps237;go_wp2_with (go_at_call 86;refine HO.o.mono ?_;rintro e w' ⟨rfl,rfl⟩)
  go_ret;rw[HM.o];exact CX.nil (CF.refl _ _)
 ·have HO:=hid (SG rv p rb key use x ao z n cap w hR hx hu hn afp afp hcap hz hsep);have hsz2:16<=z.length/\z.length<=216:=by rw[hn.o];omega
  clear hR hz hsep hsz;cases ho:Pure.opens key use z
  ·have HM:Hid (dD key use z=[]):=(by show _=_;rw[dD,if_neg (fun q=>by rw[ho] at q;exact absurd q.2.2 afq)]);have HH:=hid ho;clear ho;go_enter func237,ntmps237;go_wp2_with (go_at_call 86;refine HO.o.mono ?_;rintro e w' ⟨_,r2⟩;obtain ⟨rfl,c2⟩:=r2 HH.o)
   go_ret;rw[HM.o];exact CX.nil c2
  ·have HM:Hid (dD key use z=Pure.eP key use z):=(by show _=_;rw[dD,if_pos ⟨hsz2.1,hsz2.2,ho⟩]);have HL:Hid ((Pure.eP key use z).length<=200):=(by show _<=_;rw[Pure.kC];omega);have HH:=hid ho;clear ho;go_enter func237,ntmps237;go_wp2_with (go_at_call 86;refine HO.o.mono ?_;rintro e w' ⟨r1,_⟩;obtain ⟨v',rfl,om⟩:=r1 HH.o;obtain ⟨p3,o3,_,o5,_⟩:=id om;obtain ⟨a3,c3,rfl,q1,q2,q3,_⟩:=o3.shape)
   go_ret;rw[HM.o];refine ⟨a3,c3,rfl,q1,q2,HL.o,q3,om.cf,fun g hg hp hl b off e q=>?_⟩;have e:a3=some ⟨b,off,none⟩:=e;subst e;rcases o3 with ⟨_,h,_⟩ | ⟨t,hp3,hv,_⟩
   ·cases h
   ·injection hv with e1 _ _;injection e1 with e1;injection e1 with e1 _ _;rcases o5 with o5 | o5
    ·exact hp (by rw[<-o5,hp3];exact eh some (e1.symm.trans q))
    ·have:=o5 t hp3;omega
def qO (s:List UInt8×Bool):UInt64×(List UInt8×Bool):=
 (Pure.joinL 0 (bB 4 s.1 s.2).1,if (bB 4 s.1 s.2).1.length=8 then (bB 4 s.1 s.2).2 else ([],true))
theorem QA (S:Source) (g:Nat) (s:List UInt8×Bool) (w:World) (hs:At w S.1 S.2) (ng:iF S g) (h:Rd w S g s.1 s.2) :
  Calls prog 243 #[.pointer (some ⟨g,0,none⟩)] w fun e w'=>e = .returned (.int .u64 ((qO s).1.toNat:Int))/\Rd w' S g (qO s).2.1 (qO s).2.2/\CF w w' (Fz g):=by
 have HT:=hid (yN S g s.1 s.2 w hs h)
 obtain ⟨q,hq⟩:=aq (bB 4 s.1 s.2)
 have HK:Hid (qO s=(Pure.joinL 0 q.1,if q.1.length=8 then q.2 else ([],true))):=by show _=_;rw[qO,hq]
 rw[hq] at HT
 have HS:=hid (And.intro hs ng)
 clear h hs ng hq
 go_enter func243,ntmps243
 go_wp2_with fail
 refine HT.o.mono ?_
 rintro e w2 ⟨v,rfl,b2,r2,f2⟩
 obtain ⟨a2,c2,rfl,_⟩:=id b2
 have hs2:=iF.at HS.o.1 f2.xx (fun _ e=>e ▸ HS.o.2)
 obtain ⟨ok,hok⟩:∃ ok:Bool,(((q.1.length:Int)==8)=ok):=⟨_,rfl⟩
 have HN:=hid (sI S g _ _ ok w2 r2)
 have HF:=hid f2
 have HB:=hid (fun (W:World) (k:At W S.1 S.2)=>(b2.at k).2.2.2)
 have HR:Hid (∀ W,Rd W S g (if ok=true then q.2.1 else []) (if ok=true then q.2.2 else true)->Rd W S g (qO s).2.1 (qO s).2.2):=by
  intro W hW;rw[HK.o];cases ok
  ·have:¬ q.1.length=8:=fun e=>by rw[e] at hok;simp at hok
   simp only[this,eC];exact hW
  ·have:q.1.length=8:=by have:=cL.1 hok;omega
   simp only[this,ez];exact hW
 have HS2:=hid hs2
 clear HT b2 r2 f2 hs2
 go_wp2_with fail
 refine HN.o.mono ?_
 rintro e w4 ⟨rfl,r4,f4⟩
 have hs4:=iF.at HS2.o f4.xx (fun _ e=>e ▸ HS.o.2)
 have HJ:=hid (IW 0 q.1 a2 c2 w4 (HB.o w4 hs4).1 (HB.o w4 hs4).2)
 have F4:=hid (HF.o.trans f4 (fun _ _ _ e=>e))
 have R4:=hid (HR.o w4 r4)
 clear r4 f4 hs4 HN
 go_wp2_with fail
 refine HJ.o.mono ?_
 rintro e w5 ⟨rfl,rfl⟩
 go_wp2
 go_ret
 exact ⟨by rw[HK.o];rfl,R4.o,F4.o⟩
def st (s:List UInt8×Bool):Option (List UInt8):=if s.2=true then none else some s.1
def pU (s:List UInt8×Bool):Prop:=s.2=true->s.1=[]
theorem Yl:Box.cut []=none:=by
 cases h:Box.cut [] with
 | none=>rfl
 | some q=>
  obtain ⟨t,i,r⟩:=q;have:=Box.jF h;simp at this
theorem nL (due:Nat) (f:Bool):bB due [] f=([],[],true):=by rw[bB,Yl]
theorem He:Box.num []=none:=by unfold Box.num;rw[if_neg aft]
theorem pU.take {s:List UInt8×Bool} (h:pU s) (due:Nat):pU (bB due s.1 s.2).2:=fun e=>(nJ due s.1 s.2 h e).2
theorem pU.step {s:List UInt8×Bool} (h:pU s):pU (bO s).2:=FE h
theorem pU.name {s:List UInt8×Bool} (h:pU s):pU (fF s).2:=by
 unfold fF;simp only;split
 ·exact h.take 4
 ·exact fun _=>rfl
variable {β:Type}
theorem vX {s:List UInt8×Bool} (h:pU s) (k:List UInt8->List UInt8->Option β):(st s).bind (dI di k)=(st (fF s).2).bind (k (fF s).1):=by
 obtain ⟨l,f⟩:=s;cases f
 ·cases hc:Box.cut l with
  | none=>
   have ht:bB 4 l false=([],[],true):=(by rw[bB,hc]);simp[st,dI,hc,fF,ht]
  | some q=>
   obtain ⟨t,i,r⟩:=q;by_cases e:t.toNat=4
   ·have ht:bB 4 l false=(i,r,false):=(by rw[bB,hc];simp only[e,ez]);cases hb:cO i <;> simp[st,dI,hc,fF,ht,di,e,hb]
   ·have ht:bB 4 l false=([],[],true):=(by rw[bB,hc];simp only[e,eC]);simp[st,dI,hc,fF,ht,di,e]
 ·have hl:l=[]:=h rfl;subst hl;simp[st,fF,nL]
theorem jL {s:List UInt8×Bool} (h:pU s) (k:Int->List UInt8->Option β):(st s).bind (dI bF k)=(st (bO s).2).bind (k (bO s).1):=by
 obtain ⟨l,f⟩:=s;cases f
 ·cases hc:Box.cut l with
  | none=>
   have ht:bB 2 l false=([],[],true):=(by rw[bB,hc]);simp[st,dI,hc,bO,ht,He]
  | some q=>
   obtain ⟨t,i,r⟩:=q;by_cases e:t.toNat=2
   ·have ht:bB 2 l false=(i,r,false):=(by rw[bB,hc];simp only[e,ez]);cases hb:Box.num i <;> simp[st,dI,hc,bO,ht,bF,e,hb]
   ·have ht:bB 2 l false=([],[],true):=(by rw[bB,hc];simp only[e,eC]);simp[st,dI,hc,bO,ht,bF,e,He]
 ·have hl:l=[]:=h rfl;subst hl;simp[st,bO,nL,He]
theorem OV {s:List UInt8×Bool} (h:pU s) (k:List UInt8->List UInt8->Option β):(st s).bind (dI iX k)=(st (bB 4 s.1 s.2).2).bind (k (bB 4 s.1 s.2).1):=by
 obtain ⟨l,f⟩:=s;cases f
 ·cases hc:Box.cut l with
  | none=>
   have ht:bB 4 l false=([],[],true):=(by rw[bB,hc]);simp[st,dI,hc,ht]
  | some q=>
   obtain ⟨t,i,r⟩:=q;by_cases e:t.toNat=4
   ·have ht:bB 4 l false=(i,r,false):=(by rw[bB,hc];simp only[e,ez]);simp[st,dI,hc,ht,iX,e]
   ·have ht:bB 4 l false=([],[],true):=(by rw[bB,hc];simp only[e,eC]);simp[st,dI,hc,ht,iX,e]
 ·have hl:l=[]:=h rfl;subst hl;simp[st,nL]
theorem OY {α:Type} {s:List UInt8×Bool} (h:pU s) (f:mW->Option α) (c:List UInt8->Option α) (hf:∀ t i,f (t,i)=if t.toNat=48 then c i else none) (k:α->List UInt8->Option β) :
  (st s).bind (dI f k)=(st (bB 48 s.1 s.2).2).bind (fun r=>(c (bB 48 s.1 s.2).1).bind fun a=>k a r):=by
 obtain ⟨l,fl⟩:=s
 cases fl
 ·cases hc:Box.cut l with
  | none=>
   have ht:bB 48 l false=([],[],true):=(by rw[bB,hc]);simp[st,dI,hc,ht]
  | some q=>
   obtain ⟨t,i,r⟩:=q;by_cases e:t.toNat=48
   ·have ht:bB 48 l false=(i,r,false):=(by rw[bB,hc];simp only[e,ez]);simp[st,dI,hc,ht,hf,e]
   ·have ht:bB 48 l false=([],[],true):=(by rw[bB,hc];simp only[e,eC]);simp[st,dI,hc,ht,hf,e]
 ·have hl:l=[]:=h rfl;subst hl;simp[st,nL]
theorem vw (s:List UInt8×Bool) (b:β):(st s).bind (uG b)=if (!s.2 && decide (s.1=[]))=true then some b else none:=by
 obtain ⟨l,f⟩:=s;cases f
 ·by_cases e:l=[] <;> simp[st,uG,e]
 ·simp[st]
theorem yR (bA:List UInt8):kG bA=(st (bJ bA)).bind Box.dH:=by
 unfold kG bJ;cases hc:Box.cut bA with
 | none=>
  have ht:bB 48 bA false=([],[],true):=by rw[bB,hc]
  simp[ht,st]
 | some q=>
  obtain ⟨t,i,r⟩:=q;by_cases e:t.toNat=48
  ·have ht:bB 48 bA false=(i,r,false):=(by rw[bB,hc];simp only[e,ez]);cases r with
   | nil=>simp[ht,st,e]
   | cons x r=>simp[ht,st]
  ·have ht:bB 48 bA false=([],[],true):=(by rw[bB,hc];simp only[e,eC]);cases r with
   | nil=>simp[ht,st,e]
   | cons x r=>simp[ht,st]
theorem ug (bA:List UInt8):pU (bJ bA):=lD bA
theorem FJ (bA:List UInt8) (due:Int):pU (iM bA due):=xz bA due
theorem J4 (bA:List UInt8) (due:Int) (f:List mW->Option β) (k:List UInt8->Option β) (hk:∀ l,k l=(Box.dH l).bind f) :
  (if bA.length<=300 then (kG bA).bind (bW bF fun n=>if n=due then f else fun _=>none) else none)=(st (iM bA due)).bind k:=by
 have e1:(kG bA).bind (bW bF fun n=>if n=due then f else fun _=>none)=(st (bJ bA)).bind (dI bF fun n=>if n=due then k else fun _=>none):=by
  rw[yR,Option.bind_assoc];congr 1;funext l;rw[dN bF (fun n=>if n=due then f else fun _=>none) (fun n=>if n=due then k else fun _=>none) (fun n l=>?_) l];by_cases e:n=due
  ·simp only[e,ez];exact hk l
  ·simp only[e,eC];exact TM l
 rw[e1,jL (ug bA)]
 unfold iM
 have ef:st (([],true):List UInt8×Bool)=none:=rfl
 by_cases hl:bA.length<=300
 ·rw[if_pos hl];by_cases e:(bO (bJ bA)).1=due
  ·rw[if_pos (And.intro e hl),if_pos e]
  ·rw[if_neg (fun q=>e (And.left q)),if_neg e,ef];cases st (bO (bJ bA)).2 <;> rfl
 ·rw[if_neg hl,if_neg (fun q=>hl (And.right q)),ef];rfl
def Hf:List UInt8->Option (Int×List UInt8):=dI bF fun n=>dI iX fun z=>uG (n,z)
theorem M5 (l:List UInt8):Hf l=(Box.dH l).bind pF:=
 dN _ _ _ (fun n l=>dN _ _ _ (fun z l=>vU (n,z) l) l) l
theorem FK {s:List UInt8×Bool} (h:pU s) (k:Int×List UInt8->List UInt8->Option β):(st s).bind (dI bF fun n=>dI iX fun z=>k (n,z))=(st (ja s).2).bind (k (ja s).1):=by
 rw[jL h,OV h.step];rfl
def J5 (i:List UInt8):Option (Option (Int×List UInt8)):=if i=[] then some none else (Hf i).map some
theorem Ux (t:UInt8) (i:List UInt8):lu (t,i)=if t.toNat=48 then J5 i else none:=by
 unfold lu yA J5;by_cases e:t.toNat=48
 ·simp only[e,ez];by_cases hi:i=[]
  ·subst hi;rw[if_pos rfl,Box.vP rfl]
  ·rw[if_neg hi,M5];cases hc:Box.dH i with
   | none=>rfl
   | some ps=>
    cases ps with
    | nil=>
     exfalso;cases hcc:Box.cut i with
     | none=>rw[Box.nk (fL.2 hi) hcc] at hc;cases hc
     | some q=>
      obtain ⟨t',i',r'⟩:=q;rw[Box.pX hcc] at hc;cases hr:Box.dH r' with
      | none=>rw[hr] at hc;cases hc
      | some z=>rw[hr] at hc;simp at hc
    | cons p ps=>rfl
 ·simp only[e,eC]
def Uy:List mW->Option FQ:=bW di fun c=>bW di fun s=>bW bF fun n=>bW bF fun f=>bW bF fun t=>bW bF fun r=>bW bF fun o=>bW lu fun p=>wF ⟨c,s,n,f,t,r,o,p⟩
def CZ:List UInt8->Option FQ:=dI di fun c=>dI di fun s=>dI bF fun n=>dI bF fun f=>dI bF fun t=>dI bF fun r=>dI bF fun o=>dI lu fun p=>uG ⟨c,s,n,f,t,r,o,p⟩
theorem QD (l:List UInt8):CZ l=(Box.dH l).bind Uy:=
 dN _ _ _ (fun c l=>dN _ _ _ (fun s l=>dN _ _ _ (fun n l=>dN _ _ _ (fun f l=>dN _ _ _ (fun t l=>dN _ _ _ (fun r l=>dN _ _ _ (fun o l=>dN _ _ _ (fun p l=>vU (⟨c,s,n,f,t,r,o,p⟩:FQ) l) l) l) l) l) l) l) l) l
theorem M6 {q0 s0 s1 s2 s3 s4 s5:List UInt8×Bool} {a b:List UInt8} {sa:List UInt8×Bool} {n0 n1 n2 n3 n4:Int} {qC:List UInt8×(List UInt8×Bool)} (h0:pU q0) (hA:fF q0=(a,sa)) (hB:fF sa=(b,s0)) (e0:bO s0=(n0,s1)) (e1:bO s1=(n1,s2)) (e2:bO s2=(n2,s3)) (e3:bO s3=(n3,s4)) (e4:bO s4=(n4,s5)) (hC:bB 48 s5.1 s5.2=qC) :
  pU (qC.1,qC.2.2)/\(st q0).bind CZ=(st qC.2).bind (fun r=>(J5 qC.1).bind fun p=>uG ⟨a,b,n0,n1,n2,n3,n4,p⟩ r):=by
 have ba:pU sa:=by have:=h0.name;rw[hA] at this;exact this
 have b0:pU s0:=by have:=ba.name;rw[hB] at this;exact this
 have b1:pU s1:=by have:=b0.step;rw[e0] at this;exact this
 have b2:pU s2:=by have:=b1.step;rw[e1] at this;exact this
 have b3:pU s3:=by have:=b2.step;rw[e2] at this;exact this
 have b4:pU s4:=by have:=b3.step;rw[e3] at this;exact this
 have b5:pU s5:=by have:=b4.step;rw[e4] at this;exact this
 refine ⟨fun e=>?_,?_⟩
 ·rw[<-hC] at e ⊢;exact (nJ 48 _ _ b5 e).1
 ·unfold CZ;rw[vX h0,hA,vX ba,hB,jL b0,e0,jL b1,e1,jL b2,e2,jL b3,e3,jL b4,e4,OY b5 lu J5 Ux,hC]
def OZ (bA:List UInt8):FQ:=⟨(Ye bA).1,(zF bA).1,yQ bA 0,yQ bA 1,yQ bA 2,yQ bA 3,yQ bA 4,if (AQ bA).1=[] then none else some (CW bA).1⟩
theorem mK (s:List UInt8×Bool) (k:Nat):bO (gM s k)=((bO (gM s k)).1,gM s (k+1)):=rfl
theorem vY (s:List UInt8×Bool):bO s=((bO (gM s 0)).1,gM s 1):=rfl
theorem Uz (bA:List UInt8):mq bA=(st (iM bA 10)).bind CZ:=by
 rw[<-J4 bA 10 Uy CZ QD];rfl
theorem M7 (bA:List UInt8):mq bA=if tY bA=true then some (OZ bA) else none:=by
 have e0:=Uz bA;have bb:=FJ bA 10;have hA:fF (iM bA 10)=Ye bA:=rfl;have hB:fF (Ye bA).2=zF bA:=rfl;have hN0:bO (zF bA).2=(yQ bA 0,gM (zF bA).2 1):=vY _;have hN1:bO (gM (zF bA).2 1)=(yQ bA 1,gM (zF bA).2 2):=mK _ 1;have hN2:bO (gM (zF bA).2 2)=(yQ bA 2,gM (zF bA).2 3):=mK _ 2;have hN3:bO (gM (zF bA).2 3)=(yQ bA 3,gM (zF bA).2 4):=mK _ 3;have hN4:bO (gM (zF bA).2 4)=(yQ bA 4,gM (zF bA).2 5):=mK _ 4;have WT:bB 48 (gM (zF bA).2 5).1 (gM (zF bA).2 5).2=AQ bA:=rfl;have hP:CW bA=if (AQ bA).1=[] then ((0,[]),((AQ bA).1,(AQ bA).2.2)) else ja ((AQ bA).1,(AQ bA).2.2):=rfl;have hO:tY bA=((!(CW bA).2.2 && decide ((CW bA).2.1=[])) && (!(AQ bA).2.2 && decide ((AQ bA).2.1=[]))):=rfl;have hQ:OZ bA=⟨(Ye bA).1,(zF bA).1,yQ bA 0,yQ bA 1,yQ bA 2,yQ bA 3,yQ bA 4,if (AQ bA).1=[] then none else some (CW bA).1⟩:=rfl;generalize gM (zF bA).2 1=s1 at *;generalize gM (zF bA).2 2=s2 at *;generalize gM (zF bA).2 3=s3 at *;generalize gM (zF bA).2 4=s4 at *;generalize gM (zF bA).2 5=s5 at *;generalize yQ bA 0=n0 at *;generalize yQ bA 1=n1 at *;generalize yQ bA 2=n2 at *;generalize yQ bA 3=n3 at *;generalize yQ bA 4=n4 at *;generalize OZ bA=Q at *;generalize tY bA=ok at *;generalize CW bA=P at *;generalize AQ bA=C at *;generalize zF bA=qB at *;generalize Ye bA=qA at *;generalize iM bA 10=q0 at *;obtain ⟨a,sa⟩:=qA;obtain ⟨b,s0⟩:=qB;obtain ⟨hC,core⟩:=M6 bb hA hB hN0 hN1 hN2 hN3 hN4 WT;rw[e0,core,hO,hQ];clear core hA hB hN0 hN1 hN2 hN3 hN4 WT e0 hO hQ;by_cases hp:C.1=[]
 ·rw[if_pos hp] at hP ⊢;have e1:J5 C.1=some none:=by rw[J5,if_pos hp]
  have e3:((!P.2.2 && decide (P.2.1=[])) && (!C.2.2 && decide (C.2.1=[])))=(!C.2.2 && decide (C.2.1=[])):=by
   rw[hP];simp only[hp,decide_true,fR];cases C.2.2 <;> simp
  rw[e1,e3,<-vw];rfl
 ·rw[if_neg hp] at hP ⊢;have hf:C.2.2=false:=by
   cases h:C.2.2
   ·rfl
   ·exact absurd (hC h) hp
  have e1:J5 C.1=if (!P.2.2 && decide (P.2.1=[]))=true then some (some P.1) else none:=by
   have e5:Hf C.1=(st (C.1,C.2.2)).bind (dI bF fun n=>dI iX fun z=>uG (n,z)):=(by rw[hf];rfl);rw[J5,if_neg hp,e5,FK hC (fun a=>uG a),<-hP,vw];split <;> rfl
  rw[e1];cases hd:(!P.2.2 && decide (P.2.1=[]))
  ·simp only[gh,fh,eC];cases st C.2 <;> rfl
  ·simp only[gj,ez];rw[<-vw];rfl
variable {w W W':World} {ex:Nat->Nat->Prop} {S:Source} {g g' fb:Nat} {s s':List UInt8×Bool} {cs cs':Array Value}
theorem RS.beside {ps:List (Nat×Nat)} (h:RS w W ex S g s fb cs) (h':RS w W' ex S g' s' fb cs') (c:CF W W' (exN g' ps)) (hp:∀ p∈ps,p.1=fb) (hne:g≠g'):RS w W' ex S g s fb cs':=by
 refine ⟨h.rd.keep (c.block g h.rd.lt (fun o e=>?_)),h'.blk,h'.cf,h'.src,h.ng,h'.nf,h'.hf,h.hg,h.ne⟩;rcases e with e | e
 ·exact hne e
 ·exact h.ne (hp _ e).symm
def UA (W:World) (g:Nat) (c0 c1 c2 c3 c4 c5 c6 c7 c8:Value):World:=(((((((((W.setCell ⟨g,0,none⟩ c0).setCell ⟨g,1,none⟩ c1).setCell ⟨g,2,none⟩ c2).setCell ⟨g,3,none⟩ c3).setCell ⟨g,4,none⟩ c4).setCell ⟨g,5,none⟩ c5).setCell ⟨g,6,none⟩ c6).setCell ⟨g,7,none⟩ c7).setCell ⟨g,8,none⟩ c8)
theorem Tryz.J6:(prog.info? 276).map (·.size)=some 9:=by kernel_rfl
theorem dX.nine {w:World} {g:Nat} {c0 c1 c2 c3 c4 c5 c6 c7 c8:Value} (h:dX w g #[c0,c1,c2,c3,c4,c5,c6,c7,c8]):w.cell? ⟨g,0,none⟩=some c0/\w.cell? ⟨g,1,none⟩=some c1/\w.cell? ⟨g,2,none⟩=some c2/\w.cell? ⟨g,3,none⟩=some c3/\w.cell? ⟨g,4,none⟩=some c4/\w.cell? ⟨g,5,none⟩=some c5/\w.cell? ⟨g,6,none⟩=some c6/\w.cell? ⟨g,7,none⟩=some c7/\w.cell? ⟨g,8,none⟩=some c8:=⟨h.cell 0,h.cell 1,h.cell 2,h.cell 3,h.cell 4,h.cell 5,h.cell 6,h.cell 7,h.cell 8⟩
theorem RS.UA {x0 x1 x2 x3 x4 x5 x6 x7 x8:Value} (h:RS w W ex S g s fb #[x0,x1,x2,x3,x4,x5,x6,x7,x8]) (c0 c1 c2 c3 c4 c5 c6 c7 c8:Value):RS w (UA W fb c0 c1 c2 c3 c4 c5 c6 c7 c8) ex S g s fb #[c0,c1,c2,c3,c4,c5,c6,c7,c8]:=by
 have k:=((((((((h.store 0 c0).store 1 c1).store 2 c2).store 3 c3).store 4 c4).store 5 c5).store 6 c6).store 7 c7).store 8 c8;exact afd
theorem RS.UB {c0 c1 c2 c3 c4 c5 c6 c7 c8:Value} (h:RS w W ex S g s fb #[c0,c1,c2,c3,c4,c5,c6,c7,c8]):(loadVar 276 ⟨fb,0,none⟩).run prog W = .ok (.agg #[c0,c1,c2,c3,c4,c5,c6,c7,c8]) W:=h.blk.load 276 _ underlying276 rfl Tryz.J6
def Sj (bA:List UInt8):List UInt8×(List UInt8×Bool):=bB 48 (iM bA 12).1 (iM bA 12).2
def Ym (bA:List UInt8):List UInt8×(List UInt8×Bool):=fF ((Sj bA).1,(Sj bA).2.2)
def LQ (bA:List UInt8):(Int×List UInt8)×(List UInt8×Bool):=ja (Ym bA).2
def UC (bA:List UInt8):List UInt8×(List UInt8×Bool):=bB 4 (Sj bA).2.1 (Sj bA).2.2
def Bh (bA:List UInt8):List UInt8×(List UInt8×Bool):=fF (UC bA).2
def Bi (bA:List UInt8) (j:Nat):Int:=(bO (gM (Bh bA).2 j)).1
def yS (bA:List UInt8):Bool:=(!(LQ bA).2.2 && decide ((LQ bA).2.1=[])) && (!(gM (Bh bA).2 4).2 && decide ((gM (Bh bA).2 4).1=[]))
abbrev vz:Array Value:=#[.string ⟨#[]⟩,.int .i64 0,.slice none 0 0,.slice none 0 0,.string ⟨#[]⟩,.int .i64 0,.int .i64 0,.int .i64 0,.int .i64 0]
def zH (bA:List UInt8) (v u:Value):List Value:=[.string ⟨(Ym bA).1.toArray⟩,.int .i64 (LQ bA).1.1,v,u,.string ⟨(Bh bA).1.toArray⟩,.int .i64 (Bi bA 0),.int .i64 (Bi bA 1),.int .i64 (Bi bA 2),.int .i64 (Bi bA 3)]
theorem acL {p:Prop} (h:p:=by
 go_wp2
 refine bodyPost_ret (aJ results141 _ _ _ w.heap.size rfl _ HZ.o.UB) rfl ⟨_,by rw[oW.o];rfl,fun e=>(by rw[oW.o] at e;cases e),⟨rfl,rfl⟩,HZ.o.cf.gb (fun _ _ _ e=>e)⟩):p:=h
theorem Hg (S:Source) (bA:List UInt8) (n:Nat) (ao:Option Addr) (cap:Nat) (w:World) (hn:Hid (bA.length=n)) (hs:At w S.1 S.2) (h:Bs S (.slice ao n cap) bA) :
  Calls prog 141 #[.slice ao n cap] w fun e w'=>∃ cs,e = .returned (.tuple #[.agg cs,.bool (yS bA)])/\(yS bA=true->∃ v u,cs=(zH bA v u).toArray/\Bs S v (LQ bA).1.2/\Bs S u (UC bA).1)/\(cs.size=9/\cs.toList.all (·.oneCell')=true)/\w.grownBy w' none:=by
 have G0:=aE w (.cells vz 276) none
 have s0:(w.alloc (.cells vz 276)).heap.size=w.heap.size+1:=ch _ _
 have HL:=hid (FD S bA n ao cap 12 _ hn (hs.below G0) h)
 have HB0:=hid (And.intro (dX.new w vz 276) G0)
 have eD:=hid hs
 have hbad:=xz bA 12
 obtain ⟨q0,h0⟩:=aq (iM bA 12)
 obtain ⟨qT,hT⟩:=aq (bB 48 q0.1 q0.2)
 obtain ⟨qS,hS⟩:=aq (fF (qT.1,qT.2.2))
 obtain ⟨qZ,hZ⟩:=aq (ja qS.2)
 obtain ⟨qP,hP⟩:=aq (bB 4 qT.2.1 qT.2.2)
 obtain ⟨qV,hV⟩:=aq (fF qP.2)
 obtain ⟨N,hN⟩:∃ N:Nat->Int,∀ j,(bO (gM qV.2 j)).1=N j:=⟨_,fun _=>rfl⟩
 obtain ⟨qE,hE⟩:=aq (gM qV.2 4)
 have HRT:Hid (Sj bA=qT):=by show _=_;rw[Sj,h0,hT]
 have HRS:Hid (Ym bA=qS):=by show _=_;rw[Ym,HRT.o,hS]
 have HRZ:Hid (LQ bA=qZ):=by show _=_;rw[LQ,HRS.o,hZ]
 have HRP:Hid (UC bA=qP):=by show _=_;rw[UC,HRT.o,hP]
 have HRV:Hid (Bh bA=qV):=by show _=_;rw[Bh,HRP.o,hV]
 have M3:Hid (∀ j,Bi bA j=N j):=fun j=>by rw[Bi,HRV.o,hN]
 have Ut:Hid (yS bA=((!qZ.2.2 && decide (qZ.2.1=[])) && (!qE.2 && decide (qE.1=[])))):=by show _=_;rw[yS,HRZ.o,HRV.o,hE]
 have HQ:=hid (And.intro hT (And.intro hS (And.intro hZ (And.intro hP (And.intro hV (And.intro hN hE))))))
 rw[h0] at HL hbad
 clear hs h G0 h0 hT hS hZ hP hV hN hE hn
 go_enter func141,ntmps141
 go_wp2_with fail
 refine HL.o.mono ?_
 rintro e w1 ⟨v,rfl,b1,g1⟩
 obtain ⟨a1,c1,rfl,_⟩:=id b1
 have FI:RS w (w1.alloc (.cells #[.slice a1 q0.1.length c1,.bool q0.2] 314)) (fun _ _=>False) S w1.heap.size q0 w.heap.size vz:=by
  exact ab0
 have HT1:=hid (CE S w1.heap.size q0.1 q0.2 _ FI.src FI.rd)
 have HbT:=hid (nJ 48 q0.1 q0.2 hbad)
 rw[HQ.o.1] at HT1 HbT
 have H1:=hid FI
 clear b1 g1 HB0 HL FI hbad s0
 go_wp2_with fail
 refine HT1.o.mono ?_
 rintro e w2 ⟨v2,rfl,b2,r2,f2⟩
 obtain ⟨aT,cT,rfl,_⟩:=id b2
 have Si:RS w w2 (fun _ _=>False) S w1.heap.size qT.2 w.heap.size vz:=H1.o.read f2 r2
 have z2:=Si.size
 have rp2:=Rd.new (w:=w2) b2 (fun e=>(HbT.o e).1) 314
 have HNt:=hid (iF.new Si.src (bd w2.heap.size))
 have QE:=Si.alloc (.cells #[.slice aT qT.1.length cT,.bool qT.2.2] 314)
 have rt2:RS w (w2.alloc (.cells #[.slice aT qT.1.length cT,.bool qT.2.2] 314)) (fun _ _=>False) S w2.heap.size (qT.1,qT.2.2) w.heap.size vz:=⟨rp2,QE.blk,QE.cf,QE.src,HNt.o,QE.nf,bd _,by omega,by omega⟩
 have HT2:=hid (nK S w2.heap.size (qT.1,qT.2.2) _ rt2.src rt2.ng rt2.rd)
 rw[HQ.o.2.1] at HT2
 have H2:=hid (And.intro QE rt2)
 have zz:w.heap.size<w2.heap.size/\w1.heap.size<w2.heap.size:=by omega
 clear b2 r2 f2 HT1 H1 HbT Si QE rt2 rp2 z2
 go_wp2_with fail
 refine HT2.o.mono ?_
 rintro e w4 ⟨rfl,r4,f4⟩
 have ri4:=H2.o.1.other f4 HNt.o afp afp afp
 have rt4:RS w w4 (fun _ _=>False) S w2.heap.size qS.2 w.heap.size vz:=H2.o.2.read f4 r4
 obtain ⟨⟨d4,hd4⟩,QC⟩:=ri4.slot 0 (by show 0<9;decide)
 have ri5:RS w (w4.setCell ⟨w.heap.size,0,none⟩ (.string ⟨qS.1.toArray⟩)) (fun _ _=>False) S w1.heap.size qT.2 w.heap.size #[.string ⟨qS.1.toArray⟩,.int .i64 0,.slice none 0 0,.slice none 0 0,.string ⟨#[]⟩,.int .i64 0,.int .i64 0,.int .i64 0,.int .i64 0]:=ri4.store 0 _
 have ZJ:RS w (w4.setCell ⟨w.heap.size,0,none⟩ (.string ⟨qS.1.toArray⟩)) (fun _ _=>False) S w2.heap.size qS.2 w.heap.size #[.string ⟨qS.1.toArray⟩,.int .i64 0,.slice none 0 0,.slice none 0 0,.string ⟨#[]⟩,.int .i64 0,.int .i64 0,.int .i64 0,.int .i64 0]:=rt4.store 0 _
 have HT3:=hid (yP S w2.heap.size qS.2 _ ZJ.src ZJ.ng ZJ.rd)
 rw[HQ.o.2.2.1] at HT3
 have H3:=hid (And.intro ri5 ZJ)
 clear r4 f4 HT2 H2 ri4 rt4 ri5 ZJ
 go_wp2_with fail
 refine HT3.o.mono ?_
 rintro e w5 ⟨v5,rfl,b5,r5,f5⟩
 obtain ⟨aZ,cZ,rfl,_⟩:=id b5
 have ri5:=H3.o.1.other f5 HNt.o afp afp afp
 have ZJ:RS w w5 (fun _ _=>False) S w2.heap.size qZ.2 w.heap.size #[.string ⟨qS.1.toArray⟩,.int .i64 0,.slice none 0 0,.slice none 0 0,.string ⟨#[]⟩,.int .i64 0,.int .i64 0,.int .i64 0,.int .i64 0]:=H3.o.2.read f5 r5
 obtain ⟨⟨d5,hd5⟩,hz5⟩:=ri5.slot 1 (by show 1<9;decide)
 obtain ⟨⟨d5',ain⟩,aio⟩:=ri5.slot 2 (by show 2<9;decide)
 have ZK:RS w ((w5.setCell ⟨w.heap.size,1,none⟩ (.int .i64 qZ.1.1)).setCell ⟨w.heap.size,2,none⟩ (.slice aZ qZ.1.2.length cZ)) (fun _ _=>False) S w1.heap.size qT.2 w.heap.size #[.string ⟨qS.1.toArray⟩,.int .i64 qZ.1.1,.slice aZ qZ.1.2.length cZ,.slice none 0 0,.string ⟨#[]⟩,.int .i64 0,.int .i64 0,.int .i64 0,.int .i64 0]:=(ri5.store 1 _).store 2 _
 have rt6:RS w ((w5.setCell ⟨w.heap.size,1,none⟩ (.int .i64 qZ.1.1)).setCell ⟨w.heap.size,2,none⟩ (.slice aZ qZ.1.2.length cZ)) (fun _ _=>False) S w2.heap.size qZ.2 w.heap.size #[.string ⟨qS.1.toArray⟩,.int .i64 qZ.1.1,.slice aZ qZ.1.2.length cZ,.slice none 0 0,.string ⟨#[]⟩,.int .i64 0,.int .i64 0,.int .i64 0,.int .i64 0]:=(ZJ.store 1 _).store 2 _
 have HBZ:=hid b5
 have Us:=hid (yN S w1.heap.size qT.2.1 qT.2.2 _ ZK.src ZK.rd)
 rw[HQ.o.2.2.2.1] at Us
 have H4:=hid (And.intro ZK rt6)
 clear r5 f5 b5 HT3 H3 ri5 ZJ ZK rt6 hd4 QC
 go_wp2_with fail
 refine Us.o.mono ?_
 rintro e w6 ⟨v6,rfl,b6,r6,f6⟩
 obtain ⟨aP,cP,rfl,_⟩:=id b6
 have ZK:RS w w6 (fun _ _=>False) S w1.heap.size qP.2 w.heap.size #[.string ⟨qS.1.toArray⟩,.int .i64 qZ.1.1,.slice aZ qZ.1.2.length cZ,.slice none 0 0,.string ⟨#[]⟩,.int .i64 0,.int .i64 0,.int .i64 0,.int .i64 0]:=H4.o.1.read f6 r6
 have rt6:=H4.o.2.other f6 H4.o.1.ng afp (fun e=>H4.o.1.ne e.symm) H4.o.1.hg
 obtain ⟨⟨d6,hd6⟩,hz6⟩:=ZK.slot 3 (by show 3<9;decide)
 have Yn:RS w (w6.setCell ⟨w.heap.size,3,none⟩ (.slice aP qP.1.length cP)) (fun _ _=>False) S w1.heap.size qP.2 w.heap.size #[.string ⟨qS.1.toArray⟩,.int .i64 qZ.1.1,.slice aZ qZ.1.2.length cZ,.slice aP qP.1.length cP,.string ⟨#[]⟩,.int .i64 0,.int .i64 0,.int .i64 0,.int .i64 0]:=ZK.store 3 _
 have rt7:RS w (w6.setCell ⟨w.heap.size,3,none⟩ (.slice aP qP.1.length cP)) (fun _ _=>False) S w2.heap.size qZ.2 w.heap.size #[.string ⟨qS.1.toArray⟩,.int .i64 qZ.1.1,.slice aZ qZ.1.2.length cZ,.slice aP qP.1.length cP,.string ⟨#[]⟩,.int .i64 0,.int .i64 0,.int .i64 0,.int .i64 0]:=rt6.store 3 _
 have HBP:=hid b6
 have OU:=hid (nK S w1.heap.size qP.2 _ Yn.src Yn.ng Yn.rd)
 rw[HQ.o.2.2.2.2.1] at OU
 have H5:=hid (And.intro Yn rt7)
 clear r6 f6 b6 Us H4 ZK rt6 Yn rt7 hd5 hz5 ain aio
 go_wp2_with fail
 refine OU.o.mono ?_
 rintro e w7 ⟨rfl,r7,f7⟩
 have Yn:RS w w7 (fun _ _=>False) S w1.heap.size qV.2 w.heap.size #[.string ⟨qS.1.toArray⟩,.int .i64 qZ.1.1,.slice aZ qZ.1.2.length cZ,.slice aP qP.1.length cP,.string ⟨#[]⟩,.int .i64 0,.int .i64 0,.int .i64 0,.int .i64 0]:=H5.o.1.read f7 r7
 have rt7:=H5.o.2.other f7 H5.o.1.ng afp (fun e=>H5.o.1.ne e.symm) H5.o.1.hg
 obtain ⟨⟨d7,hd7⟩,hz7⟩:=Yn.slot 4 (by show 4<9;decide)
 have ri8:RS w (w7.setCell ⟨w.heap.size,4,none⟩ (.string ⟨qV.1.toArray⟩)) (fun _ _=>False) S w1.heap.size qV.2 w.heap.size #[.string ⟨qS.1.toArray⟩,.int .i64 qZ.1.1,.slice aZ qZ.1.2.length cZ,.slice aP qP.1.length cP,.string ⟨qV.1.toArray⟩,.int .i64 0,.int .i64 0,.int .i64 0,.int .i64 0]:=Yn.store 4 _
 have rt8:RS w (w7.setCell ⟨w.heap.size,4,none⟩ (.string ⟨qV.1.toArray⟩)) (fun _ _=>False) S w2.heap.size qZ.2 w.heap.size #[.string ⟨qS.1.toArray⟩,.int .i64 qZ.1.1,.slice aZ qZ.1.2.length cZ,.slice aP qP.1.length cP,.string ⟨qV.1.toArray⟩,.int .i64 0,.int .i64 0,.int .i64 0,.int .i64 0]:=rt7.store 4 _
 have HB7:=hid (And.intro HBZ.o HBP.o)
 have pl:=ri8.places [5,6,7,8] (fun j hj=>by show j<9;simp at hj;omega) afq 319
 rw[World.size_setCell] at pl
 have Yo:=ri8.alloc (.cells #[.pointer (some ⟨w.heap.size,5,none⟩),.pointer (some ⟨w.heap.size,6,none⟩),.pointer (some ⟨w.heap.size,7,none⟩),.pointer (some ⟨w.heap.size,8,none⟩)] 319)
 have aez:=rt8.alloc (.cells #[.pointer (some ⟨w.heap.size,5,none⟩),.pointer (some ⟨w.heap.size,6,none⟩),.pointer (some ⟨w.heap.size,7,none⟩),.pointer (some ⟨w.heap.size,8,none⟩)] 319)
 have LM:=hid (jY S w1.heap.size w7.heap.size _ 4 qV.2 _ (hid rfl) afp (Yo.stays [5,6,7,8]) Yo.rd pl)
 simp only[HQ.o.2.2.2.2.2.1] at LM
 rw[HQ.o.2.2.2.2.2.2] at LM
 have H6:=hid (And.intro Yo aez)
 clear r7 f7 Yn rt7 ri8 rt8 OU H5 pl Yo aez hd6 hz6 HBZ HBP
 go_wp2_with fail
 refine LM.o.mono ?_
 rintro e w8 ⟨rfl,r8,c8,f8⟩
 have hps:∀ p∈([5,6,7,8].map fun j=>(w.heap.size,j)),p.1=w.heap.size:=fun p hp=>by
  exact acK
 have ri9:RS w w8 (fun _ _=>False) S w1.heap.size qE w.heap.size #[.string ⟨qS.1.toArray⟩,.int .i64 qZ.1.1,.slice aZ qZ.1.2.length cZ,.slice aP qP.1.length cP,.string ⟨qV.1.toArray⟩,.int .i64 (N 0),.int .i64 (N 1),.int .i64 (N 2),.int .i64 (N 3)]:=by
  refine H6.o.1.nums f8 r8 hps rfl (fun j hj=>?_)
  ·have hj':j<9:=hj;match j,hj' with
   | 0,_=>exact f8.cell (H6.o.1.blk.cell 0) (fun e=>by rcases e with e | e;exact H6.o.1.ne e;simp at e)
   | 1,_=>exact f8.cell (H6.o.1.blk.cell 1) (fun e=>by rcases e with e | e;exact H6.o.1.ne e;simp at e)
   | 2,_=>exact f8.cell (H6.o.1.blk.cell 2) (fun e=>by rcases e with e | e;exact H6.o.1.ne e;simp at e)
   | 3,_=>exact f8.cell (H6.o.1.blk.cell 3) (fun e=>by rcases e with e | e;exact H6.o.1.ne e;simp at e)
   | 4,_=>exact f8.cell (H6.o.1.blk.cell 4) (fun e=>by rcases e with e | e;exact H6.o.1.ne e;simp at e)
   | 5,_=>exact c8 0 (w.heap.size,5) rfl
   | 6,_=>exact c8 1 (w.heap.size,6) rfl
   | 7,_=>exact c8 2 (w.heap.size,7) rfl
   | 8,_=>exact c8 3 (w.heap.size,8) rfl
 have rt9:=H6.o.2.beside ri9 f8 hps afp
 have Yh:=hid HB7.o
 have HT:=hid (And.intro ri9 rt9)
 clear r8 c8 f8 ri9 rt9 hps LM H6 HB7 HQ hd7 hz7
 obtain ⟨y0,y1,y2,y3,y4,y5,y6,y7,y8⟩:=HT.o.1.blk.nine
 have zz0:=(HT.o.1.slot 0 (by show 0<9;decide)).2
 have zz1:=(HT.o.1.slot 1 (by show 1<9;decide)).2
 have zz2:=(HT.o.1.slot 2 (by show 2<9;decide)).2
 have zz3:=(HT.o.1.slot 3 (by show 3<9;decide)).2
 have zz4:=(HT.o.1.slot 4 (by show 4<9;decide)).2
 have zz5:=(HT.o.1.slot 5 (by show 5<9;decide)).2
 have zz6:=(HT.o.1.slot 6 (by show 6<9;decide)).2
 have zz7:=(HT.o.1.slot 7 (by show 7<9;decide)).2
 have zz8:=(HT.o.1.slot 8 (by show 8<9;decide)).2
 have HD1:=hid (jw S w2.heap.size _ _ _ HT.o.2.rd)
 have HD2:=hid (jw S w1.heap.size _ _ _ HT.o.1.rd)
 have HZ:=hid (HT.o.1.UA (.string ⟨#[]⟩) (.int .i64 0) (.slice none 0 0) (.slice none 0 0) (.string ⟨#[]⟩) (.int .i64 0) (.int .i64 0) (.int .i64 0) (.int .i64 0))
 have HY:=hid (HT.o.1.UA (.string ⟨qS.1.toArray⟩) (.int .i64 qZ.1.1) (.slice aZ qZ.1.2.length cZ) (.slice aP qP.1.length cP) (.string ⟨qV.1.toArray⟩) (.int .i64 (N 0)) (.int .i64 (N 1)) (.int .i64 (N 2)) (.int .i64 (N 3)))
 unfold UA at HZ HY
 cases hq1:(!qZ.2.2 && decide (qZ.2.1=[]))
 ·have oW:Hid (yS bA=false):=by show _=_;rw[Ut.o,hq1];rfl
  rw[hq1] at HD1;go_wp2_with fail;refine HD1.o.mono ?_;rintro e w9 ⟨rfl,rfl⟩;clear HD1 HD2 HY hq1;exact acL
 ·rw[hq1] at HD1;cases hq2:(!qE.2 && decide (qE.1=[]))
  ·have oW:Hid (yS bA=false):=(by show _=_;rw[Ut.o,hq1,hq2];rfl);rw[hq2] at HD2;go_wp2_with fail;refine HD1.o.mono ?_;rintro e w9 ⟨rfl,rfl⟩;go_wp2_with fail;refine HD2.o.mono ?_;rintro e w9 ⟨rfl,rfl⟩;clear HD1 HD2 HY hq1 hq2;exact acL
  ·have oW:Hid (yS bA=true):=(by show _=_;rw[Ut.o,hq1,hq2];rfl);rw[hq2] at HD2;go_wp2_with fail;refine HD1.o.mono ?_;rintro e w9 ⟨rfl,rfl⟩;go_wp2_with fail;refine HD2.o.mono ?_;rintro e w9 ⟨rfl,rfl⟩;clear HD1 HD2 HZ hq1 hq2;go_wp2;refine bodyPost_ret (aJ results141 _ _ _ w.heap.size rfl _ HY.o.UB) rfl ⟨_,by rw[oW.o];rfl,fun _=>?_,⟨rfl,rfl⟩,HY.o.cf.gb (fun _ _ _ e=>e)⟩;refine ⟨_,_,by rw[zH,HRS.o,HRZ.o,HRV.o,M3.o,M3.o,M3.o,M3.o],?_,?_⟩
   ·rw[HRZ.o];exact Yh.o.1
   ·rw[HRP.o];exact Yh.o.2
def ZL:List mW->Option NQ:=bW gD fun c=>bW iX fun p=>bW di fun s=>bW bF fun n=>bW bF fun t=>bW bF fun r=>bW bF fun o=>wF ⟨c.1,c.2.1,c.2.2,p,s,n,t,r,o⟩
def J7:List UInt8->Option NQ:=dI gD fun c=>dI iX fun p=>dI di fun s=>dI bF fun n=>dI bF fun t=>dI bF fun r=>dI bF fun o=>uG ⟨c.1,c.2.1,c.2.2,p,s,n,t,r,o⟩
theorem UD (l:List UInt8):J7 l=(Box.dH l).bind ZL:=
 dN _ _ _ (fun c l=>dN _ _ _ (fun p l=>dN _ _ _ (fun s l=>dN _ _ _ (fun n l=>dN _ _ _ (fun t l=>dN _ _ _ (fun r l=>dN _ _ _ (fun o l=>vU (⟨c.1,c.2.1,c.2.2,p,s,n,t,r,o⟩:NQ) l) l) l) l) l) l) l) l
def rz:List UInt8->Option (List UInt8×Int×List UInt8):=dI di fun s=>dI bF fun n=>dI iX fun z=>uG (s,n,z)
theorem M8 (l:List UInt8):rz l=(Box.dH l).bind pG:=
 dN _ _ _ (fun s l=>dN _ _ _ (fun n l=>dN _ _ _ (fun z l=>vU (s,n,z) l) l) l) l
theorem J8 (t:UInt8) (i:List UInt8):gD (t,i)=if t.toNat=48 then rz i else none:=by
 unfold gD yA;by_cases e:t.toNat=48
 ·simp only[e,ez];exact (M8 i).symm
 ·simp only[e,eC];rfl
def WU (bA:List UInt8):NQ:=⟨(Ym bA).1,(LQ bA).1.1,(LQ bA).1.2,(UC bA).1,(Bh bA).1,Bi bA 0,Bi bA 1,Bi bA 2,Bi bA 3⟩
theorem QF {α β γ:Type} (x:Option α) (y:Option β) (f:β->α->Option γ):x.bind (fun a=>y.bind fun b=>f b a)=y.bind fun b=>x.bind (f b):=by cases x <;> cases y <;> rfl
theorem QG {q0 sp s0 s1 s2 s3 s4 t1:List UInt8×Bool} {qT:List UInt8×(List UInt8×Bool)} {a:List UInt8} {qZ:(Int×List UInt8)×(List UInt8×Bool)} {p v:List UInt8} {n0 n1 n2 n3:Int} (h0:pU q0) (hT:bB 48 q0.1 q0.2=qT) (hS:fF (qT.1,qT.2.2)=(a,t1)) (hZ:ja t1=qZ) (hP:bB 4 qT.2.1 qT.2.2=(p,sp)) (hV:fF sp=(v,s0)) (e0:bO s0=(n0,s1)) (e1:bO s1=(n1,s2)) (e2:bO s2=(n2,s3)) (e3:bO s3=(n3,s4)) :
  (st q0).bind J7=if ((!qZ.2.2 && decide (qZ.2.1=[])) && (!s4.2 && decide (s4.1=[])))=true then some ⟨a,qZ.1.1,qZ.1.2,p,v,n0,n1,n2,n3⟩ else none:=by
 have bT:pU (qT.1,qT.2.2):=fun e=>by rw[<-hT] at e ⊢;exact (nJ 48 _ _ h0 e).1
 have bT2:pU qT.2:=by have:=h0.take 48;rw[hT] at this;exact this
 have b1:pU t1:=by have:=bT.name;rw[hS] at this;exact this
 have bp:pU sp:=by have:=bT2.take 4;rw[hP] at this;exact this
 have c0:pU s0:=by have:=bp.name;rw[hV] at this;exact this
 have c1:pU s1:=by have:=c0.step;rw[e0] at this;exact this
 have c2:pU s2:=by have:=c1.step;rw[e1] at this;exact this
 have c3:pU s3:=by have:=c2.step;rw[e2] at this;exact this
 have hin:∀ c:List UInt8×Int×List UInt8,(st qT.2).bind (dI iX fun p=>dI di fun s=>dI bF fun n=>dI bF fun t=>dI bF fun r=>dI bF fun o=>uG (⟨c.1,c.2.1,c.2.2,p,s,n,t,r,o⟩:NQ))=if (!s4.2 && decide (s4.1=[]))=true then some ⟨c.1,c.2.1,c.2.2,p,v,n0,n1,n2,n3⟩ else none:=by
  intro c;rw[OV bT2,hP,vX bp,hV,jL c0,e0,jL c1,e1,jL c2,e2,jL c3,e3,vw]
 have htk:(st (qT.1,qT.2.2)).bind rz=if (!qZ.2.2 && decide (qZ.2.1=[]))=true then some (a,qZ.1.1,qZ.1.2) else none:=by
  unfold rz;rw[vX bT,hS,FK b1 (fun c=>uG (a,c.1,c.2)),hZ,vw]
 unfold J7
 rw[OY h0 gD rz J8,hT,QF]
 cases hf:qT.2.2
 ·have e5:rz qT.1=(st (qT.1,qT.2.2)).bind rz:=by rw[hf];rfl
  rw[e5,htk];cases hd:(!qZ.2.2 && decide (qZ.2.1=[]))
  ·simp only[gh,fh,eC];rfl
  ·simp only[gj,ez];exact hin (a,qZ.1.1,qZ.1.2)
 ·have e5:(st (qT.1,qT.2.2))=none:=by rw[hf];rfl
  rw[e5] at htk;have hd:(!qZ.2.2 && decide (qZ.2.1=[]))=false:=by
   cases hd:(!qZ.2.2 && decide (qZ.2.1=[]))
   ·rfl
   ·rw[hd] at htk;simp at htk
  rw[hd];have e6:st qT.2=none:=by rw[st,if_pos hf]
  rw[e6];simp only[gh,fh,eC];cases rz qT.1 <;> rfl
theorem Yp (bA:List UInt8):qh bA=(st (iM bA 12)).bind J7:=by
 rw[<-J4 bA 12 ZL J7 UD];rfl
theorem QH (bA:List UInt8):qh bA=if yS bA=true then some (WU bA) else none:=by
 have e0:=Yp bA;have bb:=FJ bA 12;have hT:bB 48 (iM bA 12).1 (iM bA 12).2=Sj bA:=rfl;have hS:fF ((Sj bA).1,(Sj bA).2.2)=Ym bA:=rfl;have hZ:ja (Ym bA).2=LQ bA:=rfl;have hP:bB 4 (Sj bA).2.1 (Sj bA).2.2=UC bA:=rfl;have hV:fF (UC bA).2=Bh bA:=rfl;have hN0:bO (Bh bA).2=(Bi bA 0,gM (Bh bA).2 1):=vY _;have hN1:bO (gM (Bh bA).2 1)=(Bi bA 1,gM (Bh bA).2 2):=mK _ 1;have hN2:bO (gM (Bh bA).2 2)=(Bi bA 2,gM (Bh bA).2 3):=mK _ 2;have hN3:bO (gM (Bh bA).2 3)=(Bi bA 3,gM (Bh bA).2 4):=mK _ 3;have hO:yS bA=((!(LQ bA).2.2 && decide ((LQ bA).2.1=[])) && (!(gM (Bh bA).2 4).2 && decide ((gM (Bh bA).2 4).1=[]))):=rfl;have hQ:WU bA=⟨(Ym bA).1,(LQ bA).1.1,(LQ bA).1.2,(UC bA).1,(Bh bA).1,Bi bA 0,Bi bA 1,Bi bA 2,Bi bA 3⟩:=rfl;generalize gM (Bh bA).2 1=s1 at *;generalize gM (Bh bA).2 2=s2 at *;generalize gM (Bh bA).2 3=s3 at *;generalize gM (Bh bA).2 4=s4 at *;generalize Bi bA 0=n0 at *;generalize Bi bA 1=n1 at *;generalize Bi bA 2=n2 at *;generalize Bi bA 3=n3 at *;generalize WU bA=Q at *;generalize yS bA=ok at *;generalize Bh bA=qV at *;generalize UC bA=qP at *;generalize LQ bA=qZ at *;generalize Ym bA=qS at *;generalize Sj bA=qT at *;generalize iM bA 12=q0 at *;obtain ⟨a,t1⟩:=qS;obtain ⟨p,sp⟩:=qP;obtain ⟨v,s0⟩:=qV;rw[e0,QG bb hT hS hZ hP hV hN0 hN1 hN2 hN3,hO,hQ]
end Go.Proofs.YteknelimjfgmaaaGreatDoor
