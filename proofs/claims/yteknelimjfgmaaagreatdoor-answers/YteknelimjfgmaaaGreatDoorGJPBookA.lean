import Derived.Test.YteknelimjfgmaaaGreatDoorGJBoxM
import Derived.Test.YteknelimjfgmaaaGreatDoorGJShelf
import Derived.Test.YteknelimjfgmaaaGreatDoorGJIns
import Derived.BigQuiet
import Derived.Test.YteknelimjfgmaaaGreatDoorGJBlk
namespace Go.Proofs.YteknelimjfgmaaaGreatDoor
set_option maxHeartbeats 400000
open Proofs.Tryz Go.RowKit
set_option maxRecDepth 100000
variable {es:List BE} {g:Nat} {w:World}
def BE.bG (e:BE):List Value:=[.string ⟨e.name.toArray⟩,.int .i64 e.aH,.int .u64 (e.key.toNat:Int),.int .u64 (e.before.toNat:Int),.int .i64 e.bI,.int .i64 e.aD,.int .i64 e.bC,.int .i64 e.ay]
def dL (l:List BE):List Value:=(l.map BE.bG).flatten
theorem eG (l:List BE):(dL l).length=l.length*8:=by
 induction l with
 | nil=>rfl
 | cons x l ih=>simp only[dL,dj,dk,bj,cN] at *;rw[ih];show 8+_=_;omega
theorem jl (a b:List BE):dL (a++b)=dL a++dL b:=by simp[dL]
theorem uW (l:List BE):∀ (k j:Nat) (hk:k<l.length),j<8->(dL l)[k*8+j]?=(l[k]).bG[j]?:=by
 induction l with
 | nil=>intro k j hk;simp at hk
 | cons x l ih=>
  intro k j hk hj;have e:dL (x::l)=x.bG++dL l:=by simp[dL]
  rw[e];cases k with
  | zero=>rw[gi,cC,cF (by show j<8;exact hj)];rfl
  | succ k=>
   rw[cM (by show 8<=(k+1)*8+j;omega),show (k+1)*8+j-x.bG.length=k*8+j from by show (k+1)*8+j-8=k*8+j;omega];exact ih k j (by simpa using hk) hj
structure bY (w:World) (g o:Nat) (es:List BE):Prop where
 live:Live w g (o+161)
 room:w.rangeAt g o (dL es)
 count:w.cell? ⟨g,o+160,none⟩=some (.int .i64 es.length)
 len:es.length<=20
theorem bY.cf {w':World} {ex:Nat->Nat->Prop} {o:Nat} (h:bY w g o es) (k:CF w w' ex) (hx:∀ j,o<=j->j<o+161->¬ ex g j):bY w' g o es:=
 ⟨h.live.cf k,k.range h.room (fun j hj=>hx _ afp (by have:=h.len;rw[eG] at hj;omega)),k.cell h.count (hx _ afp afp),h.len⟩
theorem bY.grown {w':World} {o:Nat} (h:bY w g o es) (k:w.grownBy w' none):bY w' g o es:=h.cf (CF.bN k (fun _ _=>False)) (fun _ _ _ e=>e)
theorem bY.drewN {o:Nat} (h:bY w g o es) (n:Nat):bY (w.drewN n) g o es:=h.grown (aY (bh w none) n)
theorem bY.entry {o:Nat} (h:bY w g o es) (k:Nat) (hk:k<es.length):w.rangeAt g (o+k*8) es[k].bG:=by
 intro j u hu;have hj:j<8:=(cq.1 hu).1;have:=h.room (k*8+j) u (by rw[uW es k j hk hj];exact hu);rw[<-fN] at this;exact this
theorem adl {p:Prop} (h:p:=by
 by_cases e:x=y
 ·exact e
 ·rcases UInt8.lt_or_lt_of_ne e with h | h
  ·exact absurd h h1
  ·exact absurd h h2):p:=h
theorem aeK {p:Prop} (h:p:=by
 have h3:x≠y:=fun e=>by subst e;exact absurd h2 (UInt8.lt_irrefl x)
 simp[h1,h2,h3]):p:=h
theorem TI:∀ a b:List UInt8,(Lib.compareBytes a b<0)↔Op.bytesLess a b=true:=by
 intro a;induction a with
 | nil=>intro b;cases b <;> simp[Lib.compareBytes,Op.bytesLess]
 | cons x a ih=>
  intro b;cases b with
  | nil=>simp[Lib.compareBytes,Op.bytesLess]
  | cons y b=>
   simp only[Lib.compareBytes,Op.bytesLess,Bool.or_eq_true,ej,eL,cL];by_cases h1:x<y
   ·simp[h1]
   ·by_cases h2:y<x
    ·exact aeK
    ·have h3:x=y:=by
      exact adl
     subst h3;simp[UInt8.lt_irrefl,ih b]
theorem Jn:∀ a b:List UInt8,(Lib.compareBytes a b=0)↔a=b:=by
 intro a;induction a with
 | nil=>intro b;cases b <;> simp[Lib.compareBytes]
 | cons x a ih=>
  intro b;cases b with
  | nil=>simp[Lib.compareBytes]
  | cons y b=>
   simp only[Lib.compareBytes];by_cases h1:x<y
   ·have h3:x≠y:=fun e=>by subst e;exact absurd h1 (UInt8.lt_irrefl x)
    simp[h1,h3]
   ·by_cases h2:y<x
    ·exact aeK
    ·have h3:x=y:=by
      exact adl
     simp[h3,ih b]
theorem Qh:∀ a b:List UInt8,-1<=Lib.compareBytes a b/\Lib.compareBytes a b<=1:=by
 intro a;induction a with
 | nil=>intro b;cases b <;> simp[Lib.compareBytes]
 | cons x a ih=>
  intro b;cases b with
  | nil=>simp[Lib.compareBytes]
  | cons y b=>
   simp only[Lib.compareBytes];split
   ·omega
   ·split
    ·omega
    ·exact ih b
theorem TJ (l:List UInt8):∀ (es:List BE) (k:Nat),k<=es.length->(∀ j (hj:j<es.length),j<k->Op.bytesLess es[j].name l=true)->(∀ h:k<es.length,Op.bytesLess es[k].name l=false)->BE.ins es l=k:=by
 intro es;induction es with
 | nil=>intro k hk _ _;simp at hk;subst hk;rfl
 | cons x es ih=>
  intro k hk h1 h2;cases k with
  | zero=>
   have:=h2 aft;simp only[ft] at this;simp[BE.ins,this]
  | succ k=>
   have h0:=h1 0 aft afp;simp only[ft] at h0;rw[BE.ins,if_pos h0,ih k (by simpa using hk) (fun j hj hjk=>by have:=h1 (j+1) afK afp;simpa using this) (fun h=>by have:=h2 (by simpa using h);simpa using this)]
theorem TL (hs:es.Pairwise (fun x y=>Op.bytesLess x.name y.name=true)) (l:List UInt8):BE.ny es l=if h:BE.ins es l<es.length then (if es[BE.ins es l].name=l then some (BE.ins es l) else none) else none:=by
 cases h:BE.ny es l with
 | none=>
  have hno:=OE h;split
  ·rename_i hi;rw[if_neg (hno _ (cJ hi))]
  ·rfl
 | some i=>
  obtain ⟨hi,he⟩:=Bb h;have hk:BE.ins es l=i:=by
   refine TJ l es i afp (fun j hj hji=>?_) (fun hh=>?_)
   ·have:=List.pairwise_iff_getElem.1 hs j i hj hi hji;rw[he] at this;exact this
   ·rw[he];exact E5 l
  rw[dif_pos (by rw[hk];exact hi),if_pos (by simp only[hk];exact he),hk]
theorem acY {p:Prop} (h:p:=by
 go_wp2
 go_ret
 exact ⟨rfl,_,rfl⟩):p:=h
theorem Jo (g o:Nat) (es:List BE) (w:World) (h:bY w g o es) :
  Calls prog 150 #[.pointer (some ⟨g,o,none⟩)] w fun e w'=>e = .returned (.slice (some ⟨g,o,none⟩) es.length 20)/\∃ q,w'=w.drewN q:=by
 have hc:=h.count
 have hl:=h.len
 clear h
 generalize es.length=n at *
 have hlI:(n:Int)<=20:=by omega
 have hl0:(0:Int)<=(n:Int):=by omega
 go_enter func150,ntmps150
 go_wp2_with fail
 go_quiet (fail)
 exact acY
theorem Tryz.l9:(prog.info? 126).map (·.size)=some 8:=by kernel_rfl
theorem OH (x:BE) (l:List UInt8) (S:ByteArray) (w:World) (hS:Hid (S=⟨l.toArray⟩)) :
  Calls prog 202 #[.agg x.bG.toArray,.string S] w fun e w'=>e = .returned (.int .i64 (Lib.compareBytes x.name l))/\w.grownBy w' none:=by
 obtain ⟨name,aH,key,before,bI,aD,bC,ay⟩:=x
 have h1:(⟨name.toArray⟩:ByteArray).data.toList=name:=by simp
 have h2:S.data.toList=l:=by rw[hS.o]
 have C:=fun w=>Tryz.strings_Compare (⟨name.toArray⟩:ByteArray) S w
 rw[h1,h2] at C
 have G:=aE w (.cells (BE.bG ⟨name,aH,key,before,bI,aD,bC,ay⟩).toArray 126) none
 simp only[BE.bG] at G ⊢
 clear h1 h2
 go_enter func202,ntmps202
 go_wp2_with (go_at_call 203;refine (C _).mono ?_;rintro e w' ⟨rfl,rfl⟩)
 go_ret
 exact ⟨rfl,G⟩
set_option maxHeartbeats 2000000
theorem Jp (g o:Nat) (es:List BE) (l:List UInt8) (n:Nat) (S:ByteArray) (w:World) (h:bY w g o es) (hn:Hid (es.length=n)) (hs:es.Pairwise (fun x y=>Op.bytesLess x.name y.name=true)) (hS:Hid (S=⟨l.toArray⟩)) :
  Calls prog 201 #[.slice (some ⟨g,o,none⟩) n 20,.string S,.func (.func 202) #[] #[]] w fun e w'=>e = .returned (.tuple #[.int .i64 (BE.ins es l),.bool (BE.ny es l).isSome])/\w.grownBy w' none:=by
 have hlen:=h.len
 rw[hn.o] at hlen
 have Fa:Hid (es.Pairwise (fun x y=>Op.bytesLess x.name y.name=true)):=hs
 clear hs
 go_enter func201,ntmps201
 go_wp2
 go_loopw [9,10,11] (fun a b _ wr=>∃ i j:Nat,i<=j/\j<=n/\a = .int .i64 i/\b = .int .i64 j/\Hid (∀ k (hk:k<es.length),k<i->Op.bytesLess es[k].name l=true)/\Hid (∀ k (hk:k<es.length),j<=k->Op.bytesLess es[k].name l=false)/\w.grownBy wr none) (fun a b _ _=>(intOf b-intOf a).toNat)
 case atStart=>exact ⟨0,n,cE _,bd _,rfl,rfl,hid (fun k _ hk=>by omega),hid (fun k hk hj=>by rw[hn.o] at hk;omega),bh _ _⟩
 case round=>
  obtain ⟨i,j,hij,hjn,rfl,rfl,HA,HB,hgr⟩:=hrel;have hr:=h.grown hgr;by_cases hlt:i<j
  ·have ahV:(i:Int)<(j:Int):=(by omega);have hm:(i+j) / 2<n:=(by omega);have zm:(i+j) / 2<es.length:=(by rw[hn.o];exact hm);have him:i<=(i+j) / 2:=(by omega);have hmj:(i+j) / 2<j:=(by omega);have hent:=hid (hr.entry _ zm);obtain ⟨x,HX⟩:∃ x,Hid (x=es[(i+j) / 2]):=⟨_,hid rfl⟩
   rw[<-HX.o] at hent;have hlI:((i:Int)+(j:Int))<=40:=(by omega);have Fb:=hid (TI x.name l);have HR:=hid (Qh x.name l);clear hr;go_wp2_with (refine wpList_load_mid rfl 126 _ rfl g (o+(i+j) / 2*8) rfl x.bG _ hent.o underlying126 rfl Tryz.l9 ?_)
   refine (OH x l S _ hS).mono ?_;rintro e w1 ⟨rfl,hg1⟩;have G1:=aa hgr hg1;clear hent hgr hg1;obtain ⟨c,HC⟩:∃ c,Hid (c=Lib.compareBytes x.name l):=⟨_,hid rfl⟩
   rw[<-HC.o] at Fb HR ⊢;have hc1:-1<=c:=HR.o.1;have hc2:c<=1:=HR.o.2;by_cases hc:c<0
   ·have HL:=hid (Fb.o.1 hc);go_wp2;go_roundw
    case rel=>
     refine ⟨(i+j) / 2+1,j,by omega,hjn,by go_num,rfl,hid (fun k hk hki=>?_),HB,G1⟩;rcases Nat.lt_or_ge k ((i+j) / 2) with hk1 | hk1
     ·exact ym (List.pairwise_iff_getElem.1 Fa.o k _ hk zm hk1) (by rw[<-HX.o];exact HL.o)
     ·have:k=(i+j) / 2:=by omega
      subst this;rw[<-HX.o];exact HL.o
    case measure=>simp[intOf];omega
   ·have HL:Hid (Op.bytesLess x.name l=false):=by
     cases hb:Op.bytesLess x.name l with
     | false=>exact rfl
     | true=>exact absurd (Fb.o.2 hb) hc
    go_wp2;go_roundw
    case rel=>
     refine ⟨i,(i+j) / 2,him,by omega,rfl,by go_num,HA,hid (fun k hk hki=>?_),G1⟩;rcases Nat.lt_or_ge ((i+j) / 2) k with hk1 | hk1
     ·cases hb:Op.bytesLess es[k].name l with
      | false=>rfl
      | true=>
       have h1:=ym (List.pairwise_iff_getElem.1 Fa.o _ k zm hk hk1) hb;rw[<-HX.o,HL.o] at h1;cases h1
     ·have:k=(i+j) / 2:=by omega
      subst this;rw[<-HX.o];exact HL.o
    case measure=>simp[intOf];omega
  ·have ahW:i=j:=(by omega);subst ahW;have HI:Hid (BE.ins es l=i):=by
    refine TJ l es i (by rw[hn.o];exact hjn) (fun k hk hki=>HA.o k hk hki) (fun hk=>HB.o i hk (bd _))
   have HAT:=hid (TL Fa.o l);clear HA HB;have ahV:¬ (i:Int)<(i:Int):=(by omega);by_cases hin:i<n
   ·have hil:i<es.length:=(by rw[hn.o];exact hin);have ad1:(i:Int)<(n:Int):=(by omega);have hi0:(0:Int)<=(i:Int):=(by omega);have hent:=hid (hr.entry _ hil);obtain ⟨x,HX⟩:∃ x,Hid (x=es[i]):=⟨_,hid rfl⟩
    rw[<-HX.o] at hent;have HF:Hid ((BE.ny es l).isSome=(Lib.compareBytes x.name l==0)):=by
     show _=_;rw[HAT.o];simp only[HI.o];rw[dif_pos hil,<-HX.o];by_cases e:x.name=l
     ·rw[if_pos e,(Jn x.name l).2 e];rfl
     ·rw[if_neg e];have:¬ Lib.compareBytes x.name l=0:=fun h=>e ((Jn x.name l).1 h);simp[this]
    clear hr HAT HX;obtain ⟨name,aH,key,before,bI,aD,bC,ay⟩:=x;have k0:wr.cell? ⟨g,o+i*8,none⟩=some (.string ⟨name.toArray⟩):=hent.o 0 _ rfl;have k1:wr.cell? ⟨g,o+i*8+1,none⟩=some (.int .i64 aH):=hent.o 1 _ rfl;have k2:wr.cell? ⟨g,o+i*8+2,none⟩=some (.int .u64 (key.toNat:Int)):=hent.o 2 _ rfl;have k3:wr.cell? ⟨g,o+i*8+3,none⟩=some (.int .u64 (before.toNat:Int)):=hent.o 3 _ rfl;have k4:wr.cell? ⟨g,o+i*8+4,none⟩=some (.int .i64 bI):=hent.o 4 _ rfl;have k5:wr.cell? ⟨g,o+i*8+5,none⟩=some (.int .i64 aD):=hent.o 5 _ rfl;have k6:wr.cell? ⟨g,o+i*8+6,none⟩=some (.int .i64 bC):=hent.o 6 _ rfl;have k7:wr.cell? ⟨g,o+i*8+7,none⟩=some (.int .i64 ay):=hent.o 7 _ rfl;go_wp2_with fail;refine (OH ⟨name,aH,key,before,bI,aD,bC,ay⟩ l S _ hS).mono ?_;rintro e w1 ⟨rfl,hg1⟩;clear k0 k1 k2 k3 k4 k5 k6 k7;have G1:=aa hgr hg1;clear hent hgr hg1;go_wp2;go_ret2;exact ⟨by rw[HI.o,HF.o];rfl,G1⟩
   ·have ad1:¬ (i:Int)<(n:Int):=(by omega);have HF:Hid ((BE.ny es l).isSome=false):=by
     show _=_;rw[HAT.o];simp only[HI.o];rw[dif_neg (by rw[hn.o];exact hin)];rfl
    clear hr HAT;go_wp2;go_ret2;exact ⟨by rw[HI.o,HF.o];rfl,hgr⟩
theorem sw (g o:Nat) (es:List BE) (l:List UInt8) (S:ByteArray) (w:World) (h:bY w g o es) (hs:es.Pairwise (fun x y=>Op.bytesLess x.name y.name=true)) (hS:Hid (S=⟨l.toArray⟩)) :
  Calls prog 162 #[.pointer (some ⟨g,o,none⟩),.string S] w fun e w'=>e = .returned (.tuple #[.int .i64 (BE.ins es l),.bool (BE.ny es l).isSome])/\w.grownBy w' none:=by
 have Fa:=hid hs
 clear hs
 go_enter func162,ntmps162
 go_wp2_with fail
 refine (Jo g o es w h).mono ?_
 rintro e w' ⟨rfl,q,rfl⟩
 have hq:=h.drewN q
 have G0:=aY (bh w none) q
 go_wp2_with fail
 refine (Jp g o es l es.length S _ hq (hid rfl) Fa.o hS).mono ?_
 rintro e w1 ⟨rfl,hg1⟩
 have G:=aa G0 hg1
 clear hg1 hq
 go_wp2
 go_ret2
 exact ⟨rfl,G⟩
abbrev uY (bI aD bC ay:Int):Array Value:=#[.int .i64 bI,.int .i64 aD,.int .i64 bC,.int .i64 ay]
theorem yB (a:jV) (w:World):Calls prog 138 #[.agg a.cells] w fun e w'=>e = .returned (.agg (uY a.bI a.aD a.bC a.ay))/\w.grownBy w' none:=by
 obtain ⟨ak,an,key,bI,aD,bC,ay⟩:=a;simp only[jV.cells];go_enter func138,ntmps138;go_wp2;exact bodyPost_ret (v:=.agg #[.int .i64 bI,.int .i64 aD,.int .i64 bC,.int .i64 ay]) (by simp[results,results138,go_sem]) rfl ⟨rfl,aR (aE w _ none) _⟩
theorem aeB {p:Prop} (h:p:=by
 clear hb
 go_enter func164,ntmps164
 go_wp2
 go_ret
 exact ⟨by rw[HF.o];rfl,aE w _ none⟩):p:=h
theorem Ff (a:jV) (w:World) (h0:-9223372036854775808<=a.ay) (h1:a.ay<=9223372036854775807):Calls prog 164 #[.agg (uY a.bI a.aD a.bC a.ay)] w fun e w'=>e = .returned (.bool a.oN)/\w.grownBy w' none:=by
 obtain ⟨ak,an,key,bI,aD,bC,ay⟩:=a;have HP:Hid (jV.oN ⟨ak,an,key,bI,aD,bC,ay⟩=decide (0<=bI/\0<=aD/\0<=ay/\ay<64)):=rfl;have hb:=TN ay h0 h1;simp only at h0 h1 ⊢;by_cases k1:0<=bI
 ·by_cases k2:0<=aD
  ·have HF:Hid (jV.oN ⟨ak,an,key,bI,aD,bC,ay⟩=decide (0<=ay/\ay<64)):=(by show _=_;rw[HP.o];simp[k1,k2]);clear HP;have HB:=hid hb;cases hv:(bits .andNot .i64 ay 63==0)
   all_goals
    have HV:=hid (HB.o.symm.trans hv)
    clear hb HB
    go_enter func164,ntmps164
    go_wp2
    go_ret
    exact ⟨by rw[HF.o,HV.o];rfl,aE w _ none⟩
  ·have HF:Hid (jV.oN ⟨ak,an,key,bI,aD,bC,ay⟩=false):=(by show _=_;rw[HP.o];simp[k2]);exact aeB
 ·have HF:Hid (jV.oN ⟨ak,an,key,bI,aD,bC,ay⟩=false):=by show _=_;rw[HP.o];simp[k1]
  exact aeB
theorem GI {a:Nat} {c0 c1 c2 c3 c4 c5 c6 c7:Value} (h0:w.cell? ⟨g,a,none⟩=some c0) (h1:w.cell? ⟨g,a+1,none⟩=some c1) (h2:w.cell? ⟨g,a+2,none⟩=some c2) (h3:w.cell? ⟨g,a+3,none⟩=some c3) (h4:w.cell? ⟨g,a+4,none⟩=some c4) (h5:w.cell? ⟨g,a+5,none⟩=some c5) (h6:w.cell? ⟨g,a+6,none⟩=some c6) (h7:w.cell? ⟨g,a+7,none⟩=some c7) :
  w.rangeAt g a [c0,c1,c2,c3,c4,c5,c6,c7]:=by
 intro j u hu
 match j,hu with
 | 0,hu=>injection hu with hu;subst hu;exact h0
 | 1,hu=>injection hu with hu;subst hu;exact h1
 | 2,hu=>injection hu with hu;subst hu;exact h2
 | 3,hu=>injection hu with hu;subst hu;exact h3
 | 4,hu=>injection hu with hu;subst hu;exact h4
 | 5,hu=>injection hu with hu;subst hu;exact h5
 | 6,hu=>injection hu with hu;subst hu;exact h6
 | 7,hu=>injection hu with hu;subst hu;exact h7
 | j+8,hu=>simp at hu
theorem dB {a:Addr} {u:Value} (v:Value) (h:w.cell? a=some u):(w.setCell a v).cell? a=some v:=World.cell?_setCell_same _ _ _ h
theorem ae {i j:Nat} {u:Value} (v:Value) (h:w.cell? ⟨g,j,none⟩=some u) (hne:i≠j):(w.setCell ⟨g,i,none⟩ v).cell? ⟨g,j,none⟩=some u:=by
 rw[World.cell?_setCell_other _ _ _ _ (fun e=>hne (by injection e))];exact h
def GJ (g o:Nat) (b j:Nat):Prop:=b=g/\o<=j/\j<o+161
theorem bY.Jr {w':World} {o:Nat} {es:List BE} (h:bY w g o es) (i:Nat) (hi:i<es.length) (y:BE) (f:CF w w' (fun b j=>b=g/\o+i*8<=j/\j<o+i*8+8)) (hy:w'.rangeAt g (o+i*8) y.bG):bY w' g o (es.set i y)/\CF w w' (GJ g o):=by
 have hl:=h.len;refine ⟨⟨h.live.cf f,?_,?_,by rw[cU];exact hl⟩,f.mono (fun b j _ e=>⟨e.1,by omega,by omega⟩)⟩
 ·intro j u hu;have hj:j<(es.set i y).length*8:=by have:=(cq.1 hu).1;rwa [eG] at this
  rw[cU] at hj;have hk:j / 8<es.length:=by omega
  have hd:=uW (es.set i y) (j / 8) (j % 8) (by rw[cU];exact hk) afp;rw[show j / 8*8+j % 8=j from by omega,hu] at hd;by_cases e:j / 8=i
  ·have e2:(es.set i y)[j / 8]'(by rw[cU];exact hk)=y:=by
    subst e;simp
   rw[e2] at hd;have:=hy (j % 8) u hd.symm;rw[show o+i*8+j % 8=o+j from by omega] at this;exact this
  ·have e2:(es.set i y)[j / 8]'(by rw[cU];exact hk)=es[j / 8]:=by
    rw[List.getElem_set_ne (fun q=>e q.symm)]
   rw[e2,<-uW es (j / 8) (j % 8) hk afp,show j / 8*8+j % 8=j from by omega] at hd;exact f.cell (h.room j u hd.symm) (fun q=>by omega)
 ·rw[cU];exact f.cell h.count (fun q=>by omega)
theorem rq {es:List BE} (hs:es.Pairwise (fun x y=>Op.bytesLess x.name y.name=true)) (l:List UInt8) (h:(BE.ny es l).isSome=true):∃ hi:BE.ins es l<es.length,BE.ny es l=some (BE.ins es l)/\es[BE.ins es l].name=l:=by
 have e:=TL hs l;rw[e] at h;split at h
 ·rename_i hi;split at h
  ·rename_i hn;exact ⟨hi,by rw[e,dif_pos hi,if_pos hn],hn⟩
  ·cases h
 ·cases h
theorem Qj (g o:Nat) (es:List BE) (l:List UInt8) (S:ByteArray) (key:UInt64) (w:World) (h:bY w g o es) (hs:es.Pairwise (fun x y=>Op.bytesLess x.name y.name=true)) (hS:Hid (S=⟨l.toArray⟩)) (iL:∀ e∈es,1<=e.aH/\e.aH<=4611686018427387904) :
  Calls prog 136 #[.pointer (some ⟨g,o,none⟩),.string S,.int .u64 (key.toNat:Int)] w fun e w'=>
   ((BE.ny es l).isSome=false->e = .returned (.int .i64 6)/\w.grownBy w' none)/\(∀ i (hi:i<es.length),BE.ny es l=some i->e = .returned (.int .i64 0)/\bY w' g o (es.set i (es[i].iU key))/\CF w w' (GJ g o)):=by
 have Fa:=hid hs
 have Eg:=hid iL
 clear hs iL
 go_enter func136,ntmps136
 go_wp2_with fail
 refine (sw g o es l S w h Fa.o hS).mono ?_
 rintro e w1 ⟨rfl,hg1⟩
 have h1:=h.grown hg1
 cases hat:(BE.ny es l).isSome
 ·have HA:=hid hat;go_wp2;go_ret;exact ⟨fun _=>⟨rfl,hg1⟩,fun i hi q=>by have:=HA.o;rw[q] at this;cases this⟩
 ·obtain ⟨hi,he,hn⟩:=rq Fa.o l hat;have HE:=hid he;have HA:=hid hat;obtain ⟨i,HI⟩:∃ i,Hid (i=BE.ins es l):=⟨_,hid rfl⟩
  have hil:i<es.length:=by rw[HI.o];exact hi
  have HE':Hid (BE.ny es l=some i):=by show _=_;rw[HI.o];exact HE.o
  have hent:=h1.entry i hil;have hnx:=Eg.o _ (cJ hil);have Qk:=h1.len;obtain ⟨x,HX⟩:∃ x,Hid (x=es[i]):=⟨_,hid rfl⟩
  rw[<-HX.o] at hent hnx;obtain ⟨name,aH,kk,before,bI,aD,bC,ay⟩:=x;obtain ⟨n1,n2⟩:=hnx;simp only at n1 n2;have k0:w1.cell? ⟨g,o+i*8,none⟩=some (.string ⟨name.toArray⟩):=hent 0 _ rfl;have k1:w1.cell? ⟨g,o+i*8+1,none⟩=some (.int .i64 aH):=hent 1 _ rfl;have k2:w1.cell? ⟨g,o+i*8+2,none⟩=some (.int .u64 (kk.toNat:Int)):=hent 2 _ rfl;have k3:w1.cell? ⟨g,o+i*8+3,none⟩=some (.int .u64 (before.toNat:Int)):=hent 3 _ rfl;have k4:w1.cell? ⟨g,o+i*8+4,none⟩=some (.int .i64 bI):=hent 4 _ rfl;have k5:w1.cell? ⟨g,o+i*8+5,none⟩=some (.int .i64 aD):=hent 5 _ rfl;have k6:w1.cell? ⟨g,o+i*8+6,none⟩=some (.int .i64 bC):=hent 6 _ rfl;have k7:w1.cell? ⟨g,o+i*8+7,none⟩=some (.int .i64 ay):=hent 7 _ rfl;have fz:∀ j,w1.frozen? ⟨g,j,none⟩=false:=fun j=>h1.live.frozen j;have LG:(i:Int)<20:=by omega
  have hi0:(0:Int)<=(i:Int):=by omega
  have R:Hid (bY (((w1.setCell ⟨g,o+i*8+1,none⟩ (.int .i64 (aH+1))).setCell ⟨g,o+i*8+3,none⟩ (.int .u64 (kk.toNat:Int))).setCell ⟨g,o+i*8+2,none⟩ (.int .u64 (key.toNat:Int))) g o (es.set i (es[i].iU key))/\CF w (((w1.setCell ⟨g,o+i*8+1,none⟩ (.int .i64 (aH+1))).setCell ⟨g,o+i*8+3,none⟩ (.int .u64 (kk.toNat:Int))).setCell ⟨g,o+i*8+2,none⟩ (.int .u64 (key.toNat:Int))) (GJ g o)):=by
   have Q:=h1.Jr (w':=((w1.setCell ⟨g,o+i*8+1,none⟩ (.int .i64 (aH+1))).setCell ⟨g,o+i*8+3,none⟩ (.int .u64 (kk.toNat:Int))).setCell ⟨g,o+i*8+2,none⟩ (.int .u64 (key.toNat:Int))) i hil (es[i].iU key)
    ((((CF.refl _ _).setCell _ _ _ (fun _=>⟨rfl,by omega,by omega⟩)).setCell _ _ _ (fun _=>⟨rfl,by omega,by omega⟩)).setCell _ _ _ (fun _=>⟨rfl,by omega,by omega⟩))
    (by
     rw[<-HX.o];refine GI ?_ ?_ ?_ ?_ ?_ ?_ ?_ ?_
     ·exact ae _ (ae _ (ae _ k0 afp) afp) afp
     ·exact ae _ (ae _ (dB _ k1) afp) afp
     ·exact dB _ (ae _ (ae _ k2 afp) afp)
     ·exact ae _ (dB _ (ae _ k3 afp)) afp
     ·exact ae _ (ae _ (ae _ k4 afp) afp) afp
     ·exact ae _ (ae _ (ae _ k5 afp) afp) afp
     ·exact ae _ (ae _ (ae _ k6 afp) afp) afp
     ·exact ae _ (ae _ (ae _ k7 afp) afp) afp)
   exact ⟨Q.1,CF.before hg1 Q.2⟩
  rw[<-HI.o];have f1:=fz (o+i*8+1);have f2:=fz (o+i*8+2);have f3:=fz (o+i*8+3);clear hent h h1 hg1 he hn hi hat HE fz HX;go_wp2;go_ret;exact ⟨fun q=>absurd (q.symm.trans HA.o) aft,fun j hj q=>by have e:=HE'.o.symm.trans q;injection e with e;subst e;exact ⟨rfl,R.o.1,R.o.2⟩⟩
theorem bY.eight {g o:Nat} {es:List BE} (h:bY w g o es) (i:Nat) (hi:i<es.length) (x:BE) (hx:x=es[i]) :
  w.cell? ⟨g,o+i*8,none⟩=some (.string ⟨x.name.toArray⟩)/\w.cell? ⟨g,o+i*8+1,none⟩=some (.int .i64 x.aH)/\w.cell? ⟨g,o+i*8+2,none⟩=some (.int .u64 (x.key.toNat:Int))/\w.cell? ⟨g,o+i*8+3,none⟩=some (.int .u64 (x.before.toNat:Int))/\w.cell? ⟨g,o+i*8+4,none⟩=some (.int .i64 x.bI)/\w.cell? ⟨g,o+i*8+5,none⟩=some (.int .i64 x.aD)/\w.cell? ⟨g,o+i*8+6,none⟩=some (.int .i64 x.bC)/\w.cell? ⟨g,o+i*8+7,none⟩=some (.int .i64 x.ay):=by
 have hent:=h.entry i hi
 subst hx
 exact ⟨hent 0 _ rfl,hent 1 _ rfl,hent 2 _ rfl,hent 3 _ rfl,hent 4 _ rfl,hent 5 _ rfl,hent 6 _ rfl,hent 7 _ rfl⟩
theorem dR {w':World} (h:w.grownBy w' none) {b o:Nat} {v:Value} (hc:w.cell? ⟨b,o,none⟩=some v):w'.cell? ⟨b,o,none⟩=some v:=(CF.bN h (fun _ _=>False)).cell hc (fun e=>e)
theorem GK (g o:Nat) (es:List BE) (l:List UInt8) (S:ByteArray) (a:jV) (w:World) (h:bY w g o es) (hs:es.Pairwise (fun x y=>Op.bytesLess x.name y.name=true)) (hS:Hid (S=⟨l.toArray⟩)) (hf0:-9223372036854775808<=a.ay) (hf1:a.ay<=9223372036854775807) :
  Calls prog 137 #[.pointer (some ⟨g,o,none⟩),.string S,.agg (uY a.bI a.aD a.bC a.ay)] w fun e w'=>
   ((BE.ny es l).isSome=false->e = .returned (.int .i64 6)/\w.grownBy w' none)/\((BE.ny es l).isSome=true->a.oN=false->e = .returned (.int .i64 1)/\w.grownBy w' none)/\(∀ i (hi:i<es.length),BE.ny es l=some i->a.oN=true->e = .returned (.int .i64 0)/\bY w' g o (es.set i (es[i].qa a))/\CF w w' (GJ g o)):=by
 have Fa:=hid hs
 have G0:=aE w (.cells (uY a.bI a.aD a.bC a.ay) 124) none
 have hB:=h.grown G0
 have M:=fun w=>Ff a w hf0 hf1
 obtain ⟨ak,an,key,pl,pr,pe,pf⟩:=a
 simp only at M hf0 hf1 G0 hB ⊢
 have c0:(w.alloc (.cells #[.int .i64 pl,.int .i64 pr,.int .i64 pe,.int .i64 pf] 124)).cell? ⟨w.heap.size,0,none⟩=some (.int .i64 pl):=by simp[go_sem]
 have c1:(w.alloc (.cells #[.int .i64 pl,.int .i64 pr,.int .i64 pe,.int .i64 pf] 124)).cell? ⟨w.heap.size,1,none⟩=some (.int .i64 pr):=by simp[go_sem]
 have c2:(w.alloc (.cells #[.int .i64 pl,.int .i64 pr,.int .i64 pe,.int .i64 pf] 124)).cell? ⟨w.heap.size,2,none⟩=some (.int .i64 pe):=by simp[go_sem]
 have c3:(w.alloc (.cells #[.int .i64 pl,.int .i64 pr,.int .i64 pe,.int .i64 pf] 124)).cell? ⟨w.heap.size,3,none⟩=some (.int .i64 pf):=by simp[go_sem]
 have HC:=hid (And.intro c0 (And.intro c1 (And.intro c2 c3)))
 have HG:=hid G0
 have Fg:=hid hB
 clear hs h c0 c1 c2 c3 G0 hB
 go_enter func137,ntmps137
 go_wp2_with fail
 refine (sw g o es l S _ Fg.o Fa.o hS).mono ?_
 rintro e w1 ⟨rfl,hg1⟩
 have h1:=Fg.o.grown hg1
 have hp0:=dR hg1 HC.o.1
 have hp1:=dR hg1 HC.o.2.1
 have hp2:=dR hg1 HC.o.2.2.1
 have hp3:=dR hg1 HC.o.2.2.2
 have G1:=hid (aa HG.o hg1)
 clear Fg HC HG hg1
 cases hat:(BE.ny es l).isSome
 ·have HA:=hid hat;go_wp2;go_ret;exact ⟨fun _=>⟨rfl,G1.o⟩,fun q=>absurd (q.symm.trans HA.o) aft,fun i hi q=>by have:=HA.o;rw[q] at this;cases this⟩
 ·obtain ⟨hi,he,hn⟩:=rq Fa.o l hat;have HA:=hid hat;obtain ⟨i,HI⟩:∃ i,Hid (i=BE.ins es l):=⟨_,hid rfl⟩
  have hil:i<es.length:=by rw[HI.o];exact hi
  have HE:Hid (BE.ny es l=some i):=by show _=_;rw[HI.o];exact he
  have HB1:=hid h1;rw[<-HI.o];clear he hn hi hat h1;go_wp2_with fail;refine (M _).mono ?_;rintro e w2 ⟨rfl,hg2⟩;have h2:=HB1.o.grown hg2;have hq0:=dR hg2 hp0;have hq1:=dR hg2 hp1;have hq2:=dR hg2 hp2;have hq3:=dR hg2 hp3;have G2:=hid (aa G1.o hg2);clear HB1 hp0 hp1 hp2 hp3 G1 hg2;cases AB:jV.oN ⟨ak,an,key,pl,pr,pe,pf⟩
  ·have HP:=hid AB;go_wp2;go_ret;exact ⟨fun q=>absurd (q.symm.trans HA.o) aft,fun _ _=>⟨rfl,G2.o⟩,fun i hi q q2=>absurd (q2.symm.trans HP.o) aft⟩
  ·have HP:=hid AB;have Qk:=h2.len;obtain ⟨x,HX⟩:∃ x,Hid (x=es[i]):=⟨_,hid rfl⟩
   obtain ⟨k0,k1,k2,k3,k4,k5,k6,k7⟩:=h2.eight i hil x HX.o;have f4:=h2.live.frozen (o+i*8+4);have f5:=h2.live.frozen (o+i*8+5);have f6:=h2.live.frozen (o+i*8+6);have f7:=h2.live.frozen (o+i*8+7);have LG:(i:Int)<20:=(by omega);have hi0:(0:Int)<=(i:Int):=(by omega);have HB2:=hid h2;clear h2 AB M;go_wp2;go_region;go_wp2;go_ret;have R:bY ((((w2.setCell ⟨g,o+i*8+4,none⟩ (.int .i64 pl)).setCell ⟨g,o+i*8+4+1,none⟩ (.int .i64 pr)).setCell ⟨g,o+i*8+4+2,none⟩ (.int .i64 pe)).setCell ⟨g,o+i*8+4+3,none⟩ (.int .i64 pf)) g o (es.set i (es[i].qa ⟨ak,an,key,pl,pr,pe,pf⟩))/\CF w2 ((((w2.setCell ⟨g,o+i*8+4,none⟩ (.int .i64 pl)).setCell ⟨g,o+i*8+4+1,none⟩ (.int .i64 pr)).setCell ⟨g,o+i*8+4+2,none⟩ (.int .i64 pe)).setCell ⟨g,o+i*8+4+3,none⟩ (.int .i64 pf)) (GJ g o):=by
    refine HB2.o.Jr i hil _ (((((CF.refl _ _).setCell _ _ _ (fun _=>⟨rfl,by omega,by omega⟩)).setCell _ _ _ (fun _=>⟨rfl,by omega,by omega⟩)).setCell _ _ _ (fun _=>⟨rfl,by omega,by omega⟩)).setCell _ _ _ (fun _=>⟨rfl,by omega,by omega⟩)) ?_;rw[<-HX.o];refine GI ?_ ?_ ?_ ?_ ?_ ?_ ?_ ?_
    ·exact ae _ (ae _ (ae _ (ae _ k0 afp) afp) afp) afp
    ·exact ae _ (ae _ (ae _ (ae _ k1 afp) afp) afp) afp
    ·exact ae _ (ae _ (ae _ (ae _ k2 afp) afp) afp) afp
    ·exact ae _ (ae _ (ae _ (ae _ k3 afp) afp) afp) afp
    ·exact ae _ (ae _ (ae _ (dB _ k4) afp) afp) afp
    ·exact ae _ (ae _ (dB _ (ae _ k5 afp)) afp) afp
    ·exact ae _ (dB _ (ae _ (ae _ k6 afp) afp)) afp
    ·exact dB _ (ae _ (ae _ (ae _ k7 afp) afp) afp)
   exact ⟨fun q=>absurd (q.symm.trans HA.o) aft,fun _ q=>absurd (q.symm.trans HP.o) aft,fun j hj q _=>by have e:=HE.o.symm.trans q;injection e with e;subst e;exact ⟨rfl,R.1.drewN 1,(CF.before G2.o R.2).drew⟩⟩
theorem aJ {fn:Func} {a u:Tmp} {ty:TypeId} (h:fn.results=#[.cell a ty,.tmp u]) (tmps:Array Value) (P:Program) (w:World) (b:Nat) (hp:tmps.getD a undef = .pointer (some ⟨b,0,none⟩)) (x:Value) (hl:(loadVar ty ⟨b,0,none⟩).run P w = .ok x w) :
  (results fn tmps).run P w = .ok (.tuple #[x,tmps.getD u undef]) w:=by
 have hp':tmps[a]?.getD undef = .pointer (some ⟨b,0,none⟩):=by simpa using hp
 exact ac1
theorem ma {a:World} (b:Nat) (hb:a.heap.size<=b):∀ (vs:List Value) (o:Nat) (w:World),a.grownBy w none->a.grownBy (w.setCells b o vs) none:=by
 intro vs o w h;have C:=CF.setCells (a:=a) (ex:=fun _ _=>False) b vs o w (CF.bN h _) (fun j _ hlt=>by omega);exact C.gb (fun _ _ _ e=>e)
theorem ji {P:Program} {b:Nat} {cs:List Value} (h:w.rangeAt b 0 cs) (ty:TypeId) (d:TypeDesc) (hu:P.underlying ty=some d) (hd:d.isRow=true) (hi:(P.info? ty).map (·.size)=some cs.length):(loadVar ty ⟨b,0,none⟩).run P w = .ok (.agg cs.toArray) w:=run_loadVar_mid (P:=P) w b 0 ty cs d h hu hd hi
theorem oD (w:World) (b:Nat) (v0 v1 v2 v3 v4 v5 v6 v7:Value) {d0 d1 d2 d3 d4 d5 d6 d7:Value} (q0:w.cell? ⟨b,0,none⟩=some d0) (q1:w.cell? ⟨b,1,none⟩=some d1) (q2:w.cell? ⟨b,2,none⟩=some d2) (q3:w.cell? ⟨b,3,none⟩=some d3) (q4:w.cell? ⟨b,4,none⟩=some d4) (q5:w.cell? ⟨b,5,none⟩=some d5) (q6:w.cell? ⟨b,6,none⟩=some d6) (q7:w.cell? ⟨b,7,none⟩=some d7) :
  ((((((((w.setCell ⟨b,0,none⟩ v0).setCell ⟨b,1,none⟩ v1).setCell ⟨b,2,none⟩ v2).setCell ⟨b,3,none⟩ v3).setCell ⟨b,4,none⟩ v4).setCell ⟨b,5,none⟩ v5).setCell ⟨b,6,none⟩ v6).setCell ⟨b,7,none⟩ v7).rangeAt b 0 [v0,v1,v2,v3,v4,v5,v6,v7]:=by
 refine GI ?_ ?_ ?_ ?_ ?_ ?_ ?_ ?_ <;> try simp only[cC]
 ·exact ae _ (ae _ (ae _ (ae _ (ae _ (ae _ (ae _ (dB _ q0) afq) afq) afq) afq) afq) afq) afq
 ·exact ae _ (ae _ (ae _ (ae _ (ae _ (ae _ (dB _ (ae _ q1 afq)) afq) afq) afq) afq) afq) afq
 ·exact ae _ (ae _ (ae _ (ae _ (ae _ (dB _ (ae _ (ae _ q2 afq) afq)) afq) afq) afq) afq) afq
 ·exact ae _ (ae _ (ae _ (ae _ (dB _ (ae _ (ae _ (ae _ q3 afq) afq) afq)) afq) afq) afq) afq
 ·exact ae _ (ae _ (ae _ (dB _ (ae _ (ae _ (ae _ (ae _ q4 afq) afq) afq) afq)) afq) afq) afq
 ·exact ae _ (ae _ (dB _ (ae _ (ae _ (ae _ (ae _ (ae _ q5 afq) afq) afq) afq) afq)) afq) afq
 ·exact ae _ (dB _ (ae _ (ae _ (ae _ (ae _ (ae _ (ae _ q6 afq) afq) afq) afq) afq) afq)) afq
 ·exact dB _ (ae _ (ae _ (ae _ (ae _ (ae _ (ae _ (ae _ q7 afq) afq) afq) afq) afq) afq) afq)
abbrev noEntry:Array Value:=#[.string ⟨#[]⟩,.int .i64 0,.int .u64 0,.int .u64 0,.int .i64 0,.int .i64 0,.int .i64 0,.int .i64 0]
theorem TP (g o:Nat) (es:List BE) (l:List UInt8) (S:ByteArray) (w:World) (h:bY w g o es) (hs:es.Pairwise (fun x y=>Op.bytesLess x.name y.name=true)) (hS:Hid (S=⟨l.toArray⟩)) :
  Calls prog 280 #[.pointer (some ⟨g,o,none⟩),.string S] w fun e w'=>
   ((BE.ny es l).isSome=false->e = .returned (.tuple #[.agg noEntry,.bool false]))/\(∀ i (hi:i<es.length),BE.ny es l=some i->e = .returned (.tuple #[.agg (es[i]).bG.toArray,.bool true]))/\w.grownBy w' none:=by
 have Fa:=hid hs
 have G0:=hid (aE w (.cells noEntry 126) none)
 have Fg:=hid (h.grown G0.o)
 clear hs h
 have HL:=hid (Live.new w noEntry 126)
 go_enter func280,ntmps280
 go_wp2_with fail
 refine (sw g o es l S _ Fg.o Fa.o hS).mono ?_
 rintro e w1 ⟨rfl,hg1⟩
 have h1:=Fg.o.grown hg1
 have G1:=hid (aa G0.o hg1)
 have hL:=HL.o.grown hg1
 have hc:∀ j,j<8->∃ v,w1.cell? ⟨w.heap.size,j,none⟩=some v:=fun j hj=>bw.1 (hL.some j hj)
 have fz:=fun j=>hL.frozen j
 obtain ⟨d0,q0⟩:=hc 0 afq
 obtain ⟨d1,q1⟩:=hc 1 afq
 obtain ⟨d2,q2⟩:=hc 2 afq
 obtain ⟨d3,q3⟩:=hc 3 afq
 obtain ⟨d4,q4⟩:=hc 4 afq
 obtain ⟨d5,q5⟩:=hc 5 afq
 obtain ⟨d6,q6⟩:=hc 6 afq
 obtain ⟨d7,q7⟩:=hc 7 afq
 have f0:=fz 0
 have f1:=fz 1
 have f2:=fz 2
 have f3:=fz 3
 have f4:=fz 4
 have f5:=fz 5
 have f6:=fz 6
 have f7:=fz 7
 have HR:=hid (fun v0 v1 v2 v3 v4 v5 v6 v7=>oD w1 w.heap.size v0 v1 v2 v3 v4 v5 v6 v7 q0 q1 q2 q3 q4 q5 q6 q7)
 clear Fg hg1 HL G0 hL hc fz
 cases hat:(BE.ny es l).isSome
 ·have HA:=hid hat;clear h1;go_wp2;refine bodyPost_ret (v:=.tuple #[.agg noEntry,.bool false]) ?_ rfl ⟨fun _=>rfl,fun i hi q=>(by have:=HA.o;rw[q] at this;cases this),?_⟩
  ·exact aJ results280 _ _ _ w.heap.size rfl _ (ji (HR.o _ _ _ _ _ _ _ _) 126 _ underlying126 rfl Tryz.l9)
  ·repeat refine az ?_ (bd _)
   exact G1.o
 ·obtain ⟨hi,he,hn⟩:=rq Fa.o l hat;obtain ⟨i,HI⟩:∃ i,Hid (i=BE.ins es l):=⟨_,hid rfl⟩
  have hil:i<es.length:=by rw[HI.o];exact hi
  have HE:Hid (BE.ny es l=some i):=by show _=_;rw[HI.o];exact he
  have HA:=hid hat;have Qk:=h1.len;have LG:(i:Int)<20:=by omega
  have hi0:(0:Int)<=(i:Int):=by omega
  obtain ⟨x,HX⟩:∃ x,Hid (x=es[i]):=⟨_,hid rfl⟩
  obtain ⟨k0,k1,k2,k3,k4,k5,k6,k7⟩:=h1.eight i hil x HX.o;rw[<-HI.o];clear he hn hi hat h1;go_wp2;refine bodyPost_ret (v:=.tuple #[.agg x.bG.toArray,.bool true]) ?_ rfl ⟨fun q=>absurd (q.symm.trans HA.o) aft,fun j hj q=>(by have e:=HE.o.symm.trans q;injection e with e;subst e;rw[HX.o]),?_⟩
  ·exact aJ results280 _ _ _ w.heap.size rfl _ (ji (cs:=x.bG) (HR.o _ _ _ _ _ _ _ _) 126 _ underlying126 rfl Tryz.l9)
  ·repeat refine az ?_ (bd _)
   exact G1.o
theorem El {P:Program} (w:World) (dT sT ty elem:TypeId) (k b o dLen dCap:Nat) (a:Addr) (sLen sCap:Nat) (cs:List Value)
  (hu:P.underlying dT=some (.slice elem)) (hs:(P.info? elem).map (·.size)=some k) (hn:cs.length=Nat.min sLen dLen*k)
  (hsrc:∀ j v,cs[j]?=some v->w.cell? (a.add j)=some v) (hc:∀ j,j<cs.length->(w.cell? ⟨b,o+j,none⟩).isSome=true) (hf:∀ j,j<cs.length->w.frozen? ⟨b,o+j,none⟩=false) (h1:∀ v∈cs,v.oneCell'=true) :
  (Builtin.copy_ #[dT,sT] ty #[.slice (some ⟨b,o,none⟩) dLen dCap,.slice (some a) sLen sCap]).run P w = .ok (goInt (Nat.min sLen dLen)) (w.setCells b o cs):=by
 have hl:=run_loadCells_list (P:=P) w a cs hsrc
 have hst:=run_storeCells_cells (P:=P) b o cs 0 w (by simpa using hc) (by simpa using hf) h1
 cases hq:P.info? elem with
 | none=>simp[hq] at hs
 | some i=>
  have hi:i.size=k:=by simpa[hq] using hs
  simp[Builtin.copy_,run_underlying hu,Builtin.lenOf,Builtin.firstCells,sizeOf,typeInfo,hq,hi,<-hn,hl,hst]
theorem Js (es:List BE):∀ v∈dL es,v.oneCell'=true:=by
 intro v hv;simp only[dL,List.mem_flatten,List.mem_map] at hv;obtain ⟨l,⟨e,_,rfl⟩,hv⟩:=hv;simp only[BE.bG,List.mem_cons,List.not_mem_nil,or_false] at hv;rcases hv with rfl | rfl | rfl | rfl | rfl | rfl | rfl | rfl <;> rfl
theorem Em {P:Program} (w:World) (dT sT ty elem:TypeId) (k:Nat) (d a:Option Addr) (dLen dCap sLen sCap:Nat) (hu:P.underlying dT=some (.slice elem)) (hs:(P.info? elem).map (·.size)=some k) (hn:Nat.min sLen dLen=0) :
  (Builtin.copy_ #[dT,sT] ty #[.slice d dLen dCap,.slice a sLen sCap]).run P w = .ok (goInt 0) w:=by
 cases hq:P.info? elem with
 | none=>simp[hq] at hs
 | some i=>
  have hl:∀ (x:Addr),(loadCells x 0).run P w = .ok #[] w:=fun x=>by simpa using run_loadCells_list (P:=P) w x [] aft
  cases d <;> cases a <;> simp[Builtin.copy_,run_underlying hu,Builtin.lenOf,Builtin.firstCells,sizeOf,typeInfo,hq,hn,storeCells,hl]
theorem bY.copy {o:Nat} (h:bY w g o es) (ty:TypeId) (i j dLen dCap sLen sCap:Nat) (d a:Addr) (hda:0<sLen->d=⟨g,o+j*8,none⟩/\a=⟨g,o+i*8,none⟩) (hs:i+sLen=es.length) (hd:sLen<=dLen) (hj:j+sLen<=20) :
  (Builtin.copy_ #[287,287] ty #[.slice (some d) dLen dCap,.slice (some a) sLen sCap]).run prog w = .ok (goInt sLen) (w.setCells g (o+j*8) (dL (es.drop i))):=by
 have hlen:(dL (es.drop i)).length=sLen*8:=by rw[eG,cy,<-hs,Nat.add_sub_cancel_left]
 have hm:Nat.min sLen dLen=sLen:=fY hd
 rcases Nat.eq_zero_or_pos sLen with h0 | h0
 ·have e:dL (es.drop i)=[]:=ep (by rw[hlen,h0]);rw[e,h0];exact Em (P:=prog) w 287 287 ty 126 8 (some d) (some a) dLen dCap 0 sCap underlying287 Tryz.l9 (Nat.zero_min _)
 obtain ⟨rfl,rfl⟩:=hda h0
 have:=El (P:=prog) w 287 287 ty 126 8 g (o+j*8) dLen dCap ⟨g,o+i*8,none⟩ sLen sCap (dL (es.drop i)) underlying287 Tryz.l9 (by rw[hm,hlen])
  (fun q v hv=>by
   have hq:q<sLen*8:=(by have:=(cq.1 hv).1;rwa [hlen] at this);have e:(dL es)[i*8+q]?=some v:=by
    conv=>lhs;rw[<-ey i es,jl]
    rw[cM (by rw[eG,cG];omega),eG,cG,show i*8+q-min i es.length*8=q from by rw[fY afp];omega];exact hv
   have:=h.room _ _ e;rw[<-fN] at this;have ha:(⟨g,o+i*8,none⟩:Addr).add q=⟨g,o+i*8+q,none⟩:=(by unfold Addr.add;split <;> simp_all);rw[ha]
   exact this)
  (fun q hq=>h.live.some _ (by rw[hlen] at hq;omega)) (fun q _=>h.live.frozen _) (Js _)
 rw[hm] at this;exact this
theorem Fh (g o k:Nat) (hk:k<=20):∃ a:Addr,(∀ w,(Instr.sliceAt 127 (.pointer (some ⟨g,o,none⟩)) (some (.int .i64 (k:Int))) none none).run prog w = .ok (.slice (some a) (20-k) (20-k)) w)/\(k<20->a=⟨g,o+k*8,none⟩):=by
 refine ⟨if 20=k then ⟨g,o,none⟩ else (⟨g,o,none⟩:Addr).add (k*8),fun w=>?_,fun h=>?_⟩
 ·have e:=run_sliceAt_array_l (P:=prog) w 127 ⟨g,o,none⟩ underlying127 .i64 (k:Int) afp (by show (k:Int)<=20;omega);rw[e];rfl
 ·rw[if_neg afp];unfold Addr.add;split <;> simp_all
theorem OI (g o k h:Nat) (hk:k<=h) (hh:h<=20):∃ a:Addr,(∀ w,(Instr.sliceAt 127 (.pointer (some ⟨g,o,none⟩)) (some (.int .i64 (k:Int))) (some (.int .i64 (h:Int))) none).run prog w = .ok (.slice (some a) (h-k) (20-k)) w)/\(k<20->a=⟨g,o+k*8,none⟩):=by
 refine ⟨if 20=k then ⟨g,o,none⟩ else (⟨g,o,none⟩:Addr).add (k*8),fun w=>?_,fun h=>?_⟩
 ·have e:=run_sliceAt_array_lh (P:=prog) w 127 ⟨g,o,none⟩ underlying127 .i64 .i64 (k:Int) (h:Int) afp afp (by show (h:Int)<=20;omega);rw[e];rfl
 ·rw[if_neg afp];unfold Addr.add;split <;> simp_all
theorem ael {p:Prop} (h:p:=by
 exact CF.setCells g _ _ _ (CF.refl _ _) (fun j hj _=>⟨rfl,by omega,by rw[hlen] at hj;omega⟩)):p:=h
theorem ae2 {p:Prop} (h:p:=by
 rw[cr (by rw[hlen];exact hj2)] at hu
 exact f.cell (e.trans hu) (fun q=>by omega)):p:=h
theorem bY.removed {w2 w4:World} {o:Nat} (h:bY w g o es) (i m:Nat) (hm:es.length=m+1) (hi:i<=m) (h2:w2=w.setCells g (o+i*8) (dL (es.drop (i+1)))) (f:CF w2 w4 (fun b j=>b=g/\o+m*8<=j/\j<o+161)) (hc:w4.cell? ⟨g,o+160,none⟩=some (.int .i64 (m:Int))):bY w4 g o (es.take i++es.drop (i+1))/\CF w w4 (GJ g o):=by
 have hlen:(dL (es.drop (i+1))).length=(m-i)*8:=by rw[eG,cy,hm];congr 1;omega
 have Qk:=h.len;have f2:CF w w2 (fun b j=>b=g/\o+i*8<=j/\j<o+m*8):=by
  rw[h2];exact ael
 have hL:(es.take i++es.drop (i+1)).length=m:=by rw[bj,cG,cy,hm];omega
 have fA:CF w w4 (GJ g o):=(f2.mono (fun b j _ e=>⟨e.1,by omega,by omega⟩)).trans f (fun b j _ e=>⟨e.1,by omega,by omega⟩);refine ⟨⟨h.live.cf fA,?_,?_,by omega⟩,fA⟩
 ·rw[jl];intro j u hu;have hT:(dL (es.take i)).length=i*8:=by rw[eG,cG,fY afp]
  by_cases hj:j<i*8
  ·rw[cF (by rw[hT];exact hj)] at hu;have e:(dL es)[j]?=some u:=by
    conv=>lhs;rw[<-ey i es,jl]
    rw[cF (by rw[hT];exact hj)];exact hu
   exact f.cell (f2.cell (h.room j u e) (fun q=>by omega)) (fun q=>by omega)
  ·rw[cM (by rw[hT];omega),hT] at hu;have hj2:j-i*8<(m-i)*8:=(by have:=(cq.1 hu).1;rwa [hlen] at this);have e:=World.cell?_setCells_in g (dL (es.drop (i+1))) (o+i*8) w (fun q hq=>h.live.some _ (by rw[hlen] at hq;omega)) (j-i*8) (by rw[hlen];exact hj2);rw[<-h2,show o+i*8+(j-i*8)=o+j from by omega] at e;exact ae2
 ·rw[hL];exact hc
theorem bY.TQ {w2:World} {o:Nat} (h:bY w g o es) (i m:Nat) (hm:es.length=m+1) (hi:i<=m) (h2:w2=w.setCells g (o+i*8) (dL (es.drop (i+1)))) {u:Value} (TR:w2.cell? ⟨g,o+160,none⟩=some u) {v0 v1 v2 v3 v4 v5 v6 v7:Value} :
  bY (((((((((w2.setCell ⟨g,o+160,none⟩ (.int .i64 (m:Int))).setCell ⟨g,o+m*8,none⟩ v0).setCell ⟨g,o+m*8+1,none⟩ v1).setCell ⟨g,o+m*8+2,none⟩ v2).setCell ⟨g,o+m*8+3,none⟩ v3).setCell ⟨g,o+m*8+4,none⟩ v4).setCell ⟨g,o+m*8+5,none⟩ v5).setCell ⟨g,o+m*8+6,none⟩ v6).setCell ⟨g,o+m*8+7,none⟩ v7) g o (es.take i++es.drop (i+1))/\CF w (((((((((w2.setCell ⟨g,o+160,none⟩ (.int .i64 (m:Int))).setCell ⟨g,o+m*8,none⟩ v0).setCell ⟨g,o+m*8+1,none⟩ v1).setCell ⟨g,o+m*8+2,none⟩ v2).setCell ⟨g,o+m*8+3,none⟩ v3).setCell ⟨g,o+m*8+4,none⟩ v4).setCell ⟨g,o+m*8+5,none⟩ v5).setCell ⟨g,o+m*8+6,none⟩ v6).setCell ⟨g,o+m*8+7,none⟩ v7) (GJ g o):=by
 have Qk:=h.len
 refine h.removed i m hm hi h2 ?_ ?_
 ·exact ((((((((((CF.refl _ _).setCell _ _ _ (fun _=>⟨rfl,by omega,by omega⟩)).setCell _ _ _ (fun _=>⟨rfl,by omega,by omega⟩)).setCell _ _ _ (fun _=>⟨rfl,by omega,by omega⟩)).setCell _ _ _ (fun _=>⟨rfl,by omega,by omega⟩)).setCell _ _ _ (fun _=>⟨rfl,by omega,by omega⟩)).setCell _ _ _ (fun _=>⟨rfl,by omega,by omega⟩)).setCell _ _ _ (fun _=>⟨rfl,by omega,by omega⟩)).setCell _ _ _ (fun _=>⟨rfl,by omega,by omega⟩)).setCell _ _ _ (fun _=>⟨rfl,by omega,by omega⟩))
 ·exact ae _ (ae _ (ae _ (ae _ (ae _ (ae _ (ae _ (ae _ (dB _ TR) afp) afp) afp) afp) afp) afp) afp) afp
theorem MH (g o:Nat) (es:List BE) (l:List UInt8) (S:ByteArray) (w:World) (h:bY w g o es) (hs:es.Pairwise (fun x y=>Op.bytesLess x.name y.name=true)) (hS:Hid (S=⟨l.toArray⟩)) :
  Calls prog 135 #[.pointer (some ⟨g,o,none⟩),.string S] w fun e w'=>
   ((BE.ny es l).isSome=false->e = .returned (.int .i64 6)/\w.grownBy w' none)/\(∀ i,BE.ny es l=some i->e = .returned (.int .i64 0)/\bY w' g o (es.take i++es.drop (i+1))/\CF w w' (GJ g o)):=by
 have Fa:=hid hs
 clear hs
 go_enter func135,ntmps135
 go_wp2_with fail
 refine (sw g o es l S _ h Fa.o hS).mono ?_
 rintro e w1 ⟨rfl,hg1⟩
 have h1:=h.grown hg1
 cases hat:(BE.ny es l).isSome
 ·have HA:=hid hat;go_wp2;go_ret;exact ⟨fun _=>⟨rfl,hg1⟩,fun i q=>by have:=HA.o;rw[q] at this;cases this⟩
 ·obtain ⟨hi,he,hn⟩:=rq Fa.o l hat;have HA:=hid hat;obtain ⟨i,HI⟩:∃ i,Hid (i=BE.ins es l):=⟨_,hid rfl⟩
  have hil:i<es.length:=by rw[HI.o];exact hi
  have HE:Hid (BE.ny es l=some i):=by show _=_;rw[HI.o];exact he
  have Qk:=h1.len;obtain ⟨m,HM⟩:∃ m,Hid (es.length=m+1):=⟨es.length-1,hid afp⟩
  have hcnt:=h1.count;rw[HM.o] at hcnt Qk hil;rw[show ((m+1:Nat):Int)=(m:Int)+1 from by omega] at hcnt;have HB:=hid h1;have HG:=hid hg1;rw[<-HI.o];clear he hn hi hat h h1 hg1;have LG:(i:Int)<20:=by omega
  have hmI:(m:Int)<20:=by omega
  have hm0:(0:Int)<=(m:Int):=by omega
  obtain ⟨d,hd,HD⟩:=Fh g o i afp;obtain ⟨a,ha,HA2⟩:=OI g o (i+1) (m+1) afp afp;have hw:IntKind.i64.wrap ((i:Int)+1)=(i:Int)+1:=by rw[IntKind.wrap_i64];omega
  have hw2:IntKind.i64.wrap (m:Int)=(m:Int):=by rw[IntKind.wrap_i64];omega
  have ha':∀ w,(Instr.sliceAt 127 (.pointer (some ⟨g,o,none⟩)) (some (.int .i64 ((i:Int)+1))) (some (.int .i64 ((m:Int)+1))) none).run prog w = .ok (.slice (some a) (m-i) (19-i)) w:=fun w=>by
   have:=ha w;rw[show ((i+1:Nat):Int)=(i:Int)+1 from by omega,show ((m+1:Nat):Int)=(m:Int)+1 from by omega,show m+1-(i+1)=m-i from by omega,show 20-(i+1)=19-i from by omega] at this;exact this
  obtain ⟨w2,HW2⟩:∃ w2,Hid (w2=w1.drew.setCells g (o+i*8) (dL (es.drop (i+1)))):=⟨_,hid rfl⟩
  have CR:=(HB.o.drewN 1).copy 3 (i+1) i (20-i) (20-i) (m-i) (19-i) d a (fun h0=>⟨HD afp,HA2 afp⟩) (by rw[HM.o];omega) afp afp;have CR2:(Builtin.copy_ #[287,287] 3 #[.slice (some d) (20-i) (20-i),.slice (some a) (m-i) (19-i)]).run prog w1.drew = .ok (.int .i64 ((m-i:Nat):Int)) w2:=by rw[HW2.o];exact CR
  have hf2:CF w1 w2 (fun b j=>b=g/\o+i*8<=j/\j<o+160):=by
   rw[HW2.o];exact CF.setCells g _ _ _ (CF.refl w1 _).drew (fun j hj _=>⟨rfl,by omega,by rw[eG,cy,HM.o] at hj;omega⟩)
  have TR:=hf2.cell hcnt (fun q=>by omega);have hL2:=HB.o.live.cf hf2;have fz2:=hL2.frozen (o+160);obtain ⟨c0,p0⟩:=bw.1 (hL2.some (o+m*8) afp);obtain ⟨c1,p1⟩:=bw.1 (hL2.some (o+m*8+1) afp);obtain ⟨c2,p2⟩:=bw.1 (hL2.some (o+m*8+2) afp);obtain ⟨c3,p3⟩:=bw.1 (hL2.some (o+m*8+3) afp);obtain ⟨c4,p4⟩:=bw.1 (hL2.some (o+m*8+4) afp);obtain ⟨c5,p5⟩:=bw.1 (hL2.some (o+m*8+5) afp);obtain ⟨c6,p6⟩:=bw.1 (hL2.some (o+m*8+6) afp);obtain ⟨c7,p7⟩:=bw.1 (hL2.some (o+m*8+7) afp);have z0:=hL2.frozen (o+m*8);have z1:=hL2.frozen (o+m*8+1);have z2:=hL2.frozen (o+m*8+2);have z3:=hL2.frozen (o+m*8+3);have z4:=hL2.frozen (o+m*8+4);have z5:=hL2.frozen (o+m*8+5);have z6:=hL2.frozen (o+m*8+6);have z7:=hL2.frozen (o+m*8+7);clear HD HA2 ha CR hf2 hL2;go_wp2;go_region;go_wp2;go_region;go_wp2;go_ret;have R:=bY.TQ (HB.o.drewN 1) i m HM.o afp HW2.o TR (v0:=.string ⟨#[]⟩) (v1:=.int .i64 0) (v2:=.int .u64 0) (v3:=.int .u64 0) (v4:=.int .i64 0) (v5:=.int .i64 0) (v6:=.int .i64 0) (v7:=.int .i64 0);exact ⟨fun q=>absurd (q.symm.trans HA.o) aft,fun j q=>by have e:=HE.o.symm.trans q;injection e with e;subst e;exact ⟨rfl,R.1.drewN 1,(CF.before HG.o R.2.mh).drew⟩⟩
end Go.Proofs.YteknelimjfgmaaaGreatDoor
