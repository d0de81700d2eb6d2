/-
  
  
  
  
  
-/
import Derived.Test.YtpibgolaaaemnaaGreatDoorGUBoxN
import Derived.Test.YtpibgolaaaemnaaGreatDoorGUMem
import Derived.Test.YtpibgolaaaemnaaGreatDoorGUShelf
import Derived.Test.YtpibgolaaaemnaaGreatDoorGUIns
import Derived.Deep.RegionWith
import Derived.Deep.QuietTactic
import Derived.BigQuiet
import Derived.Test.YtpibgolaaaemnaaGreatDoorGUBlk
import Derived.Shelf.Spec.SlicesInsert
import Derived.Deep.RegionLaw
namespace Go.Proofs.YtpibgolaaaemnaaGreatDoor
open Go.RowKit
set_option maxRecDepth 100000
def BE.aR (e:BE):List Value:=[.string ⟨e.name.toArray⟩,.int .i64 e.ag,.int .u64 (e.key.toNat:Int),.int .u64 (e.before.toNat:Int),.int .i64 e.cO,.int .i64 e.aF,.int .i64 e.bU,.int .i64 e.ay]
def cK (l:List BE):List Value:=(l.map BE.aR).flatten
theorem dP (l:List BE):(cK l).length=l.length*8:=by
 induction l with
 | nil=>rfl
 | cons x l ih=>simp only[cK,List.map_cons,List.flatten_cons,List.length_append,List.length_cons] at *;rw[ih];show 8+_=_;omega
theorem iD (a b:List BE):cK (a++b)=cK a++cK b:=by simp[cK]
theorem sH (l:List BE):∀ (k j:Nat) (hk:k<l.length),j<8→(cK l)[k*8+j]?=(l[k]).aR[j]?:=by
 induction l with
 | nil=>intro k j hk;simp at hk
 | cons x l ih=>
  intro k j hk hj
  have e:cK (x::l)=x.aR++cK l:=by simp[cK]
  rw[e]
  cases k with
  | zero=>rw[Nat.zero_mul,Nat.zero_add,List.getElem?_append_left (by show j<8;exact hj)];rfl
  | succ k=>
   rw[List.getElem?_append_right (by show 8≤(k+1)*8+j;omega),show (k+1)*8+j-x.aR.length=k*8+j from by show (k+1)*8+j-8=k*8+j;omega]
   exact ih k j (by simpa using hk) hj
structure bE (w:World) (g o:Nat) (es:List BE):Prop where
 live:Live w g (o+161)
 room:w.rangeAt g o (cK es)
 count:w.cell? ⟨g,o+160,none⟩=some (.int .i64 es.length)
 len:es.length≤20
theorem bE.cf {w w':World} {ex:Nat→Nat→Prop} {g o:Nat} {es:List BE} (h:bE w g o es) (k:CF w w' ex) (hx:∀ j,o≤j→j<o+161→¬ ex g j):bE w' g o es:=
 ⟨h.live.cf k,k.range h.room (fun j hj=>hx _ (by omega) (by have:=h.len;rw[dP] at hj;omega)),k.cell h.count (hx _ (by omega) (by omega)),h.len⟩
theorem bE.grown {w w':World} {g o:Nat} {es:List BE} (h:bE w g o es) (k:w.grownBy w' none):bE w' g o es:=h.cf (CF.aW k (fun _ _=>False)) (fun _ _ _ e=>e)
theorem bE.drewN {w:World} {g o:Nat} {es:List BE} (h:bE w g o es) (n:Nat):bE (w.drewN n) g o es:=h.grown (aO (World.grownBy.refl w none) n)
theorem bE.entry {w:World} {g o:Nat} {es:List BE} (h:bE w g o es) (k:Nat) (hk:k<es.length):w.rangeAt g (o+k*8) es[k].aR:=by
 intro j u hu
 have hj:j<8:=(List.getElem?_eq_some_iff.1 hu).1
 have:=h.room (k*8+j) u (by rw[sH es k j hk hj];exact hu)
 rw[←Nat.add_assoc] at this
 exact this
theorem Q9:∀ a b:List UInt8,(Lib.compareBytes a b<0)↔Op.bytesLess a b=true:=by
 intro a
 induction a with
 | nil=>intro b;cases b <;> simp[Lib.compareBytes,Op.bytesLess]
 | cons x a ih=>
  intro b
  cases b with
  | nil=>simp[Lib.compareBytes,Op.bytesLess]
  | cons y b=>
   simp only[Lib.compareBytes,Op.bytesLess,Bool.or_eq_true,Bool.and_eq_true,decide_eq_true_eq,beq_iff_eq]
   by_cases h1:x<y
   ·simp[h1]
   ·by_cases h2:y<x
    ·have h3:x≠y:=fun e=>by subst e;exact absurd h2 (UInt8.lt_irrefl x)
     simp[h1,h2,h3]
    ·have h3:x=y:=by
      by_cases e:x=y
      ·exact e
      ·rcases UInt8.lt_or_lt_of_ne e with h | h
       ·exact absurd h h1
       ·exact absurd h h2
     subst h3
     simp[UInt8.lt_irrefl,ih b]
theorem Gy:∀ a b:List UInt8,(Lib.compareBytes a b=0)↔a=b:=by
 intro a
 induction a with
 | nil=>intro b;cases b <;> simp[Lib.compareBytes]
 | cons x a ih=>
  intro b
  cases b with
  | nil=>simp[Lib.compareBytes]
  | cons y b=>
   simp only[Lib.compareBytes]
   by_cases h1:x<y
   ·have h3:x≠y:=fun e=>by subst e;exact absurd h1 (UInt8.lt_irrefl x)
    simp[h1,h3]
   ·by_cases h2:y<x
    ·have h3:x≠y:=fun e=>by subst e;exact absurd h2 (UInt8.lt_irrefl x)
     simp[h1,h2,h3]
    ·have h3:x=y:=by
      by_cases e:x=y
      ·exact e
      ·rcases UInt8.lt_or_lt_of_ne e with h | h
       ·exact absurd h h1
       ·exact absurd h h2
     simp[h3,ih b]
theorem NZ:∀ a b:List UInt8,-1≤Lib.compareBytes a b∧Lib.compareBytes a b≤1:=by
 intro a
 induction a with
 | nil=>intro b;cases b <;> simp[Lib.compareBytes]
 | cons x a ih=>
  intro b
  cases b with
  | nil=>simp[Lib.compareBytes]
  | cons y b=>
   simp only[Lib.compareBytes]
   split
   ·omega
   ·split
    ·omega
    ·exact ih b
theorem Ra (l:List UInt8):∀ (es:List BE) (k:Nat),k≤es.length→(∀ j (hj:j<es.length),j<k→Op.bytesLess es[j].name l=true)→(∀ h:k<es.length,Op.bytesLess es[k].name l=false)→BE.ins es l=k:=by
 intro es
 induction es with
 | nil=>intro k hk _ _;simp at hk;subst hk;rfl
 | cons x es ih=>
  intro k hk h1 h2
  cases k with
  | zero=>
   have:=h2 (by simp)
   simp only[List.getElem_cons_zero] at this
   simp[BE.ins,this]
  | succ k=>
   have h0:=h1 0 (by simp) (by omega)
   simp only[List.getElem_cons_zero] at h0
   rw[BE.ins,if_pos h0,ih k (by simpa using hk) (fun j hj hjk=>by have:=h1 (j+1) (by simpa using hj) (by omega);simpa using this) (fun h=>by have:=h2 (by simpa using h);simpa using this)]
theorem Rb {es:List BE} (hs:es.Pairwise (fun x y=>Op.bytesLess x.name y.name=true)) (l:List UInt8):BE.lT es l=if h:BE.ins es l<es.length then (if es[BE.ins es l].name=l then some (BE.ins es l) else none) else none:=by
 have hle:=Kl es l
 have afw:=Dk l es
 cases h:BE.lT es l with
 | none=>
  have hno:=MC h
  split
  ·rename_i hi
   rw[if_neg (hno _ (List.getElem_mem hi))]
  ·rfl
 | some i=>
  obtain ⟨hi,he⟩:=zx h
  have hk:BE.ins es l=i:=by
   refine Ra l es i (by omega) (fun j hj hji=>?_) (fun hh=>?_)
   ·have:=List.pairwise_iff_getElem.1 hs j i hj hi hji
    rw[he] at this
    exact this
   ·rw[he];exact Dj l
  rw[dif_pos (by rw[hk];exact hi),if_pos (by simp only[hk];exact he),hk]
set_option maxHeartbeats 400000 in
theorem sI (g o:Nat) (es:List BE) (w:World) (h:bE w g o es) :
  Calls Tryz.prog 75 #[.pointer (some ⟨g,o,none⟩)] w fun e w'=>e = .returned (.slice (some ⟨g,o,none⟩) es.length 20)∧∃ q,w'=w.drewN q:=by
 have hc:=h.count
 have hl:=h.len
 clear h
 generalize es.length=n at *
 have hlI:(n:Int)≤20:=by omega
 have hl0:(0:Int)≤(n:Int):=by omega
 go_enter Tryz.func75,Tryz.ntmps75
 go_wp2_with fail
 go_quiet (fail)
 go_wp2
 go_ret
 exact ⟨rfl,_,rfl⟩
theorem Tryz.gH:(Tryz.prog.info? 87).map (·.size)=some 8:=by kernel_rfl
set_option maxHeartbeats 400000 in
theorem MK (x:BE) (l:List UInt8) (S:ByteArray) (w:World) (hS:Hid (S=⟨l.toArray⟩)) :
  Calls Tryz.prog 114 #[.agg x.aR.toArray,.string S] w fun e w'=>e = .returned (.int .i64 (Lib.compareBytes x.name l))∧w.grownBy w' none:=by
 obtain ⟨name,ag,key,before,cO,aF,bU,ay⟩:=x
 have h1:(⟨name.toArray⟩:ByteArray).data.toList=name:=by simp
 have h2:S.data.toList=l:=by rw[hS.out]
 have C:=fun w=>Tryz.strings_Compare (⟨name.toArray⟩:ByteArray) S w
 rw[h1,h2] at C
 have G:=World.grownBy_alloc w (.cells (BE.aR ⟨name,ag,key,before,cO,aF,bU,ay⟩).toArray 87) none
 simp only[BE.aR] at G ⊢
 clear h1 h2
 go_enter Tryz.func114,Tryz.ntmps114
 go_wp2_with (go_at_call 115;refine (C _).mono ?_;rintro e w' ⟨rfl,rfl⟩)
 go_ret
 exact ⟨rfl,G⟩
end Go.Proofs.YtpibgolaaaemnaaGreatDoor
namespace Go.Proofs.YtpibgolaaaemnaaGreatDoor
open Go.RowKit
set_option maxRecDepth 100000
set_option maxHeartbeats 2000000 in
theorem Gz (g o:Nat) (es:List BE) (l:List UInt8) (n:Nat) (S:ByteArray) (w:World) (h:bE w g o es) (hn:Hid (es.length=n)) (hs:es.Pairwise (fun x y=>Op.bytesLess x.name y.name=true)) (hS:Hid (S=⟨l.toArray⟩)) :
  Calls Tryz.prog 113 #[.slice (some ⟨g,o,none⟩) n 20,.string S,.func (.func 114) #[] #[]] w fun e w'=>e = .returned (.tuple #[.int .i64 (BE.ins es l),.bool (BE.lT es l).isSome])∧w.grownBy w' none:=by
 have hlen:=h.len
 rw[hn.out] at hlen
 have Dt:Hid (es.Pairwise (fun x y=>Op.bytesLess x.name y.name=true)):=hs
 clear hs
 go_enter Tryz.func113,Tryz.ntmps113
 go_wp2
 go_loopw [9,10,11] (fun a b _ wr=>∃ i j:Nat,i≤j∧j≤n∧a = .int .i64 i∧b = .int .i64 j∧Hid (∀ k (hk:k<es.length),k<i→Op.bytesLess es[k].name l=true)∧Hid (∀ k (hk:k<es.length),j≤k→Op.bytesLess es[k].name l=false)∧w.grownBy wr none) (fun a b _ _=>(intOf b-intOf a).toNat)
 case atStart=>exact ⟨0,n,Nat.zero_le _,Nat.le_refl _,rfl,rfl,hid (fun k _ hk=>by omega),hid (fun k hk hj=>by rw[hn.out] at hk;omega),World.grownBy.refl _ _⟩
 case round=>
  obtain ⟨i,j,hij,hjn,rfl,rfl,HA,HB,hgr⟩:=hrel
  have hr:=h.grown hgr
  by_cases hlt:i<j
  ·have YC:(i:Int)<(j:Int):=by omega
   have hm:(i+j) / 2<n:=by omega
   have Ch:(i+j) / 2<es.length:=by rw[hn.out];exact hm
   have him:i≤(i+j) / 2:=by omega
   have hmj:(i+j) / 2<j:=by omega
   have hent:=hid (hr.entry _ Ch)
   obtain ⟨x,HX⟩:∃ x,Hid (x=es[(i+j) / 2]):=⟨_,hid rfl⟩
   rw[←HX.out] at hent
   have hlI:((i:Int)+(j:Int))≤40:=by omega
   have HCL:=hid (Q9 x.name l)
   have HR:=hid (NZ x.name l)
   clear hr
   go_wp2_with (refine wpList_load_mid rfl 87 _ rfl g (o+(i+j) / 2*8) rfl x.aR _ hent.out Tryz.underlying87 rfl Tryz.gH ?_)
   refine (MK x l S _ hS).mono ?_
   rintro e w1 ⟨rfl,hg1⟩
   have G1:=ae hgr hg1
   clear hent hgr hg1
   obtain ⟨c,HC⟩:∃ c,Hid (c=Lib.compareBytes x.name l):=⟨_,hid rfl⟩
   rw[←HC.out] at HCL HR ⊢
   have hc1:-1≤c:=HR.out.1
   have hc2:c≤1:=HR.out.2
   by_cases hc:c<0
   ·have HL:=hid (HCL.out.1 hc)
    go_wp2
    go_roundw
    case rel=>
     refine ⟨(i+j) / 2+1,j,by omega,hjn,by go_num,rfl,hid (fun k hk hki=>?_),HB,G1⟩
     rcases Nat.lt_or_ge k ((i+j) / 2) with hk1 | hk1
     ·exact wh (List.pairwise_iff_getElem.1 Dt.out k _ hk Ch hk1) (by rw[←HX.out];exact HL.out)
     ·have:k=(i+j) / 2:=by omega
      subst this
      rw[←HX.out]
      exact HL.out
    case measure=>simp[intOf];omega
   ·have HL:Hid (Op.bytesLess x.name l=false):=by
     cases hb:Op.bytesLess x.name l with
     | false=>exact rfl
     | true=>exact absurd (HCL.out.2 hb) hc
    go_wp2
    go_roundw
    case rel=>
     refine ⟨i,(i+j) / 2,him,by omega,rfl,by go_num,HA,hid (fun k hk hki=>?_),G1⟩
     rcases Nat.lt_or_ge ((i+j) / 2) k with hk1 | hk1
     ·cases hb:Op.bytesLess es[k].name l with
      | false=>rfl
      | true=>
       have h1:=wh (List.pairwise_iff_getElem.1 Dt.out _ k Ch hk hk1) hb
       rw[←HX.out,HL.out] at h1
       cases h1
     ·have:k=(i+j) / 2:=by omega
      subst this
      rw[←HX.out]
      exact HL.out
    case measure=>simp[intOf];omega
  ·have afy:i=j:=by omega
   subst afy
   have HI:Hid (BE.ins es l=i):=by
    refine Ra l es i (by rw[hn.out];exact hjn) (fun k hk hki=>HA.out k hk hki) (fun hk=>HB.out i hk (Nat.le_refl _))
   have HAT:=hid (Rb Dt.out l)
   clear HA HB
   have YC:¬ (i:Int)<(i:Int):=by omega
   by_cases hin:i<n
   ·have hil:i<es.length:=by rw[hn.out];exact hin
    have abt:(i:Int)<(n:Int):=by omega
    have hi0:(0:Int)≤(i:Int):=by omega
    have hent:=hid (hr.entry _ hil)
    obtain ⟨x,HX⟩:∃ x,Hid (x=es[i]):=⟨_,hid rfl⟩
    rw[←HX.out] at hent
    have HF:Hid ((BE.lT es l).isSome=(Lib.compareBytes x.name l==0)):=by
     show _=_
     rw[HAT.out]
     simp only[HI.out]
     rw[dif_pos hil,←HX.out]
     by_cases e:x.name=l
     ·rw[if_pos e,(Gy x.name l).2 e];rfl
     ·rw[if_neg e]
      have:¬ Lib.compareBytes x.name l=0:=fun h=>e ((Gy x.name l).1 h)
      simp[this]
    clear hr HAT HX
    obtain ⟨name,ag,key,before,cO,aF,bU,ay⟩:=x
    have k0:wr.cell? ⟨g,o+i*8,none⟩=some (.string ⟨name.toArray⟩):=hent.out 0 _ rfl
    have k1:wr.cell? ⟨g,o+i*8+1,none⟩=some (.int .i64 ag):=hent.out 1 _ rfl
    have k2:wr.cell? ⟨g,o+i*8+2,none⟩=some (.int .u64 (key.toNat:Int)):=hent.out 2 _ rfl
    have k3:wr.cell? ⟨g,o+i*8+3,none⟩=some (.int .u64 (before.toNat:Int)):=hent.out 3 _ rfl
    have k4:wr.cell? ⟨g,o+i*8+4,none⟩=some (.int .i64 cO):=hent.out 4 _ rfl
    have k5:wr.cell? ⟨g,o+i*8+5,none⟩=some (.int .i64 aF):=hent.out 5 _ rfl
    have k6:wr.cell? ⟨g,o+i*8+6,none⟩=some (.int .i64 bU):=hent.out 6 _ rfl
    have k7:wr.cell? ⟨g,o+i*8+7,none⟩=some (.int .i64 ay):=hent.out 7 _ rfl
    go_wp2_with fail
    refine (MK ⟨name,ag,key,before,cO,aF,bU,ay⟩ l S _ hS).mono ?_
    rintro e w1 ⟨rfl,hg1⟩
    clear k0 k1 k2 k3 k4 k5 k6 k7
    have G1:=ae hgr hg1
    clear hent hgr hg1
    go_wp2
    go_ret2
    exact ⟨by rw[HI.out,HF.out];rfl,G1⟩
   ·have abt:¬ (i:Int)<(n:Int):=by omega
    have HF:Hid ((BE.lT es l).isSome=false):=by
     show _=_
     rw[HAT.out]
     simp only[HI.out]
     rw[dif_neg (by rw[hn.out];exact hin)]
     rfl
    clear hr HAT
    go_wp2
    go_ret2
    exact ⟨by rw[HI.out,HF.out];rfl,hgr⟩
set_option maxHeartbeats 400000 in
theorem pK (g o:Nat) (es:List BE) (l:List UInt8) (S:ByteArray) (w:World) (h:bE w g o es) (hs:es.Pairwise (fun x y=>Op.bytesLess x.name y.name=true)) (hS:Hid (S=⟨l.toArray⟩)) :
  Calls Tryz.prog 76 #[.pointer (some ⟨g,o,none⟩),.string S] w fun e w'=>e = .returned (.tuple #[.int .i64 (BE.ins es l),.bool (BE.lT es l).isSome])∧w.grownBy w' none:=by
 have Dt:=hid hs
 clear hs
 go_enter Tryz.func76,Tryz.ntmps76
 go_wp2_with fail
 refine (sI g o es w h).mono ?_
 rintro e w' ⟨rfl,q,rfl⟩
 have hq:=h.drewN q
 have G0:=aO (World.grownBy.refl w none) q
 go_wp2_with fail
 refine (Gz g o es l es.length S _ hq (hid rfl) Dt.out hS).mono ?_
 rintro e w1 ⟨rfl,hg1⟩
 have G:=ae G0 hg1
 clear hg1 hq
 go_wp2
 go_ret2
 exact ⟨rfl,G⟩
end Go.Proofs.YtpibgolaaaemnaaGreatDoor
namespace Go.Proofs.YtpibgolaaaemnaaGreatDoor
open Go.RowKit
set_option maxRecDepth 100000
abbrev sJ (cO aF bU ay:Int):Array Value:=#[.int .i64 cO,.int .i64 aF,.int .i64 bU,.int .i64 ay]
set_option maxHeartbeats 400000 in
theorem wF (a:jJ) (w:World):Calls Tryz.prog 60 #[.agg a.cells] w fun e w'=>e = .returned (.agg (sJ a.cO a.aF a.bU a.ay))∧w.grownBy w' none:=by
 obtain ⟨ak,an,key,cO,aF,bU,ay⟩:=a
 simp only[jJ.cells]
 go_enter Tryz.func60,Tryz.ntmps60
 go_wp2
 exact bodyPost_ret (v:=.agg #[.int .i64 cO,.int .i64 aF,.int .i64 bU,.int .i64 ay]) (by simp[results,Tryz.results60,go_sem]) rfl ⟨rfl,aC (World.grownBy_alloc w _ none) _⟩
set_option maxHeartbeats 400000 in
theorem Du (a:jJ) (w:World) (h0:-9223372036854775808≤a.ay) (h1:a.ay≤9223372036854775807):Calls Tryz.prog 78 #[.agg (sJ a.cO a.aF a.bU a.ay)] w fun e w'=>e = .returned (.bool a.xC)∧w.grownBy w' none:=by
 obtain ⟨ak,an,key,cO,aF,bU,ay⟩:=a
 have HP:Hid (jJ.xC ⟨ak,an,key,cO,aF,bU,ay⟩=decide (0≤cO∧0≤aF∧0≤ay∧ay<64)):=rfl
 have hb:=Rc ay h0 h1
 simp only at h0 h1 ⊢
 by_cases k1:0≤cO
 ·by_cases k2:0≤aF
  ·have HF:Hid (jJ.xC ⟨ak,an,key,cO,aF,bU,ay⟩=decide (0≤ay∧ay<64)):=by show _=_;rw[HP.out];simp[k1,k2]
   clear HP
   have HB:=hid hb
   cases hv:(bits .andNot .i64 ay 63==0)
   all_goals
    have HV:=hid (HB.out.symm.trans hv)
    clear hb HB
    go_enter Tryz.func78,Tryz.ntmps78
    go_wp2
    go_ret
    exact ⟨by rw[HF.out,HV.out];rfl,World.grownBy_alloc w _ none⟩
  ·have HF:Hid (jJ.xC ⟨ak,an,key,cO,aF,bU,ay⟩=false):=by show _=_;rw[HP.out];simp[k2]
   clear hb
   go_enter Tryz.func78,Tryz.ntmps78
   go_wp2
   go_ret
   exact ⟨by rw[HF.out];rfl,World.grownBy_alloc w _ none⟩
 ·have HF:Hid (jJ.xC ⟨ak,an,key,cO,aF,bU,ay⟩=false):=by show _=_;rw[HP.out];simp[k1]
  clear hb
  go_enter Tryz.func78,Tryz.ntmps78
  go_wp2
  go_ret
  exact ⟨by rw[HF.out];rfl,World.grownBy_alloc w _ none⟩
theorem EL {w:World} {g a:Nat} {c0 c1 c2 c3 c4 c5 c6 c7:Value} (h0:w.cell? ⟨g,a,none⟩=some c0) (h1:w.cell? ⟨g,a+1,none⟩=some c1) (h2:w.cell? ⟨g,a+2,none⟩=some c2) (h3:w.cell? ⟨g,a+3,none⟩=some c3) (h4:w.cell? ⟨g,a+4,none⟩=some c4) (h5:w.cell? ⟨g,a+5,none⟩=some c5) (h6:w.cell? ⟨g,a+6,none⟩=some c6) (h7:w.cell? ⟨g,a+7,none⟩=some c7) :
  w.rangeAt g a [c0,c1,c2,c3,c4,c5,c6,c7]:=by
 intro j u hu
 match j,hu with
 | 0,hu=>injection hu with hu;subst hu;exact h0
 | 1,hu=>injection hu with hu;subst hu;exact h1
 | 2,hu=>injection hu with hu;subst hu;exact h2
 | 3,hu=>injection hu with hu;subst hu;exact h3
 | 4,hu=>injection hu with hu;subst hu;exact h4
 | 5,hu=>injection hu with hu;subst hu;exact h5
 | 6,hu=>injection hu with hu;subst hu;exact h6
 | 7,hu=>injection hu with hu;subst hu;exact h7
 | j+8,hu=>simp at hu
theorem bL {w:World} {a:Addr} {u:Value} (v:Value) (h:w.cell? a=some u):(w.setCell a v).cell? a=some v:=World.cell?_setCell_same _ _ _ h
theorem aa {w:World} {g i j:Nat} {u:Value} (v:Value) (h:w.cell? ⟨g,j,none⟩=some u) (hne:i≠j):(w.setCell ⟨g,i,none⟩ v).cell? ⟨g,j,none⟩=some u:=by
 rw[World.cell?_setCell_other _ _ _ _ (fun e=>hne (by injection e))];exact h
def EM (g o:Nat) (b j:Nat):Prop:=b=g∧o≤j∧j<o+161
theorem bE.GH {w w':World} {g o:Nat} {es:List BE} (h:bE w g o es) (i:Nat) (hi:i<es.length) (y:BE) (f:CF w w' (fun b j=>b=g∧o+i*8≤j∧j<o+i*8+8)) (hy:w'.rangeAt g (o+i*8) y.aR):bE w' g o (es.set i y)∧CF w w' (EM g o):=by
 have hl:=h.len
 refine ⟨⟨h.live.cf f,?_,?_,by rw[List.length_set];exact hl⟩,f.mono (fun b j _ e=>⟨e.1,by omega,by omega⟩)⟩
 ·intro j u hu
  have hj:j<(es.set i y).length*8:=by have:=(List.getElem?_eq_some_iff.1 hu).1;rwa [dP] at this
  rw[List.length_set] at hj
  have hk:j / 8<es.length:=by omega
  have hd:=sH (es.set i y) (j / 8) (j % 8) (by rw[List.length_set];exact hk) (by omega)
  rw[show j / 8*8+j % 8=j from by omega,hu] at hd
  by_cases e:j / 8=i
  ·have e2:(es.set i y)[j / 8]'(by rw[List.length_set];exact hk)=y:=by
    subst e;simp
   rw[e2] at hd
   have:=hy (j % 8) u hd.symm
   rw[show o+i*8+j % 8=o+j from by omega] at this
   exact this
  ·have e2:(es.set i y)[j / 8]'(by rw[List.length_set];exact hk)=es[j / 8]:=by
    rw[List.getElem_set_ne (fun q=>e q.symm)]
   rw[e2,←sH es (j / 8) (j % 8) hk (by omega),show j / 8*8+j % 8=j from by omega] at hd
   exact f.cell (h.room j u hd.symm) (fun q=>by omega)
 ·rw[List.length_set]
  exact f.cell h.count (fun q=>by omega)
theorem nZ {es:List BE} (hs:es.Pairwise (fun x y=>Op.bytesLess x.name y.name=true)) (l:List UInt8) (h:(BE.lT es l).isSome=true):∃ hi:BE.ins es l<es.length,BE.lT es l=some (BE.ins es l)∧es[BE.ins es l].name=l:=by
 have e:=Rb hs l
 rw[e] at h
 split at h
 ·rename_i hi
  split at h
  ·rename_i hn
   exact ⟨hi,by rw[e,dif_pos hi,if_pos hn],hn⟩
  ·cases h
 ·cases h
set_option maxHeartbeats 1000000 in
theorem N8 (g o:Nat) (es:List BE) (l:List UInt8) (S:ByteArray) (key:UInt64) (w:World) (h:bE w g o es) (hs:es.Pairwise (fun x y=>Op.bytesLess x.name y.name=true)) (hS:Hid (S=⟨l.toArray⟩)) (iY:∀ e∈es,1≤e.ag∧e.ag≤4611686018427387904) :
  Calls Tryz.prog 58 #[.pointer (some ⟨g,o,none⟩),.string S,.int .u64 (key.toNat:Int)] w fun e w'=>
   ((BE.lT es l).isSome=false→e = .returned (.int .i64 6)∧w.grownBy w' none)∧(∀ i (hi:i<es.length),BE.lT es l=some i→e = .returned (.int .i64 0)∧bE w' g o (es.set i (es[i].tL key))∧CF w w' (EM g o)):=by
 have Dt:=hid hs
 have abw:=hid iY
 clear hs iY
 go_enter Tryz.func58,Tryz.ntmps58
 go_wp2_with fail
 refine (pK g o es l S w h Dt.out hS).mono ?_
 rintro e w1 ⟨rfl,hg1⟩
 have h1:=h.grown hg1
 cases hat:(BE.lT es l).isSome
 ·have HA:=hid hat
  go_wp2
  go_ret
  exact ⟨fun _=>⟨rfl,hg1⟩,fun i hi q=>by have:=HA.out;rw[q] at this;cases this⟩
 ·obtain ⟨hi,he,hn⟩:=nZ Dt.out l hat
  have HE:=hid he
  have HA:=hid hat
  obtain ⟨i,HI⟩:∃ i,Hid (i=BE.ins es l):=⟨_,hid rfl⟩
  have hil:i<es.length:=by rw[HI.out];exact hi
  have HE':Hid (BE.lT es l=some i):=by show _=_;rw[HI.out];exact HE.out
  have hent:=h1.entry i hil
  have hnx:=abw.out _ (List.getElem_mem hil)
  have N9:=h1.len
  obtain ⟨x,HX⟩:∃ x,Hid (x=es[i]):=⟨_,hid rfl⟩
  rw[←HX.out] at hent hnx
  obtain ⟨name,ag,kk,before,cO,aF,bU,ay⟩:=x
  obtain ⟨n1,n2⟩:=hnx
  simp only at n1 n2
  have k0:w1.cell? ⟨g,o+i*8,none⟩=some (.string ⟨name.toArray⟩):=hent 0 _ rfl
  have k1:w1.cell? ⟨g,o+i*8+1,none⟩=some (.int .i64 ag):=hent 1 _ rfl
  have k2:w1.cell? ⟨g,o+i*8+2,none⟩=some (.int .u64 (kk.toNat:Int)):=hent 2 _ rfl
  have k3:w1.cell? ⟨g,o+i*8+3,none⟩=some (.int .u64 (before.toNat:Int)):=hent 3 _ rfl
  have k4:w1.cell? ⟨g,o+i*8+4,none⟩=some (.int .i64 cO):=hent 4 _ rfl
  have k5:w1.cell? ⟨g,o+i*8+5,none⟩=some (.int .i64 aF):=hent 5 _ rfl
  have k6:w1.cell? ⟨g,o+i*8+6,none⟩=some (.int .i64 bU):=hent 6 _ rfl
  have k7:w1.cell? ⟨g,o+i*8+7,none⟩=some (.int .i64 ay):=hent 7 _ rfl
  have fz:∀ j,w1.frozen? ⟨g,j,none⟩=false:=fun j=>h1.live.frozen j
  have hiI:(i:Int)<20:=by omega
  have hi0:(0:Int)≤(i:Int):=by omega
  have R:Hid (bE (((w1.setCell ⟨g,o+i*8+1,none⟩ (.int .i64 (ag+1))).setCell ⟨g,o+i*8+3,none⟩ (.int .u64 (kk.toNat:Int))).setCell ⟨g,o+i*8+2,none⟩ (.int .u64 (key.toNat:Int))) g o (es.set i (es[i].tL key))∧CF w (((w1.setCell ⟨g,o+i*8+1,none⟩ (.int .i64 (ag+1))).setCell ⟨g,o+i*8+3,none⟩ (.int .u64 (kk.toNat:Int))).setCell ⟨g,o+i*8+2,none⟩ (.int .u64 (key.toNat:Int))) (EM g o)):=by
   have hr:w1.rangeAt g (o+i*8) (BE.aR ⟨name,ag,kk,before,cO,aF,bU,ay⟩):=hent
   have Q:=h1.GH (w':=((w1.setCell ⟨g,o+i*8+1,none⟩ (.int .i64 (ag+1))).setCell ⟨g,o+i*8+3,none⟩ (.int .u64 (kk.toNat:Int))).setCell ⟨g,o+i*8+2,none⟩ (.int .u64 (key.toNat:Int))) i hil (es[i].tL key)
    ((((CF.refl _ _).setCell _ _ _ (fun _=>⟨rfl,by omega,by omega⟩)).setCell _ _ _ (fun _=>⟨rfl,by omega,by omega⟩)).setCell _ _ _ (fun _=>⟨rfl,by omega,by omega⟩))
    (by
     rw[←HX.out]
     refine EL ?_ ?_ ?_ ?_ ?_ ?_ ?_ ?_
     ·exact aa _ (aa _ (aa _ k0 (by omega)) (by omega)) (by omega)
     ·exact aa _ (aa _ (bL _ k1) (by omega)) (by omega)
     ·exact bL _ (aa _ (aa _ k2 (by omega)) (by omega))
     ·exact aa _ (bL _ (aa _ k3 (by omega))) (by omega)
     ·exact aa _ (aa _ (aa _ k4 (by omega)) (by omega)) (by omega)
     ·exact aa _ (aa _ (aa _ k5 (by omega)) (by omega)) (by omega)
     ·exact aa _ (aa _ (aa _ k6 (by omega)) (by omega)) (by omega)
     ·exact aa _ (aa _ (aa _ k7 (by omega)) (by omega)) (by omega))
   exact ⟨Q.1,CF.before hg1 Q.2⟩
  rw[←HI.out]
  have f1:=fz (o+i*8+1)
  have f2:=fz (o+i*8+2)
  have f3:=fz (o+i*8+3)
  clear hent h h1 hg1 he hn hi hat HE fz HX
  go_wp2
  go_ret
  exact ⟨fun q=>absurd (q.symm.trans HA.out) (by simp),fun j hj q=>by have e:=HE'.out.symm.trans q;injection e with e;subst e;exact ⟨rfl,R.out.1,R.out.2⟩⟩
end Go.Proofs.YtpibgolaaaemnaaGreatDoor
namespace Go.Proofs.YtpibgolaaaemnaaGreatDoor
open Go.RowKit
set_option maxRecDepth 100000
theorem bE.eight {w:World} {g o:Nat} {es:List BE} (h:bE w g o es) (i:Nat) (hi:i<es.length) (x:BE) (hx:x=es[i]) :
  w.cell? ⟨g,o+i*8,none⟩=some (.string ⟨x.name.toArray⟩)∧w.cell? ⟨g,o+i*8+1,none⟩=some (.int .i64 x.ag)∧w.cell? ⟨g,o+i*8+2,none⟩=some (.int .u64 (x.key.toNat:Int))∧w.cell? ⟨g,o+i*8+3,none⟩=some (.int .u64 (x.before.toNat:Int))∧w.cell? ⟨g,o+i*8+4,none⟩=some (.int .i64 x.cO)∧w.cell? ⟨g,o+i*8+5,none⟩=some (.int .i64 x.aF)∧w.cell? ⟨g,o+i*8+6,none⟩=some (.int .i64 x.bU)∧w.cell? ⟨g,o+i*8+7,none⟩=some (.int .i64 x.ay):=by
 have hent:=h.entry i hi
 subst hx
 exact ⟨hent 0 _ rfl,hent 1 _ rfl,hent 2 _ rfl,hent 3 _ rfl,hent 4 _ rfl,hent 5 _ rfl,hent 6 _ rfl,hent 7 _ rfl⟩
theorem dI {w w':World} (h:w.grownBy w' none) {b o:Nat} {v:Value} (hc:w.cell? ⟨b,o,none⟩=some v):w'.cell? ⟨b,o,none⟩=some v:=(CF.aW h (fun _ _=>False)).cell hc (fun e=>e)
set_option maxHeartbeats 1000000 in
theorem EN (g o:Nat) (es:List BE) (l:List UInt8) (S:ByteArray) (a:jJ) (w:World) (h:bE w g o es) (hs:es.Pairwise (fun x y=>Op.bytesLess x.name y.name=true)) (hS:Hid (S=⟨l.toArray⟩)) (hf0:-9223372036854775808≤a.ay) (hf1:a.ay≤9223372036854775807) :
  Calls Tryz.prog 59 #[.pointer (some ⟨g,o,none⟩),.string S,.agg (sJ a.cO a.aF a.bU a.ay)] w fun e w'=>
   ((BE.lT es l).isSome=false→e = .returned (.int .i64 6)∧w.grownBy w' none)∧((BE.lT es l).isSome=true→a.xC=false→e = .returned (.int .i64 1)∧w.grownBy w' none)∧(∀ i (hi:i<es.length),BE.lT es l=some i→a.xC=true→e = .returned (.int .i64 0)∧bE w' g o (es.set i (es[i].Gs a))∧CF w w' (EM g o)):=by
 have Dt:=hid hs
 have hne:w.heap.size≠g:=fun e=>by have:=h.live.lt;omega
 have G0:=World.grownBy_alloc w (.cells (sJ a.cO a.aF a.bU a.ay) 85) none
 have hB:=h.grown G0
 have M:=fun w=>Du a w hf0 hf1
 obtain ⟨ak,an,key,pl,pr,pe,pf⟩:=a
 simp only at M hf0 hf1 G0 hB ⊢
 have c0:(w.alloc (.cells #[.int .i64 pl,.int .i64 pr,.int .i64 pe,.int .i64 pf] 85)).cell? ⟨w.heap.size,0,none⟩=some (.int .i64 pl):=by simp[go_sem]
 have c1:(w.alloc (.cells #[.int .i64 pl,.int .i64 pr,.int .i64 pe,.int .i64 pf] 85)).cell? ⟨w.heap.size,1,none⟩=some (.int .i64 pr):=by simp[go_sem]
 have c2:(w.alloc (.cells #[.int .i64 pl,.int .i64 pr,.int .i64 pe,.int .i64 pf] 85)).cell? ⟨w.heap.size,2,none⟩=some (.int .i64 pe):=by simp[go_sem]
 have c3:(w.alloc (.cells #[.int .i64 pl,.int .i64 pr,.int .i64 pe,.int .i64 pf] 85)).cell? ⟨w.heap.size,3,none⟩=some (.int .i64 pf):=by simp[go_sem]
 have HC:=hid (And.intro c0 (And.intro c1 (And.intro c2 c3)))
 have HG:=hid G0
 have F5:=hid hB
 clear hs h c0 c1 c2 c3 G0 hB
 go_enter Tryz.func59,Tryz.ntmps59
 go_wp2_with fail
 refine (pK g o es l S _ F5.out Dt.out hS).mono ?_
 rintro e w1 ⟨rfl,hg1⟩
 have h1:=F5.out.grown hg1
 have hp0:=dI hg1 HC.out.1
 have hp1:=dI hg1 HC.out.2.1
 have hp2:=dI hg1 HC.out.2.2.1
 have hp3:=dI hg1 HC.out.2.2.2
 have G1:=hid (ae HG.out hg1)
 clear F5 HC HG hg1
 cases hat:(BE.lT es l).isSome
 ·have HA:=hid hat
  go_wp2
  go_ret
  exact ⟨fun _=>⟨rfl,G1.out⟩,fun q=>absurd (q.symm.trans HA.out) (by simp),fun i hi q=>by have:=HA.out;rw[q] at this;cases this⟩
 ·obtain ⟨hi,he,hn⟩:=nZ Dt.out l hat
  have HA:=hid hat
  obtain ⟨i,HI⟩:∃ i,Hid (i=BE.ins es l):=⟨_,hid rfl⟩
  have hil:i<es.length:=by rw[HI.out];exact hi
  have HE:Hid (BE.lT es l=some i):=by show _=_;rw[HI.out];exact he
  have HB1:=hid h1
  rw[←HI.out]
  clear he hn hi hat h1
  go_wp2_with fail
  refine (M _).mono ?_
  rintro e w2 ⟨rfl,hg2⟩
  have h2:=HB1.out.grown hg2
  have hq0:=dI hg2 hp0
  have hq1:=dI hg2 hp1
  have hq2:=dI hg2 hp2
  have hq3:=dI hg2 hp3
  have G2:=hid (ae G1.out hg2)
  clear HB1 hp0 hp1 hp2 hp3 G1 hg2
  cases NT:jJ.xC ⟨ak,an,key,pl,pr,pe,pf⟩
  ·have HP:=hid NT
   go_wp2
   go_ret
   exact ⟨fun q=>absurd (q.symm.trans HA.out) (by simp),fun _ _=>⟨rfl,G2.out⟩,fun i hi q q2=>absurd (q2.symm.trans HP.out) (by simp)⟩
  ·have HP:=hid NT
   have N9:=h2.len
   obtain ⟨x,HX⟩:∃ x,Hid (x=es[i]):=⟨_,hid rfl⟩
   obtain ⟨k0,k1,k2,k3,k4,k5,k6,k7⟩:=h2.eight i hil x HX.out
   have f4:=h2.live.frozen (o+i*8+4)
   have f5:=h2.live.frozen (o+i*8+5)
   have f6:=h2.live.frozen (o+i*8+6)
   have f7:=h2.live.frozen (o+i*8+7)
   have hiI:(i:Int)<20:=by omega
   have hi0:(0:Int)≤(i:Int):=by omega
   have HB2:=hid h2
   clear h2 NT M
   go_wp2
   go_region
   go_wp2
   go_ret
   have R:bE ((((w2.setCell ⟨g,o+i*8+4,none⟩ (.int .i64 pl)).setCell ⟨g,o+i*8+4+1,none⟩ (.int .i64 pr)).setCell ⟨g,o+i*8+4+2,none⟩ (.int .i64 pe)).setCell ⟨g,o+i*8+4+3,none⟩ (.int .i64 pf)) g o (es.set i (es[i].Gs ⟨ak,an,key,pl,pr,pe,pf⟩))∧CF w2 ((((w2.setCell ⟨g,o+i*8+4,none⟩ (.int .i64 pl)).setCell ⟨g,o+i*8+4+1,none⟩ (.int .i64 pr)).setCell ⟨g,o+i*8+4+2,none⟩ (.int .i64 pe)).setCell ⟨g,o+i*8+4+3,none⟩ (.int .i64 pf)) (EM g o):=by
    refine HB2.out.GH i hil _ (((((CF.refl _ _).setCell _ _ _ (fun _=>⟨rfl,by omega,by omega⟩)).setCell _ _ _ (fun _=>⟨rfl,by omega,by omega⟩)).setCell _ _ _ (fun _=>⟨rfl,by omega,by omega⟩)).setCell _ _ _ (fun _=>⟨rfl,by omega,by omega⟩)) ?_
    rw[←HX.out]
    refine EL ?_ ?_ ?_ ?_ ?_ ?_ ?_ ?_
    ·exact aa _ (aa _ (aa _ (aa _ k0 (by omega)) (by omega)) (by omega)) (by omega)
    ·exact aa _ (aa _ (aa _ (aa _ k1 (by omega)) (by omega)) (by omega)) (by omega)
    ·exact aa _ (aa _ (aa _ (aa _ k2 (by omega)) (by omega)) (by omega)) (by omega)
    ·exact aa _ (aa _ (aa _ (aa _ k3 (by omega)) (by omega)) (by omega)) (by omega)
    ·exact aa _ (aa _ (aa _ (bL _ k4) (by omega)) (by omega)) (by omega)
    ·exact aa _ (aa _ (bL _ (aa _ k5 (by omega))) (by omega)) (by omega)
    ·exact aa _ (bL _ (aa _ (aa _ k6 (by omega)) (by omega))) (by omega)
    ·exact bL _ (aa _ (aa _ (aa _ k7 (by omega)) (by omega)) (by omega))
   exact ⟨fun q=>absurd (q.symm.trans HA.out) (by simp),fun _ q=>absurd (q.symm.trans HP.out) (by simp),fun j hj q _=>by have e:=HE.out.symm.trans q;injection e with e;subst e;exact ⟨rfl,R.1.drewN 1,(CF.before G2.out R.2).drew⟩⟩
theorem aD {fn:Func} {a u:Tmp} {ty:TypeId} (h:fn.results=#[.cell a ty,.tmp u]) (tmps:Array Value) (P:Program) (w:World) (b:Nat) (hp:tmps.getD a undef = .pointer (some ⟨b,0,none⟩)) (x:Value) (hl:(loadVar ty ⟨b,0,none⟩).run P w = .ok x w) :
  (results fn tmps).run P w = .ok (.tuple #[x,tmps.getD u undef]) w:=by
 have hp':tmps[a]?.getD undef = .pointer (some ⟨b,0,none⟩):=by simpa using hp
 simp[results,h,hp',hl,asAddr]
theorem iK {a:World} (b:Nat) (hb:a.heap.size≤b):∀ (vs:List Value) (o:Nat) (w:World),a.grownBy w none→a.grownBy (w.setCells b o vs) none:=by
 intro vs o w h
 have C:=CF.setCells (a:=a) (ex:=fun _ _=>False) b vs o w (CF.aW h _) (fun j _ hlt=>by omega)
 exact C.gb (fun _ _ _ e=>e)
theorem dN {P:Program} {w:World} {b:Nat} {cs:List Value} (h:w.rangeAt b 0 cs) (ty:TypeId) (d:TypeDesc) (hu:P.underlying ty=some d) (hd:d.isRow=true) (hi:(P.info? ty).map (·.size)=some cs.length):(loadVar ty ⟨b,0,none⟩).run P w = .ok (.agg cs.toArray) w:=run_loadVar_mid (P:=P) w b 0 ty cs d h hu hd hi
theorem fw (w:World) (b:Nat) (v0 v1 v2 v3 v4 v5 v6 v7:Value) {d0 d1 d2 d3 d4 d5 d6 d7:Value} (q0:w.cell? ⟨b,0,none⟩=some d0) (q1:w.cell? ⟨b,1,none⟩=some d1) (q2:w.cell? ⟨b,2,none⟩=some d2) (q3:w.cell? ⟨b,3,none⟩=some d3) (q4:w.cell? ⟨b,4,none⟩=some d4) (q5:w.cell? ⟨b,5,none⟩=some d5) (q6:w.cell? ⟨b,6,none⟩=some d6) (q7:w.cell? ⟨b,7,none⟩=some d7) :
  ((((((((w.setCell ⟨b,0,none⟩ v0).setCell ⟨b,1,none⟩ v1).setCell ⟨b,2,none⟩ v2).setCell ⟨b,3,none⟩ v3).setCell ⟨b,4,none⟩ v4).setCell ⟨b,5,none⟩ v5).setCell ⟨b,6,none⟩ v6).setCell ⟨b,7,none⟩ v7).rangeAt b 0 [v0,v1,v2,v3,v4,v5,v6,v7]:=by
 refine EL ?_ ?_ ?_ ?_ ?_ ?_ ?_ ?_ <;> try simp only[Nat.zero_add]
 ·exact aa _ (aa _ (aa _ (aa _ (aa _ (aa _ (aa _ (bL _ q0) (by decide)) (by decide)) (by decide)) (by decide)) (by decide)) (by decide)) (by decide)
 ·exact aa _ (aa _ (aa _ (aa _ (aa _ (aa _ (bL _ (aa _ q1 (by decide))) (by decide)) (by decide)) (by decide)) (by decide)) (by decide)) (by decide)
 ·exact aa _ (aa _ (aa _ (aa _ (aa _ (bL _ (aa _ (aa _ q2 (by decide)) (by decide))) (by decide)) (by decide)) (by decide)) (by decide)) (by decide)
 ·exact aa _ (aa _ (aa _ (aa _ (bL _ (aa _ (aa _ (aa _ q3 (by decide)) (by decide)) (by decide))) (by decide)) (by decide)) (by decide)) (by decide)
 ·exact aa _ (aa _ (aa _ (bL _ (aa _ (aa _ (aa _ (aa _ q4 (by decide)) (by decide)) (by decide)) (by decide))) (by decide)) (by decide)) (by decide)
 ·exact aa _ (aa _ (bL _ (aa _ (aa _ (aa _ (aa _ (aa _ q5 (by decide)) (by decide)) (by decide)) (by decide)) (by decide))) (by decide)) (by decide)
 ·exact aa _ (bL _ (aa _ (aa _ (aa _ (aa _ (aa _ (aa _ q6 (by decide)) (by decide)) (by decide)) (by decide)) (by decide)) (by decide))) (by decide)
 ·exact bL _ (aa _ (aa _ (aa _ (aa _ (aa _ (aa _ (aa _ q7 (by decide)) (by decide)) (by decide)) (by decide)) (by decide)) (by decide)) (by decide))
abbrev noEntry:Array Value:=#[.string ⟨#[]⟩,.int .i64 0,.int .u64 0,.int .u64 0,.int .i64 0,.int .i64 0,.int .i64 0,.int .i64 0]
set_option maxHeartbeats 1000000 in
theorem Re (g o:Nat) (es:List BE) (l:List UInt8) (S:ByteArray) (w:World) (h:bE w g o es) (hs:es.Pairwise (fun x y=>Op.bytesLess x.name y.name=true)) (hS:Hid (S=⟨l.toArray⟩)) :
  Calls Tryz.prog 227 #[.pointer (some ⟨g,o,none⟩),.string S] w fun e w'=>
   ((BE.lT es l).isSome=false→e = .returned (.tuple #[.agg noEntry,.bool false]))∧(∀ i (hi:i<es.length),BE.lT es l=some i→e = .returned (.tuple #[.agg (es[i]).aR.toArray,.bool true]))∧w.grownBy w' none:=by
 have Dt:=hid hs
 have hne:w.heap.size≠g:=fun e=>by have:=h.live.lt;omega
 have G0:=hid (World.grownBy_alloc w (.cells noEntry 87) none)
 have F5:=hid (h.grown G0.out)
 clear hs h
 have HL:=hid (Live.new w noEntry 87)
 go_enter Tryz.func227,Tryz.ntmps227
 go_wp2_with fail
 refine (pK g o es l S _ F5.out Dt.out hS).mono ?_
 rintro e w1 ⟨rfl,hg1⟩
 have h1:=F5.out.grown hg1
 have G1:=hid (ae G0.out hg1)
 have hL:=HL.out.grown hg1
 have hc:∀ j,j<8→∃ v,w1.cell? ⟨w.heap.size,j,none⟩=some v:=fun j hj=>Option.isSome_iff_exists.1 (hL.some j hj)
 have fz:=fun j=>hL.frozen j
 obtain ⟨d0,q0⟩:=hc 0 (by decide)
 obtain ⟨d1,q1⟩:=hc 1 (by decide)
 obtain ⟨d2,q2⟩:=hc 2 (by decide)
 obtain ⟨d3,q3⟩:=hc 3 (by decide)
 obtain ⟨d4,q4⟩:=hc 4 (by decide)
 obtain ⟨d5,q5⟩:=hc 5 (by decide)
 obtain ⟨d6,q6⟩:=hc 6 (by decide)
 obtain ⟨d7,q7⟩:=hc 7 (by decide)
 have f0:=fz 0
 have f1:=fz 1
 have f2:=fz 2
 have f3:=fz 3
 have f4:=fz 4
 have f5:=fz 5
 have f6:=fz 6
 have f7:=fz 7
 have HR:=hid (fun v0 v1 v2 v3 v4 v5 v6 v7=>fw w1 w.heap.size v0 v1 v2 v3 v4 v5 v6 v7 q0 q1 q2 q3 q4 q5 q6 q7)
 clear F5 hg1 HL G0 hL hc fz
 cases hat:(BE.lT es l).isSome
 ·have HA:=hid hat
  clear h1
  go_wp2
  refine bodyPost_ret (v:=.tuple #[.agg noEntry,.bool false]) ?_ rfl ⟨fun _=>rfl,fun i hi q=>(by have:=HA.out;rw[q] at this;cases this),?_⟩
  ·exact aD Tryz.results227 _ _ _ w.heap.size rfl _ (dN (HR.out _ _ _ _ _ _ _ _) 87 _ Tryz.underlying87 rfl Tryz.gH)
  ·repeat refine aK ?_ (Nat.le_refl _)
   exact G1.out
 ·obtain ⟨hi,he,hn⟩:=nZ Dt.out l hat
  obtain ⟨i,HI⟩:∃ i,Hid (i=BE.ins es l):=⟨_,hid rfl⟩
  have hil:i<es.length:=by rw[HI.out];exact hi
  have HE:Hid (BE.lT es l=some i):=by show _=_;rw[HI.out];exact he
  have HA:=hid hat
  have N9:=h1.len
  have hiI:(i:Int)<20:=by omega
  have hi0:(0:Int)≤(i:Int):=by omega
  obtain ⟨x,HX⟩:∃ x,Hid (x=es[i]):=⟨_,hid rfl⟩
  obtain ⟨k0,k1,k2,k3,k4,k5,k6,k7⟩:=h1.eight i hil x HX.out
  rw[←HI.out]
  clear he hn hi hat h1
  go_wp2
  refine bodyPost_ret (v:=.tuple #[.agg x.aR.toArray,.bool true]) ?_ rfl ⟨fun q=>absurd (q.symm.trans HA.out) (by simp),fun j hj q=>(by have e:=HE.out.symm.trans q;injection e with e;subst e;rw[HX.out]),?_⟩
  ·exact aD Tryz.results227 _ _ _ w.heap.size rfl _ (dN (cs:=x.aR) (HR.out _ _ _ _ _ _ _ _) 87 _ Tryz.underlying87 rfl Tryz.gH)
  ·repeat refine aK ?_ (Nat.le_refl _)
   exact G1.out
end Go.Proofs.YtpibgolaaaemnaaGreatDoor
namespace Go.Proofs.YtpibgolaaaemnaaGreatDoor
open Go.RowKit
set_option maxRecDepth 100000
theorem Cs {P:Program} (w:World) (dT sT ty elem:TypeId) (k b o dLen dCap:Nat) (a:Addr) (sLen sCap:Nat) (cs:List Value)
  (hu:P.underlying dT=some (.slice elem)) (hs:(P.info? elem).map (·.size)=some k) (hn:cs.length=Nat.min sLen dLen*k)
  (hsrc:∀ j v,cs[j]?=some v→w.cell? (a.add j)=some v) (hc:∀ j,j<cs.length→(w.cell? ⟨b,o+j,none⟩).isSome=true) (hf:∀ j,j<cs.length→w.frozen? ⟨b,o+j,none⟩=false) (h1:∀ v∈cs,v.oneCell'=true) :
  (Builtin.copy_ #[dT,sT] ty #[.slice (some ⟨b,o,none⟩) dLen dCap,.slice (some a) sLen sCap]).run P w = .ok (goInt (Nat.min sLen dLen)) (w.setCells b o cs):=by
 have hl:=run_loadCells_list (P:=P) w a cs hsrc
 have hst:=run_storeCells_cells (P:=P) b o cs 0 w (by simpa using hc) (by simpa using hf) h1
 cases hq:P.info? elem with
 | none=>simp[hq] at hs
 | some i=>
  have hi:i.size=k:=by simpa[hq] using hs
  simp[Builtin.copy_,run_underlying hu,Builtin.lenOf,Builtin.firstCells,sizeOf,typeInfo,hq,hi,←hn,hl,hst]
theorem GI (es:List BE):∀ v∈cK es,v.oneCell'=true:=by
 intro v hv
 simp only[cK,List.mem_flatten,List.mem_map] at hv
 obtain ⟨l,⟨e,_,rfl⟩,hv⟩:=hv
 simp only[BE.aR,List.mem_cons,List.not_mem_nil,or_false] at hv
 rcases hv with rfl | rfl | rfl | rfl | rfl | rfl | rfl | rfl <;> rfl
theorem Ct {P:Program} (w:World) (dT sT ty elem:TypeId) (k:Nat) (d a:Option Addr) (dLen dCap sLen sCap:Nat) (hu:P.underlying dT=some (.slice elem)) (hs:(P.info? elem).map (·.size)=some k) (hn:Nat.min sLen dLen=0) :
  (Builtin.copy_ #[dT,sT] ty #[.slice d dLen dCap,.slice a sLen sCap]).run P w = .ok (goInt 0) w:=by
 cases hq:P.info? elem with
 | none=>simp[hq] at hs
 | some i=>
  have hl:∀ (x:Addr),(loadCells x 0).run P w = .ok #[] w:=fun x=>by simpa using run_loadCells_list (P:=P) w x [] (by simp)
  cases d <;> cases a <;> simp[Builtin.copy_,run_underlying hu,Builtin.lenOf,Builtin.firstCells,sizeOf,typeInfo,hq,hn,storeCells,hl]
theorem bE.copy {w:World} {g o:Nat} {es:List BE} (h:bE w g o es) (ty:TypeId) (i j dLen dCap sLen sCap:Nat) (d a:Addr) (hda:0<sLen→d=⟨g,o+j*8,none⟩∧a=⟨g,o+i*8,none⟩) (hs:i+sLen=es.length) (hd:sLen≤dLen) (hj:j+sLen≤20) :
  (Builtin.copy_ #[180,180] ty #[.slice (some d) dLen dCap,.slice (some a) sLen sCap]).run Tryz.prog w = .ok (goInt sLen) (w.setCells g (o+j*8) (cK (es.drop i))):=by
 have hlen:(cK (es.drop i)).length=sLen*8:=by rw[dP,List.length_drop,←hs,Nat.add_sub_cancel_left]
 have hm:Nat.min sLen dLen=sLen:=Nat.min_eq_left hd
 rcases Nat.eq_zero_or_pos sLen with h0 | h0
 ·have e:cK (es.drop i)=[]:=List.eq_nil_of_length_eq_zero (by rw[hlen,h0])
  rw[e,h0]
  exact Ct (P:=Tryz.prog) w 180 180 ty 87 8 (some d) (some a) dLen dCap 0 sCap Tryz.underlying180 Tryz.gH (Nat.zero_min _)
 obtain ⟨rfl,rfl⟩:=hda h0
 have:=Cs (P:=Tryz.prog) w 180 180 ty 87 8 g (o+j*8) dLen dCap ⟨g,o+i*8,none⟩ sLen sCap (cK (es.drop i)) Tryz.underlying180 Tryz.gH (by rw[hm,hlen])
  (fun q v hv=>by
   have hq:q<sLen*8:=by have:=(List.getElem?_eq_some_iff.1 hv).1;rwa [hlen] at this
   have e:(cK es)[i*8+q]?=some v:=by
    conv=>lhs;rw[←List.take_append_drop i es,iD]
    rw[List.getElem?_append_right (by rw[dP,List.length_take];omega),dP,List.length_take,show i*8+q-min i es.length*8=q from by rw[Nat.min_eq_left (by omega)];omega]
    exact hv
   have:=h.room _ _ e
   rw[←Nat.add_assoc] at this
   have ha:(⟨g,o+i*8,none⟩:Addr).add q=⟨g,o+i*8+q,none⟩:=by unfold Addr.add;split <;> simp_all
   rw[ha]
   exact this)
  (fun q hq=>h.live.some _ (by rw[hlen] at hq;omega)) (fun q _=>h.live.frozen _) (GI _)
 rw[hm] at this
 exact this
theorem Dv (g o k:Nat) (hk:k≤20):∃ a:Addr,(∀ w,(Instr.sliceAt 88 (.pointer (some ⟨g,o,none⟩)) (some (.int .i64 (k:Int))) none none).run Tryz.prog w = .ok (.slice (some a) (20-k) (20-k)) w)∧(k<20→a=⟨g,o+k*8,none⟩):=by
 refine ⟨if 20=k then ⟨g,o,none⟩ else (⟨g,o,none⟩:Addr).add (k*8),fun w=>?_,fun h=>?_⟩
 ·have e:=run_sliceAt_array_l (P:=Tryz.prog) w 88 ⟨g,o,none⟩ Tryz.underlying88 .i64 (k:Int) (by omega) (by show (k:Int)≤20;omega)
  rw[e]
  rfl
 ·rw[if_neg (by omega)]
  unfold Addr.add;split <;> simp_all
theorem ML (g o k h:Nat) (hk:k≤h) (hh:h≤20):∃ a:Addr,(∀ w,(Instr.sliceAt 88 (.pointer (some ⟨g,o,none⟩)) (some (.int .i64 (k:Int))) (some (.int .i64 (h:Int))) none).run Tryz.prog w = .ok (.slice (some a) (h-k) (20-k)) w)∧(k<20→a=⟨g,o+k*8,none⟩):=by
 refine ⟨if 20=k then ⟨g,o,none⟩ else (⟨g,o,none⟩:Addr).add (k*8),fun w=>?_,fun h=>?_⟩
 ·have e:=run_sliceAt_array_lh (P:=Tryz.prog) w 88 ⟨g,o,none⟩ Tryz.underlying88 .i64 .i64 (k:Int) (h:Int) (by omega) (by omega) (by show (h:Int)≤20;omega)
  rw[e]
  rfl
 ·rw[if_neg (by omega)]
  unfold Addr.add;split <;> simp_all
theorem bE.removed {w w2 w4:World} {g o:Nat} {es:List BE} (h:bE w g o es) (i m:Nat) (hm:es.length=m+1) (hi:i≤m) (h2:w2=w.setCells g (o+i*8) (cK (es.drop (i+1)))) (f:CF w2 w4 (fun b j=>b=g∧o+m*8≤j∧j<o+161)) (hc:w4.cell? ⟨g,o+160,none⟩=some (.int .i64 (m:Int))):bE w4 g o (es.take i++es.drop (i+1))∧CF w w4 (EM g o):=by
 have hlen:(cK (es.drop (i+1))).length=(m-i)*8:=by rw[dP,List.length_drop,hm];congr 1;omega
 have N9:=h.len
 have f2:CF w w2 (fun b j=>b=g∧o+i*8≤j∧j<o+m*8):=by
  rw[h2]
  exact CF.setCells g _ _ _ (CF.refl _ _) (fun j hj _=>⟨rfl,by omega,by rw[hlen] at hj;omega⟩)
 have hL:(es.take i++es.drop (i+1)).length=m:=by rw[List.length_append,List.length_take,List.length_drop,hm];omega
 have fA:CF w w4 (EM g o):=(f2.mono (fun b j _ e=>⟨e.1,by omega,by omega⟩)).trans f (fun b j _ e=>⟨e.1,by omega,by omega⟩)
 refine ⟨⟨h.live.cf fA,?_,?_,by omega⟩,fA⟩
 ·rw[iD]
  intro j u hu
  have hT:(cK (es.take i)).length=i*8:=by rw[dP,List.length_take,Nat.min_eq_left (by omega)]
  by_cases hj:j<i*8
  ·rw[List.getElem?_append_left (by rw[hT];exact hj)] at hu
   have e:(cK es)[j]?=some u:=by
    conv=>lhs;rw[←List.take_append_drop i es,iD]
    rw[List.getElem?_append_left (by rw[hT];exact hj)]
    exact hu
   exact f.cell (f2.cell (h.room j u e) (fun q=>by omega)) (fun q=>by omega)
  ·rw[List.getElem?_append_right (by rw[hT];omega),hT] at hu
   have hj2:j-i*8<(m-i)*8:=by have:=(List.getElem?_eq_some_iff.1 hu).1;rwa [hlen] at this
   have e:=World.cell?_setCells_in g (cK (es.drop (i+1))) (o+i*8) w (fun q hq=>h.live.some _ (by rw[hlen] at hq;omega)) (j-i*8) (by rw[hlen];exact hj2)
   rw[←h2,show o+i*8+(j-i*8)=o+j from by omega] at e
   rw[List.getElem?_eq_getElem (by rw[hlen];exact hj2)] at hu
   exact f.cell (e.trans hu) (fun q=>by omega)
 ·rw[hL];exact hc
theorem bE.Rf {w w2:World} {g o:Nat} {es:List BE} (h:bE w g o es) (i m:Nat) (hm:es.length=m+1) (hi:i≤m) (h2:w2=w.setCells g (o+i*8) (cK (es.drop (i+1)))) {u:Value} (Rh:w2.cell? ⟨g,o+160,none⟩=some u) {v0 v1 v2 v3 v4 v5 v6 v7:Value} :
  bE (((((((((w2.setCell ⟨g,o+160,none⟩ (.int .i64 (m:Int))).setCell ⟨g,o+m*8,none⟩ v0).setCell ⟨g,o+m*8+1,none⟩ v1).setCell ⟨g,o+m*8+2,none⟩ v2).setCell ⟨g,o+m*8+3,none⟩ v3).setCell ⟨g,o+m*8+4,none⟩ v4).setCell ⟨g,o+m*8+5,none⟩ v5).setCell ⟨g,o+m*8+6,none⟩ v6).setCell ⟨g,o+m*8+7,none⟩ v7) g o (es.take i++es.drop (i+1))∧CF w (((((((((w2.setCell ⟨g,o+160,none⟩ (.int .i64 (m:Int))).setCell ⟨g,o+m*8,none⟩ v0).setCell ⟨g,o+m*8+1,none⟩ v1).setCell ⟨g,o+m*8+2,none⟩ v2).setCell ⟨g,o+m*8+3,none⟩ v3).setCell ⟨g,o+m*8+4,none⟩ v4).setCell ⟨g,o+m*8+5,none⟩ v5).setCell ⟨g,o+m*8+6,none⟩ v6).setCell ⟨g,o+m*8+7,none⟩ v7) (EM g o):=by
 have N9:=h.len
 refine h.removed i m hm hi h2 ?_ ?_
 ·exact ((((((((((CF.refl _ _).setCell _ _ _ (fun _=>⟨rfl,by omega,by omega⟩)).setCell _ _ _ (fun _=>⟨rfl,by omega,by omega⟩)).setCell _ _ _ (fun _=>⟨rfl,by omega,by omega⟩)).setCell _ _ _ (fun _=>⟨rfl,by omega,by omega⟩)).setCell _ _ _ (fun _=>⟨rfl,by omega,by omega⟩)).setCell _ _ _ (fun _=>⟨rfl,by omega,by omega⟩)).setCell _ _ _ (fun _=>⟨rfl,by omega,by omega⟩)).setCell _ _ _ (fun _=>⟨rfl,by omega,by omega⟩)).setCell _ _ _ (fun _=>⟨rfl,by omega,by omega⟩))
 ·exact aa _ (aa _ (aa _ (aa _ (aa _ (aa _ (aa _ (aa _ (bL _ Rh) (by omega)) (by omega)) (by omega)) (by omega)) (by omega)) (by omega)) (by omega)) (by omega)
set_option maxHeartbeats 1000000 in
theorem Ko (g o:Nat) (es:List BE) (l:List UInt8) (S:ByteArray) (w:World) (h:bE w g o es) (hs:es.Pairwise (fun x y=>Op.bytesLess x.name y.name=true)) (hS:Hid (S=⟨l.toArray⟩)) :
  Calls Tryz.prog 57 #[.pointer (some ⟨g,o,none⟩),.string S] w fun e w'=>
   ((BE.lT es l).isSome=false→e = .returned (.int .i64 6)∧w.grownBy w' none)∧(∀ i,BE.lT es l=some i→e = .returned (.int .i64 0)∧bE w' g o (es.take i++es.drop (i+1))∧CF w w' (EM g o)):=by
 have Dt:=hid hs
 clear hs
 go_enter Tryz.func57,Tryz.ntmps57
 go_wp2_with fail
 refine (pK g o es l S _ h Dt.out hS).mono ?_
 rintro e w1 ⟨rfl,hg1⟩
 have h1:=h.grown hg1
 cases hat:(BE.lT es l).isSome
 ·have HA:=hid hat
  go_wp2
  go_ret
  exact ⟨fun _=>⟨rfl,hg1⟩,fun i q=>by have:=HA.out;rw[q] at this;cases this⟩
 ·obtain ⟨hi,he,hn⟩:=nZ Dt.out l hat
  have HA:=hid hat
  obtain ⟨i,HI⟩:∃ i,Hid (i=BE.ins es l):=⟨_,hid rfl⟩
  have hil:i<es.length:=by rw[HI.out];exact hi
  have HE:Hid (BE.lT es l=some i):=by show _=_;rw[HI.out];exact he
  have N9:=h1.len
  obtain ⟨m,HM⟩:∃ m,Hid (es.length=m+1):=⟨es.length-1,hid (by omega)⟩
  have hcnt:=h1.count
  rw[HM.out] at hcnt N9 hil
  rw[show ((m+1:Nat):Int)=(m:Int)+1 from by omega] at hcnt
  have HB:=hid h1
  have HG:=hid hg1
  rw[←HI.out]
  clear he hn hi hat h h1 hg1
  have hiI:(i:Int)<20:=by omega
  have hi0:(0:Int)≤(i:Int):=by omega
  have hmI:(m:Int)<20:=by omega
  have hm0:(0:Int)≤(m:Int):=by omega
  have amk:(i:Int)≤(m:Int):=by omega
  obtain ⟨d,hd,HD⟩:=Dv g o i (by omega)
  obtain ⟨a,ha,HA2⟩:=ML g o (i+1) (m+1) (by omega) (by omega)
  have hw:IntKind.i64.wrap ((i:Int)+1)=(i:Int)+1:=by rw[IntKind.wrap_i64];omega
  have hw2:IntKind.i64.wrap (m:Int)=(m:Int):=by rw[IntKind.wrap_i64];omega
  have ha':∀ w,(Instr.sliceAt 88 (.pointer (some ⟨g,o,none⟩)) (some (.int .i64 ((i:Int)+1))) (some (.int .i64 ((m:Int)+1))) none).run Tryz.prog w = .ok (.slice (some a) (m-i) (19-i)) w:=fun w=>by
   have:=ha w
   rw[show ((i+1:Nat):Int)=(i:Int)+1 from by omega,show ((m+1:Nat):Int)=(m:Int)+1 from by omega,show m+1-(i+1)=m-i from by omega,show 20-(i+1)=19-i from by omega] at this
   exact this
  obtain ⟨w2,HW2⟩:∃ w2,Hid (w2=w1.drew.setCells g (o+i*8) (cK (es.drop (i+1)))):=⟨_,hid rfl⟩
  have CR:=(HB.out.drewN 1).copy 3 (i+1) i (20-i) (20-i) (m-i) (19-i) d a (fun h0=>⟨HD (by omega),HA2 (by omega)⟩) (by rw[HM.out];omega) (by omega) (by omega)
  have CR2:(Builtin.copy_ #[180,180] 3 #[.slice (some d) (20-i) (20-i),.slice (some a) (m-i) (19-i)]).run Tryz.prog w1.drew = .ok (.int .i64 ((m-i:Nat):Int)) w2:=by rw[HW2.out];exact CR
  have hf2:CF w1 w2 (fun b j=>b=g∧o+i*8≤j∧j<o+160):=by
   rw[HW2.out]
   exact CF.setCells g _ _ _ (CF.refl w1 _).drew (fun j hj _=>⟨rfl,by omega,by rw[dP,List.length_drop,HM.out] at hj;omega⟩)
  have Rh:=hf2.cell hcnt (fun q=>by omega)
  have hL2:=HB.out.live.cf hf2
  have fz2:=hL2.frozen (o+160)
  obtain ⟨c0,p0⟩:=Option.isSome_iff_exists.1 (hL2.some (o+m*8) (by omega))
  obtain ⟨c1,p1⟩:=Option.isSome_iff_exists.1 (hL2.some (o+m*8+1) (by omega))
  obtain ⟨c2,p2⟩:=Option.isSome_iff_exists.1 (hL2.some (o+m*8+2) (by omega))
  obtain ⟨c3,p3⟩:=Option.isSome_iff_exists.1 (hL2.some (o+m*8+3) (by omega))
  obtain ⟨c4,p4⟩:=Option.isSome_iff_exists.1 (hL2.some (o+m*8+4) (by omega))
  obtain ⟨c5,p5⟩:=Option.isSome_iff_exists.1 (hL2.some (o+m*8+5) (by omega))
  obtain ⟨c6,p6⟩:=Option.isSome_iff_exists.1 (hL2.some (o+m*8+6) (by omega))
  obtain ⟨c7,p7⟩:=Option.isSome_iff_exists.1 (hL2.some (o+m*8+7) (by omega))
  have z0:=hL2.frozen (o+m*8)
  have z1:=hL2.frozen (o+m*8+1)
  have z2:=hL2.frozen (o+m*8+2)
  have z3:=hL2.frozen (o+m*8+3)
  have z4:=hL2.frozen (o+m*8+4)
  have z5:=hL2.frozen (o+m*8+5)
  have z6:=hL2.frozen (o+m*8+6)
  have z7:=hL2.frozen (o+m*8+7)
  have HDA:=hid (And.intro HD HA2)
  clear HD HA2 ha CR hf2 hL2
  go_wp2
  go_region
  go_wp2
  go_region
  go_wp2
  go_ret
  have R:=bE.Rf (HB.out.drewN 1) i m HM.out (by omega) HW2.out Rh (v0:=.string ⟨#[]⟩) (v1:=.int .i64 0) (v2:=.int .u64 0) (v3:=.int .u64 0) (v4:=.int .i64 0) (v5:=.int .i64 0) (v6:=.int .i64 0) (v7:=.int .i64 0)
  exact ⟨fun q=>absurd (q.symm.trans HA.out) (by simp),fun j q=>by have e:=HE.out.symm.trans q;injection e with e;subst e;exact ⟨rfl,R.1.drewN 1,(CF.before HG.out R.2.qm).drew⟩⟩
end Go.Proofs.YtpibgolaaaemnaaGreatDoor
