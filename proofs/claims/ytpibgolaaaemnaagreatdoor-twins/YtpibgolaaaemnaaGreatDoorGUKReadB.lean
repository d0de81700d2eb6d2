/-
  
  
  
-/
import Derived.Test.YtpibgolaaaemnaaGreatDoorGUBoxC
import Derived.Test.YtpibgolaaaemnaaGreatDoorGUBlk
namespace Go.Proofs.YtpibgolaaaemnaaGreatDoor
open Go.RowKit
set_option maxRecDepth 100000
theorem TY (w:World) (k:Nat) (os:Array Obj):w.grownBy (Sort.grow (w.drewN k) os) none:=by
 have h:=Lib.below_grow w.heap.size w (Nat.le_refl _) k os
 exact ⟨h.os,h.tape,h.output,h.size,fun i hi _=>h.block i hi⟩
theorem BK (n:Int) (h0:-9223372036854775808≤n) (h1:n≤9223372036854775807) (w:World) (htab:eO w) :
  Calls Tryz.prog 69 #[.int .i64 n,.int .i64 10] w fun e w'=>e = .returned (.string ⟨(Lib.itoa n).toArray⟩)∧w.grownBy w' none:=
 (Go.Proofs.Tryz.strconv_FormatInt_10 n h0 h1 w htab).mono fun e w' ⟨he,k,os,hw⟩=>⟨he,by rw[hw];exact TY w k os⟩
theorem jq {w w':World} (h:eO w) (k:w.grownBy w' none):eO w':=Lib.tabBelow_of_tabIs h w' (Gd k)
def yR (a:Option Addr) (n c:Nat):Prop:=n≤c∧c≤9223372036854775807∧(a=none→c=0)
def mi (w:World) (ok:Nat→Prop) (tag:UInt8) (ins:List UInt8) (cs:List Value):Prop:=
 (tag.toNat=2∧∃ v,Box.num ins=some v∧cs=[.int .u8 110,.int .i64 v,.slice none 0 0,.slice none 0 0])∨
 (tag.toNat=4∧∃ a c,cs=[.int .u8 116,.int .i64 0,.slice a ins.length c,.slice none 0 0]∧At w a ins∧(∀ b off,a=some ⟨b,off,none⟩→ok b)∧yR a ins.length c)
def fF:Nat→World→(Nat→Prop)→UInt8→List UInt8→List Value→Prop
 | 0,w,ok,tag,ins,cs=>mi w ok tag ins cs
 | d+1,w,ok,tag,ins,cs=>mi w ok tag ins cs∨
  (tag.toNat=48∧∃ (ps:List (UInt8×List UInt8)) (a:Option Addr) (c:Nat) (css:List (List Value)),Box.eX ins=some ps∧cs=[.int .u8 108,.int .i64 0,.slice none 0 0,.slice a ps.length c]∧css.length=ps.length∧
   ∀ k (hk:k<ps.length) (hk':k<css.length),css[k].length=4∧fF d w ok ps[k].1 ps[k].2 css[k]∧∃ g,a=some ⟨g,0,none⟩∧ok g∧∀ j,j<4→w.cell? ⟨g,k*4+j,none⟩=(css[k])[j]?)
theorem cell_kept {w w':World} {b j:Nat} (h:w'.heap[b]?=w.heap[b]?):w'.cell? ⟨b,j,none⟩=w.cell? ⟨b,j,none⟩:=by
 simp[World.cell?,h]
theorem mi.keep {w w':World} {ok ok':Nat→Prop} {tag:UInt8} {ins:List UInt8} {cs:List Value} (h:mi w ok tag ins cs) (hk:∀ b,ok b→w'.heap[b]?=w.heap[b]?) (ho:∀ b,ok b→ok' b):mi w' ok' tag ins cs:=by
 rcases h with h | ⟨h1,a,c,h2,h3,h4,h5⟩
 ·exact .inl h
 ·refine .inr ⟨h1,a,c,h2,?_,fun b off e=>ho b (h4 b off e),h5⟩
  intro j hj
  obtain ⟨b,off,e1,e2⟩:=h3 j hj
  exact ⟨b,off,e1,by rw[cell_kept (hk b (h4 b off e1))];exact e2⟩
theorem fF.keep:∀ {d:Nat} {w w':World} {ok ok':Nat→Prop} {tag:UInt8} {ins:List UInt8} {cs:List Value},fF d w ok tag ins cs→(∀ b,ok b→w'.heap[b]?=w.heap[b]?)→(∀ b,ok b→ok' b)→fF d w' ok' tag ins cs:=by
 intro d
 induction d with
 | zero=>intro w w' ok ok' tag ins cs h hk ho;exact mi.keep h hk ho
 | succ d ih=>
  intro w w' ok ok' tag ins cs h hk ho
  rcases h with h | ⟨h1,ps,a,c,css,h2,h3,h4,h5⟩
  ·exact .inl (h.keep hk ho)
  ·refine .inr ⟨h1,ps,a,c,css,h2,h3,h4,fun k hk1 hk2=>?_⟩
   obtain ⟨q1,q2,g,q3,q4,q5⟩:=h5 k hk1 hk2
   exact ⟨q1,ih q2 hk ho,g,q3,ho g q4,fun j hj=>by rw[cell_kept (hk g q4)];exact q5 j hj⟩
theorem fF.leaf {d:Nat} {w:World} {ok:Nat→Prop} {tag:UInt8} {ins:List UInt8} {cs:List Value} (h:mi w ok tag ins cs):fF d w ok tag ins cs:=by
 cases d with
 | zero=>exact h
 | succ d=>exact .inl h
abbrev fI:Array Value:=#[.int .u8 0,.int .i64 0,.slice none 0 0,.slice none 0 0]
theorem lZ {w:World} {g:Nat} {x y z u:Value} (h:bI w g #[x,y,z,u]):(loadVar 122 ⟨g,0,none⟩).run Tryz.prog w = .ok (.agg #[x,y,z,u]) w:=
 h.load 122 _ Tryz.underlying122 rfl (by kernel_rfl)
theorem iW {fn:Func} {a u:Tmp} {ty:TypeId} (h:fn.results=#[.cell a ty,.tmp u]) (tmps:Array Value) (P:Program) (w:World) (b:Nat) (hp:tmps.getD a undef = .pointer (some ⟨b,0,none⟩)) (x:Value) (hl:(loadVar ty ⟨b,0,none⟩).run P w = .ok x w) :
  (results fn tmps).run P w = .ok (.tuple #[x,tmps.getD u undef]) w:=by
 have hp':tmps[a]?.getD undef = .pointer (some ⟨b,0,none⟩):=by simpa using hp
 simp[results,h,hp',hl,asAddr]
theorem sZ {fn:Func} {a:Tmp} {ty:TypeId} (h:fn.results=#[.cell a ty]) (tmps:Array Value) (P:Program) (w:World) (b:Nat) (hp:tmps.getD a undef = .pointer (some ⟨b,0,none⟩)) (x:Value) (hl:(loadVar ty ⟨b,0,none⟩).run P w = .ok x w) :
  (results fn tmps).run P w = .ok x w:=by
 have hp':tmps[a]?.getD undef = .pointer (some ⟨b,0,none⟩):=by simpa using hp
 simp[results,h,hp',hl,asAddr]
theorem jV {w:World} {g:Nat} {a b c d:Value} (h:bI w g #[a,b,c,d]) (x y z u:Value):bI ((((w.setCell ⟨g,0,none⟩ x).setCell ⟨g,1,none⟩ y).setCell ⟨g,2,none⟩ z).setCell ⟨g,3,none⟩ u) g #[x,y,z,u]:=by
 simpa using (((h.set 0 x).set 1 y).set 2 z).set 3 u
theorem l9 {a b:World} {g:Nat} {x y z u:Value} (h:a.grownBy b none) (hg:a.heap.size≤g):a.grownBy ((((b.setCell ⟨g,0,none⟩ x).setCell ⟨g,1,none⟩ y).setCell ⟨g,2,none⟩ z).setCell ⟨g,3,none⟩ u) none:=
 aK (aK (aK (aK h hg) hg) hg) hg
theorem str_slice {P:Program} (t:TypeId) (ht:P.underlying t=some .string) (S:ByteArray) (L x:List UInt8) (a b:Nat) (hS:S=⟨L.toArray⟩) (hx:(L.drop a).take (b-a)=x) (hab:a≤b) (hb:b≤L.length) (ia ib:Int) (ha:ia=(a:Int)) (hib:ib=(b:Int)) (w:World) :
  (Instr.sliceAt t (.string S) (some (.int .i64 ia)) (some (.int .i64 ib)) none).run P w = .ok (.string ⟨x.toArray⟩) w:=by
 subst ha hib hS
 have hsz:(⟨L.toArray⟩:ByteArray).size=L.length:=by simp[ByteArray.size]
 rw[run_sliceAt_string w t _ _ _ _ ht,run_slice_string w t _ .i64 .i64 (a:Int) (b:Int) ht (by omega) (by omega) (by rw[hsz];omega),Int.toNat_natCast,Int.toNat_natCast]
 congr 2
 refine ByteArray.ext (Array.toList_inj.1 ?_)
 simp only[ByteArray.data_extract,Array.toList_extract,List.extract_eq_take_drop]
 exact hx
theorem qW {v:Value} {x y:Int} (h:x=y):Ending.returned (.tuple #[v,.int .i64 x]) = .returned (.tuple #[v,.int .i64 y]):=by rw[h]
set_option maxHeartbeats 4000000 in
theorem TZ (v:Int) (L t post:List UInt8) (N i0:Nat) (S:ByteArray) (w:World) (hS:Hid (S=⟨L.toArray⟩)) (hN:Hid (L.length=N)) (Ua:N≤1000000) (hL:Hid (L.drop i0=t++post)) (ht:Hid (Lib.itoa v=t)) (hE:Hid (Ends post)) (h0:-9223372036854775808≤v) (h1:v≤9223372036854775807) (htab:eO w) :
  Calls Tryz.prog 46 #[.string S,.int .i64 (i0:Int)] w fun e w'=>e = .returned (.tuple #[.agg #[.int .u8 110,.int .i64 v,.slice none 0 0,.slice none 0 0],.int .i64 ((i0+t.length:Nat):Int)])∧w.grownBy w' none:=by
 have hsz:S.size=N:=by rw[hS.out,←hN.out];simp[ByteArray.size]
 obtain ⟨T,hT⟩:∃ T,T=t.length:=⟨_,rfl⟩
 have HT:Hid (t.length=T):=hT.symm
 rw[←hT]
 clear hT
 have hsg:Hid (∀ b∈t,b.toNat=45∨(48≤b.toNat∧b.toNat≤57)):=by rw[←ht.out];exact (vE v).2
 have hT1:0<T:=by
  rw[←HT.out]
  refine List.length_pos_iff.2 ?_
  rw[←ht.out]
  exact (vE v).1
 have hTN:i0+T≤N:=by
  have:=congrArg List.length hL.out
  rw[List.length_drop,List.length_append,HT.out,hN.out] at this
  omega
 have hat:∀ j,j<T→∀ h:i0+j<S.size,∃ z,S[i0+j]'h=z∧(z.toNat=45∨(48≤z.toNat∧z.toNat≤57)):=by
  intro j hj h
  have hj':j<t.length:=by rw[HT.out];exact hj
  refine ⟨t[j],?_,hsg.out _ (List.getElem_mem hj')⟩
  rw[nI hS.out]
  have:(L.drop i0)[j]?=some t[j]:=by rw[hL.out,List.getElem?_append_left hj',List.getElem?_eq_getElem hj']
  rw[List.getElem?_drop] at this
  simp[List.getD,this]
 have hend:i0+T<N→∀ h:i0+T<S.size,(S[i0+T]'h).toNat=44∨(S[i0+T]'h).toNat=125:=by
  intro hlt h
  have hp:L.drop (i0+T)=post:=by rw[←List.drop_drop,hL.out,←HT.out,List.drop_left]
  rw[nI hS.out]
  rcases hE.out with e | ⟨r,e⟩ | ⟨r,e⟩
  ·rw[e] at hp
   have:=drop_nil hp
   rw[hN.out] at this
   omega
  ·rw[e] at hp;rw[(drop_cons hp).1];exact .inl rfl
  ·rw[e] at hp;rw[(drop_cons hp).1];exact .inr rfl
 obtain ⟨z0,hz0,hz0'⟩:=hat 0 hT1 (by omega)
 have hg0:∀ h:i0<S.size,S[i0]'h=z0:=fun h=>hz0
 have b34:((z0.toNat:Int)==34)=false:=by rw[beq_eq_false_iff_ne];omega
 have anz:((z0.toNat:Int)==123)=false:=by rw[beq_eq_false_iff_ne];omega
 have hs1:=fun w=>str_slice (P:=Tryz.prog) 9 Tryz.underlying9 S L t i0 (i0+T) hS.out (by rw[hL.out,show i0+T-i0=t.length from by rw[HT.out];omega,List.take_left]) (by omega) (by rw[hN.out];exact hTN) (i0:Int) ((i0:Int)+(T:Int)) rfl (by omega) w
 have hNi:¬ N≤i0:=by omega
 have acN:decide (N≤i0)=false:=decide_eq_false hNi
 clear hz0
 go_enter Tryz.func46,Tryz.ntmps46
 go_wp2_with fail
 go_loop [1] (fun i=>∃ j:Nat,j≤T∧i = .int .i64 ((i0:Int)+(j:Int))) (fun i=>i0+T-(intOf i).toNat)
 case atStart=>exact ⟨0,Nat.zero_le _,by go_num⟩
 case round=>
  obtain ⟨j,hj,rfl⟩:=hrel
  by_cases hlt:j<T
  ·obtain ⟨z,hz,hz'⟩:=hat j hlt (by omega)
   have hgj:∀ h:i0+j<S.size,S[i0+j]'h=z:=fun h=>hz
   have b44:((z.toNat:Int) != 44)=true:=by rw[bne_iff_ne];omega
   have ag1:((z.toNat:Int) != 125)=true:=by rw[bne_iff_ne];omega
   clear hz hz' hat hend hs1
   go_wp2
   go_round
   case rel=>exact ⟨j+1,by omega,by go_num⟩
   case measure=>simp[intOf];omega
  ·have hjT:j=T:=by omega
   subst hjT
   have G0:w.grownBy (w.alloc (.cells fI 122)) none:=World.grownBy_alloc w _ none
   have hB0:=bI.new w fI 122
   have hW:=LZ v ⟨t.toArray⟩ (w.alloc (.cells fI 122)) (hid (by rw[ht.out])) h0 h1
   have hF:∀ wx,w.grownBy wx none→Calls Tryz.prog 69 #[.int .i64 v,.int .i64 10] wx fun e w'=>e = .returned (.string ⟨t.toArray⟩)∧wx.grownBy w' none:=fun wx hx=>by
    have:=BK v h0 h1 wx (jq htab hx)
    rw[ht.out] at this
    exact this
   have Ub:(i0+j<N→∃ z:UInt8,(∀ h:i0+j<S.size,S[i0+j]'h=z)∧(z.toNat=44∨z.toNat=125)):=by
    intro Va
    refine ⟨S[i0+j]'(by omega),fun _=>rfl,hend Va (by omega)⟩
   clear hat hend hz0'
   by_cases Va:i0+j<N
   ·have XP:(i0:Int)+(j:Int)<(N:Int):=by omega
    obtain ⟨z,hz1,hz2⟩:=Ub Va
    clear Ub
    by_cases h44:z.toNat=44
    ·have b44:((z.toNat:Int) != 44)=false:=by rw[bne_eq_false_iff_eq];omega
     clear hz2 h44
     go_wp2_with fail
     refine hW.mono ?_
     rintro e w' ⟨rfl,rfl⟩
     clear hW
     go_wp2_with fail
     go_region_with (go_at_call 69;refine (hF _ (dA G0)).mono ?_;rintro e w2 ⟨rfl,hg2⟩;have hB2:=hB0.drew.grown hg2 (by simp);have G2:=ae (dA G0) hg2;clear hg2;have r0:=hB2.cell 0;have r1:=hB2.cell 1;have r2:=hB2.cell 2;have r3:=hB2.cell 3;simp only[List.getElem?_toArray,List.getElem?_cons_zero,List.getElem?_cons_succ] at r0 r1 r2 r3;have s0:=hB2.frozen 0;have s1:=hB2.frozen 1;have s2:=hB2.frozen 2;have s3:=hB2.frozen 3)
     go_wp2
     (try simp only[Exit.inBlock,Exit.then])
     refine bodyPost_ret (iW rfl _ _ _ w.heap.size rfl _ (lZ (jV hB2 _ _ _ _))) rfl ?_
     exact ⟨qW (by omega),l9 G2 (Nat.le_refl _)⟩
    ·have b44:((z.toNat:Int) != 44)=true:=by rw[bne_iff_ne];omega
     have ag1:((z.toNat:Int) != 125)=false:=by rw[bne_eq_false_iff_eq];omega
     clear hz2 h44
     go_wp2_with fail
     refine hW.mono ?_
     rintro e w' ⟨rfl,rfl⟩
     clear hW
     go_wp2_with fail
     go_region_with (go_at_call 69;refine (hF _ (dA G0)).mono ?_;rintro e w2 ⟨rfl,hg2⟩;have hB2:=hB0.drew.grown hg2 (by simp);have G2:=ae (dA G0) hg2;clear hg2;have r0:=hB2.cell 0;have r1:=hB2.cell 1;have r2:=hB2.cell 2;have r3:=hB2.cell 3;simp only[List.getElem?_toArray,List.getElem?_cons_zero,List.getElem?_cons_succ] at r0 r1 r2 r3;have s0:=hB2.frozen 0;have s1:=hB2.frozen 1;have s2:=hB2.frozen 2;have s3:=hB2.frozen 3)
     go_wp2
     (try simp only[Exit.inBlock,Exit.then])
     refine bodyPost_ret (iW rfl _ _ _ w.heap.size rfl _ (lZ (jV hB2 _ _ _ _))) rfl ?_
     exact ⟨qW (by omega),l9 G2 (Nat.le_refl _)⟩
   ·have XP:¬ (i0:Int)+(j:Int)<(N:Int):=by omega
    clear Ub
    go_wp2_with fail
    refine hW.mono ?_
    rintro e w' ⟨rfl,rfl⟩
    clear hW
    go_wp2_with fail
    go_region_with (go_at_call 69;refine (hF _ (dA G0)).mono ?_;rintro e w2 ⟨rfl,hg2⟩;have hB2:=hB0.drew.grown hg2 (by simp);have G2:=ae (dA G0) hg2;clear hg2;have r0:=hB2.cell 0;have r1:=hB2.cell 1;have r2:=hB2.cell 2;have r3:=hB2.cell 3;simp only[List.getElem?_toArray,List.getElem?_cons_zero,List.getElem?_cons_succ] at r0 r1 r2 r3;have s0:=hB2.frozen 0;have s1:=hB2.frozen 1;have s2:=hB2.frozen 2;have s3:=hB2.frozen 3)
    go_wp2
    (try simp only[Exit.inBlock,Exit.then])
    refine bodyPost_ret (iW rfl _ _ _ w.heap.size rfl _ (lZ (jV hB2 _ _ _ _))) rfl ?_
    exact ⟨qW (by omega),l9 G2 (Nat.le_refl _)⟩
end Go.Proofs.YtpibgolaaaemnaaGreatDoor
namespace Go.Proofs.YtpibgolaaaemnaaGreatDoor
open Go.RowKit
set_option maxRecDepth 100000
theorem ZI (l:List UInt8):∀ (j:Nat) (hj:j<l.length),(Box.hex l)[2*j]?=some (Box.Cg (l[j].toNat / 16))∧(Box.hex l)[2*j+1]?=some (Box.Cg (l[j].toNat % 16)):=by
 induction l with
 | nil=>intro j hj;simp at hj
 | cons x l ih=>
  intro j hj
  have e:Box.hex (x::l)=Box.Cg (x.toNat / 16)::Box.Cg (x.toNat % 16)::Box.hex l:=rfl
  rw[e]
  cases j with
  | zero=>exact ⟨rfl,rfl⟩
  | succ j=>
   have:=ih j (by simpa using hj)
   rw[show 2*(j+1)=2*j+2 from by omega]
   exact this
theorem vF {L x:List UInt8} {i k:Nat} {z:UInt8} (h:L.drop i=x) (hz:x[k]?=some z):L.getD (i+k) 0=z:=by
 have:(L.drop i)[k]?=some z:=by rw[h];exact hz
 rw[List.getElem?_drop] at this
 simp[List.getD,this]
theorem Nh {w:World} {a:Option Addr} {zs:List UInt8} {g:Nat} (h:At w a zs) (hne:∀ b off,a=some ⟨b,off,none⟩→b≠g) (x y z u:Value):At ((((w.setCell ⟨g,0,none⟩ x).setCell ⟨g,1,none⟩ y).setCell ⟨g,2,none⟩ z).setCell ⟨g,3,none⟩ u) a zs:=by
 intro j hj
 obtain ⟨b,off,e1,e2⟩:=h j hj
 have hb:=hne b off e1
 refine ⟨b,off,e1,?_⟩
 rw[cell_kept (Below.heap_setCell _ _ _ _ hb),cell_kept (Below.heap_setCell _ _ _ _ hb),cell_kept (Below.heap_setCell _ _ _ _ hb),cell_kept (Below.heap_setCell _ _ _ _ hb)]
 exact e2
theorem ZJ (z:UInt8):IntKind.u8.wrap (z.toNat:Int)=(z.toNat:Int):=by
 have:=z.toNat_lt
 simp[IntKind.wrap,IntKind.bits,IntKind.signed]
 omega
set_option maxHeartbeats 4000000 in
theorem PG (ins L post:List UInt8) (n N i0:Nat) (S:ByteArray) (w:World) (hS:Hid (S=⟨L.toArray⟩)) (hN:Hid (L.length=N)) (Ua:N≤1000000) (hn:Hid (ins.length=n)) (hL:Hid (L.drop i0=34::(Box.hex ins++34::post))) :
  Calls Tryz.prog 46 #[.string S,.int .i64 (i0:Int)] w fun e w'=>∃ a c,e = .returned (.tuple #[.agg #[.int .u8 116,.int .i64 0,.slice a n c,.slice none 0 0],.int .i64 ((i0+(2*n+2):Nat):Int)])∧At w' a ins∧(∀ b off,a=some ⟨b,off,none⟩→w.heap.size≤b∧b<w'.heap.size)∧w.grownBy w' none∧yR a n c:=by
 obtain ⟨i0',hif,hz0,hz1,hz2⟩:=info_parts Tryz.info5
 have hsz:S.size=N:=by rw[hS.out,←hN.out];simp[ByteArray.size]
 have hlen:i0+(2*n+2)≤N:=by
  have:=congrArg List.length hL.out
  rw[List.length_drop,List.length_cons,List.length_append,List.length_cons,Box.jM,hn.out,hN.out] at this
  omega
 have g0:∀ h:i0<S.size,S[i0]'h=34:=fun h=>by rw[nI hS.out];exact (drop_cons hL.out).1
 have gE:∀ h:i0+1+2*n<S.size,S[i0+1+2*n]'h=34:=fun h=>by
  rw[nI hS.out]
  have:=vF (k:=2*n+1) (z:=34) hL.out (by
   rw[List.getElem?_cons_succ,List.getElem?_append_right (by rw[Box.jM,hn.out];omega),Box.jM,hn.out]
   rw[show 2*n-2*n=0 from by omega]
   rfl)
  rw[show i0+1+2*n=i0+(2*n+1) from by omega]
  exact this
 have gA:∀ j (hj:j<ins.length),(∀ h:i0+1+2*j<S.size,S[i0+1+2*j]'h=Box.Cg (ins[j].toNat / 16))∧(∀ h:i0+1+2*j+1<S.size,S[i0+1+2*j+1]'h=Box.Cg (ins[j].toNat % 16)):=by
  intro j hj
  have hh:=ZI ins j hj
  have hl:2*j+1<(Box.hex ins).length:=by rw[Box.jM];omega
  refine ⟨fun h=>?_,fun h=>?_⟩
  ·rw[nI hS.out,show i0+1+2*j=i0+(2*j+1) from by omega]
   refine vF hL.out ?_
   rw[List.getElem?_cons_succ,List.getElem?_append_left (by omega)]
   exact hh.1
  ·rw[nI hS.out,show i0+1+2*j+1=i0+(2*j+1+1) from by omega]
   refine vF hL.out ?_
   rw[List.getElem?_cons_succ,List.getElem?_append_left (by omega)]
   exact hh.2
 have hNi:¬ N≤i0:=by omega
 have acN:decide (N≤i0)=false:=decide_eq_false hNi
 have G0:w.grownBy ((w.alloc (.cells fI 122)).alloc (.cells #[.int .u8 116,.int .i64 0,.slice none 0 0,.slice none 0 0] 122)) none:=aC (World.grownBy_alloc w _ none) _
 go_enter Tryz.func46,Tryz.ntmps46
 go_wp2_with fail
 go_loopw [1] (fun i wr=>∃ (j pos:Nat) (lv:Value),j≤n∧i = .int .i64 (pos:Int)∧Hid (pos=i0+1+2*j)∧wr.ownsRow (w.heap.size+2) 5 1 lv j ((ins.take j).map U8)∧bI wr (w.heap.size+1) #[.int .u8 116,.int .i64 0,lv,.slice none 0 0]∧bI wr w.heap.size fI∧w.grownBy wr none∧w.heap.size+2≤wr.heap.size) (fun i _=>i0+1+2*n-(intOf i).toNat)
 case atStart=>
  refine ⟨0,i0+1,.slice none 0 0,Nat.zero_le _,by go_num,hid (by omega),World.ownsRow_nil _ _ _ _,?_,(bI.new w _ _).alloc _,G0,by simp⟩
  have:=bI.new (w.alloc (.cells fI 122)) #[.int .u8 116,.int .i64 0,.slice none 0 0,.slice none 0 0] 122
  rw[World.size_alloc] at this
  exact this
 case round=>
  obtain ⟨j,pos,lv,hj,rfl,Uc,hown,hP,hR,hgr,hbs⟩:=hrel
  obtain ⟨av,cv,rfl,hc1,hc2,hnc,hat⟩:=qi hown
  have p0:=hP.cell 0
  have p1:=hP.cell 1
  have p2:=hP.cell 2
  have p3:=hP.cell 3
  simp only[List.getElem?_toArray,List.getElem?_cons_zero,List.getElem?_cons_succ] at p0 p1 p2 p3
  by_cases hlt:j<n
  ·have hlt':j<ins.length:=by rw[hn.out];exact hlt
   obtain ⟨gA1,gA2⟩:=gA j hlt'
   have hzj:=ins[j].toNat_lt
   have HZ:Hid (ins.take (j+1)=ins.take j++[ins[j]]):=mH hlt'
   generalize ins[j]=zj at gA1 gA2 hzj HZ
   have hb1:((Box.Cg (zj.toNat / 16)).toNat:Int) != 34:=by rw[Ng _ (by omega),bne_iff_ne];split <;> omega
   have hd1:=fun w=>BI (zj.toNat / 16) w (by omega)
   have hd2:=fun w=>BI (zj.toNat % 16) w (by omega)
   have Ud:=Uc.out
   rw[←Ud] at gA1 gA2
   have hpN:(pos:Int)+1<(N:Int):=by omega
   have hp0:(0:Int)≤(pos:Int):=by omega
   have acO:Hid (pos+2=i0+1+2*(j+1)):=by show _=_;omega
   have acP:Hid (pos≤i0+1+2*n∧pos<i0+1+2*n):=⟨by omega,by omega⟩
   clear Ud
   obtain ⟨x1,hx1⟩:∃ x,x=Box.Cg (zj.toNat / 16):=⟨_,rfl⟩
   obtain ⟨x2,hx2⟩:∃ x,x=Box.Cg (zj.toNat % 16):=⟨_,rfl⟩
   rw[←hx1] at gA1 hb1 hd1
   rw[←hx2] at gA2 hd2
   clear hx1 hx2
   obtain ⟨hi4,hhi⟩:∃ q,q=zj.toNat / 16:=⟨_,rfl⟩
   obtain ⟨lo4,hlo⟩:∃ q,q=zj.toNat % 16:=⟨_,rfl⟩
   rw[←hhi] at hd1
   rw[←hlo] at hd2
   have hq1:hi4≤15:=by omega
   have hq2:lo4≤15:=by omega
   have HQ:Hid (16*(hi4:Int)+(lo4:Int)=(zj.toNat:Int)):=by show _=_;omega
   have hq3:¬ ((hi4:Int)<0):=by omega
   have hq4:¬ ((lo4:Int)<0):=by omega
   clear gA gE hat hhi hlo
   go_wp2_with fail
   refine (hd1 _).mono ?_
   rintro e w' ⟨rfl,rfl⟩
   go_wp2_with fail
   refine (hd2 _).mono ?_
   rintro e w' ⟨rfl,rfl⟩
   clear hd1 hd2
   have hby:IntKind.u8.wrap (16*(hi4:Int)+(lo4:Int))=((zj.toNat:Nat):Int):=by rw[HQ.out];exact ZJ zj
   go_wp2_with (at_builtin;refine bX _ rfl _ _ 25 rfl (w.heap.size+2) 5 i0' Tryz.underlying25 hif hz0 hz1 hz2 _ _ _ rfl (hown.alloc _) (some ⟨wr.heap.size,0,none⟩) 1 1 [zj] rfl rfl ?a1 ?a2 ?a3 ?a4 ?_)
   case a1=>intro h;cases h
   case a2=>exact eQ wr _ _ _ rfl
   case a3=>omega
   case a4=>simp;omega
   intro v1 w1 hown1 hg1 _
   have hne:∀ g,g<w.heap.size+2→some g≠(Value.slice av j cv).ownBlock:=fun g hg e=>by have:=(hown.lt g e.symm).1;omega
   have hP1:=(hP.alloc (.cells #[.int .u8 (zj.toNat:Int)] 5)).grown hg1 (hne _ (by omega))
   have XJ:=(hR.alloc (.cells #[.int .u8 (zj.toNat:Int)] 5)).grown hg1 (hne _ (by omega))
   have G1:w.grownBy w1 none:=oD (aC hgr _) hg1 (fun i hi=>by have:=(hown.lt i hi).1;omega)
   have hs1:w.heap.size+2≤w1.heap.size:=by have:=hg1.size;simp at this;omega
   have RO:w1.ownsRow (w.heap.size+2) 5 1 v1 (j+1) ((ins.take (j+1)).map U8):=by
    rw[HZ.out]
    simpa using hown1
   obtain ⟨a1,c1,rfl,_,_,_,_⟩:=qi RO
   have p2':=hP1.cell 2
   have p2f:=hP1.frozen 2
   simp only[List.getElem?_toArray,List.getElem?_cons_zero,List.getElem?_cons_succ] at p2'
   clear hown hown1 hg1 hP hR hgr hne p0 p1 p2 p3
   go_wp2
   go_roundw
   case rel=>
    refine ⟨j+1,pos+2,.slice a1 (j+1) c1,by omega,by go_num,acO,ownsRow_setCell_below RO (by show w.heap.size+1<w.heap.size+2;omega) _,?_,XJ.other _ _ (by show w.heap.size≠w.heap.size+1;omega),aK G1 (by omega),by rw[World.size_setCell];exact hs1⟩
    have:=hP1.set 2 (.slice a1 (j+1) c1)
    simpa using this
   case measure=>
    have:=acP.out
    simp[intOf]
    omega
  ·have hjn:j=n:=by omega
   subst hjn
   have Ud:=Uc.out
   rw[←Ud] at gE
   have hpN:(pos:Int)<(N:Int):=by omega
   have anD:¬ ((N:Int)≤(pos:Int)):=by omega
   have anE:¬ (N≤pos):=by omega
   have hp0:(0:Int)≤(pos:Int):=by omega
   have HPE:Hid ((pos:Int)+1=((i0+(2*j+2):Nat):Int)):=by show _=_;omega
   have hins:ins.take j=ins:=List.take_of_length_le (by rw[hn.out];exact Nat.le_refl _)
   rw[hins] at hat hown
   have hblk:∀ b off,av=some ⟨b,off,none⟩→w.heap.size≤b∧b<wr.heap.size:=by
    intro b off e
    subst e
    have:=hown.lt b rfl
    omega
   have hblk2:∀ b off,av=some ⟨b,off,none⟩→w.heap.size+2≤b:=by
    intro b off e
    subst e
    exact (hown.lt b rfl).1
   have r0:=hR.cell 0
   have r1:=hR.cell 1
   have r2:=hR.cell 2
   have r3:=hR.cell 3
   have s0:=hR.frozen 0
   have s1:=hR.frozen 1
   have s2:=hR.frozen 2
   have s3:=hR.frozen 3
   simp only[List.getElem?_toArray,List.getElem?_cons_zero,List.getElem?_cons_succ] at r0 r1 r2 r3
   clear Ud gA hins
   by_cases hp1:pos+1<N
   ·have hp1':(pos:Int)+1<(N:Int):=by omega
    go_wp2
    (try simp only[Exit.inBlock,Exit.then])
    refine bodyPost_ret (iW rfl _ _ _ w.heap.size rfl _ (lZ (jV hR _ _ _ _))) rfl ?_
    refine ⟨av,cv,qW (by have:=HPE.out;omega),Nh hat (fun b off e=>by have:=hblk2 b off e;omega) _ _ _ _,fun b off e=>by simp only[World.size_setCell];exact hblk b off e,l9 hgr (Nat.le_refl _),hc1,hc2,hnc.out⟩
   ·have hp1':¬ (pos:Int)+1<(N:Int):=by omega
    go_wp2
    (try simp only[Exit.inBlock,Exit.then])
    refine bodyPost_ret (iW rfl _ _ _ w.heap.size rfl _ (lZ (jV hR _ _ _ _))) rfl ?_
    refine ⟨av,cv,qW (by have:=HPE.out;omega),Nh hat (fun b off e=>by have:=hblk2 b off e;omega) _ _ _ _,fun b off e=>by simp only[World.size_setCell];exact hblk b off e,l9 hgr (Nat.le_refl _),hc1,hc2,hnc.out⟩
end Go.Proofs.YtpibgolaaaemnaaGreatDoor
namespace Go.Proofs.YtpibgolaaaemnaaGreatDoor
open Go.RowKit
set_option maxRecDepth 100000
theorem Tryz.Ue:(Tryz.prog.info? 122).map (fun i=>(i.zero,i.size,i.bytes))=some (some (.agg fI),4,64):=by kernel_rfl
abbrev dW (kk vv:Int) (a2:Option Addr) (n2 c2:Nat) (a3:Option Addr) (n3 c3:Nat):List Value:=[.int .u8 kk,.int .i64 vv,.slice a2 n2 c2,.slice a3 n3 c3]
def BL (d:Nat) (tag:UInt8) (ins:List UInt8) (p:Nat) (w:World) (e:Ending) (w':World):Prop:=
 ∃ (kk vv:Int) (a2:Option Addr) (n2 c2:Nat) (a3:Option Addr) (n3 c3:Nat),e = .returned (.tuple #[.agg #[.int .u8 kk,.int .i64 vv,.slice a2 n2 c2,.slice a3 n3 c3],.int .i64 (p:Int)])∧(kk==0)=false∧
  fF d w' (fun b=>w.heap.size≤b∧b<w'.heap.size) tag ins (dW kk vv a2 n2 c2 a3 n3 c3)∧w.grownBy w' none
def Uf (d:Nat):Prop:=∀ (tag:UInt8) (ins L t post:List UInt8) (N i0:Nat) (S:ByteArray) (w:World),Hid (S=⟨L.toArray⟩)→Hid (L.length=N)→N≤1000000→Hid (Box.jd d tag ins=some t)→Hid (L.drop i0=t++post)→Hid (Ends post)→eO w→
 Calls Tryz.prog 46 #[.string S,.int .i64 (i0:Int)] w fun e w'=>BL d tag ins (i0+t.length) w e w'
theorem BM {tag:UInt8} {ins t:List UInt8} (h:Box.leaf tag ins=some t):(tag.toNat=2∧∃ v,Box.num ins=some v∧Lib.itoa v=t)∨(tag.toNat=4∧t=34::Box.hex ins++[34]):=by
 unfold Box.leaf at h
 split at h
 ·rename_i h2
  simp only[Option.map_eq_some_iff] at h
  exact .inl ⟨h2,h⟩
 ·split at h
  ·rename_i h4
   simp only[Option.some.injEq] at h
   exact .inr ⟨h4,h.symm⟩
  ·simp at h
theorem Jl {d:Nat} {tag:UInt8} {ins t:List UInt8} (h:Box.jd d tag ins=some t):∃ c r,t=c::r∧c.toNat≠125∧c.toNat≠44:=by
 have hl:∀ {t},Box.leaf tag ins=some t→∃ c r,t=c::r∧c.toNat≠125∧c.toNat≠44:=by
  intro t h
  rcases BM h with ⟨_,v,_,rfl⟩ | ⟨_,rfl⟩
  ·obtain ⟨h1,h2⟩:=vE v
   cases hi:Lib.itoa v with
   | nil=>exact absurd hi h1
   | cons c r=>
    have:=h2 c (by rw[hi];exact List.mem_cons_self)
    exact ⟨c,r,rfl,by omega,by omega⟩
  ·exact ⟨34,_,rfl,by decide,by decide⟩
 cases d with
 | zero=>exact hl h
 | succ d=>
  rw[Box.jd,Box.piece] at h
  split at h
  ·simp only[Option.map_eq_some_iff] at h
   obtain ⟨ts,_,rfl⟩:=h
   exact ⟨123,_,rfl,by decide,by decide⟩
  ·exact hl h
theorem PH {d:Nat}:∀ {ps:List (UInt8×List UInt8)} {ts:List (List UInt8)},Box.tells d ps=some ts→∀ k,k<ps.length→Box.jd d (ps.getD k (0,[])).1 (ps.getD k (0,[])).2=some (ts.getD k []):=by
 intro ps
 induction ps with
 | nil=>intro ts _ k hk;simp at hk
 | cons q ps ih=>
  intro ts h k hk
  simp only[Box.tells] at h
  cases hq:Box.jd d q.1 q.2 with
  | none=>rw[hq] at h;simp at h
  | some t=>
   rw[hq] at h
   simp only[Option.map_eq_some_iff] at h
   obtain ⟨ts',h',rfl⟩:=h
   cases k with
   | zero=>simpa using hq
   | succ k=>simpa using ih h' k (by simpa using hk)
theorem Ec {α:Type} {l:List α} {k:Nat} (x:α) (h:k<l.length):l.drop k=l.getD k x::l.drop (k+1):=by
 rw[List.drop_eq_getElem_cons h]
 simp[List.getD,List.getElem?_eq_getElem h]
theorem Jm {ts:List (List UInt8)} {k:Nat} (h:k<ts.length):Box.commas (ts.drop k)=if k+1<ts.length then ts.getD k []++44::Box.commas (ts.drop (k+1)) else ts.getD k []:=by
 rw[Ec [] h]
 split
 ·rename_i h2
  rw[Ec [] h2]
  rfl
 ·rename_i h2
  rw[List.drop_of_length_le (show ts.length≤k+1 by omega)]
  rfl
theorem PI (css:List (List Value)) (h4:∀ j,j<css.length→(css.getD j []).length=4):∀ k j,k<css.length→j<4→css.flatten[k*4+j]?=(css.getD k [])[j]?:=by
 induction css with
 | nil=>intro k j hk;simp at hk
 | cons x css ih=>
  intro k j hk hj
  have hx:x.length=4:=h4 0 (by simp)
  rw[List.flatten_cons]
  cases k with
  | zero=>rw[Nat.zero_mul,Nat.zero_add,List.getElem?_append_left (by omega)];rfl
  | succ k=>
   rw[List.getElem?_append_right (by omega),hx,show (k+1)*4+j-4=k*4+j from by omega]
   exact ih (fun j hj=>h4 (j+1) (by simpa using hj)) k j (by simpa using hk) hj
theorem Ed (d:Nat) (tag:UInt8) (ins L t post:List UInt8) (N i0:Nat) (S:ByteArray) (w:World) (hS:Hid (S=⟨L.toArray⟩)) (hN:Hid (L.length=N)) (Ua:N≤1000000) (hp:Hid (Box.leaf tag ins=some t)) (hL:Hid (L.drop i0=t++post)) (hE:Hid (Ends post)) (htab:eO w) :
  Calls Tryz.prog 46 #[.string S,.int .i64 (i0:Int)] w fun e w'=>BL d tag ins (i0+t.length) w e w':=by
 rcases BM hp.out with ⟨h2,v,hv,ht⟩ | ⟨h4,ht⟩
 ·have hb:=uX hv
  refine (TZ v L t post N i0 S w hS hN Ua hL (hid ht) hE hb.1 hb.2 htab).mono fun e w' ⟨he,hg⟩=>?_
  exact ⟨110,v,none,0,0,none,0,0,he,rfl,fF.leaf (.inl ⟨h2,v,hv,rfl⟩),hg⟩
 ·refine (PG ins L post ins.length N i0 S w hS hN Ua (hid rfl) (hid (by rw[hL.out,ht];simp))).mono fun e w' ⟨a,c,he,hat,hb,hg,hcp⟩=>?_
  refine ⟨116,0,a,ins.length,c,none,0,0,?_,rfl,fF.leaf (.inr ⟨h4,a,c,rfl,hat,hb,hcp⟩),hg⟩
  rw[he]
  refine qW ?_
  rw[ht]
  simp[Box.jM]
  omega
end Go.Proofs.YtpibgolaaaemnaaGreatDoor
