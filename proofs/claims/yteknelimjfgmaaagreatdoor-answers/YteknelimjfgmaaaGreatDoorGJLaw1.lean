import Derived.Test.YteknelimjfgmaaaGreatDoorGJSeal
namespace Go.Proofs.YteknelimjfgmaaaGreatDoor
set_option maxHeartbeats 1000000
open Proofs.Tryz Go.RowKit
set_option maxRecDepth 100000
theorem qW {P:Program} (w:World) {ops:Array Oper} {rest:List Oper} {o:Oper} {a:Act} {Q:Exit->Act->World->Prop}
  (hg:o.guard=none) (s x:Operand) (t u:TypeId) (hop:o.op=Op.call {callee:=Callee.builtin Builtin.append,args:=#[s,x],argTypes:=#[t,u]})
  (e:TypeId) (i:TypeInfo) (h1:P.underlying t=some (.slice e)) (hu:P.underlying u=some .string) (h2:P.info? e=some i) (h3:i.zero=some (.int .u8 0)) (h5:i.bytes=1)
  (hs:a.eval s = .slice none 0 0) (zs:List UInt8) (hx:a.eval x = .string ⟨zs.toArray⟩) (hb:zs.length<=140737488355328)
  (hK:∀ v' w',w'.ownsRow w.heap.size e 1 v' zs.length (zs.map U8)->w.grownBy w' none->wpList P ops Q rest (a.put o.dst v') w') :
  wpList P ops Q (o::rest) a w:=by
 refine wpList_plain hg fun K hK'=>?_
 have hsz:(⟨zs.toArray⟩:ByteArray).size=zs.length:=by simp[ByteArray.size]
 have key:∃ v' w',(Builtin.append_ #[t,u] o.type #[.slice none 0 0,.string ⟨zs.toArray⟩]).run P w = .ok v' w'/\w'.ownsRow w.heap.size e 1 v' zs.length (zs.map U8)/\w.grownBy w' none:=by
  by_cases hz:zs=[]
  ·subst hz;refine ⟨.slice none 0 0,w,?_,World.ownsRow_nil _ _ _ _,bh _ _⟩;simp[Builtin.append_,run_underlying h1,run_underlying hu,sizeOf,typeInfo,h2,Builtin.lenOf,Builtin.firstCells,ByteArray.size]
  ·have hp:0<zs.length:=fL.2 hz;have hr:=run_append_nil_string (P:=P) w t u o.type e i (.int .u8 0) h1 hu h2 h3 ⟨zs.toArray⟩ (by rw[hsz];exact hp) (by rw[hsz];omega) (by rw[hsz,h5];omega);rw[hsz] at hr;have hge:=grownCap_ge w zs.length 0 e;have hcm:=grownCap_le_maxLen w zs.length 0 e afL;refine ⟨_,_,hr,⟨by simp,.inr ⟨w.heap.size,_,_,rfl,bd _,heap_alloc_new w.drew _,hge,hcm,?_,?_⟩⟩,⟨rfl,rfl,rfl,by simp,fun k hk _=>Below.heap_alloc w.drew _ k hk⟩⟩
   ·simp[size_zeroCells,Value.cells];omega
   ·simp only[gC,Array.toList_append,Array.toList_map];rw[List.take_append_of_le_length aft,cV aft];rfl
 obtain ⟨v',w',hrun,r1,r2⟩:=key
 unfold Oper.wp
 simp[execOp,hop,resolve,invoke,builtin,hs,hx,hrun,Result.andThen]
 exact hK' _ _ (hK v' w' r1 r2)
theorem aby {p:Prop} (h:p:=by
 refine At.some fun j hj=>?_
 have hh:∀ (C:Array Value) (fr:Nat×Nat),(w.drew.alloc (.cells C e fr)).heap[w.heap.size]?=some (.cells C e fr):=fun C fr=>heap_alloc_new w.drew _
 rw[cC,cell_of_row _ _ j _ e _ (hh _ _)]
 unfold bytesRow
 rw[Array.getElem?_append_left afK]
 simp[hj]):p:=h
theorem oO {P:Program} (w:World) {ops:Array Oper} {rest:List Oper} {o:Oper} {a:Act} {Q:Exit->Act->World->Prop}
  (hg:o.guard=none) (x:Operand) (src dst:TypeId) (hop:o.op=Op.convert src dst x)
  (e:TypeId) (hs:P.underlying src=some .string) (hd:P.underlying dst=some (.slice e)) (he:P.underlying e=some (.int .u8)) (zs:List UInt8) (hx:a.eval x = .string ⟨zs.toArray⟩) (hb:zs.length<=140737488355328)
  (hK:∀ b cap w',zs.length<=cap->cap<=maxLen->At w' (some ⟨b,0,none⟩) zs->w.grownBy w' none->wpList P ops Q rest (a.put o.dst (.slice (some ⟨b,0,none⟩) zs.length cap)) w') :
  wpList P ops Q (o::rest) a w:=by
 refine wpList_plain hg fun K hK'=>?_
 have hsz:(⟨zs.toArray⟩:ByteArray).size=zs.length:=by simp[ByteArray.size]
 have hr:=run_bytes_of_string (P:=P) w src dst e ⟨zs.toArray⟩ hs hd he
 rw[hsz] at hr
 have hge:=grownCap_ge w zs.length 0 e
 have hcm:=grownCap_le_maxLen w zs.length 0 e afL
 unfold Oper.wp
 simp[execOp,hop,hx,hr,Result.andThen]
 refine hK' _ _ (hK _ _ _ hge hcm ?_ ⟨rfl,rfl,rfl,by simp,fun k hk _=>Below.heap_alloc w.drew _ k hk⟩)
 exact aby
theorem Buf.SV {w:World} {base:Nat} {e:TypeId} {v:Value} {n:Nat} {bs:List UInt8} (h:w.ownsRow base e 1 v n (bs.map U8)) (hp:0<n) :
  ∃ g cap,v = .slice (some ⟨g,0,none⟩) n cap/\base<=g/\Buf w g cap bs:=by
 obtain ⟨hl,h⟩:=h
 have hn:n=bs.length:=by simpa using hl.symm
 rcases h with ⟨rfl,rfl⟩ | ⟨g,cap,cur,rfl,hb,hg,hnc,hcm,hcs,htk⟩
 ·omega
 ·exact ⟨g,cap,rfl,hb,cur,e,hg,by simpa using hcs,hcm,by omega,by rw[<-hn];simpa using htk⟩
theorem abJ {p:Prop} (h:p:=by
 clear hc
 go_wp2
 go_round
 case rel=>exact ⟨k+1,by omega,by go_num⟩
 case measure=>simp[intOf];omega):p:=h
theorem Xo (zs:List UInt8) (m:UInt8) (n:Nat) (ao:Option Addr) (cap:Nat) (w:World) (hn:Hid (zs.length=n)) (hl:n<=9223372036854775807) (hm:Hid (∀ z∈zs,z=m)) (hc:At w ao zs) :
  Calls prog 13 #[.slice ao n cap,.int .u8 (m.toNat:Int)] w fun e w'=>e = .returned (.bool true)/\w=w':=by
 obtain rfl:=hn.o
 go_enter func13,ntmps13
 go_wp2
 go_loop [5] (fun i=>∃ k:Nat,k<=zs.length/\i = .int .i64 k) (fun i=>zs.length-(intOf i).toNat)
 case atStart=>exact ⟨0,cE _,rfl⟩
 case round=>
  obtain ⟨k,hk,rfl⟩:=hrel;by_cases hlt:k<zs.length
  ·obtain ⟨b,off,rfl,hck⟩:=hc k hlt;rw[hm.o _ (cJ hlt)] at hck;exact abJ
  ·clear hc;exact aaG
theorem SX (w:World) :
  Calls prog 17 #[.string ⟨([]:List UInt8).toArray⟩,.bool true] w fun e w'=>e = .returned (.slice none 0 0)/\w=w':=by
 go_enter func17,ntmps17
 exact aaG
theorem aaA {p:Prop} (h:p:=by
 go_wp2_with (first|(at_builtin;refine qW _ rfl _ _ 37 9 rfl 5 i0 underlying37 underlying9 hif hz0 hz2 rfl zs rfl hb ?_;intro v1 w1 hown1 hg1)|(at_builtin;refine bU _ rfl _ _ 37 rfl w.heap.size 5 i0 underlying37 hif hz0 hz1 hz2 _ _ _ rfl (hown1.alloc _) (some ⟨w1.heap.size,0,none⟩) 1 1 [77] rfl rfl afQ (fG w1 _ _ _ rfl) hb1 (by have:=hg1.size;simp;omega) ?_;intro v2 w2 hown2 hg2 _;obtain ⟨g,cap,hv,hbg,hbuf⟩:=Buf.SV hown2 afp;have G2:=iw (aR hg1 _) hg2 (fun i hi=>(hown1.lt i hi).1);subst hv;have hroom:=hbuf.room;simp at hroom;clear hown2 hg2))
 go_ret
 exact ⟨g,cap,rfl,hbg,hbuf,G2⟩):p:=h
theorem SY (zs:List UInt8) (nb:Bool) (w:World) (hl:zs.length<=140737488351232) (hz:Hid (zs.isEmpty=false\/nb=false)) :
  Calls prog 17 #[.string ⟨zs.toArray⟩,.bool nb] w fun e w'=>∃ g cap,e = .returned (.slice (some ⟨g,0,none⟩) zs.length cap)/\w.heap.size<=g/\Buf w' g cap (zs++[77])/\w.grownBy w' none:=by
 obtain ⟨i0,hif,hz0,hz1,hz2⟩:=info_parts Tryz.info5
 have hb:zs.length<=140737488355328:=by omega
 have hb1:zs.length+1<=140737488355328:=by omega
 rcases hz.o with he | hn
 ·clear hz;go_enter func17,ntmps17;exact aaA
 ·subst hn;clear hz;cases he:zs.isEmpty
  all_goals
   go_enter func17,ntmps17
   exact aaA
theorem Buf.prefix {w:World} {g cap:Nat} {xs ys:List UInt8} (h:Buf w g cap (xs++ys)):Buf w g cap xs:=by
 obtain ⟨cur,e,h1,h2,h3,h4,h5⟩:=h;refine ⟨cur,e,h1,h2,h3,by simp at h4;omega,?_⟩;have e2:(List.map U8 (xs++ys)).take xs.length=xs.map U8:=by
  rw[cW,List.take_append_of_le_length aft,cV aft]
 have h:=eh (List.take xs.length) h5;rw[e2,List.take_take,fY aft] at h;exact h
theorem S9 (zs:List UInt8) (w:World) (hz:Hid (zs=[])) :
  Calls prog 19 #[.slice none 0 0,.string ⟨zs.toArray⟩] w fun e w'=>e = .returned (.bool true)/\w=w':=by
 obtain rfl:=hz.o
 have heq:=fun (w:World)=>Lib.run_eql_slice_nil (P:=prog) w 37 5 none 0 0 0 0 underlying37
 go_enter func19,ntmps19
 exact aaG
theorem Xp {a b:World} {g j:Nat} {u:Value} (h:a.grownBy b (some g)):a.grownBy (b.setCell ⟨g,j,none⟩ u) (some g):=
 ⟨h.os,h.tape,h.output,by rw[World.size_setCell];exact h.size,fun k hk hr=>(Below.heap_setCell b _ u k (by show k≠g;intro e;exact hr af4)).trans (h.block k hk hr)⟩
theorem Ta (zs:List UInt8) (n g cap:Nat) (w:World) (hn:Hid (zs.length=n)) (hl:n<=140737488351232) (hb:Buf w g cap (zs++[77])) :
  Calls prog 19 #[.slice (some ⟨g,0,none⟩) n cap,.string ⟨zs.toArray⟩] w fun e w'=>e = .returned (.bool true)/\w.grownBy w' (some g):=by
 obtain rfl:=hn.o
 have heq:=fun (w:World)=>Lib.run_eql_slice_nil (P:=prog) w 37 5 (some ⟨g,0,none⟩) zs.length cap 0 0 underlying37
 have hcv:=iE (P:=prog) w 37 9 5 underlying37 underlying5 underlying9 (some ⟨g,0,none⟩) cap zs hb.prefix.at
 have h77:w.cell? ⟨g,zs.length,none⟩=some (.int .u8 77):=by
  have h:=hb.cell zs.length aft;simpa using h
 have hroom:=hb.room
 simp at hroom
 have hmx:=hb.maxLen
 unfold maxLen at hmx
 go_enter func19,ntmps19
 go_wp2
 go_loopw [7] (fun i wr=>∃ k:Nat,k<=zs.length+1/\i = .int .i64 k/\(∃ bs,bs.length=zs.length+1/\Buf wr g cap bs)/\w.grownBy wr (some g)) (fun i _=>zs.length+1-(intOf i).toNat)
 case atStart=>exact ⟨0,cE _,rfl,⟨_,by simp,hb⟩,bh _ _⟩
 case round=>
  obtain ⟨k,hk,rfl,⟨bs,hbl,hbr⟩,hgr⟩:=hrel;have HB:Hid (bs.length=zs.length+1):=hbl;clear hbl hcv h77 hb;by_cases hlt:k<zs.length+1
  ·have hck:=hbr.cell k (by rw[HB.o];exact hlt);have hfk:=hbr.frozen k;have R:=hbr.set k 78;have G:=Xp (j:=k) (u:=.int .u8 ((78:UInt8).toNat:Int)) hgr;go_wp2;go_roundw
   case rel=>exact ⟨k+1,by omega,by go_num,⟨_,by rw[cU];exact HB.o,R⟩,G⟩
   case measure=>simp[intOf];omega
  ·go_wp2;go_ret;exact ⟨rfl,hgr⟩
abbrev Sl:=Option Addr×Nat×Nat
def Sl.val (s:Sl):Value:=.slice s.1 s.2.1 s.2.2
theorem Tc (n:Nat):((n:Int) % 251)=((UInt8.ofNat (n % 251)).toNat:Int):=by
 rw[ec,du afp];omega
theorem Ed (zs:List UInt8) (m:UInt8) (k:Nat) (h:k<zs.length):(List.replicate k m++zs.drop k).set k m=List.replicate (k+1) m++zs.drop (k+1):=by
 rw[List.set_append_right _ _ aft];simp only[List.length_replicate,gE];rw[List.drop_eq_getElem_cons h,dy,List.replicate_succ',cR];rfl
structure lN (w w':World) (ex:Nat->Prop):Prop where
 os:w'.os=w.os
 tape:w'.tape=w.tape
 output:w'.output=w.output
 size:w.heap.size<=w'.heap.size
 block:∀ k,k<w.heap.size->¬ ex k->w'.heap[k]?=w.heap[k]?
theorem fT {w:World} {base base':Nat} {e:TypeId} {size:Nat} {v:Value} {n:Nat} {xs:List Value} (h:w.ownsRow base e size v n xs) (hb:base'<=base):w.ownsRow base' e size v n xs:=by
 refine ⟨h.1,?_⟩;rcases h.2 with h | ⟨g,cap,cur,h1,h2,h3⟩
 ·exact .inl h
 ·exact .inr ⟨g,cap,cur,h1,br hb h2,h3⟩
variable {zs:List UInt8} {a:Option Addr} {gB:Option Nat} {w w' w0:World}
def sj (w0 w:World) (a:Option Addr) (cap:Nat) (zs:List UInt8) (gB:Option Nat):Prop:=
 (a=none/\cap=0/\zs=[]/\gB=none)\/∃ g,a=some ⟨g,0,none⟩/\gB=some g/\w0.heap.size<=g/\Buf w g cap (zs++[77])
theorem sj.at {cap:Nat} (h:sj w0 w a cap zs gB):At w a zs:=by
 rcases h with ⟨_,_,rfl,_⟩ | ⟨g,rfl,_,_,h⟩
 ·exact At.nil _ _
 ·exact h.prefix.at
theorem sj.grown {cap:Nat} (h:sj w0 w a cap zs gB) (k:w.grownBy w' none):sj w0 w' a cap zs gB:=by
 rcases h with h | ⟨g,h1,h2,h3,h4⟩
 ·exact .inl h
 ·exact .inr ⟨g,h1,h2,h3,h4.grown k aft⟩
theorem sj.old {cap:Nat} (h:sj w0 w a cap zs gB) (k:Nat) (hk:some k=gB):w0.heap.size<=k:=by
 rcases h with ⟨_,_,_,h⟩ | ⟨g,_,h2,h3,_⟩
 ·rw[h] at hk;cases hk
 ·rw[h2] at hk;cases hk;exact h3
theorem sj.cap {cap:Nat} (h:sj w0 w a cap zs gB):zs.length<=cap/\cap<=9223372036854775807:=by
 rcases h with ⟨_,rfl,rfl,_⟩ | ⟨g,_,_,_,h4⟩
 ·simp
 ·have h1:=h4.room;have h2:=h4.maxLen;unfold maxLen at h2;simp at h1;omega
theorem BG (zs:List UInt8) (nb:Bool) (w:World) (hl:zs.length<=140737488351232) :
  Calls Tryz.prog 17 #[.string ⟨zs.toArray⟩,.bool nb] w fun e w'=>∃ a cap gB,e = .returned (.slice a zs.length cap)/\sj w w' a cap zs gB/\w.grownBy w' none:=by
 by_cases h:zs.isEmpty=false\/nb=false
 ·refine (SY zs nb w hl h).mono ?_;rintro e w' ⟨g,cap,rfl,h1,h2,h3⟩;exact ⟨_,cap,some g,rfl,.inr ⟨g,rfl,rfl,h1,h2⟩,h3⟩
 ·have h1:zs=[]:=by simp at h;exact h.1
  have h2:nb=true:=by simp at h;exact h.2
  subst h1 h2;refine (SX w).mono ?_;rintro e w' ⟨rfl,rfl⟩;exact ⟨none,0,none,rfl,.inl ⟨rfl,rfl,rfl,rfl⟩,bh _ _⟩
theorem BH (zs:List UInt8) (n:Nat) (a:Option Addr) (cap:Nat) (gB:Option Nat) (w0 w:World) (hn:Hid (zs.length=n)) (hl:n<=140737488351232) (h:sj w0 w a cap zs gB) :
  Calls Tryz.prog 19 #[.slice a n cap,.string ⟨zs.toArray⟩] w fun e w'=>e = .returned (.bool true)/\w.grownBy w' gB:=by
 rcases h with ⟨rfl,rfl,rfl,rfl⟩ | ⟨g,rfl,rfl,h3,h4⟩
 ·obtain rfl:=hn.o;refine (S9 [] w (hid rfl)).mono ?_;rintro e w' ⟨rfl,rfl⟩;exact ⟨rfl,bh _ _⟩
 ·exact Ta zs n g cap w hn hl h4
theorem I8 (h:w0.grownBy w none) (k:w.grownBy w' gB) (hg:∀ j,some j=gB->w0.heap.size<=j):w0.grownBy w' none:=
 iw h k (fun i hi=>hg i hi.symm)
def xe (w:World) (b:Nat) (kind B C:Int) (K D:UInt64) (zs:List UInt8):Prop:=
 w.cell? ⟨b,0,none⟩=some (.int .i64 kind)/\w.cell? ⟨b,2,none⟩=some (.int .i64 B)/\w.cell? ⟨b,3,none⟩=some (.int .i64 C)/\w.cell? ⟨b,4,none⟩=some (.int .u64 (K.toNat:Int))/\w.cell? ⟨b,5,none⟩=some (.int .u64 (D.toNat:Int))/\w.cell? ⟨b,7,none⟩=some (.string ⟨zs.toArray⟩)
theorem xe.grown {b:Nat} {kind B C:Int} {K D:UInt64} {row:Option Nat} (h:xe w b kind B C K D zs) (k:w.grownBy w' row) (hr:row≠some b):xe w' b kind B C K D zs:=by
 obtain ⟨h0,h2,h3,h4,h5,h7⟩:=h;have hr':some b≠row:=fun e=>hr e.symm;exact ⟨k.cell h0 hr',k.cell h2 hr',k.cell h3 hr',k.cell h4 hr',k.cell h5 hr',k.cell h7 hr'⟩
theorem xe.new (w:World) (kind B C:Int) (K D:UInt64) (zs:List UInt8) (c1 c6 c8 c9 c10 c11 c12 c13 c14 c15 c16 c17 c18 c19 c20 c21 oM c23 c24 qy qz qD c28 qG pK c31 c32 qH c34 qI qJ c37 qL qM c40:Value) :
  xe (w.alloc (.cells #[.int .i64 kind,c1,.int .i64 B,.int .i64 C,.int .u64 (K.toNat:Int),.int .u64 (D.toNat:Int),c6,.string ⟨zs.toArray⟩,c8,c9,c10,c11,c12,c13,c14,c15,c16,c17,c18,c19,c20,c21,oM,c23,c24,qy,qz,qD,c28,qG,pK,c31,c32,qH,c34,qI,qJ,c37,qL,qM,c40] 48)) w.heap.size kind B C K D zs:=by
 refine ⟨?_,?_,?_,?_,?_,?_⟩ <;> (rw[World.cell?_alloc_at (hn:=rfl)];rfl)
end Go.Proofs.YteknelimjfgmaaaGreatDoor
