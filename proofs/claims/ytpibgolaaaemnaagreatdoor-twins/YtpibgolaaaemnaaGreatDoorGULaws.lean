/-
  
-/
import Derived.Test.YtpibgolaaaemnaaGreatDoorGUPure
import Derived.WalkKit
import Derived.WalkSpells
import Derived.WalkLawsBesides
import Derived.Laws.BitsAllLaws
import Derived.Laws.IdiomStrings
namespace Go.Proofs.YtpibgolaaaemnaaGreatDoor
open Go.RowKit
theorem hid {p:Prop} (h:p):Hid p:=h
theorem Er (n:Nat):IntKind.u64.wrap (n:Int)=((n % 18446744073709551616:Nat):Int):=by
 rw[IntKind.wrap_u64];omega
theorem zM (n:Int) (h0:0≤n) (h1:n<18446744073709551616):IntKind.u64.wrap n=n:=by
 rw[IntKind.wrap_u64];omega
theorem vW (b:UInt8):IntKind.u64.wrap (b.toNat:Int)=(b.toNat:Int):=
 zM _ (by omega) (by have:=b.toNat_lt;omega)
theorem Vm (x:UInt64):bits .xor .u64 (x.toNat:Int) ((x.toNat:Int) / 536870912)=((Pure.mix x).toNat:Int):=by
 have h:=xorShift_u64 x.toNat 536870912 x.toNat_lt
 rw[show ((536870912:Nat):Int)=536870912 from rfl] at h
 rw[h]
 simp[Pure.mix,UInt64.toNat_xor,UInt64.toNat_shiftRight,Nat.shiftRight_eq_div_pow]
theorem QB (h:UInt64) (b:UInt8) :
  bits .xor .u64 (IntKind.u64.wrap (IntKind.u64.wrap (IntKind.u64.wrap ((h.toNat:Int)+IntKind.u64.wrap (b.toNat:Int))+1)*11400714819323198485))
   (IntKind.u64.wrap (IntKind.u64.wrap (IntKind.u64.wrap ((h.toNat:Int)+IntKind.u64.wrap (b.toNat:Int))+1)*11400714819323198485) / 536870912)=((Pure.step h b).toNat:Int):=by
 have e:IntKind.u64.wrap (IntKind.u64.wrap (IntKind.u64.wrap ((h.toNat:Int)+IntKind.u64.wrap (b.toNat:Int))+1)*11400714819323198485)=(((h+b.toUInt64+1)*Pure.F).toNat:Int):=by
  rw[vW]
  have hb:=b.toNat_lt
  have e1:(h+b.toUInt64+1).toNat=(h.toNat+b.toNat+1) % 2 ^ 64:=by
   simp[UInt64.toNat_add]
  have e2:((h+b.toUInt64+1)*Pure.F).toNat=((h.toNat+b.toNat+1) % 2 ^ 64)*11400714819323198485 % 2 ^ 64:=by
   rw[UInt64.toNat_mul,e1];rfl
  rw[e2]
  simp only[IntKind.wrap_u64]
  omega
 rw[e]
 exact Vm _
theorem tJ {a b:Int} (h:a=b):Value.int .u64 a=Value.int .u64 b:=by rw[h]
theorem Mx {a b:Int} (h:a=b):Ending.returned (.int .u64 a) = .returned (.int .u64 b):=by rw[h]
theorem mH {l:List UInt8} {k:Nat} (h:k<l.length):l.take (k+1)=l.take k++[l[k]]:=List.take_succ_eq_append_getElem h
theorem zN (h:UInt64) (b:UInt8):bits .or .u64 (IntKind.u64.wrap ((h.toNat:Int)*256)) (IntKind.u64.wrap (b.toNat:Int))=((Pure.yu h b).toNat:Int):=by
 have hb:=b.toNat_lt
 rw[vW,show ((h.toNat:Int)*256)=((h.toNat*256:Nat):Int) from by omega,Er,u64_or_nat _ _ (by omega) (by omega)]
 simp[Pure.yu,UInt64.toNat_or,UInt64.toNat_shiftLeft,Nat.shiftLeft_eq]
def U8 (b:UInt8):Value:=.int .u8 (b.toNat:Int)
def At (w:World) (ao:Option Addr) (zs:List UInt8):Prop:=
 ∀ j,(hj:j<zs.length)→∃ b off,ao=some ⟨b,off,none⟩∧w.cell? ⟨b,off+j,none⟩=some (.int .u8 (zs[j].toNat:Int))
theorem At.nil (w:World) (ao:Option Addr):At w ao []:=fun j hj=>absurd hj (by simp)
theorem At.none {w:World} {zs:List UInt8} (h:At w none zs):zs=[]:=by
 cases zs with
 | nil=>rfl
 | cons z zs=>obtain ⟨b,off,h1,_⟩:=h 0 (by simp);cases h1
theorem At.some {w:World} {b off:Nat} {zs:List UInt8} (h:∀ j (hj:j<zs.length),w.cell? ⟨b,off+j,.none⟩ = .some (.int .u8 (zs[j].toNat:Int))):At w (.some ⟨b,off,.none⟩) zs:=
 fun j hj=>⟨b,off,rfl,h j hj⟩
theorem At.cells {w:World} {b off:Nat} {zs:List UInt8} (h:At w (.some ⟨b,off,.none⟩) zs) (j:Nat) (hj:j<zs.length):w.cell? ⟨b,off+j,.none⟩ = .some (.int .u8 (zs[j].toNat:Int)):=by
 obtain ⟨b',off',h1,h2⟩:=h j hj
 simp at h1
 obtain ⟨rfl,rfl⟩:=h1
 exact h2
theorem At.grown {w w':World} {ao:Option Addr} {zs:List UInt8} {row:Option Nat} (h:At w ao zs) (k:w.grownBy w' row) (hr:∀ b off,ao = .some ⟨b,off,.none⟩→zs≠[]→.some b≠row):At w' ao zs:=by
 intro j hj
 obtain ⟨b,off,h1,h2⟩:=h j hj
 exact ⟨b,off,h1,k.cell h2 (hr b off h1 (by intro e;subst e;simp at hj))⟩
theorem At.below {w w':World} {ao:Option Addr} {zs:List UInt8} (h:At w ao zs) (k:w.grownBy w' .none):At w' ao zs:=h.grown k (by simp)
theorem At.take {w:World} {ao:Option Addr} {zs:List UInt8} (h:At w ao zs) (k:Nat):At w ao (zs.take k):=by
 intro j hj
 obtain ⟨b,off,h1,h2⟩:=h j (by simp at hj;omega)
 exact ⟨b,off,h1,by simpa using h2⟩
theorem At.addr {w:World} {ao:Option Addr} {zs:List UInt8} (h:At w ao zs) (hp:0<zs.length):∃ b off,ao = .some ⟨b,off,.none⟩∧b<w.heap.size:=by
 obtain ⟨b,off,h1,h2⟩:=h 0 hp
 exact ⟨b,off,h1,by have:=World.block_lt_of_cell? w _ h2;simpa using this⟩
theorem At.drewN {w:World} {ao:Option Addr} {zs:List UInt8} (h:At w ao zs) (n:Nat):At (w.drewN n) ao zs:=h
theorem aO {a b:World} {row:Option Nat} (h:a.grownBy b row) (n:Nat):a.grownBy (b.drewN n) row:=⟨h.os,h.tape,h.output,h.size,h.block⟩
theorem iq {P:Program} (w:World) (src dst e:TypeId) (hs:P.underlying src = .some (.slice e)) (he:P.underlying e = .some (.int .u8)) (hd:P.underlying dst = .some .string)
  (ao:Option Addr) (cap:Nat) (zs:List UInt8) (hc:At w ao zs):(convert src dst (.slice ao zs.length cap)).run P w = .ok (.string ⟨zs.toArray⟩) w:=by
 cases ao with
 | none=>
  obtain rfl:=hc.none
  show (convert src dst (.slice .none 0 cap)).run P w=_
  rw[run_convert_bytes_string w src dst e .none 0 cap hs he hd]
  simp[Conv.bytesToString]
  rfl
 | some a=>
  refine run_convert_bytes_back w src dst e a cap zs hs he hd fun j hj=>?_
  obtain ⟨b,off,h1,h2⟩:=hc j hj
  simp at h1
  subst h1
  rw[Addr.add_lit]
  exact h2
theorem ae {a b c:World} {row:Option Nat} (h:a.grownBy b row) (k:b.grownBy c row):a.grownBy c row:=
 ⟨k.os.trans h.os,k.tape.trans h.tape,k.output.trans h.output,Nat.le_trans h.size k.size,fun i hi hr=>(k.block i (Nat.lt_of_lt_of_le hi h.size) hr).trans (h.block i hi hr)⟩
theorem aC {a b:World} {row:Option Nat} (h:a.grownBy b row) (o:Obj):a.grownBy (b.alloc o) row:=
 ae h (World.grownBy_alloc b o row)
theorem Es {a b c:World} {row:Option Nat} {g:Nat} (h:a.grownBy b row) (k:b.grownBy c (some g)) (hg:a.heap.size≤g):a.grownBy c row:=
 ⟨k.os.trans h.os,k.tape.trans h.tape,k.output.trans h.output,Nat.le_trans h.size k.size,fun i hi hr=>(k.block i (Nat.lt_of_lt_of_le hi h.size) (by simp;omega)).trans (h.block i hi hr)⟩
theorem dA {a b:World} {row:Option Nat} (h:a.grownBy b row):a.grownBy b.drew row:=⟨h.os,h.tape,h.output,h.size,h.block⟩
theorem gW {a b:World} {row:Option Nat} (h:a.drew.grownBy b row):a.grownBy b row:=⟨h.os,h.tape,h.output,h.size,h.block⟩
theorem Gd {a b:World} (h:a.grownBy b none):Below a.heap.size a b:=⟨h.os,h.tape,h.output,h.size,fun k hk=>h.block k hk (by simp)⟩
def Buf (w:World) (g cap:Nat) (bs:List UInt8):Prop:=
 ∃ cur e,w.heap[g]?=some (.cells cur e (0,0))∧cur.size=cap∧cap≤maxLen∧bs.length≤cap∧cur.toList.take bs.length=bs.map U8
theorem Buf.kept {w w':World} {g cap:Nat} {bs:List UInt8} (h:Buf w g cap bs) (he:w'.heap[g]?=w.heap[g]?):Buf w' g cap bs:=by
 obtain ⟨cur,e,h1,h2⟩:=h
 exact ⟨cur,e,he.trans h1,h2⟩
theorem Buf.lt {w:World} {g cap:Nat} {bs:List UInt8} (h:Buf w g cap bs):g<w.heap.size:=by
 obtain ⟨cur,e,h1,h2⟩:=h
 exact (Array.getElem?_eq_some_iff.1 h1).1
theorem Buf.alloc {w:World} {g cap:Nat} {bs:List UInt8} (h:Buf w g cap bs) (o:Obj):Buf (w.alloc o) g cap bs:=
 h.kept (Below.heap_alloc w o g h.lt)
theorem Buf.new (w:World) (cur:Array Value) (e:TypeId) (n:Nat) (hs:cur.size=n) (hm:n≤maxLen):Buf (w.alloc (.cells cur e)) w.heap.size n []:=
 ⟨cur,e,heap_alloc_new w _,hs,hm,by simp,by simp⟩
theorem Buf.empty {w:World} {g cap:Nat} {bs:List UInt8} (h:Buf w g cap bs):Buf w g cap []:=by
 obtain ⟨cur,e,h1,h2,h3,h4,h5⟩:=h
 exact ⟨cur,e,h1,h2,h3,by simp,by simp⟩
theorem Buf.cell {w:World} {g cap:Nat} {bs:List UInt8} (h:Buf w g cap bs) (j:Nat) (hj:j<bs.length):w.cell? ⟨g,j,none⟩=some (.int .u8 (bs[j].toNat:Int)):=by
 obtain ⟨cur,e,h1,h2,h3,h4,h5⟩:=h
 rw[cell_of_row w g j cur e (0,0) h1]
 have h6:(cur.toList.take bs.length)[j]?=(bs.map U8)[j]?:=by rw[h5]
 rw[List.getElem?_take_of_lt hj] at h6
 simpa[hj,U8] using h6
theorem Buf.at {w:World} {g cap:Nat} {bs:List UInt8} (h:Buf w g cap bs):At w (some ⟨g,0,none⟩) bs:=
 At.some fun j hj=>by rw[Nat.zero_add];exact h.cell j hj
theorem Yt {w:World} {base:Nat} {e:TypeId} {v:Value} {n:Nat} {bs:List UInt8} (h:w.ownsRow base e 1 v n (bs.map U8)) :
  ∃ ao cap,v = .slice ao n cap∧n=bs.length∧n≤cap∧cap≤maxLen∧At w ao bs:=by
 obtain ⟨hl,h⟩:=h
 have hn:n=bs.length:=by simpa using hl.symm
 rcases h with ⟨rfl,rfl⟩ | ⟨g,cap,cur,rfl,hb,hg,hnc,hcm,hcs,htk⟩
 ·have:bs=[]:=List.length_eq_zero_iff.1 hn.symm
  subst this
  exact ⟨none,0,rfl,rfl,Nat.le_refl _,Nat.zero_le _,At.nil _ _⟩
 ·refine ⟨some ⟨g,0,none⟩,cap,rfl,hn,hnc,hcm,?_⟩
  have hb:Buf w g cap bs:=⟨cur,e,hg,by simpa using hcs,hcm,by omega,by rw[←hn];simpa using htk⟩
  exact hb.at
theorem pg {w:World} {a:Addr} {bs:List UInt8} (h:At w (some a) bs):∀ j u,(bs.map U8)[j]?=some u→w.cell? (a.add j)=some u:=by
 intro j u hu
 simp only[List.getElem?_map,Option.map_eq_some_iff] at hu
 obtain ⟨y,hy,rfl⟩:=hu
 obtain ⟨hj,rfl⟩:=List.getElem?_eq_some_iff.1 hy
 obtain ⟨b,off,h1,h2⟩:=h j hj
 simp at h1
 subst h1
 rw[Addr.add_lit]
 exact h2
theorem qh (bs:List UInt8):∀ u∈bs.map U8,u.oneCell'=true:=by
 intro u hu
 simp only[List.mem_map] at hu
 obtain ⟨y,_,rfl⟩:=hu
 rfl
theorem zO {P:Program} (t e:TypeId) (i:TypeInfo) (ht:P.underlying t=some (.slice e)) (hi:P.info? e=some i) (hz:i.zero=some (.int .u8 0)) (hs:i.size=1) (hb:i.bytes=1) (n:Nat) (hn:n≤281474976710656) (w:World) :
  (Instr.makeSlice t (.int .i64 0) (.int .i64 (n:Int))).run P w = .ok (.slice (some ⟨w.heap.size,0,none⟩) 0 n) (w.alloc (.cells (madeCells #[.int .u8 0] n) e)):=by
 have h:=run_make (P:=P) w t e i (.int .u8 0) ht hi hz .i64 .i64 0 (n:Int) (by omega) (by omega) (by rw[hb];omega) (by omega)
 simpa[hs,Value.cells] using h
theorem oD {a b c:World} {row:Option Nat} (h:a.grownBy b none) (k:b.grownBy c row) (hr:∀ i,row=some i→a.heap.size≤i):a.grownBy c none:=
 ⟨k.os.trans h.os,k.tape.trans h.tape,k.output.trans h.output,Nat.le_trans h.size k.size,fun i hi _=>(k.block i (Nat.lt_of_lt_of_le hi h.size) (by intro e;have:=hr i e.symm;omega)).trans (h.block i hi (by simp))⟩
theorem zP {P:Program} (w:World) (t ty e:TypeId) (i:TypeInfo) (ht:P.underlying t=some (.slice e)) (hi:P.info? e=some i) (hsz:i.size=1)
  (g cap n:Nat) (bs ys:List UInt8) (hb:Buf w g cap bs) (hn:n=bs.length) (ad:Addr) (m c:Nat) (hm:m=ys.length) (hnews:∀ j (hj:j<ys.length),w.cell? (ad.add j)=some (U8 ys[j])) (hroom:bs.length+ys.length≤cap) :
  ∃ w',(Builtin.append_ #[t,t] ty #[.slice (some ⟨g,0,none⟩) n cap,.slice (some ad) m c]).run P w = .ok (.slice (some ⟨g,0,none⟩) (n+m) cap) w'∧Buf w' g cap (bs++ys)∧w.grownBy w' (some g):=by
 subst hn hm
 obtain ⟨cur,e',h1,h2,h3,h4,h5⟩:=hb
 have hl:(ys.map U8).length=ys.length*i.size:=by simp[hsz]
 have hcell:∀ j u,(ys.map U8)[j]?=some u→w.cell? (ad.add j)=some u:=by
  intro j u hu
  simp only[List.getElem?_map,Option.map_eq_some_iff] at hu
  obtain ⟨y,hy,rfl⟩:=hu
  obtain ⟨hj,rfl⟩:=List.getElem?_eq_some_iff.1 hy
  exact hnews j hj
 have hone:∀ u∈ys.map U8,u.oneCell'=true:=by
  intro u hu
  simp only[List.mem_map] at hu
  obtain ⟨y,_,rfl⟩:=hu
  rfl
 have hf:=run_firstCells_some (P:=P) w i.size ys.length ad ys.length c (ys.map U8) hl hcell
 have hst:=run_storeCells_at P g (bs.length*i.size) e' (ys.map U8) 0 cur w h1 (by simp[hsz];omega) hone
 simp only[Nat.add_zero] at hst
 refine ⟨_,by simp[Builtin.append_,run_underlying ht,sizeOf,typeInfo,hi,Builtin.lenOf,hroom,hf,Addr.add_lit,hst];rfl,?_,?_⟩
 ·refine ⟨_,e',setRow_heap w g cur _ e' _ h1,?_,h3,by simpa using hroom,?_⟩
  ·simp[hsz];omega
  ·have q:((bs.map U8)++(ys.map U8)++cur.toList.drop (bs.length+ys.length)).take (bs.length+ys.length)=bs.map U8++ys.map U8:=by
    rw[List.take_append_of_le_length (by simp),List.take_of_length_le (by simp)]
   simp only[hsz,Nat.mul_one,h5,List.length_append,List.map_append]
   rw[List.append_assoc] at q
   exact q
 ·exact ⟨rfl,rfl,rfl,by simp,fun k _ hk=>setRow_other w g k _ (fun e=>hk (by rw[e]))⟩
theorem nU {P:Program} (w:World) {ops:Array Oper} {rest:List Oper} {o:Oper} {a:Act} {Q:Exit→Act→World→Prop}
  (hg:o.guard=none) (s x:Operand) (t:TypeId) (hop:o.op=Op.call {callee:=Callee.builtin Builtin.append,args:=#[s,x],argTypes:=#[t,t]})
  (e:TypeId) (i:TypeInfo) (h1:P.underlying t=some (.slice e)) (h2:P.info? e=some i) (h4:i.size=1)
  (g n cap:Nat) (bs ys:List UInt8) (hs:a.eval s = .slice (some ⟨g,0,none⟩) n cap) (hb:Buf w g cap bs) (hn:n=bs.length) (ad:Addr) (m c:Nat) (hx:a.eval x = .slice (some ad) m c) (hm:m=ys.length)
  (hc:∀ j (hj:j<ys.length),w.cell? (ad.add j)=some (U8 ys[j])) (b1:bs.length+ys.length≤cap)
  (hK:∀ w',Buf w' g cap (bs++ys)→w.grownBy w' (some g)→wpList P ops Q rest (a.put o.dst (.slice (some ⟨g,0,none⟩) (n+m) cap)) w') :
  wpList P ops Q (o::rest) a w:=by
 refine wpList_plain hg fun K hK'=>?_
 obtain ⟨w',hrun,r1,r2⟩:=zP (P:=P) w t o.type e i h1 h2 h4 g cap n bs ys hb hn ad m c hm hc b1
 unfold Oper.wp
 simp[execOp,hop,resolve,invoke,builtin,hs,hx,hrun,Result.andThen]
 exact hK' _ _ (hK w' r1 r2)
theorem Vn (w:World) (e:TypeId) (b:UInt8):∀ j (hj:j < [b].length),(w.alloc (.cells #[.int .u8 (b.toNat:Int)] e)).cell? ((⟨w.heap.size,0,none⟩:Addr).add j)=some (U8 ([b][j])):=by
 intro j hj
 have:j=0:=by simpa using hj
 subst this
 simp[Addr.add,U8]
theorem kU (v:UInt64) (k:Nat):(v.toNat:Int) / 2 ^ (8*k) % 256=((Pure.fO v k).toNat:Int):=by
 have e:(Pure.fO v k).toNat=v.toNat / 2 ^ (8*k) % 256:=by simp[Pure.fO]
 rw[e]
 simp
theorem QC (x:UInt64) (b:UInt8):bits .xor .u8 (b.toNat:Int) ((x.toNat:Int) / 72057594037927936 % 256)=((b ^^^ Pure.fO x 7).toNat:Int):=by
 have e:=kU x 7
 rw[show (2:Int) ^ (8*7)=72057594037927936 from by decide] at e
 rw[e,u8_xor_nat _ _ b.toNat_lt (Pure.fO x 7).toNat_lt,UInt8.toNat_xor]
theorem zQ (w:World) (e:TypeId) (v:UInt64) (k:Nat):∀ j (hj:j < [Pure.fO v k].length),(w.alloc (.cells #[.int .u8 ((v.toNat:Int) / 2 ^ (8*k) % 256)] e)).cell? ((⟨w.heap.size,0,none⟩:Addr).add j)=some (U8 ([Pure.fO v k][j])):=by
 rw[kU]
 exact Vn w e _
theorem uy {P:Program} (w:World) (base:Nat) (t ty e:TypeId) (i:TypeInfo) (h1:P.underlying t=some (.slice e)) (h2:P.info? e=some i) (h3:i.zero=some (.int .u8 0)) (h4:i.size=1) (h5:i.bytes=1)
  (v:Value) (n:Nat) (xs:List UInt8) (hown:w.ownsRow base e 1 v n (xs.map U8)) (ao:Option Addr) (m c:Nat) (ys:List UInt8) (hm:ys.length=m) (hnc:ao=none→c=0) (hy:At w ao ys) (hb:n+m≤140737488355328) (hbase:base≤w.heap.size) :
  ∃ v' w',(Builtin.append_ #[t,t] ty #[v,.slice ao m c]).run P w = .ok v' w'∧w'.ownsRow base e 1 v' (n+m) ((xs++ys).map U8)∧w.grownBy w' v.ownBlock∧(v'.ownBlock=v.ownBlock∨v'.ownBlock=some w.heap.size):=by
 subst hm
 cases ao with
 | none=>
  obtain rfl:=hy.none
  obtain rfl:=hnc rfl
  exact ⟨_,_,run_append_owned_none (P:=P) w base t ty e i 1 h1 h2 v n _ hown,by simpa using hown,World.grownBy.refl _ _,.inl rfl⟩
 | some ad=>
  obtain ⟨v',w',hrun,r1,r2,_⟩:=run_append_own (P:=P) w base t ty e i (.int .u8 0) 1 1 h1 h2 h3 h4 h5 rfl (by decide) v n _ hown ad ys.length c (ys.map U8) (by simp) (pg hy) (qh ys) (by unfold maxLen;omega) (by omega) hbase
  refine ⟨v',w',hrun,by rw[List.map_append];exact r1,r2,?_⟩
  have hl1:(ys.map U8).length=ys.length*i.size:=by simp[h4]
  have hby:∀ q:Nat,q≤140737488355328→q*i.bytes≤140737488355328:=by intro q hq;rw[h5];omega
  rcases hown.2 with ⟨rfl,rfl⟩ | ⟨g,cap,cur,rfl,hbg,hg,hnc',hcm,hcs,htake⟩
  ·by_cases hm:ys.length=0
   ·have hys:ys=[]:=List.length_eq_zero_iff.1 hm
    subst hys
    left
    have hx:v' = .slice none 0 0:=by
     rcases r1.2 with ⟨hv,_⟩ | ⟨g,cap,cur,hv,_,_,_,_,_,_⟩
     ·exact hv
     ·exfalso
      subst hv
      simp[Builtin.append_,run_underlying h1,sizeOf,typeInfo,h2,Builtin.lenOf,Builtin.firstCells,loadCells,loadCellsFrom] at hrun
    rw[hx]
   ·have hr:=run_append_nil (P:=P) w t ty e i (.int .u8 0) h1 h2 h3 ad ys.length c (ys.map U8) hl1 (pg hy) (by omega) (by omega) (by rw[h5];omega)
    rw[hr] at hrun
    injection hrun with ha _
    subst ha
    exact .inr rfl
  ·by_cases hroom:n+ys.length≤cap
   ·have hfit:n*i.size+(ys.map U8).length≤cur.size:=by rw[h4,List.length_map];omega
    have hr:=run_append_room (P:=P) w t ty e i h1 h2 g n cap cur hg ad ys.length c (ys.map U8) hl1 (pg hy) (qh ys) hroom hfit
    rw[hr] at hrun
    injection hrun with ha _
    subst ha
    exact .inl rfl
   ·have hx1:(xs.map U8).length=n*i.size:=by rw[h4];exact hown.1
    have holds:∀ j u,(xs.map U8)[j]?=some u→w.cell? ((⟨g,0,none⟩:Addr).add j)=some u:=hown.cells (g:=g) rfl
    have hr:=run_append_grow (P:=P) w t ty e i (.int .u8 0) h1 h2 h3 ⟨g,0,none⟩ n cap (xs.map U8) hx1 holds ad ys.length c (ys.map U8) hl1 (pg hy) (by omega) (by omega) (growslice_fits (by omega) (by rw[h5];omega))
    rw[hr] at hrun
    injection hrun with ha _
    subst ha
    exact .inr rfl
theorem bX {P:Program} (w:World) {ops:Array Oper} {rest:List Oper} {o:Oper} {a:Act} {Q:Exit→Act→World→Prop}
  (hg:o.guard=none) (s x:Operand) (t:TypeId) (hop:o.op=Op.call {callee:=Callee.builtin Builtin.append,args:=#[s,x],argTypes:=#[t,t]})
  (base:Nat) (e:TypeId) (i:TypeInfo) (h1:P.underlying t=some (.slice e)) (h2:P.info? e=some i) (h3:i.zero=some (.int .u8 0)) (h4:i.size=1) (h5:i.bytes=1)
  (v:Value) (n:Nat) (xs:List UInt8) (hs:a.eval s=v) (hown:w.ownsRow base e 1 v n (xs.map U8)) (ao:Option Addr) (m c:Nat) (ys:List UInt8) (hx:a.eval x = .slice ao m c) (hm:ys.length=m) (hnc:ao=none→c=0) (hy:At w ao ys) (hb:n+m≤140737488355328) (hbase:base≤w.heap.size)
  (hK:∀ v' w',w'.ownsRow base e 1 v' (n+m) ((xs++ys).map U8)→w.grownBy w' v.ownBlock→Hid (v'.ownBlock=v.ownBlock∨v'.ownBlock=some w.heap.size)→wpList P ops Q rest (a.put o.dst v') w') :
  wpList P ops Q (o::rest) a w:=by
 refine wpList_plain hg fun K hK'=>?_
 obtain ⟨v',w',hrun,r1,r2,r3⟩:=uy (P:=P) w base t o.type e i h1 h2 h3 h4 h5 v n xs hown ao m c ys hm hnc hy hb hbase
 unfold Oper.wp
 simp[execOp,hop,resolve,invoke,builtin,hs,hx,hrun,Result.andThen]
 exact hK' _ _ (hK v' w' r1 r2 r3)
theorem qi {w:World} {base:Nat} {e:TypeId} {v:Value} {n:Nat} {bs:List UInt8} (h:w.ownsRow base e 1 v n (bs.map U8)) :
  ∃ ao cap,v = .slice ao n cap∧n≤cap∧cap≤maxLen∧Hid (ao=none→cap=0)∧At w ao bs:=by
 have h0:=h
 obtain ⟨ao,cap,hv,_,h2,h3,h4⟩:=Yt h
 refine ⟨ao,cap,hv,h2,h3,?_,h4⟩
 intro hao
 subst hv hao
 rcases h0.2 with ⟨hv,_⟩ | ⟨g,c,cur,hv,_⟩
 ·simp at hv;exact hv.2
 ·simp at hv
end Go.Proofs.YtpibgolaaaemnaaGreatDoor
