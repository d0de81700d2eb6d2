/-
  
  
  
-/
import Derived.Test.YtpibgolaaaemnaaGreatDoorProg
import Derived.Test.YtpibgolaaaemnaaGreatDoorGULaws
import Derived.Deep.RegionLaw
import Derived.Deep.DeepCutAuto
namespace Go.Proofs.YtpibgolaaaemnaaGreatDoor
open Go.RowKit
set_option maxRecDepth 100000
theorem Tryz.info5:(Tryz.prog.info? 5).map (fun i=>(i.zero,i.size,i.bytes))=some (some (.int .u8 0),1,1):=by kernel_rfl
theorem eQ (w:World) (e:TypeId) (cs:Array Value) (bs:List UInt8) (h:cs.toList=bs.map U8):At (w.alloc (.cells cs e)) (some ⟨w.heap.size,0,none⟩) bs:=by
 intro j hj
 refine ⟨w.heap.size,0,rfl,?_⟩
 have hc:cs[j]?=some (U8 bs[j]):=by
  rw[←Array.getElem?_toList,h]
  simp[hj]
 rw[Nat.zero_add,World.cell?_alloc_at (hn:=rfl)]
 exact hc
theorem zR {P:Program} {ops:Array Oper} {o:Oper} {a:Act} {w:World} {K:Act→World→Prop} {Q:Exit→Act→World→Prop} {E:Prop}
  (hg:o.guard=none) (s x:Operand) (t:TypeId) (hop:o.op=Op.call {callee:=Callee.builtin Builtin.append,args:=#[s,x],argTypes:=#[t,t]})
  (base:Nat) (e:TypeId) (i:TypeInfo) (h1:P.underlying t=some (.slice e)) (h2:P.info? e=some i) (h3:i.zero=some (.int .u8 0)) (h4:i.size=1) (h5:i.bytes=1)
  (v:Value) (n:Nat) (xs:List UInt8) (hs:a.eval s=v) (hown:w.ownsRow base e 1 v n (xs.map U8)) (ao:Option Addr) (m c:Nat) (ys:List UInt8) (hx:a.eval x = .slice ao m c) (hm:ys.length=m) (hnc:ao=none→c=0) (hy:At w ao ys) (hb:n+m≤140737488355328) (hbase:base≤w.heap.size)
  (hK:∀ v' w',w'.ownsRow base e 1 v' (n+m) ((xs++ys).map U8)→w.grownBy w' v.ownBlock→Hid (v'.ownBlock=v.ownBlock∨v'.ownBlock=some w.heap.size)→K (a.put o.dst v') w') :
  if Region.wanted o (yielded ops a.tmps)=true then Oper.wp P o a w K Q else E:=by
 have hw:Region.wanted o (yielded ops a.tmps)=true:=by simp[Region.wanted,hg]
 rw[if_pos hw]
 obtain ⟨v',w',hrun,r1,r2,r3⟩:=uy (P:=P) w base t o.type e i h1 h2 h3 h4 h5 v n xs hown ao m c ys hm hnc hy hb hbase
 unfold Oper.wp
 simp[execOp,hop,resolve,invoke,builtin,hs,hx,hrun,Result.andThen]
 exact hK v' w' r1 r2 r3
theorem pq {w:World} {base:Nat} {e:TypeId} {size:Nat} {v:Value} {n:Nat} {xs:List Value} (h:w.ownsRow base e size v n xs):∃ ao c,v = .slice ao n c:=by
 rcases h.2 with ⟨rfl,rfl⟩ | ⟨g,cap,cur,rfl,_⟩
 ·exact ⟨none,0,rfl⟩
 ·exact ⟨_,cap,rfl⟩
theorem rY {P:Program} (w:World) (base:Nat) (t ty e:TypeId) (i:TypeInfo) (z:Value) (size bytes:Nat) (ht:P.underlying t=some (.slice e)) (hi:P.info? e=some i) (hz:i.zero=some z) (hsize:i.size=size) (hby:i.bytes=bytes) (hzs:z.cells.size=size) (hsz:0<size)
  (v:Value) (n:Nat) (xs:List Value) (hown:w.ownsRow base e size v n xs) (ad:Addr) (m c:Nat) (news:List Value) (hl:news.length=m*size) (hnews:∀ j u,news[j]?=some u→w.cell? (ad.add j)=some u) (h1:∀ u∈news,u.oneCell'=true) (hm:0<m)
  (h63:n+m≤maxLen) (hbytes:(n+m)*bytes≤140737488355328) (hbase:base≤w.heap.size) :
  ∃ v' w',(Builtin.append_ #[t,t] ty #[v,.slice (some ad) m c]).run P w = .ok v' w'∧w'.ownsRow base e size v' (n+m) (xs++news)∧w.grownBy w' v.ownBlock∧(v'.ownBlock=v.ownBlock∨v'.ownBlock=some w.heap.size):=by
 obtain ⟨v',w',hrun,r1,r2,_⟩:=run_append_own (P:=P) w base t ty e i z size bytes ht hi hz hsize hby hzs hsz v n xs hown ad m c news hl hnews h1 h63 hbytes hbase
 refine ⟨v',w',hrun,r1,r2,?_⟩
 subst hsize
 subst hby
 have aa5:n+m≤9223372036854775807:=by simp only[maxLen] at h63;omega
 rcases hown.2 with ⟨rfl,rfl⟩ | ⟨g,cap,cur,rfl,hbg,hg,hnc',hcm,hcs,htake⟩
 ·have hb':m*i.bytes≤140737488355328:=by simpa using hbytes
  have hr:=run_append_nil (P:=P) w t ty e i z ht hi hz ad m c news hl hnews hm (by omega) (by omega)
  rw[hr] at hrun
  injection hrun with ha _
  subst ha
  exact .inr rfl
 ·by_cases hroom:n+m≤cap
  ·have hfit:n*i.size+news.length≤cur.size:=by rw[hl,hcs,←Nat.add_mul];exact Nat.mul_le_mul_right _ hroom
   have hr:=run_append_room (P:=P) w t ty e i ht hi g n cap cur hg ad m c news hl hnews h1 hroom hfit
   rw[hr] at hrun
   injection hrun with ha _
   subst ha
   exact .inl rfl
  ·have holds:∀ j u,xs[j]?=some u→w.cell? ((⟨g,0,none⟩:Addr).add j)=some u:=hown.cells (g:=g) rfl
   have hr:=run_append_grow (P:=P) w t ty e i z ht hi hz ⟨g,0,none⟩ n cap xs hown.1 holds ad m c news hl hnews (by omega) (by omega) (growslice_fits (by omega) hbytes)
   rw[hr] at hrun
   injection hrun with ha _
   subst ha
   exact .inr rfl
theorem vX {P:Program} (w:World) {ops:Array Oper} {rest:List Oper} {o:Oper} {a:Act} {Q:Exit→Act→World→Prop}
  (hg:o.guard=none) (s x:Operand) (t:TypeId) (hop:o.op=Op.call {callee:=Callee.builtin Builtin.append,args:=#[s,x],argTypes:=#[t,t]})
  (base:Nat) (e:TypeId) (i:TypeInfo) (z:Value) (size bytes:Nat) (ht:P.underlying t=some (.slice e)) (hi:P.info? e=some i) (hz:i.zero=some z) (hsize:i.size=size) (hby:i.bytes=bytes) (hzs:z.cells.size=size) (hsz:0<size)
  (v:Value) (n:Nat) (xs:List Value) (hs:a.eval s=v) (hown:w.ownsRow base e size v n xs) (ad:Addr) (m c:Nat) (news:List Value) (hx:a.eval x = .slice (some ad) m c) (hl:news.length=m*size) (hnews:∀ j u,news[j]?=some u→w.cell? (ad.add j)=some u) (h1:∀ u∈news,u.oneCell'=true) (hm:0<m)
  (h63:n+m≤maxLen) (hbytes:(n+m)*bytes≤140737488355328) (hbase:base≤w.heap.size)
  (hK:∀ v' w',w'.ownsRow base e size v' (n+m) (xs++news)→w.grownBy w' v.ownBlock→Hid (v'.ownBlock=v.ownBlock∨v'.ownBlock=some w.heap.size)→wpList P ops Q rest (a.put o.dst v') w') :
  wpList P ops Q (o::rest) a w:=by
 refine wpList_plain hg fun K hK'=>?_
 obtain ⟨v',w',hrun,r1,r2,r3⟩:=rY (P:=P) w base t o.type e i z size bytes ht hi hz hsize hby hzs hsz v n xs hown ad m c news hl hnews h1 hm h63 hbytes hbase
 unfold Oper.wp
 simp[execOp,hop,resolve,invoke,builtin,hs,hx,hrun,Result.andThen]
 exact hK' _ _ (hK v' w' r1 r2 r3)
theorem jS (w:World) (e:TypeId) (cs:List Value):∀ j u,cs[j]?=some u→(w.alloc (.cells cs.toArray e)).cell? ((⟨w.heap.size,0,none⟩:Addr).add j)=some u:=by
 intro j u hu
 rw[Addr.add_lit,Nat.zero_add,World.cell?_alloc_at (hn:=rfl)]
 simpa using hu
end Go.Proofs.YtpibgolaaaemnaaGreatDoor
namespace Go.Proofs.YtpibgolaaaemnaaGreatDoor
open Go.RowKit
set_option maxRecDepth 100000
set_option maxHeartbeats 400000 in
theorem qj (h:UInt64) (zs:List UInt8) (ao:Option Addr) (cap:Nat) (w:World) (hl:zs.length≤140737488355328) (hc:At w ao zs) :
  Calls Tryz.prog 109 #[.int .u64 (h.toNat:Int),.slice ao zs.length cap] w fun e w'=>e = .returned (.int .u64 ((Pure.lQ h zs).toNat:Int))∧w=w':=by
 go_enter Tryz.func109,Tryz.ntmps109
 go_wp2
 go_loop [0,6,9] (fun hh _ i=>∃ k:Nat,k≤zs.length∧i = .int .i64 k∧hh = .int .u64 ((Pure.lQ h (zs.take k)).toNat:Int)) (fun _ _ i=>zs.length-(intOf i).toNat)
 case atStart=>exact ⟨0,Nat.zero_le _,rfl,rfl⟩
 case round=>
  obtain ⟨k,hk,rfl,rfl⟩:=hrel
  by_cases hlt:k<zs.length
  ·obtain ⟨b,off,rfl,hck⟩:=hc k hlt
   clear hc
   go_wp2
   go_round
   case rel=>exact ⟨k+1,by omega,by go_num,tJ (by rw[mH hlt,Pure.Ka];exact QB _ _)⟩
   case measure=>simp[intOf];omega
  ·clear hc
   go_wp2
   go_ret
   exact ⟨Mx (by rw[List.take_of_length_le (by omega)]),rfl⟩
set_option maxHeartbeats 400000 in
theorem Gf (h:UInt64) (zs:List UInt8) (ao:Option Addr) (cap:Nat) (w:World) (hl:zs.length≤140737488355328) (hc:At w ao zs) :
  Calls Tryz.prog 152 #[.int .u64 (h.toNat:Int),.slice ao zs.length cap] w fun e w'=>e = .returned (.int .u64 ((Pure.joinL h zs).toNat:Int))∧w=w':=by
 go_enter Tryz.func152,Tryz.ntmps152
 go_wp2
 go_loop [5,7,11] (fun hh _ i=>∃ k:Nat,k≤zs.length∧i = .int .i64 k∧hh = .int .u64 ((Pure.joinL h (zs.take k)).toNat:Int)) (fun _ _ i=>zs.length-(intOf i).toNat)
 case atStart=>exact ⟨0,Nat.zero_le _,rfl,rfl⟩
 case round=>
  obtain ⟨k,hk,rfl,rfl⟩:=hrel
  by_cases hlt:k<zs.length
  ·obtain ⟨b,off,rfl,hck⟩:=hc k hlt
   clear hc
   go_wp2
   go_round
   case rel=>exact ⟨k+1,by omega,by go_num,tJ (by rw[mH hlt,Pure.qb];exact zN _ _)⟩
   case measure=>simp[intOf];omega
  ·clear hc
   go_wp2
   go_ret
   exact ⟨Mx (by rw[List.take_of_length_le (by omega)]),rfl⟩
def zt (c:Int):Bool:=decide (1≤c∧c≤5)
set_option maxHeartbeats 400000 in
theorem pE (c:Int) (w:World) :
  Calls Tryz.prog 73 #[.int .i64 c] w fun e w'=>e = .returned (.bool (zt c))∧w=w':=by
 by_cases h:1≤c
 ·by_cases h2:c≤5
  ·go_enter Tryz.func73,Tryz.ntmps73
   go_wp2
   go_ret
   exact ⟨by simp[zt,h,h2],rfl⟩
  ·have h3:zt c=false:=by simp[zt];omega
   go_enter Tryz.func73,Tryz.ntmps73
   go_wp2
   go_ret
   exact ⟨rfl,rfl⟩
 ·have h3:zt c=false:=by simp[zt];omega
  go_enter Tryz.func73,Tryz.ntmps73
  go_wp2
  go_ret
  exact ⟨rfl,rfl⟩
set_option maxHeartbeats 400000 in
theorem QD (zs:List UInt8) (ao:Option Addr) (cap:Nat) (w:World) (hl:zs.length≤140737488355328) (hc:At w ao zs) :
  Calls Tryz.prog 154 #[.slice ao zs.length cap] w fun e w'=>e = .returned (.int .u64 ((Pure.lQ 0 zs).toNat:Int))∧w=w':=by
 go_enter Tryz.func154,Tryz.ntmps154
 go_wp2_with (go_at_call 109;refine (qj 0 zs ao cap _ hl hc).mono ?_;rintro e w' ⟨rfl,rfl⟩)
 go_ret
 exact ⟨rfl,rfl⟩
set_option maxHeartbeats 400000 in
theorem ql (g cap:Nat) (bs:List UInt8) (v:UInt64) (size n:Nat) (w:World) (hb:Buf w g cap bs) (hn:n=bs.length) (hs:size≤8) (hr:bs.length+size≤cap) :
  Calls Tryz.prog 112 #[.slice (some ⟨g,0,none⟩) n cap,.int .u64 (v.toNat:Int),.int .i64 size] w fun e w'=>e = .returned (.slice (some ⟨g,0,none⟩) (n+size) cap)∧Buf w' g cap (bs++Pure.be v size)∧w.grownBy w' (some g):=by
 subst hn
 obtain ⟨i0,hi,hz0,hz1,hz2⟩:=info_parts Tryz.info5
 go_enter Tryz.func112,Tryz.ntmps112
 go_wp2
 go_loopw [0,8] (fun o i wr=>∃ k:Nat,k≤size∧i = .int .i64 ((size:Int)-1-k)∧o = .slice (some ⟨g,0,none⟩) (bs.length+k) cap∧Buf wr g cap (bs++Pure.oC v size k)∧w.grownBy wr (some g)) (fun _ i _=>(intOf i+1).toNat)
 case atStart=>exact ⟨0,Nat.zero_le _,by go_num,rfl,by simpa[Pure.oZ] using hb,World.grownBy.refl _ _⟩
 case round=>
  obtain ⟨k,hk,rfl,rfl,hbr,hgr⟩:=hrel
  by_cases hlt:k<size
  ·go_wp2_with (at_builtin;refine nU _ rfl _ _ 25 rfl 5 i0 Tryz.underlying25 hi hz1 g _ cap (bs++Pure.oC v size k) [Pure.fO v (size-1-k)] rfl (hbr.alloc _) ?c1 ⟨wr.heap.size,0,none⟩ 1 1 rfl rfl ?c2 ?c3 ?_)
   case c1=>simp[Pure.iI]
   case c2=>exact zQ _ _ _ _
   case c3=>simp[Pure.iI];omega
   ·intro w1 hb1 hg1
    have R:Buf w1 g cap (bs++Pure.oC v size (k+1))∧w.grownBy w1 (some g):=⟨by rw[Pure.mG];simpa only [List.append_assoc] using hb1,ae (aC hgr _) hg1⟩
    clear hb1 hg1 hbr hgr hb
    go_wp2
    go_roundw
    case rel=>exact ⟨k+1,by omega,by go_num,rfl,R.1,R.2⟩
    case measure=>simp[intOf];omega
  ·have hks:k=size:=by omega
   subst hks
   go_wp2
   go_ret
   exact ⟨rfl,hbr,hgr⟩
set_option maxHeartbeats 400000 in
theorem uz (g cap:Nat) (bs:List UInt8) (v:UInt64) (size n:Nat) (w:World) (hb:Buf w g cap bs) (hn:n=bs.length) (hs:size≤8) (hr:bs.length+size≤cap) (x:Int) (hx:x=v.toNat) (hv:v.toNat<9223372036854775808) :
  Calls Tryz.prog 153 #[.slice (some ⟨g,0,none⟩) n cap,.int .i64 x,.int .i64 size] w fun e w'=>e = .returned (.slice (some ⟨g,0,none⟩) (n+size) cap)∧Buf w' g cap (bs++Pure.be v size)∧w.grownBy w' (some g):=by
 subst hn hx
 obtain ⟨i0,hi,hz0,hz1,hz2⟩:=info_parts Tryz.info5
 go_enter Tryz.func153,Tryz.ntmps153
 go_wp2
 go_loopw [0,8] (fun o i wr=>∃ k:Nat,k≤size∧i = .int .i64 ((size:Int)-1-k)∧o = .slice (some ⟨g,0,none⟩) (bs.length+k) cap∧Buf wr g cap (bs++Pure.oC v size k)∧w.grownBy wr (some g)) (fun _ i _=>(intOf i+1).toNat)
 case atStart=>exact ⟨0,Nat.zero_le _,by go_num,rfl,by simpa[Pure.oZ] using hb,World.grownBy.refl _ _⟩
 case round=>
  obtain ⟨k,hk,rfl,rfl,hbr,hgr⟩:=hrel
  by_cases hlt:k<size
  ·go_wp2_with (at_builtin;refine nU _ rfl _ _ 25 rfl 5 i0 Tryz.underlying25 hi hz1 g _ cap (bs++Pure.oC v size k) [Pure.fO v (size-1-k)] rfl (hbr.alloc _) ?c1 ⟨wr.heap.size,0,none⟩ 1 1 rfl rfl ?c2 ?c3 ?_)
   case c1=>simp[Pure.iI]
   case c2=>exact zQ _ _ _ _
   case c3=>simp[Pure.iI];omega
   ·intro w1 hb1 hg1
    have R:Buf w1 g cap (bs++Pure.oC v size (k+1))∧w.grownBy w1 (some g):=⟨by rw[Pure.mG];simpa only [List.append_assoc] using hb1,ae (aC hgr _) hg1⟩
    clear hb1 hg1 hbr hgr hb
    go_wp2
    go_roundw
    case rel=>exact ⟨k+1,by omega,by go_num,rfl,R.1,R.2⟩
    case measure=>simp[intOf];omega
  ·have hks:k=size:=by omega
   subst hks
   go_wp2
   go_ret
   exact ⟨rfl,hbr,hgr⟩
end Go.Proofs.YtpibgolaaaemnaaGreatDoor
namespace Go.Proofs.YtpibgolaaaemnaaGreatDoor
open Go.RowKit
set_option maxRecDepth 100000
def sl (ao:Option Addr) (cap l:Nat):Option Addr:=if cap=l then ao else ao.map (·.add l)
theorem At.part {w:World} {ao:Option Addr} {zs:List UInt8} (h:At w ao zs) (cap l:Nat) (hc:zs.length≤cap):At w (sl ao cap l) (zs.drop l):=by
 intro j hj
 rw[List.length_drop] at hj
 obtain ⟨b,off,rfl,hcell⟩:=h (l+j) (by omega)
 refine ⟨b,off+l,?_,?_⟩
 ·rw[sl,if_neg (by omega)]
  simp[Addr.add_lit]
 ·rw[Nat.add_assoc,hcell,List.getElem_drop]
theorem At.sub {w:World} {ao:Option Addr} {zs:List UInt8} (h:At w ao zs) (cap l k:Nat) (hc:zs.length≤cap):At w (sl ao cap l) ((zs.drop l).take k):=(h.part cap l hc).take k
theorem Co {P:Program} (t e:TypeId) (i:TypeInfo) (ht:P.underlying t=some (.slice e)) (hi:P.info? e=some i) (hs:i.size=1) (ao:Option Addr) (n cap l:Nat) (hl:l≤n) (w:World):(Instr.sliceAt t (.slice ao n cap) (some (.int .i64 (l:Int))) none none).run P w = .ok (.slice (sl ao cap l) (n-l) (cap-l)) w:=by
 have he:P.elem t=e:=by simp[Program.elem,ht]
 have ht':P.underlying t=some (.slice (P.elem t)):=by rw[he];exact ht
 rw[run_sliceAt_slice w t _ _ _ _ ht',run_slice_l w t _ n cap ht' .i64 (l:Int) (by omega) (by omega),he]
 simp[sizeOf,typeInfo,hi,hs,sliced,sl]
theorem slice_head {P:Program} (t e:TypeId) (i:TypeInfo) (ht:P.underlying t=some (.slice e)) (hi:P.info? e=some i) (hs:i.size=1) (ao:Option Addr) (n cap h:Nat) (hc:h≤cap) (w:World):(Instr.sliceAt t (.slice ao n cap) none (some (.int .i64 (h:Int))) none).run P w = .ok (.slice ao h cap) w:=by
 have he:P.elem t=e:=by simp[Program.elem,ht]
 have ht':P.underlying t=some (.slice (P.elem t)):=by rw[he];exact ht
 rw[run_sliceAt_slice w t _ _ _ _ ht',run_slice_h w t _ n cap ht' .i64 (h:Int) (by omega) (by omega),he]
 cases ao with
 | none=>simp[sizeOf,typeInfo,hi,hs,sliced]
 | some ad=>simp[sizeOf,typeInfo,hi,hs,sliced,Addr.add]
theorem jL {P:Program} (t e:TypeId) (i:TypeInfo) (ht:P.underlying t=some (.slice e)) (hi:P.info? e=some i) (hs:i.size=1) (ao:Option Addr) (n cap:Nat) {zs:List UInt8} (hz:Hid (zs.length=n)) (hc:n≤cap) (l:Nat) (x:Int) (hx:x=(l:Int)) (hl:l≤n):∃ a',(∀ w,(Instr.sliceAt t (.slice ao n cap) (some (.int .i64 x)) none none).run P w = .ok (.slice a' (n-l) (cap-l)) w)∧∀ w,At w ao zs→At w a' (zs.drop l):=by
 subst hx
 refine ⟨sl ao cap l,fun w=>?_,fun w hat=>hat.part cap l (by rw[hz.out];exact hc)⟩
 have he:P.elem t=e:=by simp[Program.elem,ht]
 have ht':P.underlying t=some (.slice (P.elem t)):=by rw[he];exact ht
 rw[run_sliceAt_slice w t _ _ _ _ ht',run_slice_l w t _ n cap ht' .i64 (l:Int) (by omega) (by omega),he]
 simp[sizeOf,typeInfo,hi,hs,sliced,sl]
theorem Gi {P:Program} (t e:TypeId) (i:TypeInfo) (ht:P.underlying t=some (.slice e)) (hi:P.info? e=some i) (hs:i.size=1) (ao:Option Addr) (n cap:Nat) {zs:List UInt8} (hz:Hid (zs.length=n)) (hc:n≤cap) (h:Nat) (x:Int) (hx:x=(h:Int)) (hh:h≤n):∃ a',(∀ w,(Instr.sliceAt t (.slice ao n cap) none (some (.int .i64 x)) none).run P w = .ok (.slice a' h cap) w)∧∀ w,At w ao zs→At w a' (zs.take h):=by
 subst hx
 refine ⟨sl ao cap 0,fun w=>?_,fun w hat=>by simpa using hat.sub cap 0 h (by rw[hz.out];exact hc)⟩
 have he:P.elem t=e:=by simp[Program.elem,ht]
 have ht':P.underlying t=some (.slice (P.elem t)):=by rw[he];exact ht
 rw[run_sliceAt_slice w t _ _ _ _ ht',run_slice_h w t _ n cap ht' .i64 (h:Int) (by omega) (by omega),he]
 simp[sizeOf,typeInfo,hi,hs,sliced,sl]
theorem zT {P:Program} (t e:TypeId) (i:TypeInfo) (ht:P.underlying t=some (.slice e)) (hi:P.info? e=some i) (hs:i.size=1) (ao:Option Addr) (n cap:Nat) {zs:List UInt8} (hz:Hid (zs.length=n)) (hc:n≤cap) (l h:Nat) (x y:Int) (hx:x=(l:Int)) (hy:y=(h:Int)) (hl:l≤h) (hh:h≤n):∃ a',(∀ w,(Instr.sliceAt t (.slice ao n cap) (some (.int .i64 x)) (some (.int .i64 y)) none).run P w = .ok (.slice a' (h-l) (cap-l)) w)∧∀ w,At w ao zs→At w a' ((zs.drop l).take (h-l)):=by
 subst hx hy
 refine ⟨sl ao cap l,fun w=>?_,fun w hat=>hat.sub cap l _ (by rw[hz.out];exact hc)⟩
 have he:P.elem t=e:=by simp[Program.elem,ht]
 have ht':P.underlying t=some (.slice (P.elem t)):=by rw[he];exact ht
 rw[run_sliceAt_slice w t _ _ _ _ ht',run_slice_lh w t _ n cap ht' .i64 .i64 (l:Int) (h:Int) (by omega) (by omega) (by omega),he]
 simp[sizeOf,typeInfo,hi,hs,sliced,sl]
end Go.Proofs.YtpibgolaaaemnaaGreatDoor
