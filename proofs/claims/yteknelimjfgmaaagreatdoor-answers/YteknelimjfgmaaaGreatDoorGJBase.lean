import Derived.Test.YteknelimjfgmaaaGreatDoorProg
import Derived.Test.YteknelimjfgmaaaGreatDoorGJLaws
import Derived.Deep.RegionLaw
import Derived.Deep.DeepCutAuto
namespace Go.Proofs.YteknelimjfgmaaaGreatDoor
open Go.RowKit
set_option maxRecDepth 100000
variable {P:Program}
theorem Tryz.info5:(Tryz.prog.info? 5).map (fun i=>(i.zero,i.size,i.bytes))=some (some (.int .u8 0),1,1):=by kernel_rfl
theorem fG (w:World) (e:TypeId) (cs:Array Value) (bs:List UInt8) (h:cs.toList=bs.map U8):At (w.alloc (.cells cs e)) (some ⟨w.heap.size,0,none⟩) bs:=by
 intro j hj;refine ⟨w.heap.size,0,rfl,?_⟩;have hc:cs[j]?=some (U8 bs[j]):=by
  rw[<-Array.getElem?_toList,h];simp[hj]
 rw[cC,World.cell?_alloc_at (hn:=rfl)];exact hc
theorem adE {p:Prop} (h:p:=by
 unfold Oper.wp
 simp[execOp,hop,resolve,invoke,builtin,hs,hx,hrun,Result.andThen]
 exact hK v' w' r1 r2 r3):p:=h
theorem BB {ops:Array Oper} {o:Oper} {a:Act} {w:World} {K:Act->World->Prop} {Q:Exit->Act->World->Prop} {E:Prop}
  (hg:o.guard=none) (s x:Operand) (t:TypeId) (hop:o.op=Op.call {callee:=Callee.builtin Builtin.append,args:=#[s,x],argTypes:=#[t,t]})
  (base:Nat) (e:TypeId) (i:TypeInfo) (h1:P.underlying t=some (.slice e)) (h2:P.info? e=some i) (h3:i.zero=some (.int .u8 0)) (h4:i.size=1) (h5:i.bytes=1)
  (v:Value) (n:Nat) (xs:List UInt8) (hs:a.eval s=v) (hown:w.ownsRow base e 1 v n (xs.map U8)) (ao:Option Addr) (m c:Nat) (ys:List UInt8) (hx:a.eval x = .slice ao m c) (hm:ys.length=m) (hnc:ao=none->c=0) (hy:At w ao ys) (hb:n+m<=140737488355328) (hbase:base<=w.heap.size)
  (hK:∀ v' w',w'.ownsRow base e 1 v' (n+m) ((xs++ys).map U8)->w.grownBy w' v.ownBlock->Hid (v'.ownBlock=v.ownBlock\/v'.ownBlock=some w.heap.size)->K (a.put o.dst v') w') :
  if Region.wanted o (yielded ops a.tmps)=true then Oper.wp P o a w K Q else E:=by
 have hw:Region.wanted o (yielded ops a.tmps)=true:=by simp[Region.wanted,hg]
 rw[if_pos hw]
 obtain ⟨v',w',hrun,r1,r2,r3⟩:=wH (P:=P) w base t o.type e i h1 h2 h3 h4 h5 v n xs hown ao m c ys hm hnc hy hb hbase
 exact adE
theorem cu {w:World} {base:Nat} {e:TypeId} {size:Nat} {v:Value} {n:Nat} {xs:List Value} (h:w.ownsRow base e size v n xs):∃ ao c,v = .slice ao n c:=by
 rcases h.2 with ⟨rfl,rfl⟩ | ⟨g,cap,cur,rfl,_⟩
 ·exact ⟨none,0,rfl⟩
 ·exact ⟨_,cap,rfl⟩
theorem pW (w:World) (base:Nat) (t ty e:TypeId) (i:TypeInfo) (z:Value) (size bytes:Nat) (ht:P.underlying t=some (.slice e)) (hi:P.info? e=some i) (hz:i.zero=some z) (hsize:i.size=size) (hby:i.bytes=bytes) (hzs:z.cells.size=size) (hsz:0<size)
  (v:Value) (n:Nat) (xs:List Value) (hown:w.ownsRow base e size v n xs) (ad:Addr) (m c:Nat) (news:List Value) (hl:news.length=m*size) (hnews:∀ j u,news[j]?=some u->w.cell? (ad.add j)=some u) (h1:∀ u∈news,u.oneCell'=true) (hm:0<m)
  (h63:n+m<=maxLen) (hbytes:(n+m)*bytes<=140737488355328) (hbase:base<=w.heap.size) :
  ∃ v' w',(Builtin.append_ #[t,t] ty #[v,.slice (some ad) m c]).run P w = .ok v' w'/\w'.ownsRow base e size v' (n+m) (xs++news)/\w.grownBy w' v.ownBlock/\(v'.ownBlock=v.ownBlock\/v'.ownBlock=some w.heap.size):=by
 obtain ⟨v',w',hrun,r1,r2,_⟩:=run_append_own (P:=P) w base t ty e i z size bytes ht hi hz hsize hby hzs hsz v n xs hown ad m c news hl hnews h1 h63 hbytes hbase
 refine ⟨v',w',hrun,r1,r2,?_⟩
 subst hsize
 subst hby
 have anE:n+m<=9223372036854775807:=by simp only[maxLen] at h63;omega
 rcases hown.2 with ⟨rfl,rfl⟩ | ⟨g,cap,cur,rfl,hbg,hg,hnc',hcm,hcs,htake⟩
 ·have hb':m*i.bytes<=140737488355328:=by simpa using hbytes
  have hr:=run_append_nil (P:=P) w t ty e i z ht hi hz ad m c news hl hnews hm afp afp;exact acN
 ·by_cases hroom:n+m<=cap
  ·have hfit:n*i.size+news.length<=cur.size:=(by rw[hl,hcs,<-Nat.add_mul];exact Nat.mul_le_mul_right _ hroom);have hr:=run_append_room (P:=P) w t ty e i ht hi g n cap cur hg ad m c news hl hnews h1 hroom hfit;rw[hr] at hrun;injection hrun with ha _;subst ha;exact .inl rfl
  ·have holds:∀ j u,xs[j]?=some u->w.cell? ((⟨g,0,none⟩:Addr).add j)=some u:=hown.cells (g:=g) rfl;have hr:=run_append_grow (P:=P) w t ty e i z ht hi hz ⟨g,0,none⟩ n cap xs hown.1 holds ad m c news hl hnews afp afp (growslice_fits afp hbytes);exact acN
theorem gN (w:World) {ops:Array Oper} {rest:List Oper} {o:Oper} {a:Act} {Q:Exit->Act->World->Prop}
  (hg:o.guard=none) (s x:Operand) (t:TypeId) (hop:o.op=Op.call {callee:=Callee.builtin Builtin.append,args:=#[s,x],argTypes:=#[t,t]})
  (base:Nat) (e:TypeId) (i:TypeInfo) (z:Value) (size bytes:Nat) (ht:P.underlying t=some (.slice e)) (hi:P.info? e=some i) (hz:i.zero=some z) (hsize:i.size=size) (hby:i.bytes=bytes) (hzs:z.cells.size=size) (hsz:0<size)
  (v:Value) (n:Nat) (xs:List Value) (hs:a.eval s=v) (hown:w.ownsRow base e size v n xs) (ad:Addr) (m c:Nat) (news:List Value) (hx:a.eval x = .slice (some ad) m c) (hl:news.length=m*size) (hnews:∀ j u,news[j]?=some u->w.cell? (ad.add j)=some u) (h1:∀ u∈news,u.oneCell'=true) (hm:0<m)
  (h63:n+m<=maxLen) (hbytes:(n+m)*bytes<=140737488355328) (hbase:base<=w.heap.size)
  (hK:∀ v' w',w'.ownsRow base e size v' (n+m) (xs++news)->w.grownBy w' v.ownBlock->Hid (v'.ownBlock=v.ownBlock\/v'.ownBlock=some w.heap.size)->wpList P ops Q rest (a.put o.dst v') w') :
  wpList P ops Q (o::rest) a w:=by
 refine wpList_plain hg fun K hK'=>?_
 obtain ⟨v',w',hrun,r1,r2,r3⟩:=pW (P:=P) w base t o.type e i z size bytes ht hi hz hsize hby hzs hsz v n xs hown ad m c news hl hnews h1 hm h63 hbytes hbase
 exact ade
theorem lY (w:World) (e:TypeId) (cs:List Value):∀ j u,cs[j]?=some u->(w.alloc (.cells cs.toArray e)).cell? ((⟨w.heap.size,0,none⟩:Addr).add j)=some u:=by
 intro j u hu;rw[Addr.add_lit,cC,World.cell?_alloc_at (hn:=rfl)];simpa using hu
set_option maxHeartbeats 400000
open Proofs.Tryz
theorem acM {p:Prop} (h:p:=by
 clear hc
 go_wp2
 go_ret
 exact ⟨A8 (by rw[cV afp]),rfl⟩):p:=h
theorem sV (h:UInt64) (zs:List UInt8) (ao:Option Addr) (cap:Nat) (w:World) (hl:zs.length<=140737488355328) (hc:At w ao zs) :
  Calls prog 81 #[.int .u64 (h.toNat:Int),.slice ao zs.length cap] w fun e w'=>e = .returned (.int .u64 ((Pure.ic h zs).toNat:Int))/\w=w':=by
 go_enter func81,ntmps81
 go_wp2
 go_loop [0,6,9] (fun hh _ i=>∃ k:Nat,k<=zs.length/\i = .int .i64 k/\hh = .int .u64 ((Pure.ic h (zs.take k)).toNat:Int)) (fun _ _ i=>zs.length-(intOf i).toNat)
 case atStart=>exact ⟨0,cE _,rfl,rfl⟩
 case round=>
  obtain ⟨k,hk,rfl,rfl⟩:=hrel;by_cases hlt:k<zs.length
  ·obtain ⟨b,off,rfl,hck⟩:=hc k hlt;clear hc;go_wp2;go_round
   case rel=>exact ⟨k+1,by omega,by go_num,qQ (by rw[kN hlt,Pure.Bt];exact IV _ _)⟩
   case measure=>simp[intOf];omega
  ·exact acM
theorem IW (h:UInt64) (zs:List UInt8) (ao:Option Addr) (cap:Nat) (w:World) (hl:zs.length<=140737488355328) (hc:At w ao zs) :
  Calls prog 127 #[.int .u64 (h.toNat:Int),.slice ao zs.length cap] w fun e w'=>e = .returned (.int .u64 ((Pure.joinL h zs).toNat:Int))/\w=w':=by
 go_enter func127,ntmps127
 go_wp2
 go_loop [5,7,11] (fun hh _ i=>∃ k:Nat,k<=zs.length/\i = .int .i64 k/\hh = .int .u64 ((Pure.joinL h (zs.take k)).toNat:Int)) (fun _ _ i=>zs.length-(intOf i).toNat)
 case atStart=>exact ⟨0,cE _,rfl,rfl⟩
 case round=>
  obtain ⟨k,hk,rfl,rfl⟩:=hrel;by_cases hlt:k<zs.length
  ·obtain ⟨b,off,rfl,hck⟩:=hc k hlt;clear hc;go_wp2;go_round
   case rel=>exact ⟨k+1,by omega,by go_num,qQ (by rw[kN hlt,Pure.sS];exact Bw _ _)⟩
   case measure=>simp[intOf];omega
  ·exact acM
def Sy (c:Int):Bool:=decide (1<=c/\c<=5)
theorem aaG {p:Prop} (h:p:=by
 go_wp2
 go_ret
 exact ⟨rfl,rfl⟩):p:=h
theorem vN (c:Int) (w:World) :
  Calls prog 82 #[.int .i64 c] w fun e w'=>e = .returned (.bool (Sy c))/\w=w':=by
 by_cases h:1<=c
 ·by_cases h2:c<=5
  ·go_enter func82,ntmps82;go_wp2;go_ret;exact ⟨by simp[Sy,h,h2],rfl⟩
  ·have h3:Sy c=false:=(by simp[Sy];omega);go_enter func82,ntmps82;exact aaG
 ·have h3:Sy c=false:=by simp[Sy];omega
  go_enter func82,ntmps82;exact aaG
theorem Sz (zs:List UInt8) (ao:Option Addr) (cap:Nat) (w:World) (hl:zs.length<=140737488355328) (hc:At w ao zs) :
  Calls prog 45 #[.slice ao zs.length cap] w fun e w'=>e = .returned (.int .u64 ((Pure.ic 0 zs).toNat:Int))/\w=w':=by
 go_enter func45,ntmps45
 go_wp2_with (go_at_call 81;refine (sV 0 zs ao cap _ hl hc).mono ?_;rintro e w' ⟨rfl,rfl⟩)
 go_ret
 exact ⟨rfl,rfl⟩
theorem aad {p:Prop} (h:p:=by
 go_wp2
 go_loopw [0,8] (fun o i wr=>∃ k:Nat,k<=size/\i = .int .i64 ((size:Int)-1-k)/\o = .slice (some ⟨g,0,none⟩) (bs.length+k) cap/\Buf wr g cap (bs++Pure.oh v size k)/\w.grownBy wr (some g)) (fun _ i _=>(intOf i+1).toNat)
 case atStart=>exact ⟨0,cE _,by go_num,rfl,by simpa[Pure.rY] using hb,bh _ _⟩
 case round=>
  obtain ⟨k,hk,rfl,rfl,hbr,hgr⟩:=hrel
  by_cases hlt:k<size
  ·go_wp2_with (at_builtin;refine qR _ rfl _ _ 37 rfl 5 i0 underlying37 hi hz1 g _ cap (bs++Pure.oh v size k) [Pure.dW v (size-1-k)] rfl (hbr.alloc _) ?c1 ⟨wr.heap.size,0,none⟩ 1 1 rfl rfl ?c2 ?c3 ?_)
   case c1=>simp[Pure.jD]
   case c2=>exact wV _ _ _ _
   case c3=>simp[Pure.jD];omega
   ·intro w1 hb1 hg1
    have R:Buf w1 g cap (bs++Pure.oh v size (k+1))/\w.grownBy w1 (some g):=⟨by rw[Pure.lW];simpa only [cR] using hb1,aa (aR hgr _) hg1⟩
    clear hb1 hg1 hbr hgr hb
    go_wp2
    go_roundw
    case rel=>exact ⟨k+1,by omega,by go_num,rfl,R.1,R.2⟩
    case measure=>simp[intOf];omega
  ·have hks:k=size:=by omega
   subst hks
   go_wp2
   go_ret
   exact ⟨rfl,hbr,hgr⟩):p:=h
theorem sW (g cap:Nat) (bs:List UInt8) (v:UInt64) (size n:Nat) (w:World) (hb:Buf w g cap bs) (hn:n=bs.length) (hs:size<=8) (hr:bs.length+size<=cap) :
  Calls prog 126 #[.slice (some ⟨g,0,none⟩) n cap,.int .u64 (v.toNat:Int),.int .i64 size] w fun e w'=>e = .returned (.slice (some ⟨g,0,none⟩) (n+size) cap)/\Buf w' g cap (bs++Pure.be v size)/\w.grownBy w' (some g):=by
 subst hn
 obtain ⟨i0,hi,hz0,hz1,hz2⟩:=info_parts Tryz.info5
 go_enter func126,ntmps126
 exact aad
theorem wI (g cap:Nat) (bs:List UInt8) (v:UInt64) (size n:Nat) (w:World) (hb:Buf w g cap bs) (hn:n=bs.length) (hs:size<=8) (hr:bs.length+size<=cap) (x:Int) (hx:x=v.toNat) (hv:v.toNat<9223372036854775808) :
  Calls prog 152 #[.slice (some ⟨g,0,none⟩) n cap,.int .i64 x,.int .i64 size] w fun e w'=>e = .returned (.slice (some ⟨g,0,none⟩) (n+size) cap)/\Buf w' g cap (bs++Pure.be v size)/\w.grownBy w' (some g):=by
 subst hn hx
 obtain ⟨i0,hi,hz0,hz1,hz2⟩:=info_parts Tryz.info5
 go_enter func152,ntmps152
 exact aad
variable {zs:List UInt8}
def sl (ao:Option Addr) (cap l:Nat):Option Addr:=if cap=l then ao else ao.map (·.add l)
theorem At.part {w:World} {ao:Option Addr} (h:At w ao zs) (cap l:Nat) (hc:zs.length<=cap):At w (sl ao cap l) (zs.drop l):=by
 intro j hj;rw[cy] at hj;obtain ⟨b,off,rfl,hcell⟩:=h (l+j) afp;refine ⟨b,off+l,?_,?_⟩
 ·rw[sl,if_neg afp];simp[Addr.add_lit]
 ·rw[fN,hcell,List.getElem_drop]
theorem At.sub {w:World} {ao:Option Addr} (h:At w ao zs) (cap l k:Nat) (hc:zs.length<=cap):At w (sl ao cap l) ((zs.drop l).take k):=(h.part cap l hc).take k
theorem abX {p:Prop} (h:p:=by
 have he:P.elem t=e:=by simp[Program.elem,ht]
 have ht':P.underlying t=some (.slice (P.elem t)):=by rw[he];exact ht
 rw[run_sliceAt_slice w t _ _ _ _ ht',run_slice_l w t _ n cap ht' .i64 (l:Int) afp afp,he]
 simp[sizeOf,typeInfo,hi,hs,sliced,sl]):p:=h
theorem wJ (t e:TypeId) (i:TypeInfo) (ht:P.underlying t=some (.slice e)) (hi:P.info? e=some i) (hs:i.size=1) (ao:Option Addr) (n cap l:Nat) (hl:l<=n) (w:World):(Instr.sliceAt t (.slice ao n cap) (some (.int .i64 (l:Int))) none none).run P w = .ok (.slice (sl ao cap l) (n-l) (cap-l)) w:=by
 exact abX
theorem slice_head (t e:TypeId) (i:TypeInfo) (ht:P.underlying t=some (.slice e)) (hi:P.info? e=some i) (hs:i.size=1) (ao:Option Addr) (n cap h:Nat) (hc:h<=cap) (w:World):(Instr.sliceAt t (.slice ao n cap) none (some (.int .i64 (h:Int))) none).run P w = .ok (.slice ao h cap) w:=by
 have he:P.elem t=e:=by simp[Program.elem,ht]
 have ht':P.underlying t=some (.slice (P.elem t)):=by rw[he];exact ht
 rw[run_sliceAt_slice w t _ _ _ _ ht',run_slice_h w t _ n cap ht' .i64 (h:Int) afp afp,he];cases ao with
 | none=>simp[sizeOf,typeInfo,hi,hs,sliced]
 | some ad=>simp[sizeOf,typeInfo,hi,hs,sliced,Addr.add]
theorem kD (t e:TypeId) (i:TypeInfo) (ht:P.underlying t=some (.slice e)) (hi:P.info? e=some i) (hs:i.size=1) (ao:Option Addr) (n cap:Nat) (hz:Hid (zs.length=n)) (hc:n<=cap) (l:Nat) (x:Int) (hx:x=(l:Int)) (hl:l<=n):∃ a',(∀ w,(Instr.sliceAt t (.slice ao n cap) (some (.int .i64 x)) none none).run P w = .ok (.slice a' (n-l) (cap-l)) w)/\∀ w,At w ao zs->At w a' (zs.drop l):=by
 subst hx;refine ⟨sl ao cap l,fun w=>?_,fun w hat=>hat.part cap l (by rw[hz.o];exact hc)⟩;exact abX
theorem xV (t e:TypeId) (i:TypeInfo) (ht:P.underlying t=some (.slice e)) (hi:P.info? e=some i) (hs:i.size=1) (ao:Option Addr) (n cap:Nat) (hz:Hid (zs.length=n)) (hc:n<=cap) (h:Nat) (x:Int) (hx:x=(h:Int)) (hh:h<=n):∃ a',(∀ w,(Instr.sliceAt t (.slice ao n cap) none (some (.int .i64 x)) none).run P w = .ok (.slice a' h cap) w)/\∀ w,At w ao zs->At w a' (zs.take h):=by
 subst hx;refine ⟨sl ao cap 0,fun w=>?_,fun w hat=>by simpa using hat.sub cap 0 h (by rw[hz.o];exact hc)⟩;have he:P.elem t=e:=by simp[Program.elem,ht]
 have ht':P.underlying t=some (.slice (P.elem t)):=by rw[he];exact ht
 rw[run_sliceAt_slice w t _ _ _ _ ht',run_slice_h w t _ n cap ht' .i64 (h:Int) afp afp,he];simp[sizeOf,typeInfo,hi,hs,sliced,sl]
theorem abR {p:Prop} (h:p:=by
 have he:P.elem t=e:=by simp[Program.elem,ht]
 have ht':P.underlying t=some (.slice (P.elem t)):=by rw[he];exact ht
 rw[run_sliceAt_slice w t _ _ _ _ ht',run_slice_lh w t _ n cap ht' .i64 .i64 (l:Int) (h:Int) afp afp afp,he]
 simp[sizeOf,typeInfo,hi,hs,sliced,sl]):p:=h
theorem BD (t e:TypeId) (i:TypeInfo) (ht:P.underlying t=some (.slice e)) (hi:P.info? e=some i) (hs:i.size=1) (ao:Option Addr) (n cap:Nat) (hz:Hid (zs.length=n)) (hc:n<=cap) (l h:Nat) (x y:Int) (hx:x=(l:Int)) (hy:y=(h:Int)) (hl:l<=h) (hh:h<=n):∃ a',(∀ w,(Instr.sliceAt t (.slice ao n cap) (some (.int .i64 x)) (some (.int .i64 y)) none).run P w = .ok (.slice a' (h-l) (cap-l)) w)/\∀ w,At w ao zs->At w a' ((zs.drop l).take (h-l)):=by
 subst hx hy;refine ⟨sl ao cap l,fun w=>?_,fun w hat=>hat.sub cap l _ (by rw[hz.o];exact hc)⟩;exact abR
end Go.Proofs.YteknelimjfgmaaaGreatDoor
