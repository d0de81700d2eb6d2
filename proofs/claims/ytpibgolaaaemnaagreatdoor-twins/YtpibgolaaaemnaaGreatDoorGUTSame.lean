/-
  
  
  
-/
import Derived.Test.YtpibgolaaaemnaaGreatDoorGUKOpen
import Derived.Deep.QuietTactic
import Derived.BigQuiet
import Derived.Test.YtpibgolaaaemnaaGreatDoorGUKCame
namespace Go.Proofs.YtpibgolaaaemnaaGreatDoor
open Go.RowKit
set_option maxRecDepth 100000
abbrev ru:Array Value:=#[.string ⟨#[116,103,115]⟩,.string ⟨#[97,108]⟩,.string ⟨#[119,101,98]⟩,.string ⟨#[98,111]⟩,.string ⟨#[100,98,47,49]⟩,.string ⟨#[120]⟩,.string ⟨#[110,111,98,111,100,121]⟩]
set_option maxHeartbeats 400000 in
theorem vK (w:World):Calls Tryz.prog 7 #[] w fun e w'=>e = .returned (.slice (some ⟨w.heap.size,0,none⟩) 7 7)∧w.alloc (.cells ru 9)=w':=by
 go_enter Tryz.func7,Tryz.ntmps7
 go_wp2
 go_ret
 exact ⟨rfl,rfl⟩
abbrev ry (an au n:Nat) (r l:Int):Array Value:=#[.slice (some ⟨an,0,none⟩) n n,.slice (some ⟨au,0,none⟩) n n,.int .i64 r,.int .i64 l]
set_option maxHeartbeats 2000000 in
theorem BS (n an au bn bu:Nat) (fx:Nat→ByteArray) (fy:Nat→Int) (r l:Int) (w:World) (hmax:n≤1000000)
  (h1:∀ k,k<n→w.cell? ⟨an,k,none⟩=some (.string (fx k))) (h2:∀ k,k<n→w.cell? ⟨bn,k,none⟩=some (.string (fx k))) (h3:∀ k,k<n→w.cell? ⟨au,k,none⟩=some (.int .i64 (fy k))) (h4:∀ k,k<n→w.cell? ⟨bu,k,none⟩=some (.int .i64 (fy k))) :
  Calls Tryz.prog 11 #[.agg (ry an au n r l),.agg (ry bn bu n r l)] w fun e w'=>e = .returned (.bool true)∧w.grownBy w' none:=by
 obtain ⟨W0,hW0⟩:∃ W,W=(w.alloc (.cells (ry an au n r l) 54)).alloc (.cells (ry bn bu n r l) 54):=⟨_,rfl⟩
 have G0:w.grownBy W0 none:=by rw[hW0];exact aC (World.grownBy_alloc w _ none) _
 have b1:bI W0 w.heap.size (ry an au n r l):=by rw[hW0];exact (bI.new w _ _).alloc _
 have b2:bI W0 (w.heap.size+1) (ry bn bu n r l):=by
  have h:=bI.new (w.alloc (.cells (ry an au n r l) 54)) (ry bn bu n r l) 54
  rw[World.size_alloc] at h
  rw[hW0];exact h
 have HC:Hid (∀ k,k<n→W0.cell? ⟨an,k,none⟩=some (.string (fx k))∧W0.cell? ⟨bn,k,none⟩=some (.string (fx k))∧W0.cell? ⟨au,k,none⟩=some (.int .i64 (fy k))∧W0.cell? ⟨bu,k,none⟩=some (.int .i64 (fy k))):=fun k hk=>
  ⟨G0.cell (h1 k hk) (by simp),G0.cell (h2 k hk) (by simp),G0.cell (h3 k hk) (by simp),G0.cell (h4 k hk) (by simp)⟩
 have x0:W0.cell? ⟨w.heap.size,0,none⟩=some (.slice (some ⟨an,0,none⟩) n n):=b1.cell 0
 have x1:W0.cell? ⟨w.heap.size,1,none⟩=some (.slice (some ⟨au,0,none⟩) n n):=b1.cell 1
 have x2:W0.cell? ⟨w.heap.size,2,none⟩=some (.int .i64 r):=b1.cell 2
 have x3:W0.cell? ⟨w.heap.size,3,none⟩=some (.int .i64 l):=b1.cell 3
 have y0:W0.cell? ⟨w.heap.size+1,0,none⟩=some (.slice (some ⟨bn,0,none⟩) n n):=b2.cell 0
 have y1:W0.cell? ⟨w.heap.size+1,1,none⟩=some (.slice (some ⟨bu,0,none⟩) n n):=b2.cell 1
 have y2:W0.cell? ⟨w.heap.size+1,2,none⟩=some (.int .i64 r):=b2.cell 2
 have y3:W0.cell? ⟨w.heap.size+1,3,none⟩=some (.int .i64 l):=b2.cell 3
 have HG:=hid G0
 have HW0:=hid hW0
 have e1:((n:Int) != (n:Int))=false:=by simp
 have e2:(r != r)=false:=by simp
 have e3:(l != l)=false:=by simp
 clear h1 h2 h3 h4 b1 b2 G0 hW0
 go_enter Tryz.func11,Tryz.ntmps11
 go_wp2_with (rw[←HW0.out];fail_if_success done)
 go_loopw [5] (fun i wr=>∃ k q:Nat,k≤n∧i = .int .i64 k∧wr=W0.drewN q) (fun i _=>n-(intOf i).toNat)
 case atStart=>exact ⟨0,0,Nat.zero_le _,rfl,rfl⟩
 case round=>
  obtain ⟨k,q,hk,rfl,rfl⟩:=hrel
  by_cases hlt:k<n
  ·obtain ⟨c1,c2,c3,c4⟩:=HC.out k hlt
   have rT:(k:Int)<(n:Int):=by omega
   have hk0:(0:Int)≤(k:Int):=by omega
   obtain ⟨T,hT⟩:∃ T,fx k=T:=⟨_,rfl⟩
   obtain ⟨y,hy⟩:∃ y,fy k=y:=⟨_,rfl⟩
   rw[hT] at c1 c2
   rw[hy] at c3 c4
   have e4:(T.toList==T.toList)=true:=by simp
   have e6:(T.toList != T.toList)=false:=by simp
   have e5:(y != y)=false:=by simp
   clear hT hy
   go_wp2_with fail
   go_quiet (fail)
   go_wp2
   go_roundw
   case rel=>exact ⟨k+1,_,by omega,by go_num,rfl⟩
   case measure=>simp[intOf];omega
  ·have hkn:k=n:=by omega
   subst hkn
   have rT:¬ (k:Int)<(k:Int):=by omega
   go_wp2
   go_ret
   exact ⟨rfl,aO HG.out q⟩
end Go.Proofs.YtpibgolaaaemnaaGreatDoor
namespace Go.Proofs.YtpibgolaaaemnaaGreatDoor
open Go.RowKit
set_option maxRecDepth 100000
def kP:Value→Bool
 | .int .u8 _=>false
 | _=>true
def Db (w:World) (b:Nat):Prop:=∃ cur e fz,w.heap[b]?=some (.cells cur e fz)∧∀ u∈cur.toList,kP u=true
theorem Db.same {w w':World} {b:Nat} (h:Db w b) (e:w'.heap[b]?=w.heap[b]?):Db w' b:=by
 obtain ⟨cur,t,fz,h1,h2⟩:=h
 exact ⟨cur,t,fz,by rw[e];exact h1,h2⟩
theorem Db.byte {w:World} {b o:Nat} {x:Int} (h:Db w b) (hc:w.cell? ⟨b,o,none⟩=some (.int .u8 x)):False:=by
 obtain ⟨cur,t,fz,h1,h2⟩:=h
 have:cur[o]?=some (.int .u8 x):=by simpa[World.cell?,h1] using hc
 have hm:(.int .u8 x:Value)∈cur.toList:=by
  obtain ⟨hlt,he⟩:=Array.getElem?_eq_some_iff.1 this
  rw[←he]
  exact Array.mem_toList_iff.2 (Array.getElem_mem hlt)
 have:=h2 _ hm
 simp[kP] at this
theorem KI.nb {w w':World} {O:Nat→Prop} {v:Value} {zs:List UInt8} {jb:Option Nat} (h:KI O w v zs) (k:CF w w' (fun b _=>jb=some b)) (hn:∀ b,jb=some b→Db w b):KI O w' v zs:=by
 obtain ⟨⟨ao,cap,rfl,h2,h3,h4,h5⟩,h6⟩:=h
 refine ⟨?_,fun b off n c e=>⟨Nat.lt_of_lt_of_le (h6 b off n c e).1 k.size,(h6 b off n c e).2⟩⟩
 cases zs with
 | nil=>exact ⟨ao,cap,rfl,h2,h3,h4,At.nil _ _⟩
 | cons z zs=>
  refine KH.ZO ⟨ao,cap,rfl,h2,h3,h4,h5⟩ k (fun b off e ⟨_,q⟩=>?_)
  obtain ⟨b',off',e',c⟩:=h5 0 (by simp)
  rw[e] at e'
  injection e' with e'
  injection e' with e1 e2
  subst e1
  exact (hn _ q).byte c
theorem Da.nb {w w':World} {O:Nat→Prop} {x:List Value} {jb:Option Nat} (h:Da O w x) (k:CF w w' (fun b _=>jb=some b)) (hn:∀ b,jb=some b→Db w b):Da O w' x:=by
 obtain ⟨h1,v,zs,jY,h2,h3,h4,h5⟩:=h
 exact ⟨h1,v,zs,jY,h2,h3,h4.nb k hn,h5⟩
theorem TS.nb {w0:World} {L:TL} {Mp Mq:DM} {cs:List (List Value)} {ls:List (List UInt8)} {ms:List (Value×List UInt8)} {now:Int} {ca la ma:Option Addr} {cc lc mc:Nat} {w w':World} {jb:Option Nat} (h:TS w0 L Mp Mq cs ls ms now ca la ma cc lc mc w) (k:CF w w' (fun b _=>jb=some b)) (hn:∀ b,jb=some b→Db w b∧¬ eU L.lo L.hi L.pb ca la ma b∧w0.heap.size≤b):TS w0 L Mp Mq cs ls ms now ca la ma cc lc mc w':=by
 have ho:=h.ord
 have hr:∀ b,jb=some b→b<L.lo∨L.hi≤b:=fun b e=>by
  have:=(hn b e).2.1
  by_cases q:L.lo≤b∧b<L.hi
  ·exact absurd (.inl q) this
  ·omega
 have hnb:∀ b,jb=some b→Db w b:=fun b e=>(hn b e).1
 have hs:w0.heap.size≤w.heap.size:=by have:=h.hil;omega
 refine ⟨h.plain.cf k (fun b _ e=>by have:=hr b e;omega),h.quick.cf k (fun b _ e=>by have:=hr b e;omega),h.pair.Uq k (fun o e=>(hn _ e).2.1 (.inr (.inl rfl))),fC h.came k (fun b e o q=>?_),fC h.names k (fun b e o q=>?_),fC h.made k (fun b e o q=>?_),h.vL,h.Cn,fun x hx=>(h.FL x hx).nb k hnb,h.BU,fun x hx=>⟨(h.uu x hx).1.nb k hnb,(h.uu x hx).2⟩,h.now,h.Nn.trans (CF.below k hs (fun b _ hb e=>by have:=(hn b e).2.2;omega)),ho⟩
 ·rw[bV] at e;exact (hn b q).2.1 (.inr (.inr (.inl e)))
 ·rw[bV] at e;exact (hn b q).2.1 (.inr (.inr (.inr (.inl e))))
 ·rw[bV] at e;exact (hn b q).2.1 (.inr (.inr (.inr (.inr e))))
theorem TI.nb {w0:World} {L:TL} {Mp Mq:DM} {n C:Nat} {O:Nat→Prop} {w w':World} {jb:Option Nat} (h:TI w0 L Mp Mq n C O w) (k:CF w w' (fun b _=>jb=some b)) (hn:∀ b,jb=some b→Db w b∧¬ O b∧w0.heap.size≤b):TI w0 L Mp Mq n C O w':=by
 obtain ⟨cs,ls,ms,now,ca,la,ma,cc,lc,mc,rfl,h,q⟩:=h
 exact ⟨cs,ls,ms,now,ca,la,ma,cc,lc,mc,rfl,h.nb k hn,q⟩
theorem xu.nb {w w':World} {O:Nat→Prop} {j:jr} {m:gF} {jb:Option Nat} (h:xu O w j m) (k:CF w w' (fun b _=>jb=some b)) (hn:∀ b,jb=some b→Db w b):xu O w' j m:=⟨h.1,h.2.1,h.2.2.1.nb k hn,h.2.2.2⟩
theorem Ny (z:Array Value) (n:Nat) (hz:0<z.size) (h:∀ u∈z.toList,kP u=true):∀ u∈(Builtin.zeroCells z n).toList,kP u=true:=by
 intro u hu
 have hu':u∈Builtin.zeroCells z n:=Array.mem_toList_iff.1 hu
 unfold Builtin.zeroCells at hu'
 obtain ⟨i,_,rfl⟩:=Array.mem_map.1 hu'
 have hlt:i % z.size<z.size:=Nat.mod_lt _ hz
 rw[getElem!_pos z (i % z.size) hlt]
 exact h _ (Array.mem_toList_iff.2 (Array.getElem_mem hlt))
theorem oQ {P:Program} (w:World) (base:Nat) (t ty e:TypeId) (i:TypeInfo) (z:Value) (size bytes:Nat) (ht:P.underlying t=some (.slice e)) (hi:P.info? e=some i) (hz:i.zero=some z) (hsize:i.size=size) (hby:i.bytes=bytes) (hzs:z.cells.size=size) (hsz:0<size)
  (v:Value) (n:Nat) (xs:List Value) (hown:w.ownsRow base e size v n xs) (ad:Addr) (m c:Nat) (news:List Value) (hl:news.length=m*size) (hnews:∀ j u,news[j]?=some u→w.cell? (ad.add j)=some u) (h1:∀ u∈news,u.oneCell'=true) (hm:0<m)
  (h63:n+m≤maxLen) (hbytes:(n+m)*bytes≤140737488355328) (hbase:base≤w.heap.size) (hnb:∀ b,v.ownBlock=some b→Db w b) (hn2:∀ u∈news,kP u=true) (hx2:∀ u∈xs,kP u=true) (hz2:∀ u∈z.cells.toList,kP u=true) :
  ∃ ao c' w',(Builtin.append_ #[t,t] ty #[v,.slice (some ad) m c]).run P w = .ok (.slice ao (n+m) c') w'∧w'.ownsRow base e size (.slice ao (n+m) c') (n+m) (xs++news)∧CF w w' (fun b _=>v.ownBlock=some b)∧((Value.slice ao (n+m) c').ownBlock=v.ownBlock∨(Value.slice ao (n+m) c').ownBlock=some w.heap.size)∧∀ b,(Value.slice ao (n+m) c').ownBlock=some b→Db w' b:=by
 obtain ⟨ao,c',w',hrun,r1,r2,r3⟩:=oO (P:=P) w base t ty e i z size bytes ht hi hz hsize hby hzs hsz v n xs hown ad m c news hl hnews h1 hm h63 hbytes hbase
 refine ⟨ao,c',w',hrun,r1,r2,r3,?_⟩
 subst hsize
 subst hby
 have aa5:n+m≤9223372036854775807:=by simp only[maxLen] at h63;omega
 rcases hown.2 with ⟨rfl,rfl⟩ | ⟨g,cap,cur,rfl,hbg,hg,hnc',hcm,hcs,htake⟩
 ·have hb':m*i.bytes≤140737488355328:=by simpa using hbytes
  have hr:=run_append_nil (P:=P) w t ty e i z ht hi hz ad m c news hl hnews hm (by omega) (by omega)
  rw[hr] at hrun
  injection hrun with ha hw
  subst hw
  injection ha with ha _ _
  subst ha
  intro b hb
  have hb2:w.heap.size=b:=by injection hb
  subst hb2
  refine ⟨_,e,(0,0),heap_alloc_new w.drew _,fun u hu=>?_⟩
  rw[Array.toList_append] at hu
  rcases List.mem_append.1 hu with q | q
  ·exact hn2 u (by simpa using q)
  ·exact Ny _ _ (by rw[hzs];exact hsz) hz2 u q
 ·by_cases hroom:n+m≤cap
  ·have hfit:n*i.size+news.length≤cur.size:=by rw[hl,hcs,←Nat.add_mul];exact Nat.mul_le_mul_right _ hroom
   have hr:=run_append_room (P:=P) w t ty e i ht hi g n cap cur hg ad m c news hl hnews h1 hroom hfit
   rw[hr] at hrun
   injection hrun with ha hw
   subst hw
   injection ha with ha _ _
   subst ha
   intro b hb
   have hb2:g=b:=by injection hb
   subst hb2
   obtain ⟨ac3,e0,fz0,q1,q2⟩:=hnb g rfl
   rw[hg] at q1
   injection q1 with q1
   injection q1 with q1 _ _
   subst q1
   refine ⟨(cur.toList.take (n*i.size)++news++cur.toList.drop (n*i.size+news.length)).toArray,e,(0,0),by simp[World.setRow,Array.getElem?_modify,hg],fun u hu=>?_⟩
   have hu':u∈cur.toList.take (n*i.size)++news++cur.toList.drop (n*i.size+news.length):=hu
   rcases List.mem_append.1 hu' with hu' | hu'
   ·rcases List.mem_append.1 hu' with hu' | hu'
    ·exact q2 u (List.mem_of_mem_take hu')
    ·exact hn2 u hu'
   ·exact q2 u (List.mem_of_mem_drop hu')
  ·have holds:∀ j u,xs[j]?=some u→w.cell? ((⟨g,0,none⟩:Addr).add j)=some u:=hown.cells (g:=g) rfl
   have hr:=run_append_grow (P:=P) w t ty e i z ht hi hz ⟨g,0,none⟩ n cap xs hown.1 holds ad m c news hl hnews (by omega) (by omega) (growslice_fits (by omega) hbytes)
   rw[hr] at hrun
   injection hrun with ha hw
   subst hw
   injection ha with ha _ _
   subst ha
   intro b hb
   have hb2:w.heap.size=b:=by injection hb
   subst hb2
   refine ⟨_,e,(0,0),heap_alloc_new w.drew _,fun u hu=>?_⟩
   rw[Array.toList_append,Array.toList_append] at hu
   rcases List.mem_append.1 hu with hu | hu
   ·rcases List.mem_append.1 hu with hu | hu
    ·exact hx2 u hu
    ·exact hn2 u hu
   ·exact Ny _ _ (by rw[hzs];exact hsz) hz2 u hu
theorem vO (a:jJ) (now:Int) (v:Value) (hv:∃ x n c,v = .slice x n c):∀ u∈(bF a now v).toList,kP u=true∧u.oneCell'=true:=by
 obtain ⟨x,n,c,rfl⟩:=hv
 intro u hu
 simp only[List.mem_cons,List.not_mem_nil,or_false] at hu
 rcases hu with rfl | rfl | rfl | rfl | rfl | rfl | rfl | rfl | rfl <;> exact ⟨rfl,rfl⟩
theorem Tryz.xw:(Tryz.prog.info? 45).map (fun i=>(i.zero,i.size,i.bytes))=some (some (.agg #[.int .i64 0,.string ⟨#[]⟩,.int .u64 0,.int .i64 0,.int .i64 0,.int .i64 0,.int .i64 0,.int .i64 0,.slice none 0 0]),9,96):=by kernel_rfl
structure JR (w:World) (O:Nat→Prop) (n0:Nat) (v:Value) (js:List jr) (ms:List gF):Prop where
 row:w.ownsRow n0 45 9 v js.length (dM js)
 nb:∀ b,v.ownBlock=some b→Db w b∧¬ O b
 len:js.length=ms.length
 shape:∀ j∈js,∃ x n c,j.2.2 = .slice x n c
 okm:∀ m∈ms,m.Ok
 each:∀ i (h:i<js.length) (h':i<ms.length),xu O w js[i] ms[i]
theorem JR.nil (w:World) (O:Nat→Prop) (n0:Nat):JR w O n0 (.slice none 0 0) [] []:=⟨World.ownsRow_nil w n0 _ _,(fun b e=>by cases e),rfl,(fun _ h=>by cases h),(fun _ h=>by cases h),(fun i h=>by cases h)⟩
theorem JR.step {w w':World} {O O':Nat→Prop} {n0:Nat} {v:Value} {js:List jr} {ms:List gF} (h:JR w O n0 v js ms) (k:Stp w O w' O'):JR w' O' n0 v js ms:=by
 refine ⟨fC h.row k.cf (fun b e _=>(h.nb b e).2),fun b e=>?_,h.len,h.shape,h.okm,fun i h1 h2=>(h.each i h1 h2).step k⟩
 have hlt:=(h.row.lt b e).2
 refine ⟨(h.nb b e).1.same (k.cf.block b hlt (fun _=>(h.nb b e).2)),fun q=>?_⟩
 rcases k.own b q with q | q
 ·exact (h.nb b e).2 q
 ·omega
theorem P6 (js:List jr) (j:jr):dM (js++[j])=dM js++(bF j.1 j.2.1 j.2.2).toList:=by
 unfold dM
 rw[List.map_append,List.flatten_append]
 simp[jr.cells]
theorem FT {js:List jr} (h:∀ j∈js,∃ x n c,j.2.2 = .slice x n c):∀ u∈dM js,kP u=true:=by
 intro u hu
 unfold dM at hu
 obtain ⟨l,hl,hu⟩:=List.mem_flatten.1 hu
 obtain ⟨j,hj,rfl⟩:=List.mem_map.1 hl
 exact (vO j.1 j.2.1 j.2.2 (h j hj) u hu).1
theorem JR.push {w w6:World} {O:Nat→Prop} {n0:Nat} {v:Value} {js:List jr} {ms:List gF} {j:jr} {m:gF} {ao:Option Addr} {c':Nat} {o:Obj} (h:JR w O n0 v js ms) (hO:∀ b,O b→b<w.heap.size) (hj:xu O w j m) (hm:m.Ok) (hs:∃ x n c,j.2.2 = .slice x n c)
  (r1:w6.ownsRow n0 45 9 (.slice ao (js.length+1) c') (js.length+1) (dM js++(bF j.1 j.2.1 j.2.2).toList)) (r2:CF (w.alloc o) w6 (fun b _=>v.ownBlock=some b)) (r3:(Value.slice ao (js.length+1) c').ownBlock=v.ownBlock∨(Value.slice ao (js.length+1) c').ownBlock=some (w.alloc o).heap.size) (r4:∀ b,(Value.slice ao (js.length+1) c').ownBlock=some b→Db w6 b) :
  JR w6 O n0 (.slice ao (js.length+1) c') (js++[j]) (ms++[m])∧CF w w6 (fun b _=>v.ownBlock=some b):=by
 have k:CF w w6 (fun b _=>v.ownBlock=some b):=(CF.aW (World.grownBy_alloc w o none) _).trans r2 (fun _ _ _ e=>e)
 have hnb:∀ b,v.ownBlock=some b→Db w b:=fun b e=>(h.nb b e).1
 refine ⟨⟨?_,fun b e=>⟨r4 b e,fun q=>?_⟩,by simp[h.len],fun x hx=>?_,fun x hx=>?_,fun i h1 h2=>?_⟩,k⟩
 ·rw[P6,List.length_append,List.length_singleton]
  exact r1
 ·rcases r3 with p | p
  ·rw[p] at e;exact (h.nb b e).2 q
  ·rw[p,World.size_alloc] at e
   injection e with e
   have:=hO b q
   omega
 ·rcases List.mem_append.1 hx with q | q
  ·exact h.shape x q
  ·rw[List.mem_singleton.1 q];exact hs
 ·rcases List.mem_append.1 hx with q | q
  ·exact h.okm x q
  ·rw[List.mem_singleton.1 q];exact hm
 ·by_cases hi:i<js.length
  ·rw[List.getElem_append_left hi,List.getElem_append_left (by have:=h.len;omega)]
   exact (h.each i hi (by have:=h.len;omega)).nb k hnb
  ·have hi2:i=js.length:=by rw[List.length_append,List.length_singleton] at h1;omega
   subst hi2
   rw[List.getElem_append_right (by omega),List.getElem_append_right (by have:=h.len;omega)]
   have e1:([m]:List gF)[js.length-ms.length]'(by have:=h.len;simp;omega)=m:=by
    have:=h.len
    simp[this]
   rw[e1]
   simp only[Nat.sub_self,List.getElem_cons_zero]
   exact hj.nb k hnb
theorem TI.ZX {w0:World} {L:TL} {Mp Mq:DM} {n C n0:Nat} {O:Nat→Prop} {w w':World} {v:Value} {js:List jr} {ms:List gF} (h:TI w0 L Mp Mq n C O w) (hJ:JR w O n0 v js ms) (h0:w0.heap.size≤n0) (k:CF w w' (fun b _=>v.ownBlock=some b)):TI w0 L Mp Mq n C O w':=
 h.nb k (fun b e=>⟨(hJ.nb b e).1,(hJ.nb b e).2,Nat.le_trans h0 (hJ.row.lt b e).1⟩)
theorem p8 {P:Program} (w:World) {ops:Array Oper} {rest:List Oper} {o:Oper} {a:Act} {Q:Exit→Act→World→Prop}
  (hg:o.guard=none) (s x:Operand) (t:TypeId) (hop:o.op=Op.call {callee:=Callee.builtin Builtin.append,args:=#[s,x],argTypes:=#[t,t]})
  (base:Nat) (e:TypeId) (i:TypeInfo) (z:Value) (size bytes:Nat) (ht:P.underlying t=some (.slice e)) (hi:P.info? e=some i) (hz:i.zero=some z) (hsize:i.size=size) (hby:i.bytes=bytes) (hzs:z.cells.size=size) (hsz:0<size)
  (v:Value) (n:Nat) (xs:List Value) (hs:a.eval s=v) (hown:w.ownsRow base e size v n xs) (ad:Addr) (m c:Nat) (news:List Value) (hx:a.eval x = .slice (some ad) m c) (hl:news.length=m*size) (hnews:∀ j u,news[j]?=some u→w.cell? (ad.add j)=some u) (h1:∀ u∈news,u.oneCell'=true) (hm:0<m)
  (h63:n+m≤maxLen) (hbytes:(n+m)*bytes≤140737488355328) (hbase:base≤w.heap.size) (hnb:∀ b,v.ownBlock=some b→Db w b) (hn2:∀ u∈news,kP u=true) (hx2:∀ u∈xs,kP u=true) (hz2:∀ u∈z.cells.toList,kP u=true)
  (hK:∀ ao c' w',w'.ownsRow base e size (.slice ao (n+m) c') (n+m) (xs++news)→CF w w' (fun b _=>v.ownBlock=some b)→Hid ((Value.slice ao (n+m) c').ownBlock=v.ownBlock∨(Value.slice ao (n+m) c').ownBlock=some w.heap.size)→(∀ b,(Value.slice ao (n+m) c').ownBlock=some b→Db w' b)→wpList P ops Q rest (a.put o.dst (.slice ao (n+m) c')) w') :
  wpList P ops Q (o::rest) a w:=by
 refine wpList_plain hg fun K hK'=>?_
 obtain ⟨ao,c',w',hrun,r1,r2,r3,r4⟩:=oQ (P:=P) w base t o.type e i z size bytes ht hi hz hsize hby hzs hsz v n xs hown ad m c news hl hnews h1 hm h63 hbytes hbase hnb hn2 hx2 hz2
 unfold Oper.wp
 simp[execOp,hop,resolve,invoke,builtin,hs,hx,hrun,Result.andThen]
 exact hK' _ _ (hK ao c' w' r1 r2 r3 r4)
theorem Nz:∀ u∈(Value.agg #[.int .i64 0,.string ⟨#[]⟩,.int .u64 0,.int .i64 0,.int .i64 0,.int .i64 0,.int .i64 0,.int .i64 0,.slice none 0 0]).cells.toList,kP u=true:=by
 intro u hu
 have hu':u∈([.int .i64 0,.string ⟨#[]⟩,.int .u64 0,.int .i64 0,.int .i64 0,.int .i64 0,.int .i64 0,.int .i64 0,.slice none 0 0]:List Value):=hu
 simp only[List.mem_cons,List.not_mem_nil,or_false] at hu'
 rcases hu' with rfl | rfl | rfl | rfl | rfl | rfl | rfl | rfl | rfl <;> rfl
theorem JR.wants {w:World} {O:Nat→Prop} {n0:Nat} {v:Value} {js:List jr} {ms:List gF} (h:JR w O n0 v js ms) (o:Obj):(∀ b,v.ownBlock=some b→Db (w.alloc o) b)∧∀ u∈dM js,kP u=true:=⟨fun b e=>(h.nb b e).1.same ((World.grownBy_alloc w o none).block b ((h.row.lt b e).2) (by simp)),FT h.shape⟩
theorem Ye {W:World} {ops:Array Oper} {rest:List Oper} {o:Oper} {a:Act} {Q:Exit→Act→World→Prop}
  (hg:o.guard=none) (s x:Operand) (hop:o.op=Op.call {callee:=Callee.builtin Builtin.append,args:=#[s,x],argTypes:=#[39,39]})
  (w:World) (O:Nat→Prop) (n0:Nat) (v:Value) (js:List jr) (ms:List gF) (j:jr) (m:gF) (hs:a.eval s=v) (hx:a.eval x = .slice (some ⟨w.heap.size,0,none⟩) 1 1) (hJ:JR w O n0 v js ms) (hO:∀ b,O b→b<w.heap.size) (hji:xu O w j m) (hmo:m.Ok) (hsh:∃ x n c,j.2.2 = .slice x n c) (hlen:js.length≤1000) (hn0:n0≤w.heap.size) (hW:W=w.alloc (.cells (bF j.1 j.2.1 j.2.2) 45))
  (hK:∀ ao c' w',JR w' O n0 (.slice ao (js.length+1) c') (js++[j]) (ms++[m])→CF w w' (fun b _=>v.ownBlock=some b)→wpList Tryz.prog ops Q rest (a.put o.dst (.slice ao (js.length+1) c')) w') :
  wpList Tryz.prog ops Q (o::rest) a W:=by
 subst hW
 refine wpList_plain hg fun K hK'=>?_
 obtain ⟨i,hi,h0,h1,h2⟩:=info_parts Tryz.xw
 have Dc:=vO j.1 j.2.1 j.2.2 hsh
 obtain ⟨ao,c',w',hrun,r1,r2,r3,r4⟩:=oQ (P:=Tryz.prog) (w.alloc (.cells (bF j.1 j.2.1 j.2.2) 45)) n0 39 o.type 45 i _ 9 96 Tryz.underlying39 hi h0 h1 h2 rfl (by decide) v js.length (dM js) (hJ.row.alloc _) ⟨w.heap.size,0,none⟩ 1 1 (bF j.1 j.2.1 j.2.2).toList rfl (jS w _ _) (fun u hu=>(Dc u hu).2) (by omega) (by unfold maxLen;omega) (by omega) (by rw[World.size_alloc];omega) (fun b e=>(hJ.nb b e).1.same ((World.grownBy_alloc w _ none).block b ((hJ.row.lt b e).2) (by simp))) (fun u hu=>(Dc u hu).1) (FT hJ.shape) (by
  intro u hu
  have hu':u∈([.int .i64 0,.string ⟨#[]⟩,.int .u64 0,.int .i64 0,.int .i64 0,.int .i64 0,.int .i64 0,.int .i64 0,.slice none 0 0]:List Value):=hu
  simp only[List.mem_cons,List.not_mem_nil,or_false] at hu'
  rcases hu' with rfl | rfl | rfl | rfl | rfl | rfl | rfl | rfl | rfl <;> rfl)
 obtain ⟨q1,q2⟩:=hJ.push hO hji hmo hsh r1 r2 r3 r4
 unfold Oper.wp
 simp[execOp,hop,resolve,invoke,builtin,hs,hx,hrun,Result.andThen]
 exact hK' _ _ (hK ao c' w' q1 q2)
theorem P7 {ops:Array Oper} {o:Oper} {a:Act} {w:World} {K:Act→World→Prop} {Q:Exit→Act→World→Prop} {E:Prop}
  (hg:o.guard=none) (s x:Operand) (hop:o.op=Op.call {callee:=Callee.builtin Builtin.append,args:=#[s,x],argTypes:=#[39,39]})
  (O:Nat→Prop) (n0:Nat) (v:Value) (js:List jr) (ms:List gF) (j:jr) (m:gF) (hs:a.eval s=v) (hx:a.eval x = .slice (some ⟨w.heap.size,0,none⟩) 1 1) (hJ:JR w O n0 v js ms) (hO:∀ b,O b→b<w.heap.size) (hji:xu O w j m) (hmo:m.Ok) (hsh:∃ x n c,j.2.2 = .slice x n c) (hlen:js.length≤1000) (hn0:n0≤w.heap.size)
  (hK:∀ ao c' w',JR w' O n0 (.slice ao (js.length+1) c') (js++[j]) (ms++[m])→CF w w' (fun b _=>v.ownBlock=some b)→K (a.put o.dst (.slice ao (js.length+1) c')) w') :
  if Region.wanted o (yielded ops a.tmps)=true then Oper.wp Tryz.prog o a (w.alloc (.cells (bF j.1 j.2.1 j.2.2) 45)) K Q else E:=by
 have hw:Region.wanted o (yielded ops a.tmps)=true:=by simp[Region.wanted,hg]
 rw[if_pos hw]
 obtain ⟨i,hi,h0,h1,h2⟩:=info_parts Tryz.xw
 have Dc:=vO j.1 j.2.1 j.2.2 hsh
 obtain ⟨ao,c',w',hrun,r1,r2,r3,r4⟩:=oQ (P:=Tryz.prog) (w.alloc (.cells (bF j.1 j.2.1 j.2.2) 45)) n0 39 o.type 45 i _ 9 96 Tryz.underlying39 hi h0 h1 h2 rfl (by decide) v js.length (dM js) (hJ.row.alloc _) ⟨w.heap.size,0,none⟩ 1 1 (bF j.1 j.2.1 j.2.2).toList rfl (jS w _ _) (fun u hu=>(Dc u hu).2) (by omega) (by unfold maxLen;omega) (by omega) (by rw[World.size_alloc];omega) (fun b e=>(hJ.nb b e).1.same ((World.grownBy_alloc w _ none).block b ((hJ.row.lt b e).2) (by simp))) (fun u hu=>(Dc u hu).1) (FT hJ.shape) (by
  intro u hu
  have hu':u∈([.int .i64 0,.string ⟨#[]⟩,.int .u64 0,.int .i64 0,.int .i64 0,.int .i64 0,.int .i64 0,.int .i64 0,.slice none 0 0]:List Value):=hu
  simp only[List.mem_cons,List.not_mem_nil,or_false] at hu'
  rcases hu' with rfl | rfl | rfl | rfl | rfl | rfl | rfl | rfl | rfl <;> rfl)
 obtain ⟨q1,q2⟩:=hJ.push hO hji hmo hsh r1 r2 r3 r4
 unfold Oper.wp
 simp[execOp,hop,resolve,invoke,builtin,hs,hx,hrun,Result.andThen]
 exact hK ao c' w' q1 q2
theorem NA (n c:Nat) (av:Option Addr) (l:List UInt8) (w:World) (h:KH w (.slice av n c) l) (hn:Hid (l.length=n)) (h0:0<n) (h1:n≤1000) :
  ∀ w1,w.grownBy w1 none→Calls Tryz.prog 41 #[.slice av n c] w1 fun e w'=>∃ ao c',e = .returned (.agg #[.slice ao n c'])∧w'.ownsRow w1.heap.size 5 1 (.slice ao n c') n (l.map U8)∧w1.grownBy w' none:=by
 intro w1 k
 obtain ⟨a2,c2,e1,_,_,_,hat⟩:=h
 have e2:av=a2:=by injection e1
 subst e2
 have nO:=hat.below k
 obtain ⟨b,off,rfl,_⟩:=nO.addr (by rw[hn.out];exact h0)
 refine (abE ⟨b,off,none⟩ n c l w1 hn (by omega) (fun i hi=>?_)).mono ?_
 ·have hi2:i<l.length:=by rw[hn.out];exact hi
  have:=nO.cells i hi2
  rw[show (⟨b,off,none⟩:Addr).add i=⟨b,off+i,none⟩ from by simp[Addr.add],this]
  simp[List.getD,hi2]
 ·rintro e w' ⟨v,rfl,o,g⟩
  rcases o.2 with ⟨hv,hz⟩ | ⟨b2,cap2,cur,hv,_⟩
  ·omega
  ·subst hv
   exact ⟨_,_,rfl,o,g⟩
end Go.Proofs.YtpibgolaaaemnaaGreatDoor
namespace Go.Proofs.YtpibgolaaaemnaaGreatDoor
open Go.RowKit
set_option maxRecDepth 100000
def Qw:Nat→List UInt8
 | 0=>[116,103,115]
 | 1=>[97,108]
 | 2=>[119,101,98]
 | 3=>[98,111]
 | _=>[100,98,47,49]
theorem adb:∀ k,k<5→ru[k]?=some (.string ⟨(Qw k).toArray⟩)∧(Qw k).length≤20
 | 0,_=>⟨rfl,by decide⟩
 | 1,_=>⟨rfl,by decide⟩
 | 2,_=>⟨rfl,by decide⟩
 | 3,_=>⟨rfl,by decide⟩
 | 4,_=>⟨rfl,by decide⟩
 | k+5,h=>absurd h (by omega)
def vP (k:Nat):List jr:=(List.range k).map fun i=>(uw (Qw i) (UInt64.ofNat (1000001+i)),0,.slice none 0 0)
def JB (k:Nat):List gF:=(List.range k).map fun i=>(uw (Qw i) (UInt64.ofNat (1000001+i)),0,[])
theorem P8 (k:Nat):vP (k+1)=vP k++[(uw (Qw k) (UInt64.ofNat (1000001+k)),0,.slice none 0 0)]:=by unfold vP;rw[List.range_succ,List.map_append];rfl
theorem P9 (k:Nat):JB (k+1)=JB k++[(uw (Qw k) (UInt64.ofNat (1000001+k)),0,[])]:=by unfold JB;rw[List.range_succ,List.map_append];rfl
theorem xx (k:Nat):(vP k).length=k:=by simp[vP]
theorem Xc (k:Nat) (h:k<5):IntKind.u64.wrap (1000001+(k:Int))=((UInt64.ofNat (1000001+k)).toNat:Int):=by
 rw[IntKind.wrap_u64,Pure.jR _ (by omega)]
 omega
theorem NB:In64 0:=⟨by decide,by decide⟩
theorem Xd:In64 200:=⟨by decide,by decide⟩
theorem Xe:In64 300:=⟨by decide,by decide⟩
theorem ZY:In64 30:=⟨by decide,by decide⟩
theorem JD (now:Int) (aG:List UInt8) (h:In64 now):gF.Ok (uN,now,aG):=⟨NB,NB,NB,Nat.zero_le _,h⟩
theorem ND (nm:List UInt8) (ky:UInt64) (h:nm.length≤20):gF.Ok (uw nm ky,0,[]):=⟨Xd,Xe,ZY,Nat.le_trans h (by decide),NB⟩
theorem Ej (now:Int) (h:In64 now):∀ j∈fK now,gF.Ok j:=by
 intro j hj
 unfold fK mR at hj
 simp only[List.mem_append,List.mem_cons,List.not_mem_nil,or_false] at hj
 rcases hj with (rfl | rfl | rfl | rfl | rfl) | rfl
 all_goals first
  | exact ND _ _ (by decide)
  | exact JD _ _ h
theorem Qa (sk now:Int) (ds:List UInt8) (h0:0≤sk) (h1:sk≤300) (hn0:-1099511627776≤now) (hn1:now≤1099511627776) (hd:24≤ds.length) :
  ∃ t:TK,(∀ i (h:i<(fK now).length),if i=5 then ((fK now)[i]).1.kind=0∧(xZ (ek ⟨sk,[],[],ds⟩ ((fK now).take i)) (fK now)[i]).1.1=gM 11 t (FP nQ 1000001) 1 1 1000002 3 (dU ds 1) (dU ds 2) else ((fK now)[i]).1.kind≠0)∧ek ⟨sk,[],[],ds⟩ (fK now)=⟨sk,Ei,[],ds.drop 24⟩∧t.af=zI∧t.In:=by
 obtain ⟨t,h2,h3,h4⟩:=JA sk now ds h0 h1 hn0 hn1 hd
 have hb:=Mi sk ds
 have hlast:xZ ⟨sk,Ei,[],ds⟩ (uN,now,il zI nQ 1 now 0 0 7)=(((gM 11 t (FP nQ 1000001) 1 1 1000002 3 (dU ds 1) (dU ds 2)),0),⟨sk,Ei,[],ds.drop 24⟩):=by
  unfold xZ
  rw[if_pos rfl]
  show ((_,_),_)=_
  rw[h2]
 refine ⟨t,fun i h=>?_,?_,h3,h4⟩
 ·match i,h with
  | 0,_=>rw[if_neg (by decide)];show (1:Int)≠0;decide
  | 1,_=>rw[if_neg (by decide)];show (1:Int)≠0;decide
  | 2,_=>rw[if_neg (by decide)];show (1:Int)≠0;decide
  | 3,_=>rw[if_neg (by decide)];show (1:Int)≠0;decide
  | 4,_=>rw[if_neg (by decide)];show (1:Int)≠0;decide
  | 5,_=>
   rw[if_pos rfl]
   refine ⟨rfl,?_⟩
   show (xZ (ek ⟨sk,[],[],ds⟩ mR) (uN,now,il zI nQ 1 now 0 0 7)).1.1=_
   rw[hb,hlast]
  | k+6,h=>exact absurd h (by simp[fK,mR])
 ·unfold fK
  rw[vJ,hb,hlast]
end Go.Proofs.YtpibgolaaaemnaaGreatDoor
