/-
  
-/
import Derived.Test.YtpibgolaaaemnaaGreatDoorGUKOpen
namespace Go.Proofs.YtpibgolaaaemnaaGreatDoor
open Go.RowKit
set_option maxRecDepth 100000
theorem oO {P:Program} (w:World) (base:Nat) (t ty e:TypeId) (i:TypeInfo) (z:Value) (size bytes:Nat) (ht:P.underlying t=some (.slice e)) (hi:P.info? e=some i) (hz:i.zero=some z) (hsize:i.size=size) (hby:i.bytes=bytes) (hzs:z.cells.size=size) (hsz:0<size)
  (v:Value) (n:Nat) (xs:List Value) (hown:w.ownsRow base e size v n xs) (ad:Addr) (m c:Nat) (news:List Value) (hl:news.length=m*size) (hnews:∀ j u,news[j]?=some u→w.cell? (ad.add j)=some u) (h1:∀ u∈news,u.oneCell'=true) (hm:0<m)
  (h63:n+m≤maxLen) (hbytes:(n+m)*bytes≤140737488355328) (hbase:base≤w.heap.size) :
  ∃ ao c' w',(Builtin.append_ #[t,t] ty #[v,.slice (some ad) m c]).run P w = .ok (.slice ao (n+m) c') w'∧w'.ownsRow base e size (.slice ao (n+m) c') (n+m) (xs++news)∧CF w w' (fun b _=>v.ownBlock=some b)∧((Value.slice ao (n+m) c').ownBlock=v.ownBlock∨(Value.slice ao (n+m) c').ownBlock=some w.heap.size):=by
 obtain ⟨v',w',hrun,r1,r2,r3⟩:=rY (P:=P) w base t ty e i z size bytes ht hi hz hsize hby hzs hsz v n xs hown ad m c news hl hnews h1 hm h63 hbytes hbase
 obtain ⟨ao,c',rfl⟩:=pq r1
 refine ⟨ao,c',w',hrun,r1,?_,r3⟩
 subst hsize
 subst hby
 have aa5:n+m≤9223372036854775807:=by simp only[maxLen] at h63;omega
 rcases hown.2 with ⟨rfl,rfl⟩ | ⟨g,cap,cur,rfl,hbg,hg,hnc',hcm,hcs,htake⟩
 ·exact CF.aW r2 _
 ·by_cases hroom:n+m≤cap
  ·have hfit:n*i.size+news.length≤cur.size:=by rw[hl,hcs,←Nat.add_mul];exact Nat.mul_le_mul_right _ hroom
   have hr:=run_append_room (P:=P) w t ty e i ht hi g n cap cur hg ad m c news hl hnews h1 hroom hfit
   rw[hr] at hrun
   injection hrun with _ hw
   subst hw
   refine ⟨rfl,rfl,rfl,r2.size,fun b hb hx=>r2.block b hb (fun e=>hx 0 e.symm),fun b ac3 e0 fz hc=>?_⟩
   by_cases hb:b=g
   ·subst hb
    rw[hg] at hc
    injection hc with hc
    injection hc with e1 e2 e3
    subst e1 e2 e3
    refine ⟨(cur.toList.take (n*i.size)++news++cur.toList.drop (n*i.size+news.length)).toArray,by simp[World.setRow,Array.getElem?_modify,hg],?_,fun o hx=>absurd rfl hx⟩
    simp only[List.size_toArray,List.length_append,List.length_take,List.length_drop,Array.length_toList]
    omega
   ·exact ⟨ac3,by rw[r2.block b (Array.getElem?_eq_some_iff.1 hc).1 (fun e=>hb (by injection e))];exact hc,rfl,fun _ _=>rfl⟩
  ·have holds:∀ j u,xs[j]?=some u→w.cell? ((⟨g,0,none⟩:Addr).add j)=some u:=hown.cells (g:=g) rfl
   have hr:=run_append_grow (P:=P) w t ty e i z ht hi hz ⟨g,0,none⟩ n cap xs hown.1 holds ad m c news hl hnews (by omega) (by omega) (growslice_fits (by omega) hbytes)
   rw[hr] at hrun
   injection hrun with _ hw
   subst hw
   exact (CF.aW (World.grownBy_alloc w.drew _ none) _).bM
theorem tC {P:Program} {ops:Array Oper} {o:Oper} {a:Act} {w:World} {K:Act→World→Prop} {Q:Exit→Act→World→Prop} {E:Prop}
  (hg:o.guard=none) (s x:Operand) (t:TypeId) (hop:o.op=Op.call {callee:=Callee.builtin Builtin.append,args:=#[s,x],argTypes:=#[t,t]})
  (base:Nat) (e:TypeId) (i:TypeInfo) (z:Value) (size bytes:Nat) (ht:P.underlying t=some (.slice e)) (hi:P.info? e=some i) (hz:i.zero=some z) (hsize:i.size=size) (hby:i.bytes=bytes) (hzs:z.cells.size=size) (hsz:0<size)
  (v:Value) (n:Nat) (xs:List Value) (hs:a.eval s=v) (hown:w.ownsRow base e size v n xs) (ad:Addr) (m c:Nat) (news:List Value) (hx:a.eval x = .slice (some ad) m c) (hl:news.length=m*size) (hnews:∀ j u,news[j]?=some u→w.cell? (ad.add j)=some u) (h1:∀ u∈news,u.oneCell'=true) (hm:0<m)
  (h63:n+m≤maxLen) (hbytes:(n+m)*bytes≤140737488355328) (hbase:base≤w.heap.size)
  (hK:∀ ao c' w',w'.ownsRow base e size (.slice ao (n+m) c') (n+m) (xs++news)→CF w w' (fun b _=>v.ownBlock=some b)→Hid ((Value.slice ao (n+m) c').ownBlock=v.ownBlock∨(Value.slice ao (n+m) c').ownBlock=some w.heap.size)→K (a.put o.dst (.slice ao (n+m) c')) w') :
  if Region.wanted o (yielded ops a.tmps)=true then Oper.wp P o a w K Q else E:=by
 have hw:Region.wanted o (yielded ops a.tmps)=true:=by simp[Region.wanted,hg]
 rw[if_pos hw]
 obtain ⟨ao,c',w',hrun,r1,r2,r3⟩:=oO (P:=P) w base t o.type e i z size bytes ht hi hz hsize hby hzs hsz v n xs hown ad m c news hl hnews h1 hm h63 hbytes hbase
 unfold Oper.wp
 simp[execOp,hop,resolve,invoke,builtin,hs,hx,hrun,Result.andThen]
 exact hK ao c' w' r1 r2 r3
theorem yf {P:Program} (w:World) {ops:Array Oper} {rest:List Oper} {o:Oper} {a:Act} {Q:Exit→Act→World→Prop}
  (hg:o.guard=none) (s x:Operand) (t:TypeId) (hop:o.op=Op.call {callee:=Callee.builtin Builtin.append,args:=#[s,x],argTypes:=#[t,t]})
  (base:Nat) (e:TypeId) (i:TypeInfo) (z:Value) (size bytes:Nat) (ht:P.underlying t=some (.slice e)) (hi:P.info? e=some i) (hz:i.zero=some z) (hsize:i.size=size) (hby:i.bytes=bytes) (hzs:z.cells.size=size) (hsz:0<size)
  (v:Value) (n:Nat) (xs:List Value) (hs:a.eval s=v) (hown:w.ownsRow base e size v n xs) (ad:Addr) (m c:Nat) (news:List Value) (hx:a.eval x = .slice (some ad) m c) (hl:news.length=m*size) (hnews:∀ j u,news[j]?=some u→w.cell? (ad.add j)=some u) (h1:∀ u∈news,u.oneCell'=true) (hm:0<m)
  (h63:n+m≤maxLen) (hbytes:(n+m)*bytes≤140737488355328) (hbase:base≤w.heap.size)
  (hK:∀ ao c' w',w'.ownsRow base e size (.slice ao (n+m) c') (n+m) (xs++news)→CF w w' (fun b _=>v.ownBlock=some b)→Hid ((Value.slice ao (n+m) c').ownBlock=v.ownBlock∨(Value.slice ao (n+m) c').ownBlock=some w.heap.size)→wpList P ops Q rest (a.put o.dst (.slice ao (n+m) c')) w') :
  wpList P ops Q (o::rest) a w:=by
 refine wpList_plain hg fun K hK'=>?_
 obtain ⟨ao,c',w',hrun,r1,r2,r3⟩:=oO (P:=P) w base t o.type e i z size bytes ht hi hz hsize hby hzs hsz v n xs hown ad m c news hl hnews h1 hm h63 hbytes hbase
 unfold Oper.wp
 simp[execOp,hop,resolve,invoke,builtin,hs,hx,hrun,Result.andThen]
 exact hK' _ _ (hK ao c' w' r1 r2 r3)
theorem fC {w w':World} {ex:Nat→Nat→Prop} {base:Nat} {e:TypeId} {size:Nat} {v:Value} {n:Nat} {xs:List Value} (h:w.ownsRow base e size v n xs) (k:CF w w' ex) (hx:∀ b,v.ownBlock=some b→∀ o,¬ ex b o):w'.ownsRow base e size v n xs:=by
 refine ⟨h.1,?_⟩
 rcases h.2 with hn | ⟨g,cap,cur,rfl,hb,hgg,rest⟩
 ·exact .inl hn
 ·exact .inr ⟨g,cap,cur,rfl,hb,by rw[k.block g (Array.getElem?_eq_some_iff.1 hgg).1 (hx g rfl)];exact hgg,rest⟩
def jO (a:Option Addr):Option Nat:=a.map Addr.block
theorem bV (a:Option Addr) (n c:Nat):(Value.slice a n c).ownBlock=jO a:=by cases a <;> rfl
structure Stp (w:World) (O:Nat→Prop) (w':World) (O':Nat→Prop):Prop where
 cf:CF w w' (fun b _=>O b)
 own:∀ b,O' b→O b∨w.heap.size≤b
theorem Stp.trans {a b c:World} {A B C:Nat→Prop} (h:Stp a A b B) (k:Stp b B c C):Stp a A c C:=by
 refine ⟨h.cf.trans k.cf (fun i _ hi e=>?_),fun i e=>?_⟩
 ·rcases h.own i e with q | q
  ·exact q
  ·omega
 ·rcases k.own i e with q | q
  ·exact h.own i q
  ·have:=h.cf.size;exact .inr (by omega)
theorem Stp.gb {w w':World} {O:Nat→Prop} (k:w.grownBy w' none):Stp w O w' O:=⟨CF.aW k _,fun _ e=>.inl e⟩
theorem Stp.refl (w:World) (O:Nat→Prop):Stp w O w O:=Stp.gb (World.grownBy.refl _ _)
theorem Stp.size {w w':World} {O O':Nat→Prop} (h:Stp w O w' O'):w.heap.size≤w'.heap.size:=h.cf.size
def KI (O:Nat→Prop) (w:World) (v:Value) (zs:List UInt8):Prop:=KH w v zs∧∀ b off n c,v = .slice (some ⟨b,off,none⟩) n c→b<w.heap.size∧¬ O b
theorem KI.step {w w':World} {O O':Nat→Prop} {v:Value} {zs:List UInt8} (h:KI O w v zs) (k:Stp w O w' O'):KI O' w' v zs:=by
 obtain ⟨ao,cap,hv⟩:=h.1.shape
 subst hv
 refine ⟨KH.ZO h.1 k.cf (fun b off e ⟨o,ho⟩=>(h.2 b off _ _ (by rw[e])).2 ho),fun b off n c e=>?_⟩
 obtain ⟨q1,q2⟩:=h.2 b off n c e
 refine ⟨Nat.lt_of_lt_of_le q1 k.size,fun e2=>?_⟩
 rcases k.own b e2 with q | q
 ·exact q2 q
 ·omega
theorem KI.made {O:Nat→Prop} {n:Nat} {w:World} {v:Value} {zs:List UInt8} (h:dL n w v zs) (hO:∀ b,O b→b<n):KI O w v zs:=
 ⟨h.has,fun b off m c e=>⟨(h.place b off m c e).2,fun q=>by have:=(h.place b off m c e).1;have:=hO b q;omega⟩⟩
theorem KI.nil (O:Nat→Prop) (w:World):KI O w (.slice none 0 0) []:=⟨⟨none,0,rfl,Nat.le_refl _,by decide,fun _=>rfl,At.nil _ _⟩,fun b off n c e=>by cases e⟩
def Da (O:Nat→Prop) (w:World) (cs:List Value):Prop:=cs.length=17∧∃ v zs,∃ jY:UInt64,cs[0]?=some v∧cs[14]?=some (.int .u64 (jY.toNat:Int))∧KI O w v zs∧zs.length≤2000
theorem Da.step {w w':World} {O O':Nat→Prop} {cs:List Value} (h:Da O w cs) (k:Stp w O w' O'):Da O' w' cs:=by
 obtain ⟨h0,v,zs,jY,h1,h2,h3,h4⟩:=h
 exact ⟨h0,v,zs,jY,h1,h2,h3.step k,h4⟩
def eU (lo hi pb:Nat) (ca la ma:Option Addr) (b:Nat):Prop:=(lo≤b∧b<hi)∨b=pb∨jO ca=some b∨jO la=some b∨jO ma=some b
abbrev Nl (gp gq:Nat) (cv lv mv:Value) (now:Int):Array Value:=#[.pointer (some ⟨gp,0,none⟩),.pointer none,.pointer none,.pointer (some ⟨gq,0,none⟩),cv,lv,mv,.int .i64 now]
structure TL where
 lo:Nat
 mid:Nat
 hi:Nat
 gp:Nat
 gq:Nat
 pb:Nat
structure TS (w0:World) (L:TL) (Mp Mq:DM) (cs:List (List Value)) (ls:List (List UInt8)) (ms:List (Value×List UInt8)) (now:Int) (ca la ma:Option Addr) (cc lc mc:Nat) (w:World):Prop where
 plain:KS false L.lo L.mid w L.gp Mp
 quick:KS true L.mid L.hi w L.gq Mq
 pair:bI w L.pb (Nl L.gp L.gq (.slice ca cs.length cc) (.slice la ls.length lc) (.slice ma ms.length mc) now)
 came:w.ownsRow L.hi 81 17 (.slice ca cs.length cc) cs.length cs.flatten
 names:w.ownsRow L.hi 9 1 (.slice la ls.length lc) ls.length (ls.map fun l=>.string ⟨l.toArray⟩)
 made:w.ownsRow L.hi 25 1 (.slice ma ms.length mc) ms.length (ms.map fun x=>x.1)
 vL:jO ca≠some L.pb∧jO la≠some L.pb∧jO ma≠some L.pb
 Cn:(∀ b,jO ca=some b→jO la≠some b)∧(∀ b,jO ca=some b→jO ma≠some b)∧(∀ b,jO la=some b→jO ma≠some b)
 FL:∀ x∈cs,Da (eU L.lo L.hi L.pb ca la ma) w x
 BU:∀ l∈ls,l.length≤20
 uu:∀ x∈ms,KI (eU L.lo L.hi L.pb ca la ma) w x.1 x.2∧x.2.length≤140737488355328
 now:In64 now
 Nn:Below w0.heap.size w0 w
 ord:w0.heap.size≤L.lo∧L.lo≤L.mid∧L.mid≤L.hi∧L.hi≤L.pb
section
variable {w0:World} {L:TL} {Mp Mq:DM} {cs:List (List Value)} {ls:List (List UInt8)} {ms:List (Value×List UInt8)} {now:Int} {ca la ma:Option Addr} {cc lc mc:Nat} {w:World}
theorem TS.ge (h:TS w0 L Mp Mq cs ls ms now ca la ma cc lc mc w):(∀ b,jO ca=some b→L.hi≤b∧b<w.heap.size)∧(∀ b,jO la=some b→L.hi≤b∧b<w.heap.size)∧(∀ b,jO ma=some b→L.hi≤b∧b<w.heap.size):=
 ⟨fun b e=>h.came.lt b (by rw[bV];exact e),fun b e=>h.names.lt b (by rw[bV];exact e),fun b e=>h.made.lt b (by rw[bV];exact e)⟩
theorem TS.hil (h:TS w0 L Mp Mq cs ls ms now ca la ma cc lc mc w):L.hi<w.heap.size:=by
 have:=h.pair.lt
 have:=h.ord
 omega
theorem TS.lt (h:TS w0 L Mp Mq cs ls ms now ca la ma cc lc mc w):∀ b,eU L.lo L.hi L.pb ca la ma b→b<w.heap.size:=by
 obtain ⟨h1,h2,h3⟩:=h.ge
 have:=h.hil
 rintro b (e | e | e | e | e)
 ·omega
 ·rw[e];exact h.pair.lt
 ·exact (h1 b e).2
 ·exact (h2 b e).2
 ·exact (h3 b e).2
theorem TS.low (h:TS w0 L Mp Mq cs ls ms now ca la ma cc lc mc w):∀ b,eU L.lo L.hi L.pb ca la ma b→w0.heap.size≤b:=by
 obtain ⟨h1,h2,h3⟩:=h.ge
 have:=h.ord
 rintro b (e | e | e | e | e)
 ·omega
 ·omega
 ·have:=h1 b e;omega
 ·have:=h2 b e;omega
 ·have:=h3 b e;omega
theorem TS.below {w':World} {O':Nat→Prop} (h:TS w0 L Mp Mq cs ls ms now ca la ma cc lc mc w) (k:Stp w (eU L.lo L.hi L.pb ca la ma) w' O'):Below w0.heap.size w0 w':=
 h.Nn.trans (k.cf.below h.Nn.size (fun b _ hb e=>by have:=h.low b e;omega))
theorem TS.gb {w':World} (h:TS w0 L Mp Mq cs ls ms now ca la ma cc lc mc w) (k:w.grownBy w' none):TS w0 L Mp Mq cs ls ms now ca la ma cc lc mc w':=
 have s:=Stp.gb (O:=eU L.lo L.hi L.pb ca la ma) k
 ⟨h.plain.gb k,h.quick.gb k,h.pair.grown k (by simp),h.came.kept k (Classical.em _),h.names.kept k (Classical.em _),h.made.kept k (Classical.em _),h.vL,h.Cn,fun x hx=>(h.FL x hx).step s,h.BU,fun x hx=>⟨(h.uu x hx).1.step s,(h.uu x hx).2⟩,h.now,h.below s,h.ord⟩
theorem TS.Np (_h:TS w0 L Mp Mq cs ls ms now ca la ma cc lc mc w) (lo hi:Nat) (h1:L.lo≤lo) (h2:hi≤L.hi):∀ b,lo≤b∧b<hi→eU L.lo L.hi L.pb ca la ma b:=fun b e=>.inl (by omega)
theorem FR.stp {lo hi:Nat} {w w':World} {O:Nat→Prop} (k:FR lo hi w w') (hO:∀ b,lo≤b∧b<hi→O b):Stp w O w' O:=⟨CF.mono k (fun b _ _ e=>hO b e),fun _ e=>.inl e⟩
theorem TS.fr {w':World} {Mp' ZQ:DM} (h:TS w0 L Mp Mq cs ls ms now ca la ma cc lc mc w) (k:FR L.lo L.hi w w') (hp:KS false L.lo L.mid w' L.gp Mp') (hq:KS true L.mid L.hi w' L.gq ZQ):TS w0 L Mp' ZQ cs ls ms now ca la ma cc lc mc w':=by
 have s:=k.stp (h.Np L.lo L.hi (Nat.le_refl _) (Nat.le_refl _))
 obtain ⟨h1,h2,h3⟩:=h.ge
 refine ⟨hp,hq,h.pair.fr k (.inr h.ord.2.2.2),fC h.came k (fun b e o q=>?_),fC h.names k (fun b e o q=>?_),fC h.made k (fun b e o q=>?_),h.vL,h.Cn,fun x hx=>(h.FL x hx).step s,h.BU,fun x hx=>⟨(h.uu x hx).1.step s,(h.uu x hx).2⟩,h.now,h.below s,h.ord⟩
 ·rw[bV] at e;have:=h1 b e;omega
 ·rw[bV] at e;have:=h2 b e;omega
 ·rw[bV] at e;have:=h3 b e;omega
theorem TS.Nq {w':World} {Mp':DM} (h:TS w0 L Mp Mq cs ls ms now ca la ma cc lc mc w) (k:FR L.lo L.mid w w') (hp:KS false L.lo L.mid w' L.gp Mp'):TS w0 L Mp' Mq cs ls ms now ca la ma cc lc mc w':=
 h.fr (CF.mono k (fun b _ _ e=>by have:=h.ord;omega)) hp (h.quick.cf k (fun b _ e=>.inl e.2))
theorem TS.WX {w':World} {ZQ:DM} (h:TS w0 L Mp Mq cs ls ms now ca la ma cc lc mc w) (k:FR L.mid L.hi w w') (hq:KS true L.mid L.hi w' L.gq ZQ):TS w0 L Mp ZQ cs ls ms now ca la ma cc lc mc w':=
 h.fr (CF.mono k (fun b _ _ e=>by have:=h.ord;omega)) (h.plain.cf k (fun b _ e=>.inr e.1)) hq
theorem TS.put {w':World} {cs':List (List Value)} {ls':List (List UInt8)} {ms':List (Value×List UInt8)} {now':Int} {BV la' rQ:Option Addr} {cc' Qs mc':Nat} (h:TS w0 L Mp Mq cs ls ms now ca la ma cc lc mc w)
  (k:CF w w' (fun b _=>b=L.pb∨jO ca=some b∨jO la=some b∨jO ma=some b))
  (hb:∀ b,eU L.lo L.hi L.pb BV la' rQ b→eU L.lo L.hi L.pb ca la ma b∨w.heap.size≤b)
  (pair:bI w' L.pb (Nl L.gp L.gq (.slice BV cs'.length cc') (.slice la' ls'.length Qs) (.slice rQ ms'.length mc') now'))
  (came:w'.ownsRow L.hi 81 17 (.slice BV cs'.length cc') cs'.length cs'.flatten)
  (names:w'.ownsRow L.hi 9 1 (.slice la' ls'.length Qs) ls'.length (ls'.map fun l=>.string ⟨l.toArray⟩))
  (made:w'.ownsRow L.hi 25 1 (.slice rQ ms'.length mc') ms'.length (ms'.map fun x=>x.1))
  (vL:jO BV≠some L.pb∧jO la'≠some L.pb∧jO rQ≠some L.pb)
  (Cn:(∀ b,jO BV=some b→jO la'≠some b)∧(∀ b,jO BV=some b→jO rQ≠some b)∧(∀ b,jO la'=some b→jO rQ≠some b))
  (FL:∀ x∈cs',x∈cs∨Da (eU L.lo L.hi L.pb ca la ma) w x) (BU:∀ l∈ls',l.length≤20) (uu:∀ x∈ms',x∈ms∨(KI (eU L.lo L.hi L.pb ca la ma) w x.1 x.2∧x.2.length≤140737488355328)) (dC:In64 now') :
  TS w0 L Mp Mq cs' ls' ms' now' BV la' rQ cc' Qs mc' w'∧Stp w (eU L.lo L.hi L.pb ca la ma) w' (eU L.lo L.hi L.pb BV la' rQ):=by
 have s:Stp w (eU L.lo L.hi L.pb ca la ma) w' (eU L.lo L.hi L.pb BV la' rQ):=⟨k.mono (fun b _ _ e=>.inr e),hb⟩
 obtain ⟨h1,h2,h3⟩:=h.ge
 have ho:=h.ord
 have hx:∀ b y,(fun (b _:Nat)=>b=L.pb∨jO ca=some b∨jO la=some b∨jO ma=some b) b y→L.hi≤b:=by
  rintro b y (e | e | e | e)
  ·omega
  ·exact (h1 b e).1
  ·exact (h2 b e).1
  ·exact (h3 b e).1
 refine ⟨⟨h.plain.cf k (fun b y e=>.inr (by have:=hx b y e;omega)),h.quick.cf k (fun b y e=>.inr (hx b y e)),pair,came,names,made,vL,Cn,fun x hm=>?_,BU,fun x hm=>?_,dC,h.below s,ho⟩,s⟩
 ·rcases FL x hm with q | q
  ·exact (h.FL x q).step s
  ·exact q.step s
 ·rcases uu x hm with q | q
  ·exact ⟨(h.uu x q).1.step s,(h.uu x q).2⟩
  ·exact ⟨q.1.step s,q.2⟩
theorem TS.ZR (h:TS w0 L Mp Mq cs ls ms now ca la ma cc lc mc w) (n:Int) (hn:In64 n):TS w0 L Mp Mq cs ls ms n ca la ma cc lc mc (w.setCell ⟨L.pb,7,none⟩ (.int .i64 n)):=by
 have k:CF w (w.setCell ⟨L.pb,7,none⟩ (.int .i64 n)) (fun b _=>b=L.pb):=(CF.refl w _).setCell _ _ _ (fun _=>rfl)
 have hne:∀ {b:Nat} {a:Option Addr},jO a≠some L.pb→jO a=some b→¬ b=L.pb:=fun h1 h2 e=>h1 (by rw[h2];exact congrArg some e)
 refine (h.put (k.mono (fun _ _ _ e=>.inl e)) (fun _ e=>.inl e) (by simpa using h.pair.set 7 (.int .i64 n)) (fC h.came k (fun b e o=>hne h.vL.1 (by rw[bV] at e;exact e))) (fC h.names k (fun b e o=>hne h.vL.2.1 (by rw[bV] at e;exact e))) (fC h.made k (fun b e o=>hne h.vL.2.2 (by rw[bV] at e;exact e))) h.vL h.Cn (fun _ e=>.inl e) h.BU (fun _ e=>.inl e) hn).1
theorem TS.WY {w1:World} {rQ:Option Addr} {mc':Nat} {v:Value} {zs:List UInt8} (h:TS w0 L Mp Mq cs ls ms now ca la ma cc lc mc w) (k:CF w w1 (fun b _=>jO ma=some b)) (ho:w1.ownsRow L.hi 25 1 (.slice rQ (ms.length+1) mc') (ms.length+1) (ms.map (fun x=>x.1)++[v])) (hb:jO rQ=jO ma∨∃ b,jO rQ=some b∧w.heap.size≤b)
  (hv:KI (eU L.lo L.hi L.pb ca la ma) w v zs) (hz:zs.length≤140737488355328) :
  TS w0 L Mp Mq cs ls (ms++[(v,zs)]) now ca la rQ cc lc mc' (w1.setCell ⟨L.pb,6,none⟩ (.slice rQ (ms.length+1) mc'))∧Stp w (eU L.lo L.hi L.pb ca la ma) (w1.setCell ⟨L.pb,6,none⟩ (.slice rQ (ms.length+1) mc')) (eU L.lo L.hi L.pb ca la rQ):=by
 have k2:CF w1 (w1.setCell ⟨L.pb,6,none⟩ (.slice rQ (ms.length+1) mc')) (fun b _=>b=L.pb):=(CF.refl w1 _).setCell _ _ _ (fun _=>rfl)
 obtain ⟨h1,h2,h3⟩:=h.ge
 have hpl:=h.pair.lt
 have hm':jO rQ≠some L.pb:=by
  rcases hb with e | ⟨b,e,hb⟩
  ·rw[e];exact h.vL.2.2
  ·rw[e];intro q;injection q with q;omega
 have BX:∀ {b:Nat} {a:Option Addr},jO a≠some L.pb→jO a=some b→¬ b=L.pb:=fun h1 h2 e=>h1 (by rw[h2];exact congrArg some e)
 have hlen:(ms++[(v,zs)]).length=ms.length+1:=by simp
 refine h.put ((k.mono (fun _ _ _ e=>.inr (.inr (.inr e)))).trans k2 (fun _ _ _ e=>.inl e)) (fun b e=>?_) ?_ (fC (fC h.came k (fun b e o q=>by rw[bV] at e;exact h.Cn.2.1 b e q)) k2 (fun b e o=>BX h.vL.1 (by rw[bV] at e;exact e))) (fC (fC h.names k (fun b e o q=>by rw[bV] at e;exact h.Cn.2.2 b e q)) k2 (fun b e o=>BX h.vL.2.1 (by rw[bV] at e;exact e))) ?_ ⟨h.vL.1,h.vL.2.1,hm'⟩ ⟨h.Cn.1,fun b e q=>?_,fun b e q=>?_⟩ (fun _ e=>.inl e) h.BU (fun x hx=>?_) h.now
 ·rcases e with e | e | e | e | e
  ·exact .inl (.inl e)
  ·exact .inl (.inr (.inl e))
  ·exact .inl (.inr (.inr (.inl e)))
  ·exact .inl (.inr (.inr (.inr (.inl e))))
  ·rcases hb with q | ⟨b',q,hb⟩
   ·rw[q] at e;exact .inl (.inr (.inr (.inr (.inr e))))
   ·rw[q] at e;injection e with e;exact .inr (by omega)
 ·rw[hlen]
  have:=(h.pair.Uq k (fun o q=>h.vL.2.2 q)).set 6 (.slice rQ (ms.length+1) mc')
  simpa using this
 ·rw[hlen,List.map_append]
  exact fC ho k2 (fun b e o=>BX hm' (by rw[bV] at e;exact e))
 ·rcases hb with p | ⟨b',p,hb⟩
  ·rw[p] at q;exact h.Cn.2.1 b e q
  ·rw[p] at q;injection q with q;have:=(h1 b e).2;omega
 ·rcases hb with p | ⟨b',p,hb⟩
  ·rw[p] at q;exact h.Cn.2.2 b e q
  ·rw[p] at q;injection q with q;have:=(h2 b e).2;omega
 ·rcases List.mem_append.1 hx with q | q
  ·exact .inl q
  ·rw[List.mem_singleton.1 q];exact .inr ⟨hv,hz⟩
theorem TS.WZ {w1:World} {BV:Option Addr} {cc':Nat} {x:List Value} (h:TS w0 L Mp Mq cs ls ms now ca la ma cc lc mc w) (k:CF w w1 (fun b _=>jO ca=some b)) (ho:w1.ownsRow L.hi 81 17 (.slice BV (cs.length+1) cc') (cs.length+1) (cs.flatten++x)) (hb:jO BV=jO ca∨∃ b,jO BV=some b∧w.heap.size≤b)
  (hv:Da (eU L.lo L.hi L.pb ca la ma) w x) :
  TS w0 L Mp Mq (cs++[x]) ls ms now BV la ma cc' lc mc (w1.setCell ⟨L.pb,4,none⟩ (.slice BV (cs.length+1) cc'))∧Stp w (eU L.lo L.hi L.pb ca la ma) (w1.setCell ⟨L.pb,4,none⟩ (.slice BV (cs.length+1) cc')) (eU L.lo L.hi L.pb BV la ma):=by
 have k2:CF w1 (w1.setCell ⟨L.pb,4,none⟩ (.slice BV (cs.length+1) cc')) (fun b _=>b=L.pb):=(CF.refl w1 _).setCell _ _ _ (fun _=>rfl)
 obtain ⟨h1,h2,h3⟩:=h.ge
 have hpl:=h.pair.lt
 have hm':jO BV≠some L.pb:=by
  rcases hb with e | ⟨b,e,hb⟩
  ·rw[e];exact h.vL.1
  ·rw[e];intro q;injection q with q;omega
 have BX:∀ {b:Nat} {a:Option Addr},jO a≠some L.pb→jO a=some b→¬ b=L.pb:=fun h1 h2 e=>h1 (by rw[h2];exact congrArg some e)
 have hlen:(cs++[x]).length=cs.length+1:=by simp
 refine h.put ((k.mono (fun _ _ _ e=>.inr (.inl e))).trans k2 (fun _ _ _ e=>.inl e)) (fun b e=>?_) ?_ ?_ (fC (fC h.names k (fun b e o q=>by rw[bV] at e;exact h.Cn.1 b q e)) k2 (fun b e o=>BX h.vL.2.1 (by rw[bV] at e;exact e))) (fC (fC h.made k (fun b e o q=>by rw[bV] at e;exact h.Cn.2.1 b q e)) k2 (fun b e o=>BX h.vL.2.2 (by rw[bV] at e;exact e))) ⟨hm',h.vL.2.1,h.vL.2.2⟩ ⟨fun b e q=>?_,fun b e q=>?_,h.Cn.2.2⟩ (fun y hy=>?_) h.BU (fun _ e=>.inl e) h.now
 ·rcases e with e | e | e | e | e
  ·exact .inl (.inl e)
  ·exact .inl (.inr (.inl e))
  ·rcases hb with q | ⟨b',q,hb⟩
   ·rw[q] at e;exact .inl (.inr (.inr (.inl e)))
   ·rw[q] at e;injection e with e;exact .inr (by omega)
  ·exact .inl (.inr (.inr (.inr (.inl e))))
  ·exact .inl (.inr (.inr (.inr (.inr e))))
 ·rw[hlen]
  have:=(h.pair.Uq k (fun o q=>h.vL.1 q)).set 4 (.slice BV (cs.length+1) cc')
  simpa using this
 ·rw[hlen,List.flatten_append,List.flatten_cons,List.flatten_nil,List.append_nil]
  exact fC ho k2 (fun b e o=>BX hm' (by rw[bV] at e;exact e))
 ·rcases hb with p | ⟨b',p,hb⟩
  ·rw[p] at e;exact h.Cn.1 b e q
  ·rw[p] at e;injection e with e;have:=(h2 b q).2;omega
 ·rcases hb with p | ⟨b',p,hb⟩
  ·rw[p] at e;exact h.Cn.2.1 b e q
  ·rw[p] at e;injection e with e;have:=(h3 b q).2;omega
 ·rcases List.mem_append.1 hy with q | q
  ·exact .inl q
  ·rw[List.mem_singleton.1 q];exact .inr hv
theorem TS.Xa {w1:World} {la':Option Addr} {Qs:Nat} {l:List UInt8} (h:TS w0 L Mp Mq cs ls ms now ca la ma cc lc mc w) (k:CF w w1 (fun b _=>jO la=some b)) (ho:w1.ownsRow L.hi 9 1 (.slice la' (ls.length+1) Qs) (ls.length+1) (ls.map (fun l=>.string ⟨l.toArray⟩)++[.string ⟨l.toArray⟩])) (hb:jO la'=jO la∨∃ b,jO la'=some b∧w.heap.size≤b)
  (hl:l.length≤20) :
  TS w0 L Mp Mq cs (ls++[l]) ms now ca la' ma cc Qs mc (w1.setCell ⟨L.pb,5,none⟩ (.slice la' (ls.length+1) Qs))∧Stp w (eU L.lo L.hi L.pb ca la ma) (w1.setCell ⟨L.pb,5,none⟩ (.slice la' (ls.length+1) Qs)) (eU L.lo L.hi L.pb ca la' ma):=by
 have k2:CF w1 (w1.setCell ⟨L.pb,5,none⟩ (.slice la' (ls.length+1) Qs)) (fun b _=>b=L.pb):=(CF.refl w1 _).setCell _ _ _ (fun _=>rfl)
 obtain ⟨h1,h2,h3⟩:=h.ge
 have hpl:=h.pair.lt
 have hm':jO la'≠some L.pb:=by
  rcases hb with e | ⟨b,e,hb⟩
  ·rw[e];exact h.vL.2.1
  ·rw[e];intro q;injection q with q;omega
 have BX:∀ {b:Nat} {a:Option Addr},jO a≠some L.pb→jO a=some b→¬ b=L.pb:=fun h1 h2 e=>h1 (by rw[h2];exact congrArg some e)
 have hlen:(ls++[l]).length=ls.length+1:=by simp
 refine h.put ((k.mono (fun _ _ _ e=>.inr (.inr (.inl e)))).trans k2 (fun _ _ _ e=>.inl e)) (fun b e=>?_) ?_ (fC (fC h.came k (fun b e o q=>by rw[bV] at e;exact h.Cn.1 b e q)) k2 (fun b e o=>BX h.vL.1 (by rw[bV] at e;exact e))) ?_ (fC (fC h.made k (fun b e o q=>by rw[bV] at e;exact h.Cn.2.2 b q e)) k2 (fun b e o=>BX h.vL.2.2 (by rw[bV] at e;exact e))) ⟨h.vL.1,hm',h.vL.2.2⟩ ⟨fun b e q=>?_,h.Cn.2.1,fun b e q=>?_⟩ (fun _ e=>.inl e) (fun y hy=>?_) (fun _ e=>.inl e) h.now
 ·rcases e with e | e | e | e | e
  ·exact .inl (.inl e)
  ·exact .inl (.inr (.inl e))
  ·exact .inl (.inr (.inr (.inl e)))
  ·rcases hb with q | ⟨b',q,hb⟩
   ·rw[q] at e;exact .inl (.inr (.inr (.inr (.inl e))))
   ·rw[q] at e;injection e with e;exact .inr (by omega)
  ·exact .inl (.inr (.inr (.inr (.inr e))))
 ·rw[hlen]
  have:=(h.pair.Uq k (fun o q=>h.vL.2.1 q)).set 5 (.slice la' (ls.length+1) Qs)
  simpa using this
 ·rw[hlen,List.map_append]
  exact fC ho k2 (fun b e o=>BX hm' (by rw[bV] at e;exact e))
 ·rcases hb with p | ⟨b',p,hb⟩
  ·rw[p] at q;exact h.Cn.1 b e q
  ·rw[p] at q;injection q with q;have:=(h1 b e).2;omega
 ·rcases hb with p | ⟨b',p,hb⟩
  ·rw[p] at e;exact h.Cn.2.2 b e q
  ·rw[p] at e;injection e with e;have:=(h3 b q).2;omega
 ·rcases List.mem_append.1 hy with q | q
  ·exact h.BU y q
  ·rw[List.mem_singleton.1 q];exact hl
end
def TI (w0:World) (L:TL) (Mp Mq:DM) (n C:Nat) (O:Nat→Prop) (w:World):Prop:=
 ∃ cs ls ms now ca la ma cc lc mc,O=eU L.lo L.hi L.pb ca la ma∧TS w0 L Mp Mq cs ls ms now ca la ma cc lc mc w∧cs.length=C∧ls.length=C∧ms.length≤n
theorem TI.lt {w0:World} {L:TL} {Mp Mq:DM} {n C:Nat} {O:Nat→Prop} {w:World} (h:TI w0 L Mp Mq n C O w):∀ b,O b→b<w.heap.size:=by
 obtain ⟨cs,ls,ms,now,ca,la,ma,cc,lc,mc,rfl,h,_⟩:=h
 exact h.lt
theorem TI.gb {w0:World} {L:TL} {Mp Mq:DM} {n C:Nat} {O:Nat→Prop} {w w':World} (h:TI w0 L Mp Mq n C O w) (k:w.grownBy w' none):TI w0 L Mp Mq n C O w':=by
 obtain ⟨cs,ls,ms,now,ca,la,ma,cc,lc,mc,rfl,h,q⟩:=h
 exact ⟨cs,ls,ms,now,ca,la,ma,cc,lc,mc,rfl,h.gb k,q⟩
theorem TI.Nn {w0:World} {L:TL} {Mp Mq:DM} {n C:Nat} {O:Nat→Prop} {w:World} (h:TI w0 L Mp Mq n C O w):Below w0.heap.size w0 w:=by
 obtain ⟨cs,ls,ms,now,ca,la,ma,cc,lc,mc,rfl,h,_⟩:=h
 exact h.Nn
end Go.Proofs.YtpibgolaaaemnaaGreatDoor
