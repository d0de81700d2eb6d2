import Derived.Test.YteknelimjfgmaaaGreatDoorGJRBoxG
import Derived.Test.YteknelimjfgmaaaGreatDoorGJSep
namespace Go.Proofs.YteknelimjfgmaaaGreatDoor
set_option maxHeartbeats 4000000
open Proofs.Tryz Go.RowKit
set_option maxRecDepth 100000
theorem Tryz.Qa:(prog.info? 117).map (fun i=>(i.zero,i.size,i.bytes))=some (some (.agg uS),2,32):=by kernel_rfl
structure Pc where
 tag:UInt8
 ad:Option Addr
 cap:Nat
 ins:List UInt8
def Pc.cells (p:Pc):List Value:=[.int .u8 (p.tag.toNat:Int),.slice p.ad p.ins.length p.cap]
def nW (l:List Pc):List Value:=(l.map Pc.cells).flatten
def Pc.pair (p:Pc):UInt8×List UInt8:=(p.tag,p.ins)
def aaF (ao:Option Addr) (zs:List UInt8) (cap:Nat) (p:Pc):Prop:=(∀ w0,At w0 ao zs->At w0 p.ad p.ins)/\p.ins.length<=p.cap/\p.cap<=cap
theorem Gs (l:List Pc) (x:Pc):nW (l++[x])=nW l++x.cells:=by simp[nW]
def Zu:Value->Nat
 | .slice _ n _=>n
 | _=>0
theorem EY {l:List UInt8} (h:l.length<2):Box.cut l=none:=by
 rw[<-Box.ER,Box.again,if_neg (fun h'=>by omega)]
theorem afk {p:Prop} (h:p:=by
 go_wp2
 go_ret2
 exact ⟨fun ps h=>by rw[HN.o] at h;simp at h,fun _=>rfl,G1⟩):p:=h
theorem Jj (zs:List UInt8) (n:Nat) (ao:Option Addr) (cap:Nat) (w:World) (hn:Hid (zs.length=n)) (hl:n<=100000) (hcap:n<=cap) (hcm:cap<=9223372036854775807) (hc:At w ao zs) :
  Calls prog 68 #[.slice ao n cap] w fun e w'=>
   (∀ ps,Box.dH zs=some ps->∃ v l,e = .returned (.tuple #[v,.bool true])/\w'.ownsRow w.heap.size 117 2 v l.length (nW l)/\l.map Pc.pair=ps/\∀ p∈l,aaF ao zs cap p)/\
   (Box.dH zs=none->e = .returned (.tuple #[.slice none 0 0,.bool false]))/\w.grownBy w' none:=by
 obtain ⟨ip,hip,hp0,hp1,hp2⟩:=info_parts Tryz.Qa
 go_enter func68,ntmps68
 go_wp2
 go_loopw [0,4] (fun bv lv wr=>∃ (l:List Pc) (r:List UInt8) (m:Nat) (a:Option Addr) (c:Nat),bv = .slice a m c/\Hid (r.length=m)/\m<=c/\c<=cap/\Hid (∀ w0,At w0 ao zs->At w0 a r)/\wr.ownsRow w.heap.size 117 2 lv l.length (nW l)/\w.grownBy wr none/\Hid (Box.dH zs=(Box.dH r).map (l.map Pc.pair++·))/\Hid (∀ p∈l,aaF ao zs cap p)/\l.length+m<=n) (fun bv _ _=>Zu bv)
 case atStart=>exact ⟨[],zs,n,ao,cap,rfl,hn,hcap,bd _,hid (fun _ h=>h),World.ownsRow_nil _ _ _ _,bh _ _,by show _=_;cases Box.dH zs <;> simp,by intro p hp;simp at hp,by simp⟩
 case round=>
  obtain ⟨l,r,m,a,c,rfl,HM,hmc,hcc,HAt,hown,hgr,HC,oW,hlm⟩:=hrel;by_cases hm0:0<m
  ·have an0:(0:Int)<(m:Int):=(by omega);by_cases hm2:m<2
   ·have HN:Hid (Box.dH zs=none):=by
     show _=_;rw[HC.o,Box.nk (by rw[HM.o];exact hm0) (EY (by rw[HM.o];exact hm2))];rfl
    clear HC;go_wp2_with fail;refine (zY m a c _ hm2).mono ?_;rintro e w1 ⟨rfl,hg1⟩;have G1:=aR (aa hgr hg1) (.cells uS 117);clear hown hg1;exact afk
   ·have adU:=HAt.o _ (hc.below hgr);obtain ⟨b,off,rfl,_⟩:=adU.addr (by rw[HM.o];omega);have hF:=P7 r m b off c _ HM afp afp hmc afp adU;cases hcu:Box.cut r with
    | none=>
     have HN:Hid (Box.dH zs=none):=by
      show _=_;rw[HC.o,Box.nk (by rw[HM.o];exact hm0) hcu];rfl
     rw[hcu] at hF;clear HC hcu;go_wp2_with fail;refine hF.mono ?_;rintro e w1 ⟨_,k2,hg1⟩;obtain ⟨x,xa,xk,xc,rfl⟩:=k2 trivial;have G1:=aR (aa hgr hg1) (.cells #[.int .u8 x,.slice xa xk xc] 117);clear hown hg1 hF k2;exact afk
    | some tr=>
     obtain ⟨tag,i,r'⟩:=tr;have hcl:=Box.jF hcu;rw[HM.o] at hcl;have HC':Hid (Box.dH zs=(Box.dH r').map (l.map Pc.pair++[(tag,i)]++·)):=by
      show _=_;rw[HC.o,Box.pX hcu];cases Box.dH r' with
      | none=>rfl
      | some ps=>simp
     rw[hcu] at hF;clear HC hcu;go_wp2_with fail;refine hF.mono ?_;rintro e w1 ⟨k1,_,hg1⟩;obtain ⟨a1,c1,a2,c2,rfl,hx1,hx2,hx3,hy1,hy2,hy3⟩:=k1 tag i r' rfl;have hown1:=hown.kept hg1 (eW _);have G1:=aa hgr hg1;have hsz1:=G1.size;have AA:l.length+1<=maxLen:=(by unfold maxLen;omega);have hll:(l.length+1)*32<=140737488355328:=(by omega);obtain ⟨p,hp⟩:∃ p:Pc,p=⟨tag,a1,c1,i⟩:=⟨_,rfl⟩
     have HP:Hid (p.cells=[.int .u8 (tag.toNat:Int),.slice a1 i.length c1]):=(by subst hp;rfl);have XD:Hid (p.pair=(tag,i)):=(by subst hp;rfl);have HP3:Hid (aaF ao zs cap p):=(by subst hp;exact ⟨fun w0 h=>hx1 w0 (HAt.o w0 h),hx2,by show c1<=cap;omega⟩);have ahL:Hid (∀ w0,At w0 ao zs->At w0 a2 r'):=fun w0 h=>hy1 w0 (HAt.o w0 h);clear hown hg1 hF k1 hp hx1 hy1;go_wp2_with (at_builtin;refine gN _ rfl _ _ 178 rfl w.heap.size 117 ip _ 2 32 underlying178 hip hp0 hp1 hp2 rfl afq _ _ _ rfl ((hown1.alloc _).alloc _) ⟨w1.heap.size+1,0,none⟩ 1 1 [.int .u8 (tag.toNat:Int),.slice a1 i.length c1] rfl rfl ?q1 (by intro u hu;simp at hu;rcases hu with rfl | rfl <;> rfl) afp AA hll afz ?_)
     case q1=>
      have:=lY (w1.alloc (.cells #[.int .u8 (tag.toNat:Int),.slice a1 i.length c1] 117)) 117 [.int .u8 (tag.toNat:Int),.slice a1 i.length c1];rw[ch] at this;exact this
     intro v2 w2 hown2 hg2 _;have G2:w.grownBy w2 none:=iw (aR (aR G1 _) _) hg2 (fun j hj=>(hown1.lt j hj).1);clear hown1 hg2 G1;go_wp2;go_roundw
     case rel=>
      refine ⟨l++[p],r',r'.length,a2,c2,rfl,hid rfl,hy2,by omega,ahL,?_,G2,?_,?_,?_⟩
      ·rw[Gs,HP.o,bj];exact hown2
      ·show _=_;rw[HC'.o,cW,dj,eV,XD.o]
      ·intro q hq;rcases eg.1 hq with h | h
       ·exact oW.o q h
       ·rw[da.1 h];exact HP3.o
      ·rw[bj];simp;omega
     case measure=>simp[Zu];omega
  ·have hm':¬ (0:Int)<(m:Int):=(by omega);have HS:Hid (Box.dH zs=some (l.map Pc.pair)):=by
    show _=_;rw[HC.o,Box.vP (by rw[HM.o];omega)];simp
   clear HC;go_wp2;go_ret2;refine ⟨fun ps h=>?_,(fun h=>by rw[HS.o] at h;simp at h),hgr⟩;rw[HS.o] at h;simp only[ew] at h;exact ⟨_,rfl,l,hown,h,oW.o⟩
theorem Qb {w w':World} (h:A9 w) (k:w.grownBy w' none):A9 w':=Lib.tabBelow_of_tabIs h w' (Bz k)
theorem zZ (l:List Pc):∀ (k j:Nat) (hk:k<l.length),j<2->(nW l)[k*2+j]?=(l[k]).cells[j]?:=by
 induction l with
 | nil=>intro k j hk;simp at hk
 | cons x l ih=>
  intro k j hk hj;have e:nW (x::l)=x.cells++nW l:=by simp[nW]
  rw[e];cases k with
  | zero=>rw[gi,cC,cF (by show j<2;exact hj)];rfl
  | succ k=>
   rw[cM (by show 2<=(k+1)*2+j;omega),show (k+1)*2+j-x.cells.length=k*2+j from by show (k+1)*2+j-2=k*2+j;omega];exact ih k j (by simpa using hk) hj
theorem Jk {w w':World} (h:Below w.heap.size w w'):w.grownBy w' none:=⟨h.os,h.tape,h.output,h.size,fun i hi _=>h.block i hi⟩
theorem bsize (a:Array UInt8):(ByteArray.mk a).size=a.size:=rfl
def BQ (ks:List Int) (k:Int):Nat->Bool
 | 0=>false
 | j+1=>BQ ks k j || (k==ks.getD j 0)
theorem Tu {ks:List Int} {k:Int}:∀ {j:Nat},j<=ks.length->BQ ks k j=true->k∈ks:=by
 intro j;induction j with
 | zero=>intro _ h;simp[BQ] at h
 | succ j ih=>
  intro hj h;simp only[BQ,Bool.or_eq_true,cL] at h;rcases h with h | h
  ·exact ih afp h
  ·rw[h];have:ks.getD j 0=ks[j]:=by simp[List.getD,List.getElem?_eq_getElem (show j<ks.length by omega)]
   rw[this];exact cJ _
def pE (Good:Int->Array Value->Prop) (w:World) (a:Option Addr) (n:Nat):Prop:=
 ∀ i,i<n->∃ b off,a=some ⟨b,off,none⟩/\b<w.heap.size/\∃ kind cs,cs.size=41/\cs[0]?=some (.int .i64 kind)/\Good kind cs/\∀ j v,cs.toList[j]?=some v->w.cell? ⟨b,off+i*41+j,none⟩=some v
theorem pE.grown {Good:Int->Array Value->Prop} {w w':World} {a:Option Addr} {n:Nat} (h:pE Good w a n) (k:w.grownBy w' none):pE Good w' a n:=by
 intro i hi;obtain ⟨b,off,h1,h2,kind,cs,h3,h4,h5,h6⟩:=h i hi;have s:=k.size;exact ⟨b,off,h1,by omega,kind,cs,h3,h4,h5,fun j v hv=>k.cell (h6 j v hv) aft⟩
theorem pE.below {Good:Int->Array Value->Prop} {w w':World} {a:Option Addr} {n:Nat} (h:pE Good w a n) (k:Below w.heap.size w w'):pE Good w' a n:=h.grown (Jk k)
abbrev Mm:Obj:=.cells #[.slice none 0 0,.slice none 0 0,.slice none 0 0,.slice none 0 0,.slice none 0 0,.slice none 0 0] 36
abbrev Ba (k0:Int) (zs:List UInt8):Array Value:=#[.int .i64 k0,.int .i64 10,.int .i64 2,.int .i64 0,.int .u64 0,.int .u64 0,.int .i64 0,.string ⟨zs.toArray⟩,.int .i64 0,.string ⟨#[]⟩,.int .u64 0,.int .i64 0,.int .i64 0,.int .i64 0,.int .i64 0,.int .i64 0,.string ⟨#[]⟩,.string ⟨#[]⟩,.int .i64 0,.int .i64 0,.int .i64 0,.int .i64 0,.int .i64 0,.int .i64 0,.int .i64 0,.int .i64 0,.int .i64 0,.int .u64 0,.string ⟨#[]⟩,.int .i64 0,.int .i64 0,.int .i64 0,.int .i64 0,.int .i64 0,.int .i64 0,.string ⟨#[]⟩,.int .i64 0,.int .i64 0,.int .i64 0,.int .i64 0,.slice none 0 0]
theorem acH {p:Prop} (h:p:=by
 have HS:=hid hsu
 clear hsu hin
 go_wp2_with fail
 go_quiet (fail)
 go_wp2
 go_roundw
 case rel=>exact ⟨j+1,by omega,by go_num,by rw[HS.o],⟨_,rfl⟩⟩
 case measure=>simp[intOf];omega):p:=h
theorem Qc (Good:Int->Array Value->Prop) (I:Nat->World->Prop) (ks:List Int) (k0:Int) (m:Nat) (hm:Hid (ks.length=m)) (hm1:1<=m) (hm2:m<=12) (hk0:ks.getD 0 0=k0) (a:Option Addr) (n cap kb:Nat) (w:World) (hs:pE Good w a n) (hn:n<=140737488355328) (hkb:kb<w.heap.size)
  (hq:∀ j,j<m->w.cell? ⟨kb,j,none⟩=some (.int .i64 (ks.getD j 0)))
  (hstart:∀ wr,(w.alloc Mm).grownBy wr none->I 0 wr)
  (hgood:∀ zs:List UInt8,zs.length=500->Good k0 (Ba k0 zs))
  (hstep:∀ i wr kind cs,i<=n+1->I i wr->kind∈ks->cs.size=41->cs[0]?=some (.int .i64 kind)->Good kind cs->Calls prog 7 #[.pointer (some ⟨w.heap.size,0,none⟩),.agg cs] wr fun e w'=>e = .returned (.bool true)/\I (i+1) w')
  (hlooks:∀ i wr,i<=n+1->I i wr->Calls prog 8 #[.pointer (some ⟨w.heap.size,2,none⟩)] wr fun e w'=>e = .returned (.bool true)/\I i w')
  (EZ:∀ i wr q,I i wr->I i (wr.drewN q)) (hmore:∀ i wr,I i wr->I (i+1) wr) (hbelow:∀ i wr,I i wr->Below w.heap.size w wr) :
  Calls prog 6 #[.slice a n cap,.slice (some ⟨kb,0,none⟩) m m] w fun e w'=>e = .returned (.bool true)/\Below w.heap.size w w':=by
 have ahM:k0∈ks:=by
  have h0:0<ks.length:=by rw[hm.o];omega
  have:ks.getD 0 0=ks[0]:=by simp[List.getD,List.getElem?_eq_getElem h0]
  rw[<-hk0,this];exact cJ _
 have q0:=hq 0 afp
 rw[hk0] at q0
 have hmI:(0:Int)<(m:Int):=by omega
 clear hk0
 go_enter func6,ntmps6
 go_wp2
 go_loopw [6,7] (fun s i wr=>∃ k:Nat,k<=20/\i = .int .i64 k/\(∃ b:ByteArray,s = .string b/\b.size=25*k)/\(w.alloc Mm).grownBy wr none) (fun _ i _=>20-(intOf i).toNat)
 case atStart=>exact ⟨0,by omega,rfl,⟨_,rfl,rfl⟩,bh _ _⟩
 case round=>
  obtain ⟨k,hk,rfl,⟨s,rfl,hsz⟩,hgr⟩:=hrel;by_cases hlt:k<20
  ·have HS:Hid (s.size=25*k):=hsz;have hsb:s.size<=500:=(by omega);clear hsz;have hby:#[Value.int IntKind.u8 (97+(k:Int))].toList=[UInt8.ofNat (97+k)].map U8:=by
    simp only[dj,eV,U8];rw[ec,du afp,show (97+(k:Int))=((97+k:Nat):Int) from by omega]
   have hcv:=iE (P:=prog) (wr.alloc (.cells #[.int .u8 (97+(k:Int))] 5)) 37 9 5 underlying37 underlying5 underlying9 (some ⟨wr.heap.size,0,none⟩) 1 [UInt8.ofNat (97+k)] (fG wr 5 _ _ hby);simp only[cN,List.length_nil,cC] at hcv;clear hby
   go_wp2;go_roundw
   case rel=>exact ⟨k+1,by omega,by go_num,⟨_,rfl,by simp[HS.o,bsize];omega⟩,aR hgr _⟩
   case measure=>simp[intOf];omega
  ·have ahO:k=20:=(by omega);subst ahO;obtain ⟨zs,hzs⟩:∃ zs:List UInt8,s=⟨zs.toArray⟩:=⟨s.data.toList,by simp⟩
   subst hzs;have hzl:zs.length=500:=by
    have h:(⟨zs.toArray⟩:ByteArray).size=zs.length:=(by simp[ByteArray.size]);omega
   clear hsz hk hlt;have Gw:=aa (aE w _ none) hgr;have q0r:=Gw.cell q0 aft;have CC:=hstep 0 wr k0 (Ba k0 zs) afp (hstart wr hgr) ahM rfl rfl (hgood zs hzl);clear hgr Gw;go_wp2_with fail;refine CC.mono ?_;rintro e w2 ⟨rfl,hI2⟩;clear CC q0r;go_wp2;obtain ⟨wo,hwo⟩:∃ wo,wo=wr:=⟨wr,rfl⟩
   subst hwo;go_loopw [8,9,10,11] (fun _ i _ _ wr=>∃ k:Nat,k<=n/\i = .int .i64 k/\I (k+1) wr) (fun _ i _ _ _=>n-(intOf i).toNat)
   case atStart=>exact ⟨0,cE _,rfl,hI2⟩
   case round=>
    obtain ⟨k,hk,rfl,hI⟩:=hrel;have hB:=hbelow _ _ hI;by_cases hlt:k<n
    ·obtain ⟨b,off,hab,_,kind,cs,hsize,Ec,hgo,hcs⟩:=hs.below hB k hlt;subst hab;have hqk:∀ j,j<m->wr.cell? ⟨kb,j,none⟩=some (.int .i64 (ks.getD j 0)):=fun j hj=>(hB.cell (p:=⟨kb,j,none⟩) hkb).trans (hq j hj);have hc0:wr.cell? ⟨b,off+k*41,none⟩=some (.int .i64 kind):=hcs 0 _ (by rw[<-Ec];simp);go_wp2;obtain ⟨wi,hwi⟩:∃ wi,wi=wr:=⟨wr,rfl⟩
     subst hwi;go_loopw [10,11] (fun d i wr=>∃ j:Nat,j<=m/\i = .int .i64 j/\d = .bool (BQ ks kind j)/\∃ q,wr=wi.drewN q) (fun _ i _=>m-(intOf i).toNat)
     case atStart=>exact ⟨0,by omega,rfl,rfl,0,rfl⟩
     case round=>
      obtain ⟨j,hj,rfl,rfl,q,rfl⟩:=hrel;by_cases hj3:j<m
      ·have hck:=hqk j hj3;have XE:(j:Int)<(m:Int):=(by omega);have hj0:(0:Int)<=(j:Int):=(by omega);obtain ⟨kj,hkj⟩:=ar (ks.getD j 0);have HKJ:=hid hkj;rw[<-hkj] at hck;clear hkj;clear hqk hcs hI hB hs q0 hq hI2 hstep hlooks hstart hgood EZ hmore hbelow Ec;cases hin:BQ ks kind j
       ·have hsu:BQ ks kind (j+1)=(kind==kj):=(by rw[BQ,hin,HKJ.o];rfl);exact acH
       ·have hsu:BQ ks kind (j+1)=true:=(by rw[BQ,hin];rfl);exact acH
      ·have ahP:j=m:=(by omega);subst ahP;have XE:¬ (j:Int)<(j:Int):=(by omega);cases hin:BQ ks kind j
       ·have R:=hmore _ _ (EZ _ _ q hI);clear hqk hcs hs q0 hI2 hq hstep hlooks hstart hgood EZ hmore hbelow hI hB Ec;go_wp2;go_roundw
        case rel=>exact ⟨k+1,by omega,by go_num,R⟩
        case measure=>simp[intOf];omega
       ·have Sb:kind∈ks:=Tu (by rw[hm.o];exact bd _) hin;have CC:=hstep (k+1) (wi.drewN q) kind cs afp (EZ _ _ q hI) Sb hsize Ec hgo;have LL:=hlooks (k+1+1);clear hin hqk hs q0 hI2 hq hstep hlooks hstart hgood EZ hmore hbelow hI hB Ec;go_wp2_with (refine BJ rfl 48 _ rfl ⟨b,off+k*41,none⟩ rfl cs _ ?l1 underlying48 rfl (by rw[hsize];exact Tryz.Mi) ?_)
        case l1=>intro j v hv;exact hcs j v (by simpa using hv)
        clear hcs hc0;refine CC.mono ?_;rintro e w5 ⟨rfl,hI5⟩;clear CC;have L5:=LL w5 afp hI5;clear LL hI5;go_wp2_with fail;refine L5.mono ?_;rintro e w6 ⟨rfl,hI6⟩;clear L5;go_wp2;go_roundw
        case rel=>exact ⟨k+1,by omega,by go_num,hI6⟩
        case measure=>simp[intOf];omega
    ·clear hs q0 hq hI2 hstep hlooks hstart hgood EZ hmore hbelow;go_wp2;go_ret;exact ⟨rfl,hB⟩
theorem agd {p:Prop} (h:p:=by rw[HP.o];exact cA (by omega)):p:=h
theorem ahQ {S:ByteArray} {l:List UInt8} (hS:S=⟨l.toArray⟩) (j:Nat) (h:j<S.size):S[j]'h=l.getD j 0:=by
 subst hS;have hj:j<l.length:=by simpa[ByteArray.size] using h
 simp only[List.getD,cr hj,Option.getD_some];rfl
theorem ab8 {p:Prop} (h:p:=by
 go_wp2
 go_round
 case rel=>exact ⟨k+1,by omega,by go_num,by show _=_;rw[Tw.o];exact HY.o⟩
 case measure=>simp[intOf];omega):p:=h
theorem acD {p:Prop} (h:p:=by
 go_wp2
 go_ret
 exact ⟨by rw[HR.o];rfl,rfl⟩):p:=h
theorem aeY {p:Prop} (h:p:=by
 go_wp2
 go_ret
 exact ⟨by rw[HF.o];rfl,rfl⟩):p:=h
theorem uV (l:List UInt8) (n:Nat) (S:ByteArray) (w:World) (hS:Hid (S=⟨l.toArray⟩)) (hn:Hid (l.length=n)) (hl:n<=9223372036854775807) :
  Calls prog 58 #[.string S] w fun e w'=>e = .returned (.bool (cO l))/\w=w':=by
 have hsz:S.size=n:=by rw[hS.o,<-hn.o];simp[ByteArray.size]
 go_enter func58,ntmps58
 go_wp2
 go_loop [3] (fun i=>∃ k:Nat,k<=n/\i = .int .i64 k/\Hid ((l.take k).all jd=true)) (fun i=>n-(intOf i).toNat)
 case atStart=>exact ⟨0,cE _,rfl,hid aft⟩
 case round=>
  obtain ⟨k,hk,rfl,HA⟩:=hrel;by_cases hlt:k<n
  ·have hlt':k<l.length:=(by rw[hn.o];exact hlt);have hgk:=ahQ hS.o k;have Tw:=hid (wM hlt');rw[HA.o,gj] at Tw;have kY:Hid (jd (l.getD k 0)=false->cO l=false):=by
    intro h;rw[cO];have:l.all jd=false:=by
     have hm:l.getD k 0∈l:=by
      rw[show l.getD k 0=l[k] from by simp[List.getD,List.getElem?_eq_getElem hlt']];exact cJ hlt'
     rw[List.all_eq_false];exact ⟨_,hm,by rw[h];simp⟩
    rw[this,gf]
   generalize l.getD k 0=z at hgk Tw kY;have hz:=z.toNat_lt;have rF:(k:Int)<(n:Int):=(by omega);have hk0:(0:Int)<=(k:Int):=(by omega);have HP:Hid (jd z=decide ((97<=z.toNat/\z.toNat<=122)\/(48<=z.toNat/\z.toNat<=57)\/z.toNat=47)):=rfl;by_cases a1:97<=z.toNat
   ·have a1':(97:Int)<=(z.toNat:Int):=(by omega);by_cases a2:z.toNat<=122
    ·have a2':(z.toNat:Int)<=122:=(by omega);have HY:Hid (jd z=true):=(by show _=_;rw[HP.o];exact cH afp);exact ab8
    ·have a2':¬ (z.toNat:Int)<=122:=(by omega);have HF:=hid (kY.o agd);have b1:¬ (z.toNat:Int)<=57:=(by omega);have b2:((z.toNat:Int)==47)=false:=(by rw[cg];omega);exact aeY
   ·have a1':¬ (97:Int)<=(z.toNat:Int):=(by omega);by_cases b1:48<=z.toNat
    ·have b1':(48:Int)<=(z.toNat:Int):=(by omega);by_cases b2:z.toNat<=57
     ·have b2':(z.toNat:Int)<=57:=(by omega);have HY:Hid (jd z=true):=(by show _=_;rw[HP.o];exact cH afp);exact ab8
     ·have b2':¬ (z.toNat:Int)<=57:=(by omega);have HF:=hid (kY.o agd);have b3:((z.toNat:Int)==47)=false:=(by rw[cg];omega);exact aeY
    ·have b1':¬ (48:Int)<=(z.toNat:Int):=(by omega);by_cases c1:z.toNat=47
     ·have b3:((z.toNat:Int)==47)=true:=(by rw[cL];omega);have HY:Hid (jd z=true):=(by show _=_;rw[HP.o];exact cH afp);clear c1;exact ab8
     ·have b3:((z.toNat:Int)==47)=false:=(by rw[cg];omega);have HF:=hid (kY.o agd);exact aeY
  ·have hkn:k=n:=(by omega);subst hkn;have rF:¬ (k:Int)<(k:Int):=(by omega);have aaJ:Hid (l.all jd=true):=(by show _=_;rw[<-HA.o,cV afM]);by_cases h1:1<=k
   ·have h1':(1:Int)<=(k:Int):=(by omega);by_cases h16:k<=16
    ·have aaK:(k:Int)<=16:=(by omega);have HR:Hid (cO l=true):=(by show _=_;rw[cO,aaJ.o,hn.o,fR];exact cH ⟨h1,h16⟩);exact acD
    ·have aaK:¬ (k:Int)<=16:=(by omega);have HR:Hid (cO l=false):=(by show _=_;rw[cO,aaJ.o,hn.o,fR];exact cA (fun h=>h16 h.2));exact acD
   ·have h1':¬ (1:Int)<=(k:Int):=(by omega);have HR:Hid (cO l=false):=(by show _=_;rw[cO,aaJ.o,hn.o,fR];exact cA (fun h=>h1 h.1));exact acD
theorem abN {p:Prop} (h:p:=by
 go_enter func57,ntmps57
 go_wp2
 go_ret
 exact ⟨by rw[HD.o];rfl,aE w _ none⟩):p:=h
theorem lZ (a:jV) (w:World):Calls prog 57 #[.agg a.cells] w fun e w'=>e = .returned (.bool a.oN)/\w.grownBy w' none:=by
 obtain ⟨ak,an,key,bI,aD,bC,ay⟩:=a;have HP:Hid (jV.oN ⟨ak,an,key,bI,aD,bC,ay⟩=decide (0<=bI/\0<=aD/\0<=ay/\ay<64)):=rfl;simp only[jV.cells];by_cases h1:0<=bI
 ·by_cases h2:0<=aD
  ·by_cases h3:0<=ay
   ·by_cases h4:ay<64
    ·have HD:=hid (HP.o.trans (cH ⟨h1,h2,h3,h4⟩));exact abN
    ·have HD:=hid (HP.o.trans (cA (fun h=>h4 h.2.2.2)));exact abN
   ·have HD:=hid (HP.o.trans (cA (fun h=>h3 h.2.2.1)));exact abN
  ·have HD:=hid (HP.o.trans (cA (fun h=>h2 h.2.1)));exact abN
 ·have HD:=hid (HP.o.trans (cA (fun h=>h1 h.1)));exact abN
variable {zs:List UInt8} {v:Value} {w:World}
def Has (w:World) (v:Value) (zs:List UInt8):Prop:=∃ ao cap,v = .slice ao zs.length cap/\zs.length<=cap/\cap<=maxLen/\(ao=none->cap=0)/\At w ao zs
theorem Has.grown {w':World} (h:Has w v zs) (k:w.grownBy w' none):Has w' v zs:=by
 obtain ⟨ao,cap,h1,h2,h3,h4,h5⟩:=h;exact ⟨ao,cap,h1,h2,h3,h4,h5.below k⟩
theorem Has.drewN (h:Has w v zs) (m:Nat):Has (w.drewN m) v zs:=by
 obtain ⟨ao,cap,h1,h2,h3,h4,h5⟩:=h;exact ⟨ao,cap,h1,h2,h3,h4,h5.drewN m⟩
theorem Has.own {base:Nat} {e:TypeId} (h:w.ownsRow base e 1 v zs.length (zs.map U8)):Has w v zs:=by
 obtain ⟨ao,cap,h1,h2,h3,h4,h5⟩:=iI h;exact ⟨ao,cap,h1,h2,h3,h4.o,h5⟩
theorem Has.nil (w:World):Has w (.slice none 0 0) []:=⟨none,0,rfl,bd _,cE _,fun _=>rfl,At.nil w none⟩
theorem Qq (tag:UInt8) (zs:List UInt8) (n:Nat) (ao:Option Addr) (cap:Nat) (w:World) (hn:Hid (zs.length=n)) (hl0:65535<n) (hl:n<=140737488351232) (hnc:Hid (ao=none->cap=0)) (hz:At w ao zs) :
  Calls prog 90 #[.int .u8 (tag.toNat:Int),.slice ao n cap] w fun e w'=>∃ o,e = .returned o/\w'.ownsRow w.heap.size 5 1 o (Box.box tag zs).length ((Box.box tag zs).map U8)/\w.grownBy w' none:=by
 obtain ⟨i0,hif,hz0,hz1,hz2⟩:=info_parts Tryz.info5
 have hown0:=Oz w 5 tag
 have G0:w.grownBy (w.alloc (.cells #[.int .u8 (tag.toNat:Int)] 5)) none:=aE w _ none
 have h1':¬ (n:Int)<128:=by omega
 have h2':¬ (n:Int)<256:=by omega
 have HL:Hid (Box.box tag zs=[tag]++[130,UInt8.ofNat (n / 256),UInt8.ofNat (n % 256)]++zs):=by show _=_;rw[Box.box,Box.head,hn.o,if_neg afp,if_neg afp];rfl
 have hwr:=SI n
 go_enter func90,ntmps90
 go_wp2_with (at_builtin;refine bU _ rfl _ _ 37 rfl w.heap.size 5 i0 underlying37 hif hz0 hz1 hz2 _ _ _ rfl (hown0.alloc _) (some ⟨w.heap.size+1,0,none⟩) 3 3 [130,UInt8.ofNat (n / 256),UInt8.ofNat (n % 256)] rfl rfl ?e1 ?e2 ?e3 ?e4 ?_)
 case e2=>
  refine tq w _ _ _ _ ?_;simp only[dj,eV,U8]
  first
   | (rw[<-hwr,ec,du (show n % 256<2 ^ 8 by omega)];rfl)
   | (simp only[ec];rw[du (show n % 256<2 ^ 8 by omega)];rfl)
 case e4=>first | omega|(simp;omega)
 intro v1 w1 hown1 hg1 _;have G1:w.grownBy w1 none:=iw (aR G0 _) hg1 (fun i hi=>(hown0.lt i hi).1);have hz1':=hz.below G1;have hsz1:=G1.size;clear hown0 hg1 G0;go_wp2_with (at_builtin;refine bU _ rfl _ _ 37 rfl w.heap.size 5 i0 underlying37 hif hz0 hz1 hz2 v1 (1+3) ([tag]++[130,UInt8.ofNat (n / 256),UInt8.ofNat (n % 256)]) rfl (by simpa using hown1) ao n cap zs rfl hn.o hnc.o hz1' afp hsz1 ?_)
 exact aag
theorem T9 (tag:UInt8) (zs:List UInt8) (v:Value) (w:World) (h:Has w v zs) (hl:zs.length<=140737488351232) :
  Calls prog 90 #[.int .u8 (tag.toNat:Int),v] w fun e w'=>∃ o,e = .returned o/\w'.ownsRow w.heap.size 5 1 o (Box.box tag zs).length ((Box.box tag zs).map U8)/\w.grownBy w' none:=by
 obtain ⟨ao,cap,rfl,h2,h3,h4,h5⟩:=h
 by_cases hs:zs.length<=65535
 ·exact su tag zs zs.length ao cap w (hid rfl) hs (hid h4) h5
 ·exact Qq tag zs zs.length ao cap w (hid rfl) afp hl (hid h4) h5
theorem Ua (tag:UInt8) (zs:List UInt8) (v:Value) (w:World) (h:Has w v zs) (hl:zs.length<=140737488351232) :
  Calls prog 90 #[.int .u8 (tag.toNat:Int),v] w fun e w'=>∃ o,e = .returned o/\Has w' o (Box.box tag zs)/\w.grownBy w' none:=
 (T9 tag zs v w h hl).mono (fun _ _ ⟨o,q1,q2,q3⟩=>⟨o,q1,Has.own q2,q3⟩)
theorem kR (zs:List UInt8) (v:Value) (w:World) (h:Has w v zs) (hl:zs.length<=140737488351232) :
  Calls prog 65 #[v] w fun e w'=>∃ o,e = .returned o/\Has w' o (dw zs)/\w.grownBy w' none:=by
 have HB:Hid (Calls prog 90 #[.int .u8 4,v] w fun e w'=>∃ o,e = .returned o/\Has w' o (dw zs)/\w.grownBy w' none):=Ua 4 zs v w h hl
 clear h
 go_enter func65,ntmps65
 go_wp2_with (go_at_call 90;refine HB.o.mono ?_;rintro e w1 ⟨o,rfl,q1,q2⟩)
 go_ret
 exact ⟨_,rfl,q1,q2⟩
theorem jX (l:List UInt8) (w:World) (hl:l.length<=140737488351232) :
  Calls prog 63 #[.string ⟨l.toArray⟩] w fun e w'=>∃ o,e = .returned o/\Has w' o (dw l)/\w.grownBy w' none:=by
 have hl2:l.length<=140737488355328:=by omega
 go_enter func63,ntmps63
 go_wp2_with (first|(refine oO _ rfl _ 9 37 rfl 5 underlying9 underlying37 underlying5 l rfl hl2 ?_;intro b3 ahZ w3 hc3 ah0 zt hg3)|(go_at_call 65;refine (kR l _ _ ⟨some ⟨b3,0,none⟩,ahZ,rfl,hc3,ah0,(fun h=>by cases h),zt⟩ hl).mono ?_;rintro e w1 ⟨o,rfl,q1,q2⟩))
 go_ret
 exact ⟨_,rfl,q1,aa hg3 q2⟩
def Row (w:World) (b:Nat) (l:List (Value×List UInt8)):Prop:=
 ∀ j,(hj:j<l.length)->w.cell? ⟨b,j,none⟩=some l[j].1/\Has w l[j].1 l[j].2
def oG (l:List (Value×List UInt8)):List UInt8:=(l.map fun x=>x.2).flatten
theorem Fs (l:List (Value×List UInt8)) (k:Nat) (h:k<l.length):oG (l.take (k+1))=oG (l.take k)++(l[k]).2:=by
 unfold oG;rw[ee h,cW,List.flatten_append];simp only[dj,eV,dk,List.flatten_nil,fg]
theorem XO (l:List (Value×List UInt8)) (k:Nat):(oG (l.take k)).length<=(oG l).length:=by
 conv=>rhs;rw[<-ey k l]
 unfold oG;rw[cW,List.flatten_append,bj];omega
theorem Row.grown {w':World} {b:Nat} {l:List (Value×List UInt8)} (h:Row w b l) (k:w.grownBy w' none):Row w' b l:=by
 intro j hj;obtain ⟨h1,h2⟩:=h j hj;exact ⟨k.cell h1 aft,h2.grown k⟩
theorem XP (b cap m:Nat) (l:List (Value×List UInt8)) (w:World) (hm:Hid (l.length=m)) (zm:m<=1000) (hl:(oG l).length<=140737488351232) (hi:Row w b l) :
  Calls prog 62 #[.slice (some ⟨b,0,none⟩) m cap] w fun e w'=>∃ o,e = .returned o/\w'.ownsRow w.heap.size 5 1 o (Box.box 48 (oG l)).length ((Box.box 48 (oG l)).map U8)/\w.grownBy w' none:=by
 obtain ⟨i0,hif,hz0,hz1,hz2⟩:=info_parts Tryz.info5
 go_enter func62,ntmps62
 go_wp2
 go_loopw [3,4] (fun o i wr=>∃ k:Nat,k<=m/\i = .int .i64 k/\wr.ownsRow w.heap.size 5 1 o (oG (l.take k)).length ((oG (l.take k)).map U8)/\w.grownBy wr none) (fun _ i _=>m-(intOf i).toNat)
 case atStart=>exact ⟨0,by omega,rfl,World.ownsRow_nil _ _ _ _,bh _ _⟩
 case round=>
  obtain ⟨k,hk,rfl,hown,hgr⟩:=hrel;have hsz:=hgr.size;by_cases hlt:k<m
  ·have hlt':k<l.length:=(by rw[hm.o];exact hlt);obtain ⟨hc,ao,cc,hv,hcc,hcm,hnc,hat⟩:=(hi.grown hgr) k hlt';rw[hv] at hc;have hle:=XO l (k+1);rw[Fs l k hlt',bj] at hle;have hbd:(oG (l.take k)).length+((l[k]).2).length<=140737488355328:=(by omega);have HN:Hid (ao=none->cc=0):=hnc;clear hnc hle hi hv hcc hcm;go_wp2_with (at_builtin;refine bU _ rfl _ _ 37 rfl w.heap.size 5 i0 underlying37 hif hz0 hz1 hz2 _ _ _ rfl hown _ _ _ ((l[k]).2) rfl rfl HN.o hat hbd hsz ?_)
   intro v' w1 hown' hg1 _;have R:w1.ownsRow w.heap.size 5 1 v' (oG (l.take (k+1))).length ((oG (l.take (k+1))).map U8)/\w.grownBy w1 none:=⟨by rw[Fs l k hlt',bj,cW];exact hown',iw hgr hg1 (fun i hi=>(hown.lt i hi).1)⟩
   clear hown hown' hg1 hgr hat hbd HN hc;exact abG
  ·have Sb:k=m:=(by omega);subst Sb;clear hi;have hown2:wr.ownsRow w.heap.size 5 1 u3 (oG l).length ((oG l).map U8):=by
    rw[cV (by rw[hm.o];omega)] at hown;exact hown
   have HB:Hid (Calls prog 90 #[.int .u8 48,u3] wr fun e w'=>∃ o,e = .returned o/\w'.ownsRow wr.heap.size 5 1 o (Box.box 48 (oG l)).length ((Box.box 48 (oG l)).map U8)/\wr.grownBy w' none):=T9 48 (oG l) u3 wr (Has.own hown2) hl;clear hown hown2;go_wp2_with (go_at_call 90;refine HB.o.mono ?_;rintro e w1 ⟨o,rfl,q1,q2⟩)
   go_ret;exact ⟨_,rfl,pY q1 hgr.size,aa hgr q2⟩
theorem Row.new (w:World) (l:List (Value×List UInt8)) (t:TypeId) (h:∀ x∈l,Has w x.1 x.2):Row (w.alloc (.cells (l.map fun x=>x.1).toArray t)) w.heap.size l:=by
 intro j hj;have hc:=aW w (l.map fun x=>x.1).toArray t j (l[j]).1 (by simp[hj]);rw[cC] at hc;exact ⟨hc,(h l[j] (cJ hj)).grown (aE _ _ _)⟩
theorem xh (l:List (Value×List UInt8)) (vs:Array Value) (n:Nat) (w:World) (h:∀ x∈l,Has w x.1 x.2) (hvs:vs=(l.map fun x=>x.1).toArray) (hn:l.length=n) (zm:n<=1000) (hl:(oG l).length<=140737488351232) :
  Calls prog 62 #[.slice (some ⟨w.heap.size,0,none⟩) n n] (w.alloc (.cells vs 37)) fun e w'=>∃ o,e = .returned o/\w'.ownsRow w.heap.size 5 1 o (jm (l.map fun x=>x.2)).length ((jm (l.map fun x=>x.2)).map U8)/\w.grownBy w' none:=by
 subst hvs
 refine (XP w.heap.size n n l _ (hid hn) zm hl (Row.new w l _ h)).mono ?_
 rintro e w' ⟨o,q1,q2,q3⟩
 exact ⟨o,q1,pY q2 (aE w _ none).size,aa (aE w _ none) q3⟩
theorem Qr (l:List (Value×List UInt8)) (vs:Array Value) (n:Nat) (w:World) (h:∀ x∈l,Has w x.1 x.2) (hvs:vs=(l.map fun x=>x.1).toArray) (hn:l.length=n) (zm:n<=1000) (hl:(oG l).length<=140737488351232) :
  Calls prog 62 #[.slice (some ⟨w.heap.size,0,none⟩) n n] (w.alloc (.cells vs 37)) fun e w'=>∃ o,e = .returned o/\Has w' o (jm (l.map fun x=>x.2))/\w.grownBy w' none:=
 (xh l vs n w h hvs hn zm hl).mono (fun _ _ ⟨o,q1,q2,q3⟩=>⟨o,q1,Has.own q2,q3⟩)
theorem bR (v:Int) (w:World) (h:In64 v) :
  Calls prog 64 #[.int .i64 v] w fun e w'=>∃ o,e = .returned o/\Has w' o (bQ v)/\w.grownBy w' none:=by
 refine (p9 v w h.1 h.2).mono ?_
 rintro e w' ⟨o,q1,q2,q3⟩
 exact ⟨o,q1,Has.own q2,q3⟩
variable {l:List Pc} {g:Nat}
def jr (w:World) (g:Nat) (l:List Pc):Prop:=w.rangeAt g 0 (nW l)/\∀ p∈l,At w p.ad p.ins/\p.ins.length<=p.cap/\p.cap<=maxLen
theorem jr.grown {w':World} (h:jr w g l) (k:w.grownBy w' none):jr w' g l:=
 ⟨fun j v hv=>k.cell (h.1 j v hv) aft,fun p hp=>⟨(h.2 p hp).1.below k,(h.2 p hp).2⟩⟩
def aaW (w:World) (x:Value) (l:List Pc):Prop:=∃ ao c,x = .slice ao l.length c/\(l≠[]->∃ g,ao=some ⟨g,0,none⟩/\jr w g l)
theorem jr.tag (h:jr w g l) (k:Nat) (hk:k<l.length):w.cell? ⟨g,k*2,none⟩=some (.int .u8 ((l[k]).tag.toNat:Int)):=by
 have:=h.1 (k*2+0) _ (by rw[zZ l k 0 hk afq];rfl);rwa [cC,eR] at this
theorem jr.ins (h:jr w g l) (k:Nat) (hk:k<l.length):w.cell? ⟨g,k*2+1,none⟩=some (.slice (l[k]).ad (l[k]).ins.length (l[k]).cap):=by
 have:=h.1 (k*2+1) _ (by rw[zZ l k 1 hk afq];rfl);rwa [cC] at this
def vg (w:World) (v:Value) (zs:List UInt8):Prop:=∃ ao cap,v = .slice ao zs.length cap/\zs.length<=cap/\cap<=maxLen/\At w ao zs
theorem Has.prt {v:Value} {zs:List UInt8} (h:Has w v zs):vg w v zs:=by
 obtain ⟨ao,cap,h1,h2,h3,_,h5⟩:=h;exact ⟨ao,cap,h1,h2,h3,h5⟩
theorem vg.grown {w':World} {v:Value} {zs:List UInt8} (h:vg w v zs) (k:w.grownBy w' none):vg w' v zs:=by
 obtain ⟨ao,cap,h1,h2,h3,h5⟩:=h;exact ⟨ao,cap,h1,h2,h3,h5.below k⟩
theorem aff {p:Prop} (h:p:=by
 rw[List.getElem?_take_of_lt hj] at hu
 simp only[World.cell?,hg]
 simpa using hu):p:=h
theorem pO (zs:List UInt8) (v:Value) (w:World) (h:vg w v zs) (hl:zs.length<=100000) :
  Calls prog 68 #[v] w fun e w'=>∃ x,e = .returned (.tuple #[x,.bool (Box.dH zs).isSome])/\(∀ ps,Box.dH zs=some ps->∃ l,aaW w' x l/\l.map Pc.pair=ps/\(∀ p∈l,∀ w0,vg w0 v zs->vg w0 (.slice p.ad p.ins.length p.cap) p.ins)/\(∀ g c',x = .slice (some ⟨g,0,none⟩) l.length c'->w.heap.size<=g))/\(Box.dH zs=none->x = .slice none 0 0)/\w.grownBy w' none:=by
 obtain ⟨ao,cap,rfl,h2,h3,h5⟩:=h
 refine (Jj zs zs.length ao cap w (hid rfl) hl h2 (by unfold maxLen at h3;omega) h5).mono ?_
 rintro e w' ⟨q1,q2,q3⟩
 cases hc:Box.dH zs with
 | none=>exact ⟨_,q2 hc,fun ps hps=>(by cases hps),fun _=>rfl,q3⟩
 | some ps=>
  obtain ⟨x,l,r1,r2,r3,r4⟩:=q1 ps hc;refine ⟨x,r1,fun ps' hps=>⟨l,?_,?_,fun p hp w0 hw0=>?_,fun g c' e=>(r2.lt g (by rw[e];rfl)).1⟩,fun hn=>(by cases hn),q3⟩
  ·obtain ⟨ao',c',rfl⟩:=cu r2;refine ⟨ao',c',rfl,fun hne=>?_⟩;rcases r2.2 with ⟨hv,hz⟩ | ⟨g,cp,cur,hv,hb,hg,hnc,hcm,hcs,htk⟩
   ·exfalso;cases l with
    | nil=>exact hne rfl
    | cons a l=>simp at hz
   ·injection hv with e1 _ e3;subst e1 e3;refine ⟨g,rfl,fun j u hu=>?_,fun p hp=>⟨(r4 p hp).1 _ (h5.below q3),(r4 p hp).2.1,br (r4 p hp).2.2 h3⟩⟩;rw[cC];rw[<-htk] at hu;have hj:j<l.length*2:=by
     have:=(cq.1 hu).1;rw[cG] at this;omega
    exact aff
  ·injection hps with hps;rw[<-hps];exact r3
  ·obtain ⟨ao0,cap0,e0,_,_,k0⟩:=hw0;injection e0 with e0;subst e0;exact ⟨p.ad,p.cap,rfl,(r4 p hp).2.1,br (r4 p hp).2.2 h3,(r4 p hp).1 w0 k0⟩
def tK (tag:UInt8) (l:List UInt8):Option (List UInt8):=
 match Box.cut l with
 | some (t,i,[])=>if t.toNat=tag.toNat then some i else none
 | _=>none
theorem tL (l:List UInt8):kG l=(tK 48 l).bind Box.dH:=by
 unfold kG tK;cases h:Box.cut l with
 | none=>rfl
 | some p=>
  obtain ⟨t,i,r⟩:=p;cases r with
  | nil=>
   show (if t.toNat=48 then Box.dH i else none)=(if t.toNat=(48:UInt8).toNat then some i else none).bind Box.dH;by_cases ht:t.toNat=48
   ·have ht2:t.toNat=(48:UInt8).toNat:=ht;rw[if_pos ht,if_pos ht2];rfl
   ·have ht2:¬ t.toNat=(48:UInt8).toNat:=ht;rw[if_neg ht,if_neg ht2];rfl
  | cons a r=>rfl
theorem JE (zs:List UInt8) (v:Value) (w:World) (h:Has w v zs) (hl:zs.length<=140737488355328) :
  Calls prog 51 #[v] w fun e w'=>∃ (tag:UInt8) (a1:Option Addr) (i:List UInt8) (c1:Nat) (a2:Option Addr) (r:List UInt8) (c2:Nat),
   e = .returned (.tuple #[.agg #[.int .u8 (tag.toNat:Int),.slice a1 i.length c1],.slice a2 r.length c2,.bool (Box.cut zs).isSome])/\(∀ q,Box.cut zs=some q->q=(tag,i,r))/\At w' a1 i/\i.length<=c1/\c1<=maxLen/\i.length<=65535/\(a1=none->c1=0)/\w.grownBy w' none:=by
 obtain ⟨ao,cap,rfl,h2,h3,h4,h5⟩:=h
 by_cases hs:zs.length<2
 ·refine (zY zs.length ao cap w hs).mono ?_;rintro e w' ⟨q1,q2⟩;have hc:=EY hs;refine ⟨0,none,[],0,none,[],0,?_,fun q hq=>?_,At.nil _ _,bd _,cE _,cE _,fun _=>rfl,q2⟩
  ·rw[hc];exact q1
  ·rw[hc] at hq;cases hq
 ·obtain ⟨b,off,rfl,_⟩:=h5.addr afp;refine (BL zs zs.length b off cap w (hid rfl) afp hl h2 (by unfold maxLen at h3;omega) h5).mono ?_;rintro e w' ⟨q1,q2,q3⟩;cases hc:Box.cut zs with
  | none=>
   obtain ⟨x,a,i,c,r1,r2,r3,r4,r5,r6⟩:=q2 hc;exact ⟨x,a,i,c,none,[],0,r1,fun q hq=>(by cases hq),r2 _ (h5.below q3),r3,br r4 h3,r5,r6,q3⟩
  | some q=>
   obtain ⟨t,i,r⟩:=q;obtain ⟨a1,c1,a2,c2,r1,r2,r3,r4,r5,r6,r7,r8,r9⟩:=q1 t i r hc;exact ⟨t,a1,i,c1,a2,r,c2,r1,fun q hq=>(by injection hq with hq;exact hq.symm),r2 _ (h5.below q3),r3,br r4 h3,r8,(fun e=>by rw[e] at r9;cases r9),q3⟩
theorem abx {p:Prop} (h:p:=by
 go_wp2_with fail
 go_quiet (fail)
 go_wp2
 go_ret2
 exact ⟨_,i,by rw[HN.o];rfl,HH.o.1.drewN _,HH.o.2.1,fun j hj=>(by rw[HN.o] at hj;cases hj),aY HH.o.2.2 _⟩):p:=h
theorem yF (tag:UInt8) (zs:List UInt8) (v:Value) (w:World) (h:Has w v zs) (hl:zs.length<=140737488355328) :
  Calls prog 67 #[v,.int .u8 (tag.toNat:Int)] w fun e w'=>∃ x i,e = .returned (.tuple #[x,.bool (tK tag zs).isSome])/\Has w' x i/\i.length<=65535/\(∀ j,tK tag zs=some j->j=i)/\w.grownBy w' none:=by
 have HF:=hid (JE zs v w h hl)
 obtain ⟨oc,hoc⟩:=aq (tK tag zs)
 have HO:=hid hoc
 rw[hoc]
 clear h hoc
 unfold tK at HO
 obtain ⟨cc,hcc⟩:=aq (Box.cut zs)
 rw[hcc] at HF HO
 clear hcc
 go_enter func67,ntmps67
 go_wp2_with fail
 refine HF.o.mono ?_
 rintro e w1 ⟨t,a1,i,c1,a2,r,c2,rfl,h1,h2,h3,h4,h5,h6,h7⟩
 clear HF
 have G1:=aR h7 (.cells #[.int .u8 (t.toNat:Int),.slice a1 i.length c1] 117)
 have HH:Hid (Has (w1.alloc (.cells #[.int .u8 (t.toNat:Int),.slice a1 i.length c1] 117)) (.slice a1 i.length c1) i/\i.length<=65535/\w.grownBy (w1.alloc (.cells #[.int .u8 (t.toNat:Int),.slice a1 i.length c1] 117)) none):=⟨⟨a1,c1,rfl,h3,h4,h6,h2.below (aE _ _ _)⟩,h5,G1⟩
 clear h2 h3 h4 h5 h6 h7 G1
 cases cc with
 | none=>
  have HN:Hid (oc=none):=HO.o.symm;clear HO h1;simp only[Option.isSome_none];exact abx
 | some q=>
  obtain rfl:=h1 q rfl;clear h1;simp only[cY];cases r with
  | cons ra r=>
   have HN:Hid (oc=none):=HO.o.symm;clear HO;have hr:((((ra::r).length:Nat):Int)==0)=false:=(by rw[cg,cN];omega);obtain ⟨rl,hrl⟩:=aq ((ra::r).length);rw[hrl] at hr ⊢;clear hrl;exact abx
  | nil=>
   simp only[List.length_nil];by_cases ht:t.toNat=tag.toNat
   ·have HN:Hid (oc=some i):=(by show _=_;rw[<-HO.o];exact if_pos ht);have hb:((t.toNat:Int)==(tag.toNat:Int))=true:=(by rw[cL];omega);clear HO ht;go_wp2_with fail;go_quiet (fail)
    go_wp2;go_ret2;exact ⟨_,i,by rw[HN.o];rfl,HH.o.1.drewN _,HH.o.2.1,fun j hj=>(by rw[HN.o] at hj;injection hj with hj;exact hj.symm),aY HH.o.2.2 _⟩
   ·have HN:Hid (oc=none):=(by show _=_;rw[<-HO.o];exact if_neg ht);have hb:((t.toNat:Int)==(tag.toNat:Int))=false:=(by rw[cg];omega);clear HO ht;exact abx
end Go.Proofs.YteknelimjfgmaaaGreatDoor
