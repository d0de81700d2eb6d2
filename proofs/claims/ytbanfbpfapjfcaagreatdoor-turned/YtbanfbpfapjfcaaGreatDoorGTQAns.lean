/-
  
  
  
-/
import Derived.Test.YtbanfbpfapjfcaaGreatDoorGTQPool
import Derived.Test.YtbanfbpfapjfcaaGreatDoorGTQLookC
import Derived.Test.YtbanfbpfapjfcaaGreatDoorGTPBookG
namespace Go.Proofs.YtbanfbpfapjfcaaGreatDoor
open Go.RowKit
set_option maxRecDepth 100000
structure QuickAt (w : World) (g : Nat) (dp : Option Pl) (M : DM) : Prop where
 desk : DeskAt w g 0 dp M
 look : LooksOf w g M.book
 pool : PoolAt w g 222 false false
theorem QuickAt.cf {w w' : World} {ex : Nat → Nat → Prop} {g : Nat} {dp : Option Pl} {M : DM} (h : QuickAt w g dp M) (k : CF w w' ex) (hg : ∀ y,¬ ex g y) (hd : ∀ q,dp = some q → ∀ y,¬ ex q.g y) : QuickAt w' g dp M :=
 ⟨h.desk.cf k (fun _ _ _ => hg _) (fun q hq _ _ => hd q hq _),h.look.cf k (fun _ _ _ => hg _),h.pool.cf k (hg _) (hg _)⟩
theorem QuickAt.grown {w w' : World} {g : Nat} {dp : Option Pl} {M : DM} (h : QuickAt w g dp M) (k : w.grownBy w' none) : QuickAt w' g dp M := h.cf (CF.of_gb k (fun _ _ => False)) (fun _ e => e) (fun _ _ _ e => e)
theorem hs_quick (w : World) (g : Nat) (dp : Option Pl) (M : DM) (hd : DeskAt w g 0 dp M) (hdx : ∀ q,dp = some q → q.g ≠ g) (hin : ∀ e ∈ M.book,e.In) (hso : M.book.Pairwise (fun x y => Op.bytesLess x.name y.name = true)) :
  HS (w.heap.size + 1) g (w.heap.size + 2) 152 (.pointer (some ⟨g,0,none⟩)) (.pointer (some ⟨g,0,none⟩)) (some ⟨g,222,300⟩) (some ⟨g,523,300⟩) dp (QJ g M.book) (exL g) (exQ g) M.book := by
 have hg : g < w.heap.size := hd.live.lt
 have hh : ∀ (o b y : Nat),Pl.has (some ⟨g,o,300⟩) b y → b = g ∧ o ≤ y ∧ y < o + 300 := fun o b y h => by
  obtain ⟨q,hq,h1,h2,h3⟩ := h
  injection hq with hq
  subst hq
  exact ⟨h1,h2,h3⟩
 refine ⟨meth_quick g,finds_quick g M.book hso,fun y e => by have := e.1; omega,fun b y hb e => by have := e.1; omega,fun b y hb e => by have := e.1; omega,fun b y h e => by have := hh _ _ _ h; omega,fun b y h e => by have := hh _ _ _ h; omega,fun e => by omega,fun y h1 h2 e => by omega,(fun q h => by injection h with h; subst h; show w.heap.size + 1 ≠ g; omega),(fun q h => by injection h with h; subst h; show w.heap.size + 1 ≠ g; omega),fun j hj h => by have := hh _ _ _ h; omega,fun j hj h => by have := hh _ _ _ h; omega,fun y hy e => by omega,by omega,fun p hp => ?_,by omega,by omega,hin,hso⟩
 have h1 : p.g < w.heap.size := hd.ltg hp
 have h2 : p.g ≠ g := hdx p hp
 exact ⟨h2,by omega,by omega,fun y => ⟨fun h => h2 h.1,fun h => h2 (hh _ _ _ h).1,fun h => h2 (hh _ _ _ h).1⟩⟩
theorem fin_book (M : DM) (now : Int) (R : Except Int GR) : (finishM M now R).2.book = M.book := by
 unfold finishM
 cases R with
 | error c => rfl
 | ok g =>
  dsimp only
  split <;> rfl
theorem answer_book (M : DM) (now : Int) (req : List UInt8) : (answerM M now req).2.book = M.book := by
 unfold answerM
 split
 ·exact fin_book _ _ _
 ·split
  ·unfold nextM
   split
   ·rfl
   ·dsimp only
    split
    ·rfl
    ·exact fin_book _ _ _
  ·rfl
structure QFin (w w' : World) (g : Nat) (dp : Option Pl) (v' : Value) (R : List UInt8 × DM) : Prop where
 out : ∃ p',Out w' v' p' R.1 ∧ Pl.fresh w.heap.size p'
 desk : ∃ dp',QuickAt w' g dp' R.2 ∧ ∀ q',dp' = some q' → ∃ q,dp = some q ∧ q.g = q'.g
 cf : CF w w' (fun b _ => b = g)
theorem clone_out (v : Value) (p : Option Pl) (bs : List UInt8) (n : Nat) (w : World) (h : Out w v p bs) (hn : Hid (bs.length = n)) (hbig : n ≤ 140737488355328) :
  Calls Tryz.prog 174 #[v] w fun e w' => ∃ ao c,e = .returned (.slice ao n c) ∧ (∃ p',Out w' (.slice ao n c) p' bs ∧ Pl.fresh w.heap.size p') ∧ w.grownBy w' none := by
 rcases h with ⟨_,hv,hbs⟩ | ⟨q,hq,hv,h1,h2,h3,h4⟩
 ·rw [hv]
  have hn0 : n = 0 := by rw [← hn.out,hbs]; rfl
  refine (Tryz.bytes_Clone_nil 0 0 w).mono ?_
  rintro e w1 ⟨rfl,rfl⟩
  exact ⟨none,0,by rw [hn0],⟨none,.inl ⟨rfl,by rw [hn0],hbs⟩,fun q hq => by cases hq⟩,World.grownBy.refl _ _⟩
 ·rw [hv,hn.out]
  refine (Tryz.bytes_Clone_at ⟨q.g,q.off,none⟩ n q.cap (bs.map fun z => (z.toNat : Int)) w (by rw [List.length_map]; exact hn.out) hbig (fun i hi => ?_)).mono ?_
  ·have hi' : i < bs.length := by rw [hn.out]; exact hi
   have e : (bs.map fun z => (z.toNat : Int)).getD i 0 = (bs[i].toNat : Int) := by
    rw [List.getD_eq_getElem?_getD,List.getElem?_map,List.getElem?_eq_getElem hi']; rfl
   rw [e,Addr.add_lit]
   exact h4 i _ (by rw [List.getElem?_map,List.getElem?_eq_getElem hi']; rfl)
  ·rintro e w1 ⟨v,rfl,own,hnz,hb⟩
   obtain ⟨ao,c,rfl⟩ := own_shape own
   rw [List.map_map] at own
   have own' : w1.ownsRow w.heap.size 5 1 (.slice ao n c) n (bs.map U8) := own
   obtain ⟨dp,ho,hf⟩ := Out.own own'
   exact ⟨ao,c,rfl,⟨dp,ho,hf⟩,⟨hb.os,hb.tape,hb.output,hb.size,fun b hb' _ => hb.block b hb'⟩⟩
set_option maxHeartbeats 4000000 in
theorem quickAnswer_any (g : Nat) (dp : Option Pl) (M : DM) (now : Int) (req : List UInt8) (n : Nat) (ao : Option Addr) (cap : Nat) (w : World) (hq : QuickAt w g dp M) (hdx : ∀ q,dp = some q → q.g ≠ g) (hin : ∀ e ∈ M.book,e.In) (hso : M.book.Pairwise (fun x y => Op.bytesLess x.name y.name = true))
  (hn : Hid (req.length = n)) (hs : At w ao req) (hao : ∀ b off,ao = some ⟨b,off,none⟩ → b ≠ g) (hb : Bs (ao,req) (.slice ao n cap) req) (hnow : In64 now) (hsk : In64 M.skew) (htm : ∀ y ∈ M.proofs,In64 y.time) (hlen : (answerM M now req).1.length ≤ 900) :
  Calls Tryz.prog 314 #[.pointer (some ⟨g,0,none⟩),.int .i64 now,.slice ao n cap] w fun e w' => ∃ v',e = .returned v' ∧ QFin w w' g dp v' (answerM M now req) := by
 obtain ⟨R,hR⟩ : ∃ R,answerM M now req = R := ⟨_,rfl⟩
 obtain ⟨m,hm⟩ : ∃ m,R.1.length = m := ⟨_,rfl⟩
 have hbk : R.2.book = M.book := by rw [← hR]; exact answer_book M now req
 rw [hR] at hlen ⊢
 have HT1 := hid (take_first g 222 false w hq.pool)
 have HT2 : Hid (∀ W,PoolAt W g 222 true false → Calls Tryz.prog 317 #[.pointer (some ⟨g,222,none⟩)] W fun e w' => e = .returned (.pointer (some ⟨g,523,none⟩)) ∧ PoolAt w' g 222 true true ∧ CF W w' (fun b y => b = g ∧ y = 823)) := fun W h => take_second g 222 W h
 have HD : Hid (∀ W,CF w W (fun b y => b = g ∧ 222 ≤ y) → DeskAt W g 0 dp M ∧ QJ g M.book W ∧ At W ao req ∧ Live W g 824) := fun W k =>
  ⟨hq.desk.cf k (fun j _ hj e => by omega) (fun q hq' j _ e => hdx q hq' e.1),⟨hq.desk.book.cf k (fun j h1 h2 e => by omega),hq.look.cf k (fun j h1 h2 e => by omega)⟩,hs.cf k (fun b off e j hj n => hao b off e n.1),hq.pool.live.cf k⟩
 have HA : Hid (∀ W,CF w W (fun b y => b = g ∧ 222 ≤ y) → Calls Tryz.prog 87 #[.pointer (some ⟨g,0,none⟩),.agg #[.iface 152 (.pointer (some ⟨g,0,none⟩)),.slice (some ⟨g,222,none⟩) 0 300,.slice (some ⟨g,523,none⟩) 0 300],.int .i64 now,.slice ao n cap] W fun e w' => ∃ v',e = .returned v' ∧ Fin W w' g (some ⟨g,222,300⟩) (some ⟨g,523,300⟩) dp (exL g) v' R ∧ QJ g M.book w') := by
  intro W k
  obtain ⟨h1,h2,h3,h4⟩ := HD.out W k
  rw [← hR]
  exact answerBy_any g 152 (.pointer (some ⟨g,0,none⟩)) (.pointer (some ⟨g,0,none⟩)) (.slice (some ⟨g,222,none⟩) 0 300) (.slice (some ⟨g,523,none⟩) 0 300) (some ⟨g,222,300⟩) (some ⟨g,523,300⟩) dp _ _ _ M now (ao,req) req n ao cap W (hs_quick W g dp M h1 hdx hin hso) h1 h2 (.inr ⟨_,rfl,rfl,Nat.zero_le _,by unfold maxLen; show 300 ≤ _; decide,h4.mono (by show 222 + 300 ≤ 824; omega),fun j v hv => by simp at hv⟩) (.inr ⟨_,rfl,rfl,Nat.zero_le _,by unfold maxLen; show 300 ≤ _; decide,h4.mono (by show 523 + 300 ≤ 824; omega),fun j v hv => by simp at hv⟩) hn h3 hb (fun b off e j hj => ⟨fun h => by obtain ⟨q,hq',e1,_⟩ := h; injection hq' with hq'; subst hq'; exact hao b off e e1,fun h => hao b off e h.1⟩) hnow hsk htm
 have HL := hid hlen
 have HM := hid hm
 have HBk := hid hbk
 have HQ := hid (And.intro hq hdx)
 clear hq hdx hin hso hn hs hao hb hnow hsk htm hlen hR hm hbk
 go_enter_defers Tryz.func314,Tryz.ntmps314
 go_wp2_with (first
  | (go_at_call 317; refine HT1.out.mono ?_; clear HT1; rintro e w1 ⟨rfl,p1,C1⟩; have HP1 := hid p1; have HC1 := hid C1; clear p1 C1)
  | (go_at_call 317; refine (HT2.out _ HP1.out).mono ?_; clear HT2; rintro e w2 ⟨rfl,p2,C2⟩; have HP2 := hid p2; have HC2 : Hid (CF w w2 (fun b y => b = g ∧ 222 ≤ y)) := (HC1.out.mono (fun _ _ _ e => ⟨e.1,by omega⟩)).trans C2 (fun _ _ _ e => ⟨e.1,by omega⟩); clear p2 C2 HP1 HC1)
  | (go_at_call 319; refine (room_any _ _ _).mono ?_; rintro e w3 ⟨rfl,rfl⟩))
 obtain ⟨W3,hW3⟩ : ∃ W,W = w2.alloc (.cells #[.iface 152 (.pointer (some ⟨g,0,none⟩)),.slice (some ⟨g,222,none⟩) 0 300,.slice (some ⟨g,523,none⟩) 0 300] 200) := ⟨_,rfl⟩
 rw [← hW3]
 have HG3 : Hid (w2.grownBy W3 none) := by show World.grownBy _ _ _; rw [hW3]; exact World.grownBy_alloc _ _ none
 have HR3 : Hid (W3.rangeAt w2.heap.size 0 [.iface 152 (.pointer (some ⟨g,0,none⟩)),.slice (some ⟨g,222,none⟩) 0 300,.slice (some ⟨g,523,none⟩) 0 300]) := by show World.rangeAt _ _ _ _; rw [hW3]; exact cells_range w2 #[.iface 152 (.pointer (some ⟨g,0,none⟩)),.slice (some ⟨g,222,none⟩) 0 300,.slice (some ⟨g,523,none⟩) 0 300] _
 clear hW3
 have x0 : W3.cell? ⟨w2.heap.size,0,none⟩ = some (.iface 152 (.pointer (some ⟨g,0,none⟩))) := HR3.out 0 _ rfl
 have x1 : W3.cell? ⟨w2.heap.size,1,none⟩ = some (.slice (some ⟨g,222,none⟩) 0 300) := HR3.out 1 _ rfl
 have x2 : W3.cell? ⟨w2.heap.size,2,none⟩ = some (.slice (some ⟨g,523,none⟩) 0 300) := HR3.out 2 _ rfl
 have HC3 : Hid (CF w W3 (fun b y => b = g ∧ 222 ≤ y)) := HC2.out.trans (CF.of_gb HG3.out (fun _ _ => False)) (fun _ _ _ e => e.elim)
 have Hgw : Hid (g < w2.heap.size) := by have h1 := (HD.out _ HC2.out).2.2.2.lt; exact h1
 have HFx : Hid (∀ w' v',Fin (W3.drewN 1) w' g (some ⟨g,222,300⟩) (some ⟨g,523,300⟩) dp (exL g) v' R → (∃ a c,v' = .slice a m c) ∧ CF W3 w' (fun b _ => b = g) ∧ (w'.cell? ⟨w2.heap.size,0,none⟩ = some (.iface 152 (.pointer (some ⟨g,0,none⟩))) ∧ w'.cell? ⟨w2.heap.size,1,none⟩ = some (.slice (some ⟨g,222,none⟩) 0 300) ∧ w'.cell? ⟨w2.heap.size,2,none⟩ = some (.slice (some ⟨g,523,none⟩) 0 300))) := fun w' v' h => by
  have hc : CF W3 w' (fun b _ => b = g) := h.cf.undrewN.mono (fun b y _ e => by
   rcases e with e | (e | e) | e
   ·exact e.1
   ·exact e.1
   ·obtain ⟨q,hq,e1,_⟩ := e; injection hq with hq; subst hq; exact e1
   ·obtain ⟨q,hq,e1,_⟩ := e; injection hq with hq; subst hq; exact e1)
  refine ⟨?_,hc,hc.cell x0 (fun e => by have := Hgw.out; omega),hc.cell x1 (fun e => by have := Hgw.out; omega),hc.cell x2 (fun e => by have := Hgw.out; omega)⟩
  obtain ⟨p',ho,_⟩ := h.out
  obtain ⟨a,c,hv,_⟩ := ho.shape
  exact ⟨a,c,by rw [hv,HM.out]⟩
 have HCl : Hid (∀ (W : World) a c p,Out W (.slice a m c) p R.1 → Calls Tryz.prog 174 #[.slice a m c] W fun e w' => ∃ ao c,e = .returned (.slice ao m c) ∧ (∃ p',Out w' (.slice ao m c) p' R.1 ∧ Pl.fresh W.heap.size p') ∧ W.grownBy w' none) := fun W a c p h => clone_out _ p R.1 m W h HM (by have := HL.out; have := HM.out; omega)
 go_region_held3 (fun w' => w'.cell? ⟨w2.heap.size,0,none⟩ = some (.iface 152 (.pointer (some ⟨g,0,none⟩))) ∧ w'.cell? ⟨w2.heap.size,1,none⟩ = some (.slice (some ⟨g,222,none⟩) 0 300) ∧ w'.cell? ⟨w2.heap.size,2,none⟩ = some (.slice (some ⟨g,523,none⟩) 0 300)) (go_keep) (first
  | (go_at_call 87; refine (HA.out _ (HC3.out.trans (CF.of_gb (gb_drewN (World.grownBy.refl _ _) 1) (fun _ _ => False)) (fun _ _ _ e => e.elim))).mono ?_; rintro e w4 ⟨v4,rfl,F4,j4⟩; have HF4 := hid F4; have HJ4 := hid j4; obtain ⟨⟨a4,c4,hv4⟩,C4,y0,y1,y2⟩ := HFx.out _ _ F4; have HC4 := hid C4; subst hv4; obtain ⟨p4,o4,_⟩ := F4.out; have HO4 := hid o4; clear F4 j4 C4 o4)
  | (go_at_call 174; refine (HCl.out _ _ _ _ HO4.out).mono ?_; rintro e w5 ⟨a5,c5,rfl,o5,g5⟩; have HO5 := hid o5; have HG5 := hid g5; have z0 := g5.cell y0 (by simp); have z1 := g5.cell y1 (by simp); have z2 := g5.cell y2 (by simp); clear o5 g5))
 go_wp2
 have HL5 : Live w5 g 824 := ((HD.out _ HC3.out).2.2.2.cf HC4.out).grown HG5.out
 refine leaves_cons (f := 318) (args := #[.pointer (some ⟨g,523,none⟩)]) (by simp) (by simp [go_sem]) ?_
 refine (giveBack_any g 523 .returning _ (HL5.mono (by decide))).mono ?_
 rintro e u' w6 ⟨rfl,rfl,c6,C6⟩
 refine leaves_cons (f := 318) (args := #[.pointer (some ⟨g,222,none⟩)]) (by simp [settle]) (by simp [go_sem]) ?_
 refine (giveBack_any g 222 _ _ ((HL5.cf C6).mono (by decide))).mono ?_
 rintro e u' w7 ⟨rfl,rfl,c7,C7⟩
 refine ⟨_,results_tmp rfl _ _ _,_,rfl,?_⟩
 have C56 : CF w5 w6 (fun b y => b = g ∧ 222 ≤ y) := C6.mono (fun _ _ _ e => ⟨e.1,by omega⟩)
 have C57 : CF w5 w7 (fun b y => b = g ∧ 222 ≤ y) := C56.trans C7 (fun _ _ _ e => ⟨e.1,by omega⟩)
 have C47 : CF w4 w7 (fun b y => b = g ∧ 222 ≤ y) := (CF.of_gb HG5.out _).trans C57 (fun _ _ _ e => e)
 have hg4 : g < w4.heap.size := ((HD.out _ HC3.out).2.2.2.cf HC4.out).lt
 have s4 : w.heap.size ≤ w4.heap.size := Nat.le_trans HC3.out.size HC4.out.size
 refine ⟨?_,?_,?_⟩
 ·obtain ⟨p',ho,hf⟩ := HO5.out
  exact ⟨p',ho.cf C57 (fun q hq j _ e => by have := hf q hq; omega),fun q hq => Nat.le_trans s4 (hf q hq)⟩
 ·obtain ⟨dp',hd,hs⟩ := HF4.out.desk
  have hne : ∀ q,dp' = some q → q.g ≠ g := fun q hq e => by
   obtain ⟨q0,h0,h1⟩ := hs q hq
   exact HQ.out.2 q0 h0 (h1.trans e)
  refine ⟨dp',⟨hd.cf C47 (fun j _ hj e => by omega) (fun q hq j _ e => hne q hq e.1),?_,?_⟩,hs⟩
  ·rw [HBk.out]
   obtain ⟨ls,nx,h1,h2⟩ := HJ4.out.2
   exact ⟨ls,nx,h1.cf C47 (fun j h3 h4 e => by omega),h2⟩
  ·exact ⟨HL5.cf C57,c7,C7.cell c6 (fun e => by omega)⟩
 ·exact (((HC3.out.mono (fun _ _ _ e => e.1)).trans HC4.out (fun _ _ _ e => e)).trans C47 (fun _ _ _ e => e.1))
end Go.Proofs.YtbanfbpfapjfcaaGreatDoor
namespace Go.Proofs.YtbanfbpfapjfcaaGreatDoor
open Go.RowKit
set_option maxRecDepth 100000
theorem DeskAt.bookedQ {w w' : World} {g : Nat} {dp : Option Pl} {d : DM} {es : List BE} (h : DeskAt w g 0 dp d) (k : CF w w' (exB g 2)) (hb : BookAt w' g 2 es) (hd : ∀ q,dp = some q → q.g ≠ g) : DeskAt w' g 0 dp { d with book := es } := by
 obtain ⟨v,hv,ho⟩ := h.draws
 refine ⟨h.live.cf k,k.cell h.skew (fun e => by have := e.2.1; omega),⟨v,k.cell hv (fun e => by have := e.2.1; omega),ho.cf k (fun q hq j _ e => hd q hq e.1)⟩,hb,k.range h.proofs (fun j _ e => by have := e.2.2; omega),k.cell h.count (fun e => by have := e.2.2; omega),h.few⟩
theorem admB_same {es : List BE} {a : Adm} (h : (admB es a).2 ≠ 0) : (admB es a).1 = es := by
 unfold admB at h ⊢
 repeat' split
 all_goals first | rfl | (simp_all)
set_option maxHeartbeats 2000000 in
theorem quickAdmin_any (g : Nat) (dp : Option Pl) (M : DM) (n : Nat) (a : Adm) (w : World) (hq : QuickAt w g dp M) (hdx : ∀ q,dp = some q → q.g ≠ g) (hok : BookOk n M.book) (hn : n ≤ 4611686018427387904) (hf0 : -9223372036854775808 ≤ a.flags) (hf1 : a.flags ≤ 9223372036854775807) (hl : a.name.length ≤ 9223372036854775807) :
  Calls Tryz.prog 313 #[.pointer (some ⟨g,0,none⟩),.agg a.cells] w fun e w' => e = .returned (.int .i64 (admB M.book a).2) ∧ QuickAt w' g dp { M with book := (admB M.book a).1 } ∧ CF w w' (fun b _ => b = g) := by
 have HCh := hid (fun w h => deskAdmin_any g 0 M.book a w h hok.sorted (fun e he => ⟨(hok.num e he).1,by have := (hok.num e he).2; omega⟩) hf0 hf1 hl)
 have G0 := hid (World.grownBy_alloc w (.cells a.cells 61) none)
 have HB := hid (hq.desk.book.grown G0.out)
 have hlt := hq.desk.live.lt
 have hne : w.heap.size ≠ g := fun e => by omega
 obtain ⟨c0,c1,c2,c3,c4,c5,c6⟩ := AdmAt.new w a 61
 obtain ⟨r,hr⟩ : ∃ r,(admB M.book a).2 = r := ⟨_,rfl⟩
 obtain ⟨es',hes⟩ : ∃ es',(admB M.book a).1 = es' := ⟨_,rfl⟩
 have HSame : Hid (r ≠ 0 → es' = M.book) := fun h => by rw [← hes]; exact admB_same (by rw [hr]; exact h)
 rw [hr,hes] at HCh
 rw [hr,hes]
 have HQ : Hid (∀ W,CF w W (exB g 2) → BookAt W g 2 es' → DeskAt W g 0 dp { M with book := es' } ∧ PoolAt W g 222 false false ∧ LooksOf W g M.book ∧ Live W g (188 + 34)) := fun W k hb =>
  ⟨hq.desk.bookedQ k hb hdx,hq.pool.cf k (fun e => by have := e.2; omega) (fun e => by have := e.2; omega),hq.look.cf k (fun j h1 h2 e => by have := e.2; omega),hq.pool.live.mono (by decide) |>.cf k⟩
 have HNe := hid hdx
 clear hq hok hn hf0 hf1 hl hr hes hdx
 by_cases h0 : r = 0
 ·subst h0
  go_enter Tryz.func313,Tryz.ntmps313
  go_wp2_with fail
  go_region_held3 (fun w' => w'.cell? ⟨w.heap.size,0,none⟩ = some (.int .i64 a.kind) ∧ w'.cell? ⟨w.heap.size,1,none⟩ = some (.string ⟨a.name.toArray⟩) ∧ w'.cell? ⟨w.heap.size,2,none⟩ = some (.int .u64 (a.key.toNat : Int)) ∧ w'.cell? ⟨w.heap.size,3,none⟩ = some (.int .i64 a.life) ∧ w'.cell? ⟨w.heap.size,4,none⟩ = some (.int .i64 a.renew) ∧ w'.cell? ⟨w.heap.size,5,none⟩ = some (.int .i64 a.expire) ∧ w'.cell? ⟨w.heap.size,6,none⟩ = some (.int .i64 a.flags)) (go_keep) (first | (go_at_call 66; refine (HCh.out _ (HB.out.drewN 1)).mono ?_; rintro e w6 ⟨rfl,b6,C6⟩; have HB6 := hid b6; have HC6 := hid C6.undrew;  have e0 := C6.undrew.cell c0 (fun q => hne q.1); have e1 := C6.undrew.cell c1 (fun q => hne q.1); have e2 := C6.undrew.cell c2 (fun q => hne q.1); have e3 := C6.undrew.cell c3 (fun q => hne q.1); have e4 := C6.undrew.cell c4 (fun q => hne q.1); have e5 := C6.undrew.cell c5 (fun q => hne q.1); have e6 := C6.undrew.cell c6 (fun q => hne q.1); clear b6 C6))
  have HC6' := hid (CF.before G0.out HC6.out)
  have HP := hid (HQ.out _ HC6'.out HB6.out)
  go_wp2_with (go_at_call 316; refine (forget_any g 188 _ HP.out.2.2.2).mono ?_; rintro e w7 ⟨rfl,l7,C7⟩; have HL7 := hid l7; have HC7 := hid C7; clear l7 C7)
  go_ret
  refine ⟨rfl,⟨HP.out.1.cf HC7.out (fun j _ hj e => by omega) (fun q hq j _ e => ?_),⟨[],0,HL7.out,fun e he => by cases he⟩,HP.out.2.1.cf HC7.out (fun e => by omega) (fun e => by omega)⟩,(HC6'.out.mono (fun _ _ _ e => e.1)).trans HC7.out (fun _ _ _ e => e.1)⟩
  exact HNe.out q hq e.1
 ·have hb0 : (r == 0) = false := by simpa using h0
  have HR0 := hid h0
  clear h0
  go_enter Tryz.func313,Tryz.ntmps313
  go_wp2_with fail
  go_region_held3 (fun w' => w'.cell? ⟨w.heap.size,0,none⟩ = some (.int .i64 a.kind) ∧ w'.cell? ⟨w.heap.size,1,none⟩ = some (.string ⟨a.name.toArray⟩) ∧ w'.cell? ⟨w.heap.size,2,none⟩ = some (.int .u64 (a.key.toNat : Int)) ∧ w'.cell? ⟨w.heap.size,3,none⟩ = some (.int .i64 a.life) ∧ w'.cell? ⟨w.heap.size,4,none⟩ = some (.int .i64 a.renew) ∧ w'.cell? ⟨w.heap.size,5,none⟩ = some (.int .i64 a.expire) ∧ w'.cell? ⟨w.heap.size,6,none⟩ = some (.int .i64 a.flags)) (go_keep) (first | (go_at_call 66; refine (HCh.out _ (HB.out.drewN 1)).mono ?_; rintro e w6 ⟨rfl,b6,C6⟩; have HB6 := hid b6; have HC6 := hid C6.undrew;  have e0 := C6.undrew.cell c0 (fun q => hne q.1); have e1 := C6.undrew.cell c1 (fun q => hne q.1); have e2 := C6.undrew.cell c2 (fun q => hne q.1); have e3 := C6.undrew.cell c3 (fun q => hne q.1); have e4 := C6.undrew.cell c4 (fun q => hne q.1); have e5 := C6.undrew.cell c5 (fun q => hne q.1); have e6 := C6.undrew.cell c6 (fun q => hne q.1); clear b6 C6))
  have HC6' := hid (CF.before G0.out HC6.out)
  have HP := hid (HQ.out _ HC6'.out HB6.out)
  go_wp2
  go_ret
  refine ⟨rfl,⟨HP.out.1,?_,HP.out.2.1⟩,HC6'.out.mono (fun _ _ _ e => e.1)⟩
  rw [HSame.out HR0.out]
  exact HP.out.2.2.1
end Go.Proofs.YtbanfbpfapjfcaaGreatDoor
namespace Go.Proofs.YtbanfbpfapjfcaaGreatDoor
open Go.RowKit
set_option maxRecDepth 100000
theorem meth_admin (g : Nat) : ∀ W,(method 555 152 (.pointer (some ⟨g,0,none⟩)) "Admin").run Tryz.prog W = .ok (313,.pointer (some ⟨g,0,none⟩)) W := fun _ => by kernel_rfl
theorem meth_answer (g : Nat) : ∀ W,(method 555 152 (.pointer (some ⟨g,0,none⟩)) "Answer").run Tryz.prog W = .ok (314,.pointer (some ⟨g,0,none⟩)) W := fun _ => by kernel_rfl
abbrev jobCells (a : Adm) (now : Int) (v : Value) : Array Value := #[.int .i64 a.kind,.string ⟨a.name.toArray⟩,.int .u64 (a.key.toNat : Int),.int .i64 a.life,.int .i64 a.renew,.int .i64 a.expire,.int .i64 a.flags,.int .i64 now,v]
theorem Tryz.sizeDone : (Tryz.prog.info? 93).map (·.size) = some 2 := by kernel_rfl
theorem twoSet (w : World) (b : Nat) (v0 v1 : Value) {d0 d1 : Value} (q0 : w.cell? ⟨b,0,none⟩ = some d0) (q1 : w.cell? ⟨b,1,none⟩ = some d1) : ((w.setCell ⟨b,0,none⟩ v0).setCell ⟨b,1,none⟩ v1).rangeAt b 0 [v0,v1] := by
 intro j v hv
 match j,hv with
 | 0,hv =>
  injection hv with hv
  subst hv
  rw [World.cell?_setCell_other _ _ _ _ (fun e => by injection e with _ e; omega)]
  exact World.cell?_setCell_same _ _ _ q0
 | 1,hv =>
  injection hv with hv
  subst hv
  exact World.cell?_setCell_same _ _ _ (by rw [World.cell?_setCell_other _ _ _ _ (fun e => by injection e with _ e; omega)]; exact q1)
 | j + 2,hv => simp at hv
theorem QFin.shape {w w' : World} {g : Nat} {dp : Option Pl} {v' : Value} {R : List UInt8 × DM} (h : QFin w w' g dp v' R) : ∃ a c,v' = .slice a R.1.length c := by
 obtain ⟨p',ho,_⟩ := h.out
 obtain ⟨a,c,hv,_⟩ := ho.shape
 exact ⟨a,c,hv⟩
theorem QFin.after {w W w1 w2 : World} {g : Nat} {dp : Option Pl} {v' : Value} {R : List UInt8 × DM} (h : QFin W w1 g dp v' R) (G : w.grownBy W none) (b0 : Nat) (hb0 : w.heap.size ≤ b0) (hb1 : b0 < W.heap.size) (hg : g < w.heap.size) (hd : ∀ q,dp = some q → q.g < w.heap.size) (k : CF w1 w2 (fun b _ => b = b0)) : QFin w w2 g dp v' R := by
 obtain ⟨p',ho,hf⟩ := h.out
 obtain ⟨dp',hq,hs⟩ := h.desk
 refine ⟨⟨p',ho.cf k (fun q hq j _ e => by have := hf q hq; omega),fun q hq => Nat.le_trans G.size (hf q hq)⟩,⟨dp',hq.cf k (fun _ e => by omega) (fun q hq _ e => ?_),hs⟩,(CF.before G h.cf).trans k (fun _ _ hlt e => by omega)⟩
 obtain ⟨q0,h0,h1⟩ := hs q hq
 have := hd q0 h0
 omega
set_option maxHeartbeats 2000000 in
theorem do_admin (g : Nat) (dp : Option Pl) (M : DM) (n : Nat) (a : Adm) (now : Int) (v : Value) (w : World) (hq : QuickAt w g dp M) (hdx : ∀ q,dp = some q → q.g ≠ g) (hok : BookOk n M.book) (hn : n ≤ 4611686018427387904) (hf0 : -9223372036854775808 ≤ a.flags) (hf1 : a.flags ≤ 9223372036854775807) (hl : a.name.length ≤ 9223372036854775807) (hk : (a.kind == 0) = false) :
  Calls Tryz.prog 88 #[.iface 152 (.pointer (some ⟨g,0,none⟩)),.agg (jobCells a now v)] w fun e w' => e = .returned (.agg #[.slice none 0 0,.int .i64 (admB M.book a).2]) ∧ QuickAt w' g dp { M with book := (admB M.book a).1 } ∧ CF w w' (fun b _ => b = g) := by
 obtain ⟨W0,hW0⟩ : ∃ W,W = (w.alloc (.cells (jobCells a now v) 90)).alloc (.cells #[.slice none 0 0,.int .i64 0] 93) := ⟨_,rfl⟩
 have G0 : w.grownBy W0 none := by rw [hW0]; exact gb_alloc (World.grownBy_alloc w _ none) _
 have RJ : W0.rangeAt w.heap.size 0 (jobCells a now v).toList := by rw [hW0]; exact range_gb (cells_range w (jobCells a now v) _) (World.grownBy_alloc _ _ none)
 have LD : Live W0 (w.heap.size + 1) 2 := by
  have h := Live.new (w.alloc (.cells (jobCells a now v) 90)) #[.slice none 0 0,.int .i64 0] 93
  rw [World.size_alloc] at h
  rw [hW0]
  exact h
 have k0 : W0.cell? ⟨w.heap.size,0,none⟩ = some (.int .i64 a.kind) := RJ 0 _ rfl
 have k1 : W0.cell? ⟨w.heap.size,1,none⟩ = some (.string ⟨a.name.toArray⟩) := RJ 1 _ rfl
 have k2 : W0.cell? ⟨w.heap.size,2,none⟩ = some (.int .u64 (a.key.toNat : Int)) := RJ 2 _ rfl
 have k3 : W0.cell? ⟨w.heap.size,3,none⟩ = some (.int .i64 a.life) := RJ 3 _ rfl
 have k4 : W0.cell? ⟨w.heap.size,4,none⟩ = some (.int .i64 a.renew) := RJ 4 _ rfl
 have k5 : W0.cell? ⟨w.heap.size,5,none⟩ = some (.int .i64 a.expire) := RJ 5 _ rfl
 have k6 : W0.cell? ⟨w.heap.size,6,none⟩ = some (.int .i64 a.flags) := RJ 6 _ rfl
 have HC := hid (quickAdmin_any g dp M n a W0 (hq.grown G0) hdx hok hn hf0 hf1 hl)
 have HM := hid (meth_admin g)
 have hm := meth_admin g
 have hgl : g < w.heap.size := hq.desk.live.lt
 have HL := hid LD
 have HG := hid G0
 have HW0 := hid hW0
 have HDl : Hid (∀ q,dp = some q → q.g < w.heap.size) := fun q h => hq.desk.ltg h
 obtain ⟨r,hr⟩ : ∃ r,(admB M.book a).2 = r := ⟨_,rfl⟩
 obtain ⟨M',hM'⟩ : ∃ M',({ M with book := (admB M.book a).1 } : DM) = M' := ⟨_,rfl⟩
 rw [hr,hM'] at HC
 rw [hr,hM']
 have Hgl := hid hgl
 clear hq hdx hok hn hf0 hf1 hl RJ LD G0 hW0 hr hM' hgl HM
 go_enter Tryz.func88,Tryz.ntmps88
 go_wp2_with (first | (rw [← HW0.out]; fail_if_success done) | (go_at_call 313; refine HC.out.mono ?_; clear HC; rintro e w1 ⟨rfl,q1,C1⟩; have HQ1 := hid q1; have HC1 := hid C1; have hL := HL.out.cf C1; obtain ⟨d0,e0⟩ := Option.isSome_iff_exists.1 (hL.some 0 (by decide)); obtain ⟨d1,e1⟩ := Option.isSome_iff_exists.1 (hL.some 1 (by decide)); have f0 := hL.frozen 0; have f1 := hL.frozen 1; clear q1 C1 hL))
 refine bodyPost_ret (results_onecell Tryz.results88 _ _ _ (w.heap.size + 1) rfl _ (load_of (twoSet w1 (w.heap.size + 1) _ _ e0 e1) 93 _ Tryz.underlying93 rfl Tryz.sizeDone)) rfl ⟨rfl,?_,?_⟩
 ·refine HQ1.out.cf (ex := fun b _ => b = w.heap.size + 1) ?_ (fun _ e => by have := Hgl.out; omega) (fun q hq _ e => ?_)
  ·repeat refine CF.setCell ?_ _ _ _ (fun _ => rfl)
   exact CF.refl _ _
  ·have h1 := HDl.out q hq; omega
 ·refine (CF.before HG.out HC1.out).trans (ex2 := fun b _ => b = w.heap.size + 1) ?_ (fun _ _ hlt e => by omega)
  repeat refine CF.setCell ?_ _ _ _ (fun _ => rfl)
  exact CF.refl _ _
set_option maxHeartbeats 2000000 in
theorem do_answer (g : Nat) (dp : Option Pl) (M : DM) (a : Adm) (now : Int) (req : List UInt8) (n : Nat) (ao : Option Addr) (cap : Nat) (w : World) (hq : QuickAt w g dp M) (hdx : ∀ q,dp = some q → q.g ≠ g) (hin : ∀ e ∈ M.book,e.In) (hso : M.book.Pairwise (fun x y => Op.bytesLess x.name y.name = true)) (hn : Hid (req.length = n)) (hs : At w ao req) (hao : ∀ b off,ao = some ⟨b,off,none⟩ → b ≠ g) (hb : Bs (ao,req) (.slice ao n cap) req) (hnow : In64 now) (hsk : In64 M.skew) (htm : ∀ y ∈ M.proofs,In64 y.time) (hlen : (answerM M now req).1.length ≤ 900) (hk : (a.kind == 0) = true) :
  Calls Tryz.prog 88 #[.iface 152 (.pointer (some ⟨g,0,none⟩)),.agg (jobCells a now (.slice ao n cap))] w fun e w' => ∃ v',e = .returned (.agg #[v',.int .i64 0]) ∧ QFin w w' g dp v' (answerM M now req) := by
 obtain ⟨W0,hW0⟩ : ∃ W,W = (w.alloc (.cells (jobCells a now (.slice ao n cap)) 90)).alloc (.cells #[.slice none 0 0,.int .i64 0] 93) := ⟨_,rfl⟩
 have G0 : w.grownBy W0 none := by rw [hW0]; exact gb_alloc (World.grownBy_alloc w _ none) _
 have RJ : W0.rangeAt w.heap.size 0 (jobCells a now (.slice ao n cap)).toList := by rw [hW0]; exact range_gb (cells_range w (jobCells a now (.slice ao n cap)) _) (World.grownBy_alloc _ _ none)
 have LD : Live W0 (w.heap.size + 1) 2 := by
  have h := Live.new (w.alloc (.cells (jobCells a now (.slice ao n cap)) 90)) #[.slice none 0 0,.int .i64 0] 93
  rw [World.size_alloc] at h
  rw [hW0]
  exact h
 have k0 : W0.cell? ⟨w.heap.size,0,none⟩ = some (.int .i64 a.kind) := RJ 0 _ rfl
 have k7 : W0.cell? ⟨w.heap.size,7,none⟩ = some (.int .i64 now) := RJ 7 _ rfl
 have k8 : W0.cell? ⟨w.heap.size,8,none⟩ = some (.slice ao n cap) := RJ 8 _ rfl
 have HC := hid (quickAnswer_any g dp M now req n ao cap W0 (hq.grown G0) hdx hin hso hn (hs.below G0) hao hb hnow hsk htm hlen)
 have HM := hid (meth_answer g)
 have hm := meth_answer g
 have hgl : g < w.heap.size := hq.desk.live.lt
 have HL := hid LD
 have HG := hid G0
 have HW0 := hid hW0
 have HDl : Hid (∀ q,dp = some q → q.g < w.heap.size) := fun q h => hq.desk.ltg h
 obtain ⟨R,hR⟩ : ∃ R,answerM M now req = R := ⟨_,rfl⟩
 rw [hR] at HC ⊢
 have Hgl := hid hgl
 clear hq hdx hin hso hn hs hao hb hnow hsk htm hlen RJ LD G0 hW0 hR hgl HM
 go_enter Tryz.func88,Tryz.ntmps88
 go_wp2_with (first | (rw [← HW0.out]; fail_if_success done) | (go_at_call 314; refine HC.out.mono ?_; clear HC; rintro e w1 ⟨v1,rfl,F1⟩; obtain ⟨a1,c1,hv1⟩ := F1.shape; subst hv1; have HF1 := hid F1; have hL := HL.out.cf F1.cf; obtain ⟨d0,e0⟩ := Option.isSome_iff_exists.1 (hL.some 0 (by decide)); obtain ⟨d1,e1⟩ := Option.isSome_iff_exists.1 (hL.some 1 (by decide)); have f0 := hL.frozen 0; have f1 := hL.frozen 1; clear F1 hL))
 refine bodyPost_ret (results_onecell Tryz.results88 _ _ _ (w.heap.size + 1) rfl _ (load_of (twoSet w1 (w.heap.size + 1) _ _ e0 e1) 93 _ Tryz.underlying93 rfl Tryz.sizeDone)) rfl ⟨_,rfl,?_⟩
 refine HF1.out.after HG.out (w.heap.size + 1) (Nat.le_succ _) (by have h1 := HL.out.lt; have h2 := HF1.out.cf.size; omega) Hgl.out HDl.out ?_
 repeat refine CF.setCell ?_ _ _ _ (fun _ => rfl)
 exact CF.refl _ _
end Go.Proofs.YtbanfbpfapjfcaaGreatDoor
