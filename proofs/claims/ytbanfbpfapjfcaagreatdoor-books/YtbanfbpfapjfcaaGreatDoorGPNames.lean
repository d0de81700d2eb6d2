/-
  Contracts of package names: isPart, IsName. Conditions: in each statement.
  The desk's answers as mathematics: times, flags, what is in requests and tickets, the checks one behind the other, the replies. No program. Conditions: in each statement.
  Bits of numbers of 64 bits with a sign: which are set. No program. Conditions: in each statement.
-/
import Derived.Test.YtbanfbpfapjfcaaGreatDoorGWM
namespace Go.Proofs.YtbanfbpfapjfcaaGreatDoor
open Go.RowKit
set_option maxRecDepth 100000

theorem strAt {S : ByteArray} {l : List UInt8} (hS : S = ⟨l.toArray⟩) (j : Nat) (h : j < S.size) : S[j]'h = l.getD j 0 := by
  subst hS
  have hj : j < l.length := by simpa [ByteArray.size] using h
  simp only [List.getD, List.getElem?_eq_getElem hj, Option.getD_some]
  rfl

set_option maxHeartbeats 1000000 in
theorem isPart_any (z : UInt8) (w : World) : Calls Tryz.prog 259 #[.int .u8 (z.toNat : Int)] w fun e w' => e = .returned (.bool (isPart z)) ∧ w = w' := by
  have hz := z.toNat_lt
  have HP : Hid (isPart z = decide ((97 ≤ z.toNat ∧ z.toNat ≤ 122) ∨ (48 ≤ z.toNat ∧ z.toNat ≤ 57) ∨ z.toNat = 47)) := rfl
  have key : ∀ b, isPart z = b → (b = true ↔ ((97 ≤ z.toNat ∧ z.toNat ≤ 122) ∨ (48 ≤ z.toNat ∧ z.toNat ≤ 57) ∨ z.toNat = 47)) := by
    intro b hb
    rw [← hb, HP.out, decide_eq_true_iff]
  cases hp : isPart z
  · have hn : ¬ ((97 ≤ z.toNat ∧ z.toNat ≤ 122) ∨ (48 ≤ z.toNat ∧ z.toNat ≤ 57) ∨ z.toNat = 47) := fun h => by have := (key _ hp).2 h; cases this
    have d47 : ((z.toNat : Int) == 47) = false := by rw [beq_eq_false_iff_ne]; omega
    clear key HP hp
    by_cases h1 : 97 ≤ z.toNat
    · have h1' : (97 : Int) ≤ (z.toNat : Int) := by omega
      have h2 : ¬ (z.toNat : Int) ≤ 122 := by omega
      have h3 : ¬ (z.toNat : Int) ≤ 57 := by omega
      clear hn
      go_enter Tryz.func259, Tryz.ntmps259
      go_wp2
      go_ret
      exact ⟨rfl, rfl⟩
    · have h1' : ¬ (97 : Int) ≤ (z.toNat : Int) := by omega
      by_cases h4 : 48 ≤ z.toNat
      · have h4' : (48 : Int) ≤ (z.toNat : Int) := by omega
        have h3 : ¬ (z.toNat : Int) ≤ 57 := by omega
        clear hn
        go_enter Tryz.func259, Tryz.ntmps259
        go_wp2
        go_ret
        exact ⟨rfl, rfl⟩
      · have h4' : ¬ (48 : Int) ≤ (z.toNat : Int) := by omega
        clear hn
        go_enter Tryz.func259, Tryz.ntmps259
        go_wp2
        go_ret
        exact ⟨rfl, rfl⟩
  · have hy := (key _ hp).1 rfl
    clear key HP hp
    by_cases h1 : 97 ≤ z.toNat ∧ z.toNat ≤ 122
    · have h1' : (97 : Int) ≤ (z.toNat : Int) := by omega
      have h2 : (z.toNat : Int) ≤ 122 := by omega
      clear hy h1
      go_enter Tryz.func259, Tryz.ntmps259
      go_wp2
      go_ret
      exact ⟨rfl, rfl⟩
    · by_cases h4 : 48 ≤ z.toNat ∧ z.toNat ≤ 57
      · have h1' : ¬ (97 : Int) ≤ (z.toNat : Int) := by omega
        have h4' : (48 : Int) ≤ (z.toNat : Int) := by omega
        have h3 : (z.toNat : Int) ≤ 57 := by omega
        clear hy h1 h4
        go_enter Tryz.func259, Tryz.ntmps259
        go_wp2
        go_ret
        exact ⟨rfl, rfl⟩
      · have h1' : ¬ (97 : Int) ≤ (z.toNat : Int) := by omega
        have h4' : ¬ (48 : Int) ≤ (z.toNat : Int) := by omega
        have d47 : ((z.toNat : Int) == 47) = true := by rw [beq_iff_eq]; omega
        clear hy h1 h4
        go_enter Tryz.func259, Tryz.ntmps259
        go_wp2
        go_ret
        exact ⟨rfl, rfl⟩

set_option maxHeartbeats 1000000 in
theorem isName_any (l : List UInt8) (n : Nat) (S : ByteArray) (w : World) (hS : Hid (S = ⟨l.toArray⟩)) (hn : Hid (l.length = n)) (hl : n ≤ 9223372036854775807) :
    Calls Tryz.prog 213 #[.string S] w fun e w' => e = .returned (.bool (isNameL l)) ∧ w = w' := by
  have hsz : S.size = n := by rw [hS.out, ← hn.out]; simp [ByteArray.size]
  have HE : Hid (isNameL l = (decide (1 ≤ n ∧ n ≤ 16) && l.all isPart)) := by show _ = _; rw [isNameL, hn.out]
  by_cases h1 : 1 ≤ n
  · by_cases h16 : n ≤ 16
    · have h1' : ¬ (n : Int) < 1 := by omega
      have h16' : ¬ (16 : Int) < (n : Int) := by omega
      have HE2 : Hid (isNameL l = l.all isPart) := by show _ = _; rw [HE.out, decide_eq_true ⟨h1, h16⟩, Bool.true_and]
      clear HE
      go_enter Tryz.func213, Tryz.ntmps213
      go_wp2
      go_loop [3, 14] (fun _ i => ∃ k : Nat, k ≤ n ∧ i = .int .i64 k ∧ Hid ((l.take k).all isPart = true)) (fun _ i => n - (intOf i).toNat)
      case atStart => exact ⟨0, Nat.zero_le _, rfl, hid (by simp)⟩
      case round =>
        obtain ⟨k, hk, rfl, HA⟩ := hrel
        by_cases hlt : k < n
        · have hlt' : k < l.length := by rw [hn.out]; exact hlt
          have hgk := strAt hS.out k
          have HNx := hid (all_take_succ hlt')
          rw [HA.out, Bool.true_and] at HNx
          have HBad : Hid (isPart (l.getD k 0) = false → isNameL l = false) := by
            intro h
            rw [HE2.out]
            have hm : l.getD k 0 ∈ l := by
              rw [show l.getD k 0 = l[k] from by simp [List.getD, List.getElem?_eq_getElem hlt']]
              exact List.getElem_mem hlt'
            rw [List.all_eq_false]
            exact ⟨_, hm, by rw [h]; simp⟩
          generalize l.getD k 0 = z at hgk HNx HBad
          have hkI : (k : Int) < (n : Int) := by omega
          have hk0 : (0 : Int) ≤ (k : Int) := by omega
          cases hp : isPart z
          · have HF := hid (HBad.out hp)
            clear HBad HNx
            go_wp2_with (go_at_call 259; refine (isPart_any z _).mono ?_; rintro e w' ⟨rfl, rfl⟩)
            go_ret
            exact ⟨by rw [HF.out]; rfl, rfl⟩
          · have HY := hid (HNx.out.trans hp)
            clear HBad HNx
            go_wp2_with (go_at_call 259; refine (isPart_any z _).mono ?_; rintro e w' ⟨rfl, rfl⟩)
            go_round
            case rel => exact ⟨k + 1, by omega, by go_num, HY⟩
            case measure => simp [intOf]; omega
        · have hkn : k = n := by omega
          subst hkn
          have HR : Hid (isNameL l = true) := by show _ = _; rw [HE2.out, ← HA.out, List.take_of_length_le (by rw [hn.out]; exact Nat.le_refl _)]
          have hkI : ¬ (k : Int) < (k : Int) := by omega
          go_wp2
          go_ret
          exact ⟨by rw [HR.out]; rfl, rfl⟩
    · have h1' : ¬ (n : Int) < 1 := by omega
      have h16' : (16 : Int) < (n : Int) := by omega
      have HR : Hid (isNameL l = false) := by show _ = _; rw [HE.out, decide_eq_false (fun h => h16 h.2), Bool.false_and]
      go_enter Tryz.func213, Tryz.ntmps213
      go_wp2
      go_ret
      exact ⟨by rw [HR.out]; rfl, rfl⟩
  · have h1' : (n : Int) < 1 := by omega
    have HR : Hid (isNameL l = false) := by show _ = _; rw [HE.out, decide_eq_false (fun h => h1 h.1), Bool.false_and]
    go_enter Tryz.func213, Tryz.ntmps213
    go_wp2
    go_ret
    exact ⟨by rw [HR.out]; rfl, rfl⟩
end Go.Proofs.YtbanfbpfapjfcaaGreatDoor
namespace Go.Proofs.YtbanfbpfapjfcaaGreatDoor
open Go.RowKit
set_option maxRecDepth 100000

/-- A sum or a difference of times, as far as there are such. -/
def sat (x : Int) : Int := if x < -9223372036854775808 then -9223372036854775808 else if 9223372036854775807 < x then 9223372036854775807 else x
def satAdd (a b : Int) : Int := sat (a + b)
def satSub (a b : Int) : Int := sat (a - b)
def apartT (a b : Int) : Int := if a < b then satSub b a else satSub a b
def lesser (a b : Int) : Int := if a < b then a else b
/-- A time that was asked for. -/
def asked (t : Int) : Int := if t = 0 then 9223372036854775807 else t
/-- Is this bit set? -/
def bitB (n b : Int) : Bool := decide (n / b % 2 = 1)
def BE.has (e : BE) (f : Int) : Bool := bitB e.flags f
def BE.gone (e : BE) (now : Int) : Bool := decide (e.expire ≠ 0 ∧ e.expire ≤ now)
def BE.find (es : List BE) (l : List UInt8) : Option BE := es.find? (fun e => e.name == l)
/-- The key of a number that an entry keeps. -/
def BE.keyOf (e : BE) (n : Int) : Option UInt64 := if n = e.number then some e.key else if n = e.number - 1 ∧ 1 < e.number then some e.before else none

/-- What is in a ticket. -/
structure TK where
  flags : Int
  session : UInt64
  client : List UInt8
  auth : Int
  start : Int
  fin : Int
  renew : Int

def txtBox (l : List UInt8) : List UInt8 := Box.box 4 l
def lstBox (l : List (List UInt8)) : List UInt8 := Box.box 48 l.flatten
def keyBox (k : UInt64) : List UInt8 := txtBox (Pure.be k 8)
def TK.plain (t : TK) : List UInt8 := lstBox [numBox t.flags, keyBox t.session, txtBox t.client, numBox t.auth, numBox t.start, numBox t.fin, numBox t.renew]
def ticketBox (t : TK) (s : BE) (draw : UInt64) : List UInt8 := lstBox [txtBox s.name, numBox s.number, txtBox (Pure.sealL s.key 2 draw t.plain)]
def partPlain (t : TK) (nonce : Int) (s : BE) : List UInt8 := lstBox [keyBox t.session, numBox nonce, numBox t.flags, numBox t.auth, numBox t.start, numBox t.fin, numBox t.renew, txtBox s.name]
def giveBox (kind : Int) (t : TK) (s : BE) (nonce number : Int) (key use a b : UInt64) : List UInt8 :=
  lstBox [numBox kind, txtBox t.client, ticketBox t s a, lstBox [numBox number, txtBox (Pure.sealL key use b (partPlain t nonce s))]]
def refusalBox (now code : Int) : List UInt8 := lstBox [numBox 30, numBox now, numBox code]

/-- Pieces of a list, each of its kind. -/
abbrev Pie : Type := UInt8 × List UInt8
def pNum (p : Pie) : Option Int := if p.1.toNat = 2 then Box.num p.2 else none
def pText (p : Pie) : Option (List UInt8) := if p.1.toNat = 4 then some p.2 else none
def pName (p : Pie) : Option (List UInt8) := if p.1.toNat = 4 ∧ isNameL p.2 = true then some p.2 else none
def pKey (p : Pie) : Option UInt64 := if p.1.toNat = 4 ∧ p.2.length = 8 then some (Pure.joinL 0 p.2) else none
def pList (p : Pie) : Option (List Pie) := if p.1.toNat = 48 then Box.cutsL p.2 else none
/-- One piece, and what follows; nothing follows. -/
def nextP {α β : Type} (f : Pie → Option α) (k : α → List Pie → Option β) : List Pie → Option β
  | [] => none
  | p :: ps => (f p).bind fun a => k a ps
def endP {β : Type} (b : β) (ps : List Pie) : Option β := if ps = [] then some b else none
/-- The same off the bytes themselves. -/
def nextS {α β : Type} (f : Pie → Option α) (k : α → List UInt8 → Option β) (l : List UInt8) : Option β :=
  match Box.cut l with
  | none => none
  | some (t, i, r) => (f (t, i)).bind fun a => k a r
def endS {β : Type} (b : β) (l : List UInt8) : Option β := if l = [] then some b else none
theorem endS_eq {β : Type} (b : β) (l : List UInt8) : endS b l = (Box.cutsL l).bind (endP b) := by
  unfold endS
  cases l with
  | nil => rfl
  | cons x l =>
    rw [if_neg (by simp)]
    cases h : Box.cut (x :: l) with
    | none => rw [Box.cutsL_none (by simp) h]; rfl
    | some p =>
      obtain ⟨t, i, r⟩ := p
      rw [Box.cutsL_some h]
      cases Box.cutsL r <;> simp [endP]
theorem nextS_eq {α β : Type} (f : Pie → Option α) (k : α → List Pie → Option β) (k' : α → List UInt8 → Option β) (h : ∀ a l, k' a l = (Box.cutsL l).bind (k a)) (l : List UInt8) : nextS f k' l = (Box.cutsL l).bind (nextP f k) := by
  unfold nextS
  cases hc : Box.cut l with
  | none =>
    cases l with
    | nil => rfl
    | cons x l => rw [Box.cutsL_none (by simp) hc]; rfl
  | some p =>
    obtain ⟨t, i, r⟩ := p
    rw [Box.cutsL_some hc]
    simp only [h]
    cases Box.cutsL r <;> cases hf : f (t, i) <;> simp [nextP, hf]
theorem noneS_eq {β : Type} (l : List UInt8) : (none : Option β) = (Box.cutsL l).bind (fun _ => none) := by cases Box.cutsL l <;> rfl
/-- The pieces of the one list that some bytes are. -/
def listOf (l : List UInt8) : Option (List Pie) :=
  match Box.cut l with
  | some (t, i, []) => if t.toNat = 48 then Box.cutsL i else none
  | _ => none

/-- A first request; a next one. -/
structure FQ where
  client : List UInt8
  service : List UInt8
  nonce : Int
  sFrom : Int
  till : Int
  rtime : Int
  opts : Int
  pre : Option (Int × List UInt8)
structure NQ where
  tsvc : List UInt8
  tnum : Int
  tsealed : List UInt8
  proof : List UInt8
  service : List UInt8
  nonce : Int
  till : Int
  rtime : Int
  opts : Int
def sealedP : List Pie → Option (Int × List UInt8) := nextP pNum fun n => nextP pText fun z => endP (n, z)
def preOf (p : Pie) : Option (Option (Int × List UInt8)) :=
  match pList p with
  | none => none
  | some [] => some none
  | some ps => (sealedP ps).map some
def firstP : List Pie → Option FQ := nextP pNum fun k => if k = 10 then nextP pName fun c => nextP pName fun s => nextP pNum fun n => nextP pNum fun f => nextP pNum fun t => nextP pNum fun r => nextP pNum fun o => nextP preOf fun p => endP ⟨c, s, n, f, t, r, o, p⟩ else fun _ => none
def ticketP : List Pie → Option (List UInt8 × Int × List UInt8) := nextP pName fun s => nextP pNum fun n => nextP pText fun z => endP (s, n, z)
def pTicket (p : Pie) : Option (List UInt8 × Int × List UInt8) := (pList p).bind ticketP
def nextQP : List Pie → Option NQ := nextP pNum fun k => if k = 12 then nextP pTicket fun c => nextP pText fun p => nextP pName fun s => nextP pNum fun n => nextP pNum fun t => nextP pNum fun r => nextP pNum fun o => endP ⟨c.1, c.2.1, c.2.2, p, s, n, t, r, o⟩ else fun _ => none
def firstOf (req : List UInt8) : Option FQ := if req.length ≤ 300 then (listOf req).bind firstP else none
def nextOf (req : List UInt8) : Option NQ := if req.length ≤ 300 then (listOf req).bind nextQP else none

/-- What is sealed: in a pre, a ticket, a proof. -/
def openL (key use : UInt64) (z : List UInt8) : Option (List UInt8) := if 16 ≤ z.length ∧ Pure.opens key use z = true then some (Pure.plainOf key use z) else none
def timeIn (l : List UInt8) : Option Int :=
  match Box.cut l with
  | some (t, i, []) => pNum (t, i)
  | _ => none
def ticketInP : List Pie → Option TK := nextP pNum fun f => nextP pKey fun k => nextP pName fun c => nextP pNum fun a => nextP pNum fun s => nextP pNum fun e => nextP pNum fun r => endP ⟨f, k, c, a, s, e, r⟩
def ticketIn (l : List UInt8) : Option TK := (listOf l).bind ticketInP
def proofInP : List Pie → Option PF := nextP pName fun c => nextP pNum fun t => nextP pNum fun n => endP ⟨c, t, n⟩
def proofIn (l : List UInt8) : Option PF := (listOf l).bind proofInP

/-- What is granted: the reply's kind, the ticket but for its session key, for whom, and how the client's part is sealed. -/
structure GR where
  kind : Int
  t : TK
  s : BE
  nonce : Int
  number : Int
  key : UInt64
  use : UInt64

/-- The codes of two entries, in this order. -/
def pairCode (x y : Option BE) (now a b c d : Int) : Int :=
  match x, y with
  | none, _ => a
  | some _, none => b
  | some x, some y => if x.gone now = true then c else if y.gone now = true then d else if x.has 32 = true ∨ y.has 32 = true then 12 else 0
def preCode (skew now : Int) (x : BE) : Option (Int × List UInt8) → Int
  | none => if x.has 1 = true then 25 else 0
  | some (n, z) =>
    match (openL x.key 1 z).bind timeIn with
    | none => 24
    | some t => if n ≠ x.number then 24 else if skew < apartT t now then 37 else 0
/-- The flags that were asked for and may be. -/
def moreFlags (opts old : Int) (x s : BE) : Int :=
  (if bitB opts 1 = true ∧ bitB old 1 = true ∧ x.has 4 = true ∧ s.has 4 = true then 1 else 0) + (if bitB opts 2 = true ∧ bitB old 2 = true ∧ x.has 8 = true ∧ s.has 8 = true then 2 else 0)
    + (if bitB opts 4 = true ∧ bitB old 4 = true ∧ x.has 2 = true ∧ s.has 2 = true then 4 else 0)
def moreRenew (opts old : Int) (x s : BE) (start upto : Int) : Int :=
  if bitB opts 4 = true ∧ bitB old 4 = true ∧ x.has 2 = true ∧ s.has 2 = true then lesser upto (lesser (satAdd start x.renew) (satAdd start s.renew)) else 0
def firstStart (now : Int) (q : FQ) : Int := if bitB q.opts 8 = true then q.sFrom else now
def firstEnd (now : Int) (q : FQ) (x s : BE) : Int := lesser (asked q.till) (lesser (satAdd (firstStart now q) x.life) (satAdd (firstStart now q) s.life))
def firstTK (now : Int) (q : FQ) (x s : BE) : TK :=
  ⟨32 + (if q.pre.isSome then 64 else 0) + (if bitB q.opts 8 = true then 24 else 0) + moreFlags q.opts 7 x s, 0, q.client, now, firstStart now q, firstEnd now q x s, moreRenew q.opts 7 x s (firstStart now q) (asked q.rtime)⟩
/-- The code of a first request whose entries are there; 0: it may be. -/
def firstCode (skew now : Int) (q : FQ) (x s : BE) : Int :=
  if preCode skew now x q.pre ≠ 0 then preCode skew now x q.pre
  else if q.opts < 0 ∨ 15 < q.opts then 13
  else if bitB q.opts 8 = true ∧ ¬ (x.has 16 = true ∧ s.has 16 = true) then 10
  else if bitB q.opts 8 = false ∧ satAdd now skew < q.sFrom then 10
  else if firstEnd now q x s ≤ firstStart now q then 11 else 0
def firstM (M : DM) (now : Int) (q : FQ) : Except Int GR :=
  match BE.find M.book q.client, BE.find M.book q.service with
  | none, _ => .error 6
  | some _, none => .error 7
  | some x, some s =>
    if pairCode (some x) (some s) now 6 7 1 2 ≠ 0 then .error (pairCode (some x) (some s) now 6 7 1 2)
    else if firstCode M.skew now q x s ≠ 0 then .error (firstCode M.skew now q x s)
    else .ok ⟨11, firstTK now q x s, s, q.nonce, x.number, x.key, 3⟩

/-- The ticket and the proof of a next request: a code, or what is in both. -/
def nextOpen (M : DM) (now : Int) (q : NQ) : Except Int (TK × PF) :=
  if q.tsvc ≠ [116, 103, 115] ∧ ¬ ((bitB q.opts 16 = true ∨ bitB q.opts 32 = true) ∧ q.tsvc = q.service) then .error 36
  else match BE.find M.book q.tsvc with
  | none => .error 7
  | some e =>
    match e.keyOf q.tnum with
    | none => .error 44
    | some key =>
      match (openL key 2 q.tsealed).bind ticketIn with
      | none => .error 31
      | some t =>
        match (openL t.session 4 q.proof).bind proofIn with
        | none => .error 31
        | some p => if p.client ≠ t.client then .error 36 else if M.skew < apartT p.time now then .error 37 else .ok (t, p)
/-- The proofs that are near. -/
def nearP (skew now : Int) (l : List PF) : List PF := l.filter fun p => decide (apartT p.time now ≤ skew)
def proofCode (skew now : Int) (l : List PF) (p : PF) : Int := if p ∈ nearP skew now l then 34 else if 8 ≤ (nearP skew now l).length then 60 else 0
def proofsNext (skew now : Int) (l : List PF) (p : PF) : List PF := if proofCode skew now l p = 0 then nearP skew now l ++ [p] else nearP skew now l
def waysOf (opts : Int) : Int := (if bitB opts 16 = true then 1 else 0) + (if bitB opts 32 = true then 1 else 0) + (if bitB opts 64 = true then 1 else 0) + (if bitB opts 128 = true then 1 else 0)
/-- May the options be, at a ticket of these flags? -/
def optsOk (opts flags : Int) : Bool :=
  if opts < 0 ∨ 255 < opts ∨ bitB opts 8 = true then false
  else if 1 < waysOf opts ∨ bitB opts 32 = true ∧ opts ≠ 32 then false
  else if bitB opts 16 = true ∧ bitB flags 4 = false ∨ bitB opts 64 = true ∧ bitB flags 1 = false ∨ bitB opts 128 = true ∧ bitB flags 2 = false then false
  else !bitB opts 32 || bitB flags 16
def keptFlags (flags : Int) : Int := (if bitB flags 64 = true then 64 else 0) + (if bitB flags 128 = true then 128 else 0) + (if bitB flags 256 = true then 256 else 0)
def derivedEnd (now till : Int) (old : TK) (x s : BE) : Int := lesser (lesser (asked till) old.fin) (lesser (satAdd now x.life) (satAdd now s.life))
def derivedFlags (opts : Int) (old : TK) (x s : BE) : Int :=
  (if bitB old.flags 64 = true then 64 else 0) + (if bitB old.flags 128 = true ∨ bitB opts 64 = true then 128 else 0) + (if bitB old.flags 256 = true ∨ bitB opts 128 = true then 256 else 0) + moreFlags opts old.flags x s
/-- The new ticket. -/
def fresh (now : Int) (old : TK) (x s : BE) (till rtime opts : Int) : Except Int TK :=
  if bitB opts 32 = true then (if now < old.start then .error 33 else .ok { old with flags := if bitB old.flags 16 = true then old.flags - 16 else old.flags })
  else if bitB opts 16 = true then (if old.renew ≤ now then .error 32 else .ok { old with start := now, fin := lesser old.renew (satAdd now (satSub old.fin old.start)) })
  else if derivedEnd now till old x s ≤ now then .error 11
  else .ok { old with start := now, fin := derivedEnd now till old x s, flags := derivedFlags opts old x s, renew := moreRenew opts old.flags x s now (lesser (asked rtime) old.renew) }
/-- A next request whose proof was taken. -/
def nextRest (M : DM) (now : Int) (q : NQ) (old : TK) : Except Int GR :=
  if bitB old.flags 16 = true ∧ bitB q.opts 32 = false ∨ satAdd now M.skew < old.start then .error 33
  else if old.fin < now then .error 32
  else match BE.find M.book q.service, BE.find M.book old.client with
  | none, _ => .error 7
  | some _, none => .error 6
  | some s, some x =>
    if pairCode (some s) (some x) now 7 6 2 1 ≠ 0 then .error (pairCode (some s) (some x) now 7 6 2 1)
    else if optsOk q.opts old.flags = false then .error 13
    else match fresh now old x s q.till q.rtime q.opts with
    | .error c => .error c
    | .ok t => .ok ⟨13, t, s, q.nonce, 0, old.session, 5⟩

def drawAt (ds : List UInt8) (k : Nat) : UInt64 := Pure.joinL 0 ((ds.drop (8 * k)).take 8)
def GR.box (g : GR) (ds : List UInt8) : List UInt8 := giveBox g.kind { g.t with session := drawAt ds 0 } g.s g.nonce g.number g.key g.use (drawAt ds 1) (drawAt ds 2)
/-- What is said, and the desk behind it. -/
def finishM (M : DM) (now : Int) : Except Int GR → List UInt8 × DM
  | .error c => (refusalBox now c, M)
  | .ok g => if M.draws.length < 24 then (refusalBox now 60, M) else (g.box M.draws, { M with draws := M.draws.drop 24 })
def nextM (M : DM) (now : Int) (q : NQ) : List UInt8 × DM :=
  match nextOpen M now q with
  | .error c => (refusalBox now c, M)
  | .ok (t, p) =>
    let M' := { M with proofs := proofsNext M.skew now M.proofs p }
    if proofCode M.skew now M.proofs p ≠ 0 then (refusalBox now (proofCode M.skew now M.proofs p), M')
    else finishM M' now (nextRest M' now q t)
def answerM (M : DM) (now : Int) (req : List UInt8) : List UInt8 × DM :=
  match firstOf req with
  | some q => finishM M now (firstM M now q)
  | none =>
    match nextOf req with
    | some q => nextM M now q
    | none => (refusalBox now 60, M)
end Go.Proofs.YtbanfbpfapjfcaaGreatDoor
namespace Go.Proofs.YtbanfbpfapjfcaaGreatDoor
open Go.RowKit

theorem ofInt_nat (n : Int) : (BitVec.ofInt 64 n).toNat = (n % 18446744073709551616).toNat := by
  rw [BitVec.toNat_ofInt]; rfl
theorem lsb_bit (n : Int) (k : Nat) (hk : k < 64) : (BitVec.ofInt 64 n).getLsbD k = bitB n (2 ^ k) := by
  rw [bitB, ← BitVec.testBit_toNat, ofInt_nat, Nat.testBit_eq_decide_div_mod_eq]
  congr 1
  have hp : (0 : Int) < 2 ^ k := Int.pow_pos (by decide)
  have e : ((n % 18446744073709551616).toNat / 2 ^ k % 2 : Nat) = 1 ↔ n / 2 ^ k % 2 = 1 := by
    have h0 : 0 ≤ n % 18446744073709551616 := Int.emod_nonneg _ (by decide)
    have h1 : (((n % 18446744073709551616).toNat / 2 ^ k % 2 : Nat) : Int) = n % 18446744073709551616 / 2 ^ k % 2 := by
      rw [Int.natCast_emod, Int.natCast_ediv, Int.toNat_of_nonneg h0]
      simp
    have h2 : n % 18446744073709551616 / 2 ^ k % 2 = n / 2 ^ k % 2 := by
      have h64 : (18446744073709551616 : Int) = 2 ^ k * 2 ^ (64 - k) := by
        rw [← Int.pow_add, show k + (64 - k) = 64 from by omega]; rfl
      have hd : n / 2 ^ k = n % 18446744073709551616 / 2 ^ k + 2 ^ (64 - k) * (n / 18446744073709551616) := by
        have := Int.emod_add_mul_ediv n 18446744073709551616
        conv => lhs; rw [← this, h64, Int.mul_assoc]
        rw [Int.add_mul_ediv_left _ _ (by omega), ← h64]
      rw [hd, show (64 - k) = (64 - k - 1) + 1 from by omega, Int.pow_succ, Int.mul_comm (2 ^ (64 - k - 1)) 2, Int.mul_assoc, Int.add_mul_emod_self_left]
    omega
  simp only [e]
theorem bits_lsb (v : BitVec 64) : (IntKind.i64.wrap (v.toNat : Int)) = v.toInt := by
  rw [IntKind.wrap_i64, BitVec.toInt_eq_toNat_cond]
  have := v.isLt
  split <;> omega
theorem i64_and (a b : Int) : bits .and .i64 a b = (BitVec.ofInt 64 a &&& BitVec.ofInt 64 b).toInt := bits_lsb _
theorem i64_or (a b : Int) : bits .or .i64 a b = (BitVec.ofInt 64 a ||| BitVec.ofInt 64 b).toInt := bits_lsb _
theorem i64_andNot (a b : Int) : bits .andNot .i64 a b = (BitVec.ofInt 64 a &&& ~~~ BitVec.ofInt 64 b).toInt := bits_lsb _
theorem ofInt_toInt' (v : BitVec 64) : BitVec.ofInt 64 v.toInt = v := BitVec.ofInt_toInt
/-- A number whose bits from k on are not set. -/
theorem high_zero (n : Int) (h0 : -9223372036854775808 ≤ n) (h1 : n ≤ 9223372036854775807) (v : BitVec 64) (k : Nat) (hk : k < 63) (hv : ∀ j, j < 64 → v.getLsbD j = (bitB n (2 ^ j) && decide (k ≤ j))) : (v.toInt = 0) ↔ (0 ≤ n ∧ n < 2 ^ k) := by
  have hn : (BitVec.ofInt 64 n).toInt = n := by rw [BitVec.toInt_ofInt, Int.bmod_def]; split <;> omega
  have hval : v = (BitVec.ofInt 64 n >>> k) <<< k := by
    apply BitVec.eq_of_getLsbD_eq
    intro j hj
    rw [hv j hj, BitVec.getLsbD_shiftLeft, BitVec.getLsbD_ushiftRight]
    by_cases h : k ≤ j
    · have : ¬ j < k := by omega
      simp [h, this, hj, ← lsb_bit n j hj, show k + (j - k) = j from by omega]
    · have : j < k := by omega
      simp [h, this]
  have hlt := (BitVec.ofInt 64 n).isLt
  have hz : v.toInt = 0 ↔ (BitVec.ofInt 64 n).toNat / 2 ^ k = 0 := by
    have h3 : v.toInt = 0 ↔ v = 0#64 := by
      constructor
      · intro h; have := congrArg (BitVec.ofInt 64) h; rw [ofInt_toInt'] at this; exact this
      · intro h; rw [h]; rfl
    rw [h3, hval]
    constructor
    · intro h
      have h4 := congrArg BitVec.toNat h
      rw [BitVec.toNat_shiftLeft, BitVec.toNat_ushiftRight, Nat.shiftLeft_eq, Nat.shiftRight_eq_div_pow] at h4
      have h5 : (BitVec.ofInt 64 n).toNat / 2 ^ k * 2 ^ k ≤ (BitVec.ofInt 64 n).toNat := Nat.div_mul_le_self _ _
      rw [Nat.mod_eq_of_lt (by omega)] at h4
      have h6 : 0 < 2 ^ k := Nat.two_pow_pos k
      have h7 : (BitVec.ofInt 64 n).toNat / 2 ^ k * 2 ^ k = 0 := h4
      rcases Nat.mul_eq_zero.1 h7 with h8 | h8
      · exact h8
      · omega
    · intro h
      apply BitVec.eq_of_toNat_eq
      rw [BitVec.toNat_shiftLeft, BitVec.toNat_ushiftRight, Nat.shiftRight_eq_div_pow, h]
      simp
  rw [hz, Nat.div_eq_zero_iff_lt (Nat.two_pow_pos k), ofInt_nat]
  have hp : (2 : Nat) ^ k ≤ 2 ^ 62 := Nat.pow_le_pow_right (by decide) (by omega)
  have hc : ((2 ^ k : Nat) : Int) = 2 ^ k := by simp
  constructor
  · intro h
    have : (2 : Nat) ^ 62 = 4611686018427387904 := by decide
    omega
  · intro h
    omega
theorem andNot_low (n : Int) (h0 : -9223372036854775808 ≤ n) (h1 : n ≤ 9223372036854775807) (k : Nat) (hk : k < 63) (m : Int) (hm : ∀ j, j < 64 → bitB m (2 ^ j) = decide (j < k)) : (bits .andNot .i64 n m = 0) ↔ (0 ≤ n ∧ n < 2 ^ k) := by
  rw [i64_andNot]
  refine high_zero n h0 h1 _ k hk (fun j hj => ?_)
  rw [BitVec.getLsbD_and, BitVec.getLsbD_not, lsb_bit n j hj, lsb_bit m j hj, hm j hj]
  by_cases h : j < k
  · have : ¬ k ≤ j := by omega
    simp [h, this]
  · have : k ≤ j := by omega
    simp [h, this, hj]
theorem low63 : ∀ j, j < 64 → bitB 63 (2 ^ j) = decide (j < 6) := by decide
theorem low15 : ∀ j, j < 64 → bitB 15 (2 ^ j) = decide (j < 4) := by decide
theorem andNot63 (n : Int) (h0 : -9223372036854775808 ≤ n) (h1 : n ≤ 9223372036854775807) : (bits .andNot .i64 n 63 == 0) = decide (0 ≤ n ∧ n < 64) := by
  have := andNot_low n h0 h1 6 (by decide) 63 low63
  rw [Bool.eq_iff_iff, beq_iff_eq, decide_eq_true_iff]
  exact this
end Go.Proofs.YtbanfbpfapjfcaaGreatDoor
