/-
  What the desk says in Honest, as mathematics. Conditions: in each statement.
-/
import Derived.Test.YtbanfbpfapjfcaaGreatDoorGMKMth
namespace Go.Proofs.YtbanfbpfapjfcaaGreatDoor
open Go.RowKit
set_option maxRecDepth 100000
abbrev sT (a : Int) : BE := kB nTgs 1000001 a
abbrev sA (b : Int) : BE := kB nAl 1000002 b
abbrev sW (c : Int) : BE := kB nWeb 1000003 c
abbrev hT (k : UInt64) (at0 fin : Int) : TK := ⟨32,k,nAl,at0,at0,fin,0⟩
abbrev hN (k : UInt64) (at0 tn fin : Int) : TK := ⟨0,k,nAl,at0,tn,fin,0⟩
def lst (a b : Int) : Int := if a < b then a else b
theorem lst_add (x a b : Int) : lesser (x + b) (x + a) = x + lst a b := by
 unfold lesser lst
 split <;> split <;> omega
theorem lst_lesser (a b : Int) : lesser a b = lst a b := rfl
theorem lst_comm (a b : Int) : lst a b = lst b a := by
 unfold lst
 split <;> split <;> omega
theorem lst_cases (a b : Int) : (lst a b = a ∧ a < b) ∨ (lst a b = b ∧ b ≤ a) := by
 unfold lst
 split
 ·exact .inl ⟨rfl,by assumption⟩
 ·exact .inr ⟨rfl,by omega⟩
theorem apart_selfH (a : Int) : apartT a a = 0 := by
 rw [apart_le (by constructor <;> omega) (Int.le_refl _)]
 omega
structure HNum (sk a b c at0 : Int) : Prop where
 sk0 : 0 ≤ sk
 sk1 : sk ≤ 300
 a0 : 1 ≤ a
 a1 : a ≤ 1000
 b0 : 1 ≤ b
 b1 : b ≤ 1000
 c0 : 1 ≤ c
 c1 : c ≤ 1000
 t0 : -1125899906842624 ≤ at0
 t1 : at0 ≤ 1125899906842624
theorem hT_in (k : UInt64) (at0 fin : Int) (h1 : In64 at0) (h2 : In64 fin) : (hT k at0 fin).In := ⟨i64a 32 rfl,h1,h1,h2,i64a 0 rfl⟩
theorem hN_in (k : UInt64) (at0 tn fin : Int) (h1 : In64 at0) (h2 : In64 tn) (h3 : In64 fin) : (hN k at0 tn fin).In := ⟨i64a 0 rfl,h1,h2,h3,i64a 0 rfl⟩
theorem hon_end {sk a b c at0 : Int} (h : HNum sk a b c at0) (nonce sf e : Int) : firstEnd at0 ⟨nAl,nTgs,nonce,sf,e,0,0,none⟩ (sA b) (sT a) = lst (asked e) (at0 + lst a b) := by
 obtain ⟨_,_,h3,h4,h5,h6,_,_,h9,h10⟩ := h
 unfold firstEnd
 rw [show firstStart at0 ⟨nAl,nTgs,nonce,sf,e,0,0,none⟩ = at0 from rfl,satAdd_id (a := at0) (b := (sA b).life) ⟨by show _ ≤ at0 + b; omega,by show at0 + b ≤ _; omega⟩,satAdd_id (a := at0) (b := (sT a).life) ⟨by show _ ≤ at0 + a; omega,by show at0 + a ≤ _; omega⟩,show lesser (at0 + (sA b).life) (at0 + (sT a).life) = at0 + lst a b from lst_add at0 a b]
 rfl
theorem hon_first {sk a b c at0 : Int} (h : HNum sk a b c at0) (nonce sf e F : Int) (ds : List UInt8) (h1 : In64 nonce) (h2 : In64 sf) (h3 : In64 e) (hf : ¬ at0 + sk < sf) (hF : lst (asked e) (at0 + lst a b) = F) (hlt : at0 < F) (hd : 24 ≤ ds.length) :
  answerM ⟨sk,hBook a b c,[],ds⟩ at0 (firstReq nAl nTgs nonce sf e 0 0) = (giveBox 11 (hT (drawAt ds 0) at0 F) (sT a) nonce 1 1000002 3 (drawAt ds 1) (drawAt ds 2),⟨sk,hBook a b c,[],ds.drop 24⟩) := by
 have he := hon_end h nonce sf e
 rw [hF] at he
 obtain ⟨k1,k2,_,_,_,_,_,_,h9,h10⟩ := h
 rw [ans_first _ _ nAl nTgs nonce sf e 0 0 (by decide) (by decide) h1 h2 h3 ⟨by decide,by decide⟩ ⟨by decide,by decide⟩]
 rw [first_grant (x := sA b) (s := sT a) rfl rfl rfl (code0 sk at0 _ (sA b) (sT a) rfl rfl (by rw [satAdd_id (a := at0) (b := sk) ⟨by omega,by omega⟩]; exact hf) (by rw [he]; show ¬ F ≤ at0; omega)) hd]
 have ht : firstTK at0 ⟨nAl,nTgs,nonce,sf,e,0,0,none⟩ (sA b) (sT a) = hT 0 at0 F := by
  unfold firstTK
  rw [he]
  rfl
 rw [ht]
theorem hon_far {sk a b c at0 : Int} (h : HNum sk a b c at0) (nonce e : Int) (ds : List UInt8) (h1 : In64 nonce) (h3 : In64 e) (hf : at0 + sk < 0) :
  answerM ⟨sk,hBook a b c,[],ds⟩ at0 (firstReq nAl nTgs nonce 0 e 0 0) = (refusalBox at0 10,⟨sk,hBook a b c,[],ds⟩) := by
 obtain ⟨k1,k2,_,_,_,_,_,_,h9,h10⟩ := h
 rw [ans_first _ _ nAl nTgs nonce 0 e 0 0 (by decide) (by decide) h1 ⟨by decide,by decide⟩ h3 ⟨by decide,by decide⟩ ⟨by decide,by decide⟩]
 have hc : firstCode sk at0 ⟨nAl,nTgs,nonce,0,e,0,0,none⟩ (sA b) (sT a) = 10 := by
  unfold firstCode
  rw [if_neg (by rw [show preCode sk at0 (sA b) none = 0 from rfl]; simp),if_neg (by show ¬ ((0 : Int) < 0 ∨ 15 < (0 : Int)); omega),if_neg (fun h => absurd h.1 (show ¬ bitB 0 8 = true by decide)),if_pos ⟨show bitB 0 8 = false by decide,by rw [satAdd_id (a := at0) (b := sk) ⟨by omega,by omega⟩]; exact hf⟩]
 have hr : firstM ⟨sk,hBook a b c,[],ds⟩ at0 ⟨nAl,nTgs,nonce,0,e,0,0,none⟩ = .error 10 := by
  unfold firstM
  simp only [show BE.find (hBook a b c) nAl = some (sA b) from rfl,show BE.find (hBook a b c) nTgs = some (sT a) from rfl,show pairCode (some (sA b)) (some (sT a)) at0 6 7 1 2 = 0 from rfl,hc,ne_eq,not_true_eq_false,if_false]
  rfl
 rw [hr]
 rfl
theorem hon_next {sk a b c at0 : Int} (h : HNum sk a b c at0) (nonce F tn D : Int) (ds : List UInt8) (k a1 : UInt64) (h1 : In64 nonce) (ht0 : at0 ≤ tn) (ht1 : tn < F) (hF1 : F ≤ at0 + 1000) (hD : lst F (tn + lst b c) = D) (hd : 24 ≤ ds.length) :
  answerM ⟨sk,hBook a b c,[],ds⟩ tn (nextReq (ticketBox (hT k at0 F) (sT a) a1) (sealedProof (hT k at0 F) 7 tn) nWeb nonce 0 0) = (giveBox 13 (hN (drawAt ds 0) at0 tn D) (sW c) nonce 0 k 5 (drawAt ds 1) (drawAt ds 2),⟨sk,hBook a b c,[⟨nAl,tn,((7 : UInt64).toNat : Int)⟩],ds.drop 24⟩) := by
 obtain ⟨k1,k2,a0,a2,b0,b1,c0,c1,h9,h10⟩ := h
 have ito : In64 tn := ⟨by omega,by omega⟩
 have hin : (hT k at0 F).In := hT_in k at0 F ⟨by omega,by omega⟩ ⟨by omega,by omega⟩
 have he : derivedEnd tn 0 (hT k at0 F) (sA b) (sW c) = D := by
  unfold derivedEnd
  rw [satAdd_id (a := tn) (b := (sA b).life) ⟨by show _ ≤ tn + b; omega,by show tn + b ≤ _; omega⟩,satAdd_id (a := tn) (b := (sW c).life) ⟨by show _ ≤ tn + c; omega,by show tn + c ≤ _; omega⟩,lesser_ge (a := asked 0) (b := (hT k at0 F).fin) (show F ≤ (9223372036854775807 : Int) by omega),show lesser (tn + (sA b).life) (tn + (sW c).life) = tn + lst c b from lst_add tn c b,lst_comm c b]
  exact hD
 have hgt : tn < D := by
  rcases lst_cases F (tn + lst b c) with ⟨e,_⟩ | ⟨e,_⟩
  ·omega
  ·rcases lst_cases b c with ⟨e2,_⟩ | ⟨e2,_⟩ <;> omega
 have hf : fresh tn (hT k at0 F) (sA b) (sW c) 0 0 0 = .ok (hN k at0 tn D) := by
  unfold fresh
  rw [if_neg (by decide),if_neg (by decide),he,if_neg (by omega)]
  rfl
 have ho : nextOpen ⟨sk,hBook a b c,[],ds⟩ tn (nq (hT k at0 F) (sT a) a1 7 tn nWeb nonce 0 0) = .ok (hT k at0 F,⟨nAl,tn,(7 : UInt64).toNat⟩) := by
  rw [next_open ⟨sk,hBook a b c,[],ds⟩ tn (hT k at0 F) (sT a) (sT a) a1 7 tn nWeb nonce 0 0 len_al name_al hin rfl rfl rfl ito ⟨by decide,by decide⟩,apart_selfH,if_neg (show ¬ sk < 0 by omega)]
 rw [ans_next ⟨sk,hBook a b c,[],ds⟩ tn (hT k at0 F) (sT a) a1 7 tn nWeb nonce 0 0 len_al (show nTgs.length ≤ 3 by decide) (show isNameL nTgs = true by decide) (i64a 1 rfl) (by decide) h1 ⟨by decide,by decide⟩ ⟨by decide,by decide⟩,next_grant (t' := hN k at0 tn D) (s := sW c) (x := sA b) ho rfl (by
   rintro (h | h)
   ·exact absurd h.1 (show ¬ bitB 32 16 = true by decide)
   ·rw [satAdd_id (a := tn) (b := sk) ⟨by omega,by omega⟩] at h
    have : tn + sk < at0 := h
    omega) (show ¬ F < tn by omega) rfl rfl rfl rfl hf hd]
 rfl
end Go.Proofs.YtbanfbpfapjfcaaGreatDoor
