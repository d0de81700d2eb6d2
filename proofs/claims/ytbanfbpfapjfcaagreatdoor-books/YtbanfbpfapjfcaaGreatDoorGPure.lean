/-
  Plain mathematics of the hash and of seals: lists of bytes, numbers of 64 bits; no program. Conditions: none.
-/
namespace Go.Proofs.YtbanfbpfapjfcaaGreatDoor.Pure

def F : UInt64 := 11400714819323198485
def Finv : UInt64 := 17428512612931826493

def mix (x : UInt64) : UInt64 := x ^^^ (x >>> 29)
def step (h : UInt64) (b : UInt8) : UInt64 := mix ((h + b.toUInt64 + 1) * F)
def hashL (h : UInt64) (l : List UInt8) : UInt64 := l.foldl step h

theorem F_inv : F * Finv = 1 := by decide

theorem mul_inj {x y : UInt64} (h : x * F = y * F) : x = y := by
  have e : x * F * Finv = y * F * Finv := by rw [h]
  rw [UInt64.mul_assoc, UInt64.mul_assoc, F_inv, UInt64.mul_one, UInt64.mul_one] at e
  exact e

theorem mix_inj {x y : UInt64} (h : mix x = mix y) : x = y := by
  have e : (x ^^^ y) = (x ^^^ y) >>> 29 := by
    rw [UInt64.shiftRight_xor]
    unfold mix at h
    have h1 : x ^^^ y = (x ^^^ x >>> 29) ^^^ (x >>> 29) ^^^ y := by
      rw [UInt64.xor_assoc x, UInt64.xor_self, UInt64.xor_zero]
    rw [h1, h, UInt64.xor_assoc y, UInt64.xor_comm (y >>> 29), ← UInt64.xor_assoc, UInt64.xor_assoc, UInt64.xor_comm (y >>> 29) y, ← UInt64.xor_assoc]
    rw [UInt64.xor_comm y, UInt64.xor_assoc (x >>> 29), UInt64.xor_self, UInt64.xor_zero]
  have e2 : (x ^^^ y).toNat = (x ^^^ y).toNat / 2 ^ 29 := by
    have := congrArg UInt64.toNat e
    rw [UInt64.toNat_shiftRight] at this
    simpa [Nat.shiftRight_eq_div_pow] using this
  have e3 : (x ^^^ y).toNat = 0 := by omega
  have e4 : x ^^^ y = 0 := UInt64.toNat_inj.1 (by simpa using e3)
  exact UInt64.xor_eq_zero_iff.1 e4

theorem step_inj_h {h k : UInt64} {b : UInt8} (e : step h b = step k b) : h = k := by
  have e1 := mul_inj (mix_inj e)
  have e2 : h + b.toUInt64 = k + b.toUInt64 := (UInt64.add_left_inj _).1 e1
  exact (UInt64.add_left_inj _).1 e2

theorem step_inj_b {h : UInt64} {b c : UInt8} (e : step h b = step h c) : b = c := by
  have e1 := mul_inj (mix_inj e)
  have e2 : h + b.toUInt64 = h + c.toUInt64 := (UInt64.add_left_inj _).1 e1
  have e3 : b.toUInt64 = c.toUInt64 := (UInt64.add_right_inj _).1 e2
  have := congrArg UInt64.toNat e3
  exact UInt8.toNat_inj.1 (by simpa using this)

theorem hashL_nil (h : UInt64) : hashL h [] = h := rfl
theorem hashL_append (h : UInt64) (a b : List UInt8) : hashL h (a ++ b) = hashL (hashL h a) b := by simp [hashL]
theorem hashL_snoc (h : UInt64) (a : List UInt8) (b : UInt8) : hashL h (a ++ [b]) = step (hashL h a) b := by simp [hashL]

theorem hashL_inj_h {h k : UInt64} (l : List UInt8) (e : hashL h l = hashL k l) : h = k := by
  induction l generalizing h k with
  | nil => exact e
  | cons b l ih => exact step_inj_h (ih e)

/-- Two texts that differ in one byte hash differently. -/
theorem hashL_one {h : UInt64} {a c : List UInt8} {x y : UInt8} (e : hashL h (a ++ x :: c) = hashL h (a ++ y :: c)) : x = y := by
  rw [hashL_append, hashL_append] at e
  exact step_inj_b (hashL_inj_h c e)

/-- The byte at a place of a number, the low one at 0. -/
def byteAt (v : UInt64) (k : Nat) : UInt8 := UInt8.ofNat (v.toNat / 2 ^ (8 * k))
/-- The first k of the lowest 'size' bytes, the high one first. -/
def beTo (v : UInt64) (size k : Nat) : List UInt8 := (List.range k).map fun t => byteAt v (size - 1 - t)
def be (v : UInt64) (size : Nat) : List UInt8 := beTo v size size

theorem beTo_zero (v : UInt64) (size : Nat) : beTo v size 0 = [] := rfl
theorem beTo_succ (v : UInt64) (size k : Nat) : beTo v size (k + 1) = beTo v size k ++ [byteAt v (size - 1 - k)] := by simp [beTo, List.range_succ]
theorem beTo_length (v : UInt64) (size k : Nat) : (beTo v size k).length = k := by simp [beTo]
theorem be_length (v : UInt64) (size : Nat) : (be v size).length = size := beTo_length _ _ _

/-- Bytes moved in at the low end. -/
def join1 (h : UInt64) (b : UInt8) : UInt64 := (h <<< 8) ||| b.toUInt64
def joinL (h : UInt64) (l : List UInt8) : UInt64 := l.foldl join1 h
theorem joinL_snoc (h : UInt64) (a : List UInt8) (b : UInt8) : joinL h (a ++ [b]) = join1 (joinL h a) b := by simp [joinL]

theorem join1_toNat (h : UInt64) (b : UInt8) : (join1 h b).toNat = (h.toNat * 256 + b.toNat) % 2 ^ 64 := by
  have hb := b.toNat_lt
  have e1 : (join1 h b).toNat = (h.toNat * 256 % 2 ^ 64) ||| b.toNat := by
    simp [join1, UInt64.toNat_or, UInt64.toNat_shiftLeft, Nat.shiftLeft_eq]
  have e2 : (h.toNat * 256 % 2 ^ 64) = (h.toNat % 2 ^ 56) <<< 8 := by rw [Nat.shiftLeft_eq]; omega
  rw [e1, e2, ← Nat.shiftLeft_add_eq_or_of_lt (by simpa using hb), Nat.shiftLeft_eq]
  omega

theorem joinL_toNat (l : List UInt8) : ∀ h : UInt64, (joinL h l).toNat = (l.foldl (fun n b => n * 256 + b.toNat) h.toNat) % 2 ^ 64 := by
  induction l with
  | nil => intro h; simp [joinL]
  | cons b l ih =>
    intro h
    show (joinL (join1 h b) l).toNat = _
    rw [ih, join1_toNat]
    simp only [List.foldl_cons]
    have key : ∀ (l : List UInt8) (a c : Nat), a % 2 ^ 64 = c % 2 ^ 64 → (l.foldl (fun n b => n * 256 + b.toNat) a) % 2 ^ 64 = (l.foldl (fun n b => n * 256 + b.toNat) c) % 2 ^ 64 := by
      intro l
      induction l with
      | nil => intro a c h; simpa using h
      | cons b l ih =>
        intro a c h
        have e : (a * 256 + b.toNat) % 2 ^ 64 = (c * 256 + b.toNat) % 2 ^ 64 := by omega
        exact ih _ _ e
    exact key l _ _ (by omega)

/-- Eight bytes of a number, joined again, are it. -/
theorem join_be (v : UInt64) : joinL 0 (be v 8) = v := by
  apply UInt64.toNat_inj.1
  have hv := v.toNat_lt
  rw [joinL_toNat]
  simp [be, beTo, List.range_succ, byteAt]
  omega

/-- And the other way: eight bytes joined and written are they. -/
theorem be_join (l : List UInt8) (hl : l.length = 8) : be (joinL 0 l) 8 = l := by
  match l, hl with
  | [a, b, c, d, e, f, g, h], _ =>
    have ha := a.toNat_lt; have hb := b.toNat_lt; have hc := c.toNat_lt; have hd := d.toNat_lt
    have he := e.toNat_lt; have hf := f.toNat_lt; have hg := g.toNat_lt; have hh := h.toNat_lt
    have q := joinL_toNat [a, b, c, d, e, f, g, h] 0
    simp only [List.foldl_cons, List.foldl_nil, UInt64.toNat_zero, Nat.zero_mul, Nat.zero_add] at q
    simp only [be, beTo, List.range_succ, List.range_zero, List.nil_append, List.map_cons, List.map_nil, List.cons_append, byteAt, q]
    have z : ∀ (n : Nat) (x : UInt8), n % 256 = x.toNat → UInt8.ofNat n = x := by
      intro n x h
      apply UInt8.toNat_inj.1
      simpa using h
    congr 1
    · apply z; omega
    congr 1
    · apply z; omega
    congr 1
    · apply z; omega
    congr 1
    · apply z; omega
    congr 1
    · apply z; omega
    congr 1
    · apply z; omega
    congr 1
    · apply z; omega
    congr 1
    · apply z; omega

def headB (key use draw : UInt64) : List UInt8 := be key 8 ++ be use 1 ++ be draw 8
def head (key use draw : UInt64) : UInt64 := hashL 0 (headB key use draw)
theorem headB_length (key use draw : UInt64) : (headB key use draw).length = 17 := by simp [headB, be_length]
def mask (head : UInt64) (i : Nat) : UInt8 := byteAt (hashL head (be (UInt64.ofNat i) 2)) 7
def veil (head : UInt64) (l : List UInt8) : List UInt8 := l.mapIdx fun i b => b ^^^ mask head i
theorem veil_length (head : UInt64) (l : List UInt8) : (veil head l).length = l.length := by simp [veil]
theorem veil_take (head : UInt64) (l : List UInt8) (k : Nat) (h : k < l.length) : veil head (l.take (k + 1)) = veil head (l.take k) ++ [l[k] ^^^ mask head k] := by
  unfold veil
  rw [List.take_succ_eq_append_getElem h, List.mapIdx_append]
  simp [Nat.min_eq_left (Nat.le_of_lt h)]
theorem ofNat_small (k : Nat) (h : k < 18446744073709551616) : (UInt64.ofNat k).toNat = k := by
  simp [UInt64.toNat_ofNat', Nat.mod_eq_of_lt h]

def sealL (key use draw : UInt64) (plain : List UInt8) : List UInt8 :=
  be draw 8 ++ veil (head key use draw) plain ++ be (hashL (head key use draw) plain) 8
theorem sealL_length (key use draw : UInt64) (plain : List UInt8) : (sealL key use draw plain).length = plain.length + 16 := by
  simp [sealL, be_length, veil_length]; omega

def drawOf (zs : List UInt8) : UInt64 := joinL 0 (zs.take 8)
def plainOf (key use : UInt64) (zs : List UInt8) : List UInt8 := veil (head key use (drawOf zs)) ((zs.drop 8).take (zs.length - 16))
def tagOf (zs : List UInt8) : UInt64 := joinL 0 (zs.drop (zs.length - 8))
def opens (key use : UInt64) (zs : List UInt8) : Bool := hashL (head key use (drawOf zs)) (plainOf key use zs) == tagOf zs
theorem opens_bne (key use : UInt64) (zs : List UInt8) (L : Nat) (hL : zs.length = L) (v : Bool) (h : opens key use zs = v) :
    (((hashL (head key use (drawOf zs)) (plainOf key use zs)).toNat : Int) != ((joinL 0 (zs.drop (L - 8))).toNat : Int)) = !v := by
  subst hL h
  unfold opens tagOf
  rw [Bool.eq_iff_iff]
  simp only [bne_iff_ne, ne_eq, Bool.not_eq_true', beq_eq_false_iff_ne]
  constructor
  · intro h e; apply h; rw [e]
  · intro h e; apply h; exact UInt64.toNat_inj.1 (by omega)
theorem plainOf_length (key use : UInt64) (zs : List UInt8) : (plainOf key use zs).length = zs.length - 16 := by
  simp [plainOf, veil_length]; omega

theorem veil_veil (head : UInt64) (l : List UInt8) : veil head (veil head l) = l := by
  unfold veil
  apply List.ext_getElem
  · simp
  · intro i h1 h2
    simp [UInt8.xor_assoc]

theorem veil_set (head : UInt64) (l : List UInt8) (q : Nat) (c : UInt8) (hq : q < l.length) : veil head (l.set q (l[q] ^^^ c)) = (veil head l).set q ((veil head l)[q]'(by rw [veil_length]; exact hq) ^^^ c) := by
  apply List.ext_getElem
  · simp [veil]
  · intro i h1 h2
    simp only [veil, List.getElem_mapIdx, List.getElem_set]
    split
    · subst_vars
      rw [UInt8.xor_assoc, UInt8.xor_comm c, ← UInt8.xor_assoc]
    · rfl

theorem xor_ne (a c : UInt8) (h : c ≠ 0) : a ^^^ c ≠ a := by
  intro e
  apply h
  have : a ^^^ (a ^^^ c) = a ^^^ a := by rw [e]
  rwa [← UInt8.xor_assoc, UInt8.xor_self, UInt8.zero_xor] at this

theorem set_hash {h : UInt64} {l : List UInt8} {q : Nat} {y : UInt8} (hq : q < l.length) (hy : y ≠ l[q]) : hashL h (l.set q y) ≠ hashL h l := by
  intro e
  have e1 : l.set q y = l.take q ++ y :: l.drop (q + 1) := List.set_eq_take_append_cons_drop.trans (by rw [if_pos hq])
  have e2 : l = l.take q ++ l[q] :: l.drop (q + 1) := by rw [List.getElem_cons_drop, List.take_append_drop]
  rw [e1] at e
  conv at e => rhs; rw [e2]
  exact hy (hashL_one e)

theorem draw_of (key use draw : UInt64) (plain : List UInt8) : drawOf (sealL key use draw plain) = draw := by
  unfold drawOf sealL
  rw [List.append_assoc, List.take_append_of_le_length (by simp [be_length]), List.take_of_length_le (by simp [be_length])]
  exact join_be draw

theorem mid_of (key use draw : UInt64) (plain : List UInt8) : ((sealL key use draw plain).drop 8).take plain.length = veil (head key use draw) plain := by
  unfold sealL
  rw [List.append_assoc, List.drop_append_of_le_length (by simp [be_length]), List.drop_of_length_le (by simp [be_length]), List.nil_append, List.take_append_of_le_length (by simp [veil_length]), List.take_of_length_le (by simp [veil_length])]

theorem end_of (key use draw : UInt64) (plain : List UInt8) : (sealL key use draw plain).drop (plain.length + 8) = be (hashL (head key use draw) plain) 8 := by
  unfold sealL
  rw [List.drop_append_of_le_length (by simp [be_length, veil_length]; omega), List.drop_of_length_le (by simp [be_length, veil_length]; omega), List.nil_append]

theorem plain_of (key use draw : UInt64) (plain : List UInt8) : plainOf key use (sealL key use draw plain) = plain := by
  unfold plainOf
  rw [draw_of, sealL_length, Nat.add_sub_cancel, mid_of, veil_veil]

theorem opens_of (key use draw : UInt64) (plain : List UInt8) : opens key use (sealL key use draw plain) = true := by
  unfold opens tagOf
  rw [draw_of, plain_of, sealL_length, show plain.length + 16 - 8 = plain.length + 8 from by omega, end_of, join_be]
  simp

/-- With any one byte behind the draw turned it does not open. -/
theorem turned (key use draw : UInt64) (plain : List UInt8) (p : Nat) (y : UInt8) (hp : 8 ≤ p) (hl : p < (sealL key use draw plain).length) (c : UInt8) (hc : c ≠ 0) (hy : y = (sealL key use draw plain)[p] ^^^ c) :
    opens key use ((sealL key use draw plain).set p y) = false := by
  have hlen := sealL_length key use draw plain
  have hy' : y ≠ (sealL key use draw plain)[p] := by rw [hy]; exact xor_ne _ _ hc
  have hd : drawOf ((sealL key use draw plain).set p y) = draw := by
    unfold drawOf
    rw [List.take_set_of_le (by omega)]
    exact draw_of key use draw plain
  have hm : plainOf key use ((sealL key use draw plain).set p y) = veil (head key use draw) ((veil (head key use draw) plain).set (p - 8) y) := by
    unfold plainOf
    rw [hd, List.length_set, hlen, Nat.add_sub_cancel, List.drop_set, if_neg (by omega), List.take_set, mid_of]
  have ht : tagOf ((sealL key use draw plain).set p y) = joinL 0 (if p < plain.length + 8 then be (hashL (head key use draw) plain) 8 else (be (hashL (head key use draw) plain) 8).set (p - (plain.length + 8)) y) := by
    unfold tagOf
    rw [List.length_set, hlen, show plain.length + 16 - 8 = plain.length + 8 from by omega, List.drop_set, end_of]
  unfold opens
  rw [hd, hm, ht]
  rw [beq_eq_false_iff_ne]
  by_cases hq : p < plain.length + 8
  · rw [if_pos hq, join_be]
    have hq' : p - 8 < plain.length := by omega
    have hvp : p - 8 < (veil (head key use draw) plain).length := by rw [veil_length]; exact hq'
    have e0 : (sealL key use draw plain)[p] = (veil (head key use draw) plain)[p - 8] := by
      have h := mid_of key use draw plain
      have h2 : (((sealL key use draw plain).drop 8).take plain.length)[p - 8]? = (veil (head key use draw) plain)[p - 8]? := by rw [h]
      rw [List.getElem?_take_of_lt hq', List.getElem?_drop, show 8 + (p - 8) = p from by omega, List.getElem?_eq_getElem hl, List.getElem?_eq_getElem hvp] at h2
      exact Option.some.inj h2
    have e1 : veil (head key use draw) ((veil (head key use draw) plain).set (p - 8) y) = plain.set (p - 8) (plain[p - 8] ^^^ c) := by
      have h := veil_set (head key use draw) plain (p - 8) c hq'
      rw [hy, e0, ← h, veil_veil]
    rw [e1]
    exact set_hash hq' (xor_ne _ _ hc)
  · rw [if_neg hq]
    have e1 : veil (head key use draw) ((veil (head key use draw) plain).set (p - 8) y) = plain := by
      rw [List.set_eq_of_length_le (by rw [veil_length]; omega), veil_veil]
    rw [e1]
    intro e
    have h8 : p - (plain.length + 8) < 8 := by omega
    have e2 := be_join ((be (hashL (head key use draw) plain) 8).set (p - (plain.length + 8)) y) (by simp [be_length])
    rw [← e] at e2
    have e3 : (be (hashL (head key use draw) plain) 8)[p - (plain.length + 8)]'(by rw [be_length]; exact h8) = y := by
      have h2 : (be (hashL (head key use draw) plain) 8)[p - (plain.length + 8)]? = ((be (hashL (head key use draw) plain) 8).set (p - (plain.length + 8)) y)[p - (plain.length + 8)]? := by rw [← e2]
      rw [List.getElem?_eq_getElem (by rw [be_length]; exact h8), List.getElem?_set_self (by rw [be_length]; exact h8)] at h2
      exact Option.some.inj h2
    apply hy'
    rw [← e3]
    have h := end_of key use draw plain
    have h2 : ((sealL key use draw plain).drop (plain.length + 8))[p - (plain.length + 8)]? = (be (hashL (head key use draw) plain) 8)[p - (plain.length + 8)]? := by rw [h]
    rw [List.getElem?_drop, show plain.length + 8 + (p - (plain.length + 8)) = p from by omega, List.getElem?_eq_getElem hl, List.getElem?_eq_getElem (by rw [be_length]; exact h8)] at h2
    exact (Option.some.inj h2).symm

/-- What opens is what is sealed anew. -/
theorem seal_again (key use : UInt64) (zs : List UInt8) (h : 16 ≤ zs.length) : (sealL key use (drawOf zs) (plainOf key use zs) == zs) = opens key use zs := by
  have h1 : be (drawOf zs) 8 = zs.take 8 := be_join _ (by rw [List.length_take]; omega)
  have h2 : veil (head key use (drawOf zs)) (plainOf key use zs) = (zs.drop 8).take (zs.length - 16) := by unfold plainOf; rw [veil_veil]
  have h3 : zs = zs.take 8 ++ (zs.drop 8).take (zs.length - 16) ++ zs.drop (zs.length - 8) := by
    have e : zs.drop (zs.length - 8) = (zs.drop 8).drop (zs.length - 16) := by rw [List.drop_drop]; congr 1; omega
    rw [e, List.append_assoc, List.take_append_drop, List.take_append_drop]
  have h4 : sealL key use (drawOf zs) (plainOf key use zs) = zs.take 8 ++ (zs.drop 8).take (zs.length - 16) ++ be (hashL (head key use (drawOf zs)) (plainOf key use zs)) 8 := by unfold sealL; rw [h1, h2]
  have h5 : be (tagOf zs) 8 = zs.drop (zs.length - 8) := be_join _ (by rw [List.length_drop]; omega)
  unfold opens
  rw [Bool.eq_iff_iff, beq_iff_eq, beq_iff_eq, h4]
  constructor
  · intro e
    have e2 : be (hashL (head key use (drawOf zs)) (plainOf key use zs)) 8 = zs.drop (zs.length - 8) := by
      rw [h3] at e
      conv at e => rhs; rw [← h3]
      have e3 := congrArg (List.drop (zs.length - 8)) e
      conv at e3 => lhs; rw [← h3]
      rw [List.drop_append_of_le_length (by simp; omega), List.drop_of_length_le (by simp; omega), List.nil_append] at e3
      exact e3
    unfold tagOf
    rw [← e2, join_be]
  · intro e
    rw [e, h5]
    exact h3.symm

end Go.Proofs.YtbanfbpfapjfcaaGreatDoor.Pure
