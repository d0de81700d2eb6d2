/-
  
-/
namespace Go.Proofs.YtpijkgbafjccaaaGreatDoor.Pure
def F : UInt64 := 11400714819323198485
def mix (x : UInt64) : UInt64 := x ^^^ (x >>> 29)
def step (h : UInt64) (b : UInt8) : UInt64 := mix ((h + b.toUInt64 + 1) * F)
def hashL (h : UInt64) (l : List UInt8) : UInt64 := l.foldl step h
theorem hashL_snoc (h : UInt64) (a : List UInt8) (b : UInt8) : hashL h (a ++ [b]) = step (hashL h a) b := by simp [hashL]
def byteAt (v : UInt64) (k : Nat) : UInt8 := UInt8.ofNat (v.toNat / 2 ^ (8 * k))
def beTo (v : UInt64) (size k : Nat) : List UInt8 := (List.range k).map fun t => byteAt v (size - 1 - t)
def be (v : UInt64) (size : Nat) : List UInt8 := beTo v size size
theorem beTo_zero (v : UInt64) (size : Nat) : beTo v size 0 = [] := rfl
theorem beTo_succ (v : UInt64) (size k : Nat) : beTo v size (k + 1) = beTo v size k ++ [byteAt v (size - 1 - k)] := by simp [beTo,List.range_succ]
theorem beTo_length (v : UInt64) (size k : Nat) : (beTo v size k).length = k := by simp [beTo]
theorem be_length (v : UInt64) (size : Nat) : (be v size).length = size := beTo_length _ _ _
def join1 (h : UInt64) (b : UInt8) : UInt64 := (h <<< 8) ||| b.toUInt64
def joinL (h : UInt64) (l : List UInt8) : UInt64 := l.foldl join1 h
theorem joinL_snoc (h : UInt64) (a : List UInt8) (b : UInt8) : joinL h (a ++ [b]) = join1 (joinL h a) b := by simp [joinL]
theorem join1_toNat (h : UInt64) (b : UInt8) : (join1 h b).toNat = (h.toNat * 256 + b.toNat) % 2 ^ 64 := by
 have hb := b.toNat_lt
 have e1 : (join1 h b).toNat = (h.toNat * 256 % 2 ^ 64) ||| b.toNat := by
  simp [join1,UInt64.toNat_or,UInt64.toNat_shiftLeft,Nat.shiftLeft_eq]
 have e2 : (h.toNat * 256 % 2 ^ 64) = (h.toNat % 2 ^ 56) <<< 8 := by rw [Nat.shiftLeft_eq]; omega
 rw [e1,e2,← Nat.shiftLeft_add_eq_or_of_lt (by simpa using hb),Nat.shiftLeft_eq]
 omega
theorem joinL_toNat (l : List UInt8) : ∀ h : UInt64,(joinL h l).toNat = (l.foldl (fun n b => n * 256 + b.toNat) h.toNat) % 2 ^ 64 := by
 induction l with
 | nil => intro h; simp [joinL]
 | cons b l ih =>
  intro h
  show (joinL (join1 h b) l).toNat = _
  rw [ih,join1_toNat]
  simp only [List.foldl_cons]
  have key : ∀ (l : List UInt8) (a c : Nat),a % 2 ^ 64 = c % 2 ^ 64 → (l.foldl (fun n b => n * 256 + b.toNat) a) % 2 ^ 64 = (l.foldl (fun n b => n * 256 + b.toNat) c) % 2 ^ 64 := by
   intro l
   induction l with
   | nil => intro a c h; simpa using h
   | cons b l ih =>
    intro a c h
    have e : (a * 256 + b.toNat) % 2 ^ 64 = (c * 256 + b.toNat) % 2 ^ 64 := by omega
    exact ih _ _ e
  exact key l _ _ (by omega)
theorem join_be (v : UInt64) : joinL 0 (be v 8) = v := by
 apply UInt64.toNat_inj.1
 have hv := v.toNat_lt
 rw [joinL_toNat]
 simp [be,beTo,List.range_succ,byteAt]
 omega
def headB (key use draw : UInt64) : List UInt8 := be key 8 ++ be use 1 ++ be draw 8
def head (key use draw : UInt64) : UInt64 := hashL 0 (headB key use draw)
def mask (head : UInt64) (i : Nat) : UInt8 := byteAt (hashL head (be (UInt64.ofNat i) 2)) 7
def veil (head : UInt64) (l : List UInt8) : List UInt8 := l.mapIdx fun i b => b ^^^ mask head i
theorem veil_length (head : UInt64) (l : List UInt8) : (veil head l).length = l.length := by simp [veil]
theorem veil_take (head : UInt64) (l : List UInt8) (k : Nat) (h : k < l.length) : veil head (l.take (k + 1)) = veil head (l.take k) ++ [l[k] ^^^ mask head k] := by
 unfold veil
 rw [List.take_succ_eq_append_getElem h,List.mapIdx_append]
 simp [Nat.min_eq_left (Nat.le_of_lt h)]
theorem ofNat_small (k : Nat) (h : k < 18446744073709551616) : (UInt64.ofNat k).toNat = k := by
 simp [UInt64.toNat_ofNat',Nat.mod_eq_of_lt h]
def sealL (key use draw : UInt64) (plain : List UInt8) : List UInt8 :=
 be draw 8 ++ veil (head key use draw) plain ++ be (hashL (head key use draw) plain) 8
theorem sealL_length (key use draw : UInt64) (plain : List UInt8) : (sealL key use draw plain).length = plain.length + 16 := by
 simp [sealL,be_length,veil_length]; omega
def drawOf (zs : List UInt8) : UInt64 := joinL 0 (zs.take 8)
def plainOf (key use : UInt64) (zs : List UInt8) : List UInt8 := veil (head key use (drawOf zs)) ((zs.drop 8).take (zs.length - 16))
def tagOf (zs : List UInt8) : UInt64 := joinL 0 (zs.drop (zs.length - 8))
def opens (key use : UInt64) (zs : List UInt8) : Bool := hashL (head key use (drawOf zs)) (plainOf key use zs) == tagOf zs
theorem opens_bne (key use : UInt64) (zs : List UInt8) (L : Nat) (hL : zs.length = L) (v : Bool) (h : opens key use zs = v) :
  (((hashL (head key use (drawOf zs)) (plainOf key use zs)).toNat : Int) != ((joinL 0 (zs.drop (L - 8))).toNat : Int)) = !v := by
 subst hL h
 unfold opens tagOf
 rw [Bool.eq_iff_iff]
 simp only [bne_iff_ne,ne_eq,Bool.not_eq_true',beq_eq_false_iff_ne]
 constructor
 ·intro h e; apply h; rw [e]
 ·intro h e; apply h; exact UInt64.toNat_inj.1 (by omega)
theorem plainOf_length (key use : UInt64) (zs : List UInt8) : (plainOf key use zs).length = zs.length - 16 := by
 simp [plainOf,veil_length]; omega
theorem veil_veil (head : UInt64) (l : List UInt8) : veil head (veil head l) = l := by
 unfold veil
 apply List.ext_getElem
 ·simp
 ·intro i h1 h2
  simp [UInt8.xor_assoc]
theorem draw_of (key use draw : UInt64) (plain : List UInt8) : drawOf (sealL key use draw plain) = draw := by
 unfold drawOf sealL
 rw [List.append_assoc,List.take_append_of_le_length (by simp [be_length]),List.take_of_length_le (by simp [be_length])]
 exact join_be draw
theorem mid_of (key use draw : UInt64) (plain : List UInt8) : ((sealL key use draw plain).drop 8).take plain.length = veil (head key use draw) plain := by
 unfold sealL
 rw [List.append_assoc,List.drop_append_of_le_length (by simp [be_length]),List.drop_of_length_le (by simp [be_length]),List.nil_append,List.take_append_of_le_length (by simp [veil_length]),List.take_of_length_le (by simp [veil_length])]
theorem end_of (key use draw : UInt64) (plain : List UInt8) : (sealL key use draw plain).drop (plain.length + 8) = be (hashL (head key use draw) plain) 8 := by
 unfold sealL
 rw [List.drop_append_of_le_length (by simp [be_length,veil_length]; omega),List.drop_of_length_le (by simp [be_length,veil_length]; omega),List.nil_append]
theorem plain_of (key use draw : UInt64) (plain : List UInt8) : plainOf key use (sealL key use draw plain) = plain := by
 unfold plainOf
 rw [draw_of,sealL_length,Nat.add_sub_cancel,mid_of,veil_veil]
theorem opens_of (key use draw : UInt64) (plain : List UInt8) : opens key use (sealL key use draw plain) = true := by
 unfold opens tagOf
 rw [draw_of,plain_of,sealL_length,show plain.length + 16 - 8 = plain.length + 8 from by omega,end_of,join_be]
 simp
end Go.Proofs.YtpijkgbafjccaaaGreatDoor.Pure
