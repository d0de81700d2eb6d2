/-
  Plain mathematics: the box of Told, its parts, what it is told as. Conditions: in each statement.
-/
import Derived.Test.YtbanfbpfapjfcaaDoorKReadE
import Derived.Test.YtbanfbpfapjfcaaDoorBoxN
namespace Go.Proofs.YtbanfbpfapjfcaaDoor
open Go.RowKit

/-- What is in Told's box, and what it is told as. -/
def toldIn (v : Int) (bs : List UInt8) (l : List Int) : List UInt8 := numBox v ++ (Box.box 4 bs ++ Box.box 48 (numsCat l))
def toldParts (v : Int) (bs : List UInt8) (l : List Int) : List (UInt8 × List UInt8) := [(2, Box.low v (Box.size v)), (4, bs), (48, numsCat l)]
theorem told_cuts (v : Int) (bs : List UInt8) (l : List Int) (hb : bs.length ≤ 60) (hl : l.length ≤ 10) : Box.cutsL (toldIn v bs l) = some (toldParts v bs l) := by
  have h1 := size_bounds v
  have h2 := numsCat_length l
  rw [toldIn, numBox, Box.cutsL_box _ _ _ (by rw [Box.low_length]; omega), Box.cutsL_box _ _ _ (by omega)]
  have e : Box.box 48 (numsCat l) = Box.box 48 (numsCat l) ++ [] := by simp
  rw [e, Box.cutsL_box _ _ _ (by omega)]
  rfl
theorem told_shown (v : Int) (bs : List UInt8) (l : List Int) (hb : bs.length ≤ 60) (hl : l.length ≤ 10) (hv : I64' v) (hvs : ∀ x ∈ l, I64' x) : ∃ t, Box.pshow 8 48 (toldIn v bs l) = some t := by
  have hn : Box.pshow 7 2 (Box.low v (Box.size v)) = some (Lib.itoa v) := by
    rw [Box.pshow_leaf 7 2 _ (by decide), Box.leaf, if_pos (by decide), Box.num_low v hv.1 hv.2]
    rfl
  have ht : Box.pshow 7 4 bs = some (34 :: Box.hex bs ++ [34]) := by
    rw [Box.pshow_leaf 7 4 _ (by decide), Box.leaf, if_neg (by decide), if_pos (by decide)]
  have hL : Box.pshow 7 48 (numsCat l) = some (123 :: Box.commas (l.map Lib.itoa) ++ [125]) := by
    rw [Box.pshow_list 6 48 _ (by decide), cutsL_nums, ]
    simp only
    rw [tells_nums 6 l hvs]
    rfl
  rw [Box.pshow_list 7 48 _ (by decide), told_cuts v bs l hb hl]
  simp only [toldParts, Box.tells, hn, ht, hL, Option.map_some]
  exact ⟨_, rfl⟩
theorem toldIn_length (v : Int) (bs : List UInt8) (l : List Int) (hb : bs.length ≤ 60) (hl : l.length ≤ 10) : 7 ≤ (toldIn v bs l).length ∧ (toldIn v bs l).length ≤ 180 := by
  have h1 := numBox_length v
  have h2 := numsCat_length l
  simp only [toldIn, List.length_append, Box.box_length]
  rw [if_pos (show bs.length < 128 by omega), if_pos (show (numsCat l).length < 128 by omega)]
  omega
end Go.Proofs.YtbanfbpfapjfcaaDoor
