/-
  The fixed numbers of layer 3: three bytes in pieces, and what a turned bit or a missing end makes of them.
-/
import Derived.Test.YtaabhnjikggomaaChunkWords
namespace Go.Proofs.Ytaabhnjikggomaa
open Go.RowKit Leb

theorem sum_abc : sum4 tab0 [3, 97, 98, 99] = [34, 232, 148, 249] := by decide +kernel
theorem sum_acc : sum4 tab0 [3, 97, 99, 99] = [99, 217, 143, 224] := by decide +kernel
theorem sum_end : sum4 tab0 [0] = [141, 239, 2, 210] := by decide +kernel
theorem piece_end : Chunk.piece (sum4 tab0) [] = [0, 141, 239, 2, 210] := by
  unfold Chunk.piece
  rw [show ([] : List Int).length = 0 by rfl, enc_zero, List.append_nil, sum_end]
  rfl
theorem pack_abc : Chunk.pack (sum4 tab0) [97, 98, 99] = [3, 97, 98, 99, 34, 232, 148, 249, 0, 141, 239, 2, 210] := by
  rw [Chunk.pack_cons _ (by simp), show ([97, 98, 99] : List Int).take 256 = [97, 98, 99] by rfl, show ([97, 98, 99] : List Int).drop 256 = [] by rfl, Chunk.pack_nil, piece_end]
  unfold Chunk.piece
  rw [show ([97, 98, 99] : List Int).length = 3 by rfl, enc_small (by omega)]
  show [3] ++ [97, 98, 99] ++ sum4 tab0 ([3] ++ [97, 98, 99]) ++ _ = _
  rw [show ([3] ++ [97, 98, 99] : List Int) = [3, 97, 98, 99] by rfl, sum_abc]
  rfl
theorem pack_none : Chunk.pack (sum4 tab0) [] = [0, 141, 239, 2, 210] := by rw [Chunk.pack_nil, piece_end]
theorem unpack_abc : Chunk.unpack (sum4 tab0) ([7] ++ [3, 97, 98, 99, 34, 232, 148, 249, 0, 141, 239, 2, 210]) 1 = ([97, 98, 99], 14, 0) := by
  have := Chunk.unpack_pack (sum4_sums tab0) [7] [97, 98, 99] []
  rw [pack_abc, List.append_nil] at this
  exact this
theorem unpack_acc : Chunk.unpack (sum4 tab0) [3, 97, 99, 99, 34, 232, 148, 249, 0, 141, 239, 2, 210] 0 = ([], 0, 6) := by
  unfold Chunk.unpack
  rw [if_neg (by simp)]
  refine unp_stop (e := 6) ?_ (by decide)
  rw [rd_rest (m := 3) (f := 1) (by decide) (by omega) (fun _ => rfl), if_neg (by simp)]
  have e : sum4 tab0 (([3, 97, 99, 99, 34, 232, 148, 249, 0, 141, 239, 2, 210] : List Int).drop (0 : Int).toNat |>.take (1 + 3 - (0 : Int).toNat)) = [99, 217, 143, 224] := sum_acc
  rw [e, if_pos (by decide)]
theorem unpack_cut : Chunk.unpack (sum4 tab0) [3, 97, 99] 0 = ([], 0, 7) := by
  unfold Chunk.unpack
  rw [if_neg (by simp)]
  refine unp_stop (e := 7) ?_ (by decide)
  rw [rd_rest (m := 3) (f := 1) (by decide) (by omega) (fun _ => rfl), if_pos (by simp)]
end Go.Proofs.Ytaabhnjikggomaa
