/-
  The law DnsKeys: its walk.
-/
import Derived.Test.YtlogclpmdaiflaaDoorRefD
namespace Go.Proofs.YtlogclpmdaiflaaDoor
open Go Go.RowKit Go.Shelf

theorem parts_one {c : UInt8} {s : ByteArray} (h : (parts c s).length = 1) : parts c s = [s] := by
  rcases idx_cases c s.data.toList with ⟨_, hno⟩ | ⟨i, _, _, hcut, hno⟩
  · exact parts_none hno
  · rw [parts_some hcut hno] at h
    have := D.spl_pos c (s.extract (i + 1) s.size).data.toList
    rw [← parts_len] at this
    simp at h
    rw [h] at this
    simp at this

end Go.Proofs.YtlogclpmdaiflaaDoor
