/-
  Texts as lists of bytes. No program is named here.
-/
import Derived.Laws.Concat
import Derived.Laws.Strings
namespace Go.Proofs.YtpdmpmlieligoaaDoor
open Go

/-- A text of bytes. -/
def bs (l : List UInt8) : ByteArray := ⟨l.toArray⟩
theorem bs_size (l : List UInt8) : (bs l).size = l.length := by simp [bs, ByteArray.size]
theorem bs_append (a b : List UInt8) : bs a ++ bs b = bs (a ++ b) := ByteArray.mk_append_mk a b
theorem bs_inj {a b : List UInt8} (h : bs a = bs b) : a = b := by
  have := congrArg (fun s : ByteArray => s.data.toList) h
  simpa [bs] using this
end Go.Proofs.YtpdmpmlieligoaaDoor
